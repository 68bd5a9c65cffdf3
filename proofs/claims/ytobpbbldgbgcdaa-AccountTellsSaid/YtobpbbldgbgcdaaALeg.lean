/-
  Legs; contracts of slices.IndexFunc and slices.ContainsFunc at legs, and of the closure that asks for names.
-/
import Derived.Test.YtobpbbldgbgcdaaAPosted
namespace Go.Proofs.Ytobpbbldgbgcdaa.Acc
open Go.RowKit Go.Sort

/-- A leg. -/
structure Lg where
  who : Bs
  asset : Bs
  amt : Int
deriving DecidableEq, Inhabited
def Lg.own (a : Lg) : Own := (a.who, a.asset)
def encL (a : Lg) : List Value := [strV a.who, strV a.asset, .int .i64 a.amt]
def RowL (w : World) (A : Option Addr) (l : List Lg) : Prop := l ≠ [] → ∃ b off, A = some ⟨b, off, none⟩ ∧ b < w.heap.size ∧ ∀ j (h : j < l.length), w.rangeAt b (off + j * 3) (encL l[j])
theorem RowL.below {w w' : World} {A : Option Addr} {l : List Lg} (h : RowL w A l) (hb : Below w.heap.size w w') : RowL w' A l := fun hne => by
  obtain ⟨b, o, e, hlt, hc⟩ := h hne
  exact ⟨b, o, e, Nat.lt_of_lt_of_le hlt hb.size, fun j hj => range_below (hc j hj) hb hlt⟩
theorem size_lg : (Try.prog.info? 39).map (·.size) = some 3 := by kernel_rfl
theorem load_lg {w : World} {b o : Nat} {x : Lg} (h : w.rangeAt b o (encL x)) : (Instr.loadAt 39 (.pointer (some ⟨b, o, none⟩))).run Try.prog w = .ok (.agg (encL x).toArray) w := by
  have := run_loadAt_mid (P := Try.prog) w b o 39 (encL x) _ h Try.underlying39 rfl (by simpa [encL] using size_lg)
  simpa using this
theorem put_lg (W : World) (x : Lg) : (Instr.storeAt 39 (.pointer (some ⟨W.heap.size, 0, none⟩)) (.agg (encL x).toArray)).run Try.prog (W.alloc (.cells #[.string ⟨#[]⟩, .string ⟨#[]⟩, .int .i64 0] 39)) = .ok () (W.alloc (.cells (encL x).toArray 39)) :=
  run_storeAt_new W 39 #[.string ⟨#[]⟩, .string ⟨#[]⟩, .int .i64 0] (encL x).toArray (by simpa [encL] using size_lg) rfl (by simp [encL, Value.oneCell'])
/-- A leg is no name's. -/
def namelessB (x : Lg) : Bool := !namedB x.who x.asset
set_option maxRecDepth 100000 in
theorem nameless_any (x : Lg) (w : World) (g1 : x.who.length ≤ 200000000000000) (g2 : x.asset.length ≤ 200000000000000) : Calls Try.prog 30 #[.agg (encL x).toArray] w (fun e w' => e = .returned (.bool (namelessB x)) ∧ Below w.heap.size w w') := by
  have b1 := below_box w (.cells (encL x).toArray 39)
  have a1 := at_new w (encL x).toArray 39
  obtain ⟨W1, hW1⟩ : ∃ W1, w.alloc (.cells (encL x).toArray 39) = W1 := ⟨_, rfl⟩
  rw [hW1] at b1 a1
  have cN := named_any x.who x.asset W1 g1 g2
  have hs : namelessB x = !namedB x.who x.asset := rfl
  generalize namelessB x = r at *
  generalize namedB x.who x.asset = rn at *
  have c0 : W1.cell? ⟨w.heap.size, 0, none⟩ = some (strV x.who) := a1.2.2 0 _ rfl
  have c1 : W1.cell? ⟨w.heap.size, 1, none⟩ = some (strV x.asset) := a1.2.2 1 _ rfl
  obtain ⟨C, hC⟩ : ∃ C, (encL x).toArray = C := ⟨_, rfl⟩
  rw [hC] at hW1 ⊢
  have HW := Lib.hid hW1
  have HS := Lib.hid hs
  have B1 := Lib.hid b1
  unfold strV at *
  generalize strB x.who = X at *
  generalize strB x.asset = Y at *
  clear hC hW1 a1 b1 hs
  go_enter Try.func30, Try.ntmps30
  go_wp2_with (first
    | ((with_reducible refine wpList_box_eq rfl 39 (.tmp 0) rfl C ?_ ?_); (next => rfl); rw [HW.out])
    | (go_at_call 31; refine cN.mono ?_; rintro e w' ⟨rfl, rfl⟩))
  go_ret
  exact ⟨by rw [HS.out]; rfl, B1.out⟩
/-- The first place at which it is so; -1: none. -/
def idxL (p : Lg → Bool) (l : List Lg) : Int := match l.findIdx? p with
  | some i => i
  | none => -1
theorem idxL_at {p : Lg → Bool} {l : List Lg} {k : Nat} (hk : k < l.length) (h : ∀ j (hj : j < l.length), j < k → p l[j] = false) (hp : p l[k] = true) : idxL p l = (k : Int) := by
  unfold idxL
  rw [List.findIdx?_eq_some_iff_getElem.2 ⟨hk, hp, fun j hj => by rw [h j (by omega) hj]; decide⟩]
theorem idxL_none {p : Lg → Bool} {l : List Lg} (h : ∀ j (hj : j < l.length), p l[j] = false) : idxL p l = -1 := by
  unfold idxL
  rw [List.findIdx?_eq_none_iff.2 (fun x hx => by obtain ⟨j, hj, rfl⟩ := List.getElem_of_mem hx; exact h j hj)]
set_option maxRecDepth 100000 in
set_option maxHeartbeats 2000000 in
theorem indexL_any {A : Option Addr} {n c : Nat} {l : List Lg} {w : World} (hlen : l.length = n) (hrow : RowL w A l) (hn : n ≤ 1000000000000) (f : FuncId) (cb : Array Value) (p : Lg → Bool) (hen : Enters Try.prog f)
    (hf : ∀ W, Below w.heap.size w W → ∀ x ∈ l, Calls Try.prog f (#[.agg (encL x).toArray] ++ cb) W fun e w' => e = .returned (.bool (p x)) ∧ Below W.heap.size W w') :
    Calls Try.prog 57 #[.slice A n c, .func (.func f) #[] cb] w (fun e w' => e = .returned (.int .i64 (idxL p l)) ∧ Below w.heap.size w w') := by
  have HL := Lib.hid hlen
  have HR := Lib.hid hrow
  have HF := Lib.hid hf
  unfold Enters at hen
  clear hlen hrow hf
  go_enter Try.func57, Try.ntmps57
  go_wp2_with fail
  go_loopw [8] (fun i wr => ∃ k : Nat, i = .int .i64 (k : Int) ∧ k ≤ n ∧ Hid (Below w.heap.size w wr ∧ ∀ j (hj : j < l.length), j < k → p l[j] = false)) (fun i _ => n - (intOf i).toNat)
  case atStart => exact ⟨0, rfl, Nat.zero_le _, Lib.hid ⟨Below.refl _ _, fun j _ h => absurd h (Nat.not_lt_zero _)⟩⟩
  case round =>
    obtain ⟨k, rfl, hk, HB⟩ := hrel
    by_cases hlt : k < n
    · have hkl : k < l.length := by rw [HL.out]; exact hlt
      have hwr : IntKind.i64.wrap ((k : Int) + 1) = (k : Int) + 1 := IntWalk.i64_in _ (by omega)
      have t1 : (k : Int) < (n : Int) := by omega
      have t2 : (0 : Int) ≤ (k : Int) := by omega
      obtain ⟨b, off, rfl, hbl, hc⟩ := HR.out (by intro e; rw [e] at hkl; simp at hkl)
      have L := Lib.hid (load_lg (range_below (hc k hkl) HB.out.1 hbl))
      have cF := HF.out wr HB.out.1 l[k] (List.getElem_mem hkl)
      have NX := Lib.hid (show p l[k] = false → ∀ j (hj : j < l.length), j < k + 1 → p l[j] = false from fun e j hj hjk => by
        by_cases q : j = k
        · subst q; exact e
        · exact HB.out.2 j hj (by omega))
      have AT := Lib.hid (fun (e : p l[k] = true) => idxL_at hkl HB.out.2 e)
      have BW := Lib.hid HB.out.1
      obtain ⟨C, hC⟩ : ∃ C, (encL l[k]).toArray = C := ⟨_, rfl⟩
      rw [hC] at L cF
      generalize p l[k] = r at *
      clear hc hC HB hbl hkl
      rcases r with _ | _
      · go_wp2_with (first | ((with_reducible refine wpList_load_eq rfl 39 (.tmp 14) rfl _ ?_ L.out ?_); (next => rfl)) | (go_at_fn f; refine cF.mono ?_; rintro e w2 ⟨rfl, b2⟩))
        have NB := Lib.hid (And.intro (BW.out.trans (b2.mono BW.out.size)) (NX.out (by first | rfl | trivial)))
        go_roundw
        case rel => exact ⟨k + 1, by go_num, by omega, NB⟩
        case measure => simp [intOf]; omega
      · go_wp2_with (first | ((with_reducible refine wpList_load_eq rfl 39 (.tmp 14) rfl _ ?_ L.out ?_); (next => rfl)) | (go_at_fn f; refine cF.mono ?_; rintro e w2 ⟨rfl, b2⟩))
        go_ret
        exact ⟨by rw [AT.out (by first | rfl | trivial)]; rfl, BW.out.trans (b2.mono BW.out.size)⟩
    · obtain rfl : k = n := by omega
      have FIN := Lib.hid (show idxL p l = -1 ∧ Below w.heap.size w wr from ⟨idxL_none (fun j hj => HB.out.2 j hj (by rw [← HL.out]; exact hj)), HB.out.1⟩)
      clear HB
      go_wp2_with fail
      go_ret
      exact ⟨by rw [FIN.out.1]; rfl, FIN.out.2⟩
theorem ent_post1 : Enters Try.prog 30 := enters_of Try.func30 (by kernel_rfl) rfl
theorem idxL_any (p : Lg → Bool) (l : List Lg) : (idxL p l = -1 ∧ l.any p = false) ∨ ∃ k : Nat, idxL p l = (k : Int) ∧ l.any p = true := by
  unfold idxL
  generalize hf : l.findIdx? p = e
  rcases e with _ | k
  · refine .inl ⟨rfl, ?_⟩
    rw [List.any_eq_false]
    exact fun x hx => by simpa using List.findIdx?_eq_none_iff.1 hf x hx
  · obtain ⟨hk, h1, _⟩ := List.findIdx?_eq_some_iff_getElem.1 hf
    exact .inr ⟨k, rfl, List.any_eq_true.2 ⟨l[k], List.getElem_mem hk, h1⟩⟩
set_option maxRecDepth 100000 in
theorem contains_any {A : Option Addr} {n c : Nat} {l : List Lg} {w : World} (hlen : l.length = n) (hrow : RowL w A l) (hn : n ≤ 1000000000000) (hs : ∀ x ∈ l, x.who.length ≤ 200000000000000 ∧ x.asset.length ≤ 200000000000000) :
    Calls Try.prog 32 #[.slice A n c, .func (.func 30) #[] #[]] w (fun e w' => e = .returned (.bool (l.any namelessB)) ∧ Below w.heap.size w w') := by
  have cI := indexL_any (c := c) hlen hrow hn 30 #[] namelessB ent_post1 (fun W _ x hx => nameless_any x W (hs x hx).1 (hs x hx).2)
  rcases idxL_any namelessB l with ⟨e1, e2⟩ | ⟨k, e1, e2⟩
  all_goals
    rw [e1] at cI
    rw [e2]
    clear e1 e2 hlen hrow hs
    go_enter Try.func32, Try.ntmps32
    go_wp2_with (go_at_call 57; refine cI.mono ?_; rintro e w2 ⟨rfl, b2⟩)
    go_ret
    exact ⟨by simp, b2⟩
end Go.Proofs.Ytobpbbldgbgcdaa.Acc
