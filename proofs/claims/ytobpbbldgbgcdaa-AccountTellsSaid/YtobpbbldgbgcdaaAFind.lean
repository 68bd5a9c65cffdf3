/-
  Contracts of slices.IndexFunc at accounts, of place, of Find.
-/
import Derived.Test.YtobpbbldgbgcdaaAOne
namespace Go.Proofs.Ytobpbbldgbgcdaa.Acc
open Go.RowKit Go.Sort

theorem tl_iff (a c : ByteArray) : (a.toList = c.toList) = (a = c) := by
  apply propext
  refine ⟨fun h => ?_, fun h => by rw [h]⟩
  rw [ByteArray.toList_eq, ByteArray.toList_eq] at h
  cases a; cases c
  simp only [ByteArray.mk.injEq]
  exact Array.toList_inj.1 h
theorem eqO (a b c d : ByteArray) (w : World) : (Op.equalIn 10000 56 (.agg #[.string a, .string b]) (.agg #[.string c, .string d])).run Try.prog w = .ok (decide (a = c) && decide (b = d)) w := by
  have u3 := Try.underlying9
  have a3 := Try.isAgg9
  have z3 := Try.sizeOf9
  rw [show (10000 : Nat) = 9999 + 1 from rfl, Op.equalIn]
  simp only [Sem.run_bind, run_underlying Try.underlying56, Result.andThen_ok]
  go_simp
  simp only [tl_iff]
  by_cases h1 : a = c <;> by_cases h2 : b = d <;> simp [h1, h2]
theorem own_eq (x : Ac) (o : Own) : (decide (strB x.who = strB o.1) && decide (strB x.asset = strB o.2)) = decide (x.own = o) := by
  rw [Bool.eq_iff_iff]
  simp only [Bool.and_eq_true, decide_eq_true_eq]
  exact ⟨fun ⟨h1, h2⟩ => Prod.ext (strB_inj h1) (strB_inj h2), fun h => by rw [← h]; exact ⟨rfl, rfl⟩⟩
set_option maxRecDepth 100000 in
set_option maxHeartbeats 2000000 in
theorem place1_any (x : Ac) (o : Own) (ob : Nat) (w : World) (h : At w ob (encO o)) : Calls Try.prog 62 #[.agg (encA x).toArray, .pointer (some ⟨ob, 0, none⟩)] w (fun e w' => e = .returned (.bool (decide (x.own = o))) ∧ Below w.heap.size w w') := by
  have b1 := below_box w (.cells (encA x).toArray 35)
  have a1 := at_new w (encA x).toArray 35
  have h1 := h.below b1 h.1
  obtain ⟨W1, hW1⟩ : ∃ W1, w.alloc (.cells (encA x).toArray 35) = W1 := ⟨_, rfl⟩
  rw [hW1] at b1 a1 h1
  have cO := ownerOf_any x W1.drew
  have cO' := Lib.hid (fun W => ownerOf_any x W)
  have B1 := Lib.hid b1
  have CE := Lib.hid (show ∀ W, Below W1.heap.size W1 W → W.cell? ⟨w.heap.size, 0, none⟩ = some (strV x.who) ∧ W.cell? ⟨w.heap.size, 1, none⟩ = some (strV x.asset) ∧ W.cell? ⟨w.heap.size, 2, none⟩ = some (.int .i64 x.bal) ∧ W.cell? ⟨w.heap.size, 3, none⟩ = some (.int .i64 x.held) ∧ W.cell? ⟨ob, 0, none⟩ = some (strV o.1) ∧ W.cell? ⟨ob, 1, none⟩ = some (strV o.2) from fun W hb => by
    have a := a1.below hb a1.1
    have b := h1.below hb h1.1
    exact ⟨a.2.2 0 _ rfl, a.2.2 1 _ rfl, a.2.2 2 _ rfl, a.2.2 3 _ rfl, b.2.2 0 _ rfl, b.2.2 1 _ rfl⟩)
  have heq : ∀ W, (Op.equalIn 10000 56 (.agg (encO x.own)) (.agg (encO o))).run Try.prog W = .ok (decide (x.own = o)) W := fun W => by
    rw [← own_eq]; exact eqO _ _ _ _ W
  have BD := Lib.hid (Below.refl W1.heap.size W1).drew
  have K0 := Lib.hid (CE.out _ BD.out)
  generalize decide (x.own = o) = r at *
  unfold encA at cO cO' hW1 ⊢
  generalize x.bal = b at *
  generalize x.held = hh at *
  unfold Ac.own at *
  unfold encO strV at *
  generalize strB x.asset = Y at *
  generalize strB x.who = X at *
  generalize strB o.1 = X2 at *
  generalize strB o.2 = Y2 at *
  clear b1 a1 h h1
  go_enter Try.func62, Try.ntmps62
  go_wp2_with fail
  go_region_held3 (fun w' => w'.cell? ⟨w.heap.size, 0, none⟩ = some (.string X) ∧ w'.cell? ⟨w.heap.size, 1, none⟩ = some (.string Y) ∧ w'.cell? ⟨w.heap.size, 2, none⟩ = some (.int .i64 b) ∧ w'.cell? ⟨w.heap.size, 3, none⟩ = some (.int .i64 hh) ∧ w'.cell? ⟨ob, 0, none⟩ = some (.string X2) ∧ w'.cell? ⟨ob, 1, none⟩ = some (.string Y2))
    (with_reducible (first | exact K0.out | exact K1.out))
    (first
      | (go_at_call 35; (with_reducible refine cO.mono ?_); rintro e w2 ⟨rfl, b2⟩
         have B2 := Lib.hid (BD.out.trans (b2.mono BD.out.size))
         have K1 := Lib.hid (CE.out _ B2.out)
         clear b2 cO))
  all_goals
    go_wp2_with fail
    go_ret
    exact ⟨rfl, B1.out.trans (B2.out.mono B1.out.size)⟩
/-- The first place at which it is so; -1: none. -/
def idxA (p : Ac → Bool) (l : List Ac) : Int := match l.findIdx? p with
  | some i => i
  | none => -1
theorem idx_at {p : Ac → Bool} {l : List Ac} {k : Nat} (hk : k < l.length) (h : ∀ j (hj : j < l.length), j < k → p l[j] = false) (hp : p l[k] = true) : idxA p l = (k : Int) := by
  unfold idxA
  rw [List.findIdx?_eq_some_iff_getElem.2 ⟨hk, hp, fun j hj => by rw [h j (by omega) hj]; decide⟩]
theorem idx_none {p : Ac → Bool} {l : List Ac} (h : ∀ j (hj : j < l.length), p l[j] = false) : idxA p l = -1 := by
  unfold idxA
  rw [List.findIdx?_eq_none_iff.2 (fun x hx => by obtain ⟨j, hj, rfl⟩ := List.getElem_of_mem hx; exact h j hj)]
set_option maxRecDepth 100000 in
set_option maxHeartbeats 2000000 in
theorem index_any {A : Option Addr} {n c : Nat} {l : List Ac} {w : World} (h : AAt w A n c l) (hn : n ≤ 1000000000000) (f : FuncId) (cb : Array Value) (p : Ac → Bool) (hen : Enters Try.prog f)
    (hf : ∀ W, Below w.heap.size w W → ∀ x, Calls Try.prog f (#[.agg (encA x).toArray] ++ cb) W fun e w' => e = .returned (.bool (p x)) ∧ Below W.heap.size W w') :
    Calls Try.prog 61 #[.slice A n c, .func (.func f) #[] cb] w (fun e w' => e = .returned (.int .i64 (idxA p l)) ∧ Below w.heap.size w w') := by
  have HL := Lib.hid h.len
  have HR := Lib.hid h.row
  have HF := Lib.hid hf
  unfold Enters at hen
  clear h hf
  go_enter Try.func61, Try.ntmps61
  go_wp2_with fail
  go_loopw [8] (fun i wr => ∃ k : Nat, i = .int .i64 (k : Int) ∧ k ≤ n ∧ Hid (Below w.heap.size w wr ∧ ∀ j (hj : j < l.length), j < k → p l[j] = false)) (fun i _ => n - (intOf i).toNat)
  case atStart => exact ⟨0, rfl, Nat.zero_le _, Lib.hid ⟨Below.refl _ _, fun j _ h => absurd h (Nat.not_lt_zero _)⟩⟩
  case round =>
    obtain ⟨k, rfl, hk, HB⟩ := hrel
    by_cases hlt : k < n
    · have hkl : k < l.length := by rw [HL.out]; exact hlt
      have hwr : IntKind.i64.wrap ((k : Int) + 1) = (k : Int) + 1 := IntWalk.i64_in _ (by omega)
      have t1 : (k : Int) < (n : Int) := by omega
      have t2 : (0 : Int) ≤ (k : Int) := by omega
      obtain ⟨b, off, rfl, hbl, hc⟩ := HR.out (by intro e; rw [e] at hkl; simp at hkl)
      have L := Lib.hid (load_ac (range_below (hc k hkl) HB.out.1 hbl))
      have cF := HF.out wr HB.out.1 l[k]
      have NX := Lib.hid (show p l[k] = false → ∀ j (hj : j < l.length), j < k + 1 → p l[j] = false from fun e j hj hjk => by
        by_cases q : j = k
        · subst q; exact e
        · exact HB.out.2 j hj (by omega))
      have AT := Lib.hid (fun (e : p l[k] = true) => idx_at hkl HB.out.2 e)
      have BW := Lib.hid HB.out.1
      obtain ⟨C, hC⟩ : ∃ C, (encA l[k]).toArray = C := ⟨_, rfl⟩
      rw [hC] at L cF
      generalize p l[k] = r at *
      clear hc hC HB hbl hkl
      rcases r with _ | _
      · go_wp2_with (first | ((with_reducible refine wpList_load_eq rfl 35 (.tmp 14) rfl _ ?_ L.out ?_); (next => rfl)) | (go_at_fn f; refine cF.mono ?_; rintro e w2 ⟨rfl, b2⟩))
        have NB := Lib.hid (And.intro (BW.out.trans (b2.mono BW.out.size)) (NX.out (by first | rfl | trivial)))
        go_roundw
        case rel => exact ⟨k + 1, by go_num, by omega, NB⟩
        case measure => simp [intOf]; omega
      · go_wp2_with (first | ((with_reducible refine wpList_load_eq rfl 35 (.tmp 14) rfl _ ?_ L.out ?_); (next => rfl)) | (go_at_fn f; refine cF.mono ?_; rintro e w2 ⟨rfl, b2⟩))
        go_ret
        exact ⟨by rw [AT.out (by first | rfl | trivial)]; rfl, BW.out.trans (b2.mono BW.out.size)⟩
    · obtain rfl : k = n := by omega
      have FIN := Lib.hid (show idxA p l = -1 ∧ Below w.heap.size w wr from ⟨idx_none (fun j hj => HB.out.2 j hj (by rw [← HL.out]; exact hj)), HB.out.1⟩)
      clear HB
      go_wp2_with fail
      go_ret
      exact ⟨by rw [FIN.out.1]; rfl, FIN.out.2⟩
end Go.Proofs.Ytobpbbldgbgcdaa.Acc
