/-
  The document's own: with, Hold, Free, next, Post.
-/
import Derived.Test.YtobpbbldgbgcdaaAHoldP
import Derived.Test.YtobpbbldgbgcdaaBRSums
import Derived.Test.YtobpbbldgbgcdaaALawBack
import Derived.Test.YtobpbbldgbgcdaaALawStays
namespace Go.Proofs.Ytobpbbldgbgcdaa.Acc
open Go.RowKit Go.Sort

def wst (a : Ac) (s : List Ac × Bool) (y : Ac) : List Ac × Bool := if y.own = a.own then s else if !s.2 && ahead a.own y.own then (s.1 ++ [a, y], true) else (s.1 ++ [y], s.2)
def wend (a : Ac) (s : List Ac × Bool) : List Ac := if s.2 = true then s.1 else s.1 ++ [a]
/-- Accounts with one in its place; without it, if its balance is 0. -/
def withR (l : List Ac) (a : Ac) : List Ac := wend a (l.foldl (wst a) ([], a.bal == 0))
theorem wst_len (a : Ac) : ∀ (l : List Ac) (s : List Ac × Bool), (l.foldl (wst a) s).1.length ≤ s.1.length + 2 * l.length
  | [], s => by simp
  | y :: l, s => by
    have ih := wst_len a l (wst a s y)
    have h1 : (wst a s y).1.length ≤ s.1.length + 2 := by
      unfold wst
      split
      · omega
      · split <;> simp
    rw [List.foldl_cons, List.length_cons]
    omega
theorem fold_done (a : Ac) : ∀ (l out : List Ac), l.foldl (wst a) (out, true) = (out ++ l.filter (fun y => decide (y.own ≠ a.own)), true)
  | [], out => by simp
  | y :: l, out => by
    rw [List.foldl_cons]
    by_cases e : y.own = a.own
    · rw [show wst a (out, true) y = (out, true) by unfold wst; rw [if_pos e], fold_done a l]
      rw [List.filter_cons_of_neg (by simp [e])]
    · rw [show wst a (out, true) y = (out ++ [y], true) by unfold wst; rw [if_neg e]; rfl, fold_done a l]
      rw [List.filter_cons_of_pos (by simp [e])]
      simp
theorem fold_put (a : Ac) : ∀ (l out : List Ac), RisesA l → wend a (l.foldl (wst a) (out, false)) = out ++ l.filter (fun y => aheadA y a) ++ [a] ++ l.filter (fun y => aheadA a y)
  | [], out, _ => by simp [wend]
  | y :: l, out, h => by
    obtain ⟨h1, h2⟩ := List.pairwise_cons.1 h
    rw [List.foldl_cons]
    by_cases e : y.own = a.own
    · rw [show wst a (out, false) y = (out, false) by unfold wst; rw [if_pos e], fold_put a l out h2]
      have n1 : aheadA y a = false := by unfold aheadA; rw [e]; exact ahead_irrefl _
      have n2 : aheadA a y = false := by unfold aheadA; rw [e]; exact ahead_irrefl _
      rw [List.filter_cons_of_neg (by simp [n1]), List.filter_cons_of_neg (by simp [n2])]
    · rcases hab : ahead a.own y.own with _ | _
      · have hya : aheadA y a = true := ahead_tri hab (fun h => e h.symm)
        rw [show wst a (out, false) y = (out ++ [y], false) by unfold wst; rw [if_neg e, hab]; rfl, fold_put a l (out ++ [y]) h2]
        rw [List.filter_cons_of_pos (p := fun y => aheadA y a) hya, List.filter_cons_of_neg (p := fun y => aheadA a y) (by unfold aheadA; simp [hab])]
        simp
      · have hya : aheadA y a = false := ahead_asymm hab
        have ha : ∀ z ∈ l, aheadA a z = true := fun z hz => ahead_trans hab (h1 z hz)
        rw [show wst a (out, false) y = (out ++ [a, y], true) by unfold wst; rw [if_neg e, hab]; rfl, fold_done a l]
        rw [List.filter_cons_of_neg (p := fun y => aheadA y a) (by simp [hya]), List.filter_cons_of_pos (p := fun y => aheadA a y) hab]
        have f1 : l.filter (fun y => aheadA y a) = [] := List.filter_eq_nil_iff.2 (fun z hz => by rw [show aheadA z a = false from ahead_asymm (ha z hz)]; simp)
        have f2 : l.filter (fun y => aheadA a y) = l := List.filter_eq_self.2 (fun z hz => ha z hz)
        have f3 : l.filter (fun y => decide (y.own ≠ a.own)) = l := List.filter_eq_self.2 (fun z hz => by
          have := ha z hz
          simp only [decide_eq_true_eq]
          intro h
          unfold aheadA at this
          rw [h, ahead_irrefl] at this; cases this)
        rw [f1, f2, f3]
        simp [wend]
theorem withR_mem {l : List Ac} {a : Ac} (h : RisesA l) (z : Ac) : z ∈ withR l a ↔ (z ∈ l ∧ z.own ≠ a.own) ∨ (z = a ∧ a.bal ≠ 0) := by
  unfold withR
  by_cases hb : a.bal = 0
  · rw [beq_iff_eq.2 hb, fold_done]
    simp [wend, hb]
  · rw [beq_eq_false_iff_ne.2 hb, fold_put a l [] h]
    simp only [List.nil_append, List.mem_append, List.mem_filter, List.mem_singleton]
    constructor
    · rintro ((⟨h1, h2⟩ | rfl) | ⟨h1, h2⟩)
      · exact .inl ⟨h1, fun e => by unfold aheadA at h2; rw [e, ahead_irrefl] at h2; cases h2⟩
      · exact .inr ⟨rfl, hb⟩
      · exact .inl ⟨h1, fun e => by unfold aheadA at h2; rw [e, ahead_irrefl] at h2; cases h2⟩
    · rintro (⟨h1, h2⟩ | ⟨rfl, _⟩)
      · rcases hab : aheadA z a with _ | _
        · exact .inr ⟨h1, ahead_tri hab h2⟩
        · exact .inl (.inl ⟨h1, rfl⟩)
      · exact .inl (.inr rfl)
theorem withR_rises {l : List Ac} {a : Ac} (h : RisesA l) : RisesA (withR l a) := by
  unfold withR
  by_cases hb : a.bal = 0
  · rw [beq_iff_eq.2 hb, fold_done]
    simp only [wend, if_true, List.nil_append]
    exact List.Pairwise.filter _ h
  · rw [beq_eq_false_iff_ne.2 hb, fold_put a l [] h, List.nil_append]
    refine List.pairwise_append.2 ⟨List.pairwise_append.2 ⟨List.Pairwise.filter _ h, List.pairwise_singleton _ _, ?_⟩, List.Pairwise.filter _ h, ?_⟩
    · intro x hx y hy
      rw [List.mem_singleton] at hy; subst hy
      exact (List.mem_filter.1 hx).2
    · intro x hx y hy
      have h2 := (List.mem_filter.1 hy).2
      rcases List.mem_append.1 hx with hx | hx
      · exact ahead_trans (List.mem_filter.1 hx).2 h2
      · rw [List.mem_singleton] at hx; subst hx
        exact h2
theorem withR_fit {l : List Ac} {a : Ac} (h : FitA l) (ha : a.bal ≠ 0 → mayA a = true) : FitA (withR l a) ∧ ∀ o, findA (withR l a) o = if o = a.own then (if a.bal = 0 then zeroOf o else a) else findA l o := by
  obtain ⟨hm, hr⟩ := (fit_iff l).1 h
  have hr2 := withR_rises (a := a) hr
  refine ⟨(fit_iff _).2 ⟨fun z hz => ?_, hr2⟩, fun o => ?_⟩
  · rcases (withR_mem hr z).1 hz with ⟨h1, _⟩ | ⟨rfl, h2⟩
    · exact hm z h1
    · exact ha h2
  · by_cases e : o = a.own
    · rw [if_pos e]
      by_cases hb : a.bal = 0
      · rw [if_pos hb]
        refine find_no (fun z hz he => ?_)
        rcases (withR_mem hr z).1 hz with ⟨_, h2⟩ | ⟨_, h2⟩
        · exact h2 (he.trans e)
        · exact h2 hb
      · rw [if_neg hb, e]
        exact find_mem hr2 ((withR_mem hr a).2 (.inr ⟨rfl, hb⟩))
    · rw [if_neg e]
      rcases find_cases l o with ⟨h1, h2⟩ | ⟨h1, h2⟩
      · have := find_mem hr2 ((withR_mem hr _).2 (.inl ⟨h1, by rw [h2]; exact e⟩))
        rwa [h2] at this
      · rw [h2]
        refine find_no (fun z hz he => ?_)
        rcases (withR_mem hr z).1 hz with ⟨h3, _⟩ | ⟨rfl, _⟩
        · exact h1 z h3 he
        · exact e he.symm
theorem withR_same {l : List Ac} {x y : Ac} (h : FitA l) (hx : x ∈ l) (ho : y.own = x.own) (hy : mayA y = true) : withR l y = withA l y := by
  have hb := (may_parts.1 hy).2.1
  obtain ⟨h1, h2⟩ := withR_fit h (fun _ => hy)
  obtain ⟨h3, _, h4⟩ := with_fit h hx ho hy
  refine fit_ext h1 h3 (fun o => ?_)
  rw [h2, h4, if_neg hb]
end Go.Proofs.Ytobpbbldgbgcdaa.Acc
namespace Go.Proofs.Ytobpbbldgbgcdaa.Acc
open Go.RowKit Go.Sort

/-- The loop's memory: the account's box, and the list that it makes. -/
structure WS (w : World) (a : Ac) (W : World) (v : Value) (ys : List Ac) : Prop where
  bl : Below w.heap.size w W
  bx : At W w.heap.size (encA a).toArray
  ow : OwnA W (w.heap.size + 1) v ys
theorem WS.drew {w : World} {a : Ac} {W : World} {v : Value} {ys : List Ac} (h : WS w a W v ys) (q : Nat) : WS w a (W.drewN q) v ys := ⟨h.bl.trans ((drewN_below W q).mono h.bl.size), h.bx.below (drewN_below W q) h.bx.1, h.ow.below (drewN_below W q)⟩
theorem WS.more {w : World} {a : Ac} {W : World} {v : Value} {ys : List Ac} (h : WS w a W v ys) (x : Ac) (hn : ys.length ≤ 100000) :
    ∃ v' W', (Builtin.append_ #[23, 23] 23 #[v, .slice (some ⟨W.heap.size, 0, none⟩) 1 1]).run Try.prog (W.alloc (.cells (encA x).toArray 35)) = .ok v' W' ∧ WS w a W' v' (ys ++ [x]) := by
  have b := below_box W (.cells (encA x).toArray 35)
  have a4 := at_new W (encA x).toArray 35
  have s : (W.alloc (.cells (encA x).toArray 35)).heap.size = W.heap.size + 1 := by simp
  have hlt := h.bx.1
  obtain ⟨W1, hW1⟩ : ∃ W1, W.alloc (.cells (encA x).toArray 35) = W1 := ⟨_, rfl⟩
  rw [hW1] at b a4 s ⊢
  obtain ⟨v', W', h1, h2, h3, h4⟩ := append_acs W1 (w.heap.size + 1) v ys (h.ow.below b) (some ⟨W.heap.size, 0, none⟩) 1 1 [x] rfl (fun e => by cases e) (fun _ => ⟨W.heap.size, 0, rfl, by rw [s]; omega, fun j hj i u hu => by
    obtain rfl : j = 0 := by simpa using hj
    rw [Nat.zero_mul, Nat.add_zero, Nat.zero_add]
    refine a4.2.2 i u ?_
    simpa using hu⟩) (by omega) (by omega)
  have g : Below (w.heap.size + 1) W W' := (b.mono hlt).grown h3 (by omega) h4
  exact ⟨v', W', h1, h.bl.trans (g.mono (Nat.le_succ _)), h.bx.below g (Nat.lt_succ_self _), h2⟩
def WI (w : World) (l : List Ac) (a : Ac) (n : Nat) (v d i : Value) (W : World) : Prop := ∃ k : Nat, ∃ s : List Ac × Bool, s = (l.take k).foldl (wst a) ([], a.bal == 0) ∧ d = .bool s.2 ∧ i = .int .i64 (k : Int) ∧ k ≤ n ∧ WS w a W v s.1
theorem fold_step {l : List Ac} {a : Ac} {k : Nat} (hk : k < l.length) (s : List Ac × Bool) : (l.take (k + 1)).foldl (wst a) s = wst a ((l.take k).foldl (wst a) s) l[k] := by
  rw [List.take_succ_eq_append_getElem hk, List.foldl_append]
  rfl
set_option maxRecDepth 100000 in
set_option maxHeartbeats 8000000 in
theorem rWith_any {A : Option Addr} {n c : Nat} {l : List Ac} {w : World} (h : AAt w A n c l) (hn : n ≤ 10000) (a : Ac) : Calls Try.prog 42 #[.slice A n c, .agg (encA a).toArray] w (AcsN (withR l a) w) := by
  have HL := Lib.hid h.len
  have HR := Lib.hid h.row
  have b1 := below_box w (.cells (encA a).toArray 35)
  have a1 := at_new w (encA a).toArray 35
  obtain ⟨W1, hW1⟩ : ∃ W1, w.alloc (.cells (encA a).toArray 35) = W1 := ⟨_, rfl⟩
  rw [hW1] at b1 a1
  have ST := Lib.hid (show WI w l a n (.slice none 0 0) (.bool (a.bal == 0)) (.int .i64 0) W1 from ⟨0, _, rfl, rfl, rfl, Nat.zero_le _, b1, a1, OwnA.nil _ _⟩)
  have cB := Lib.hid (fun (x : Ac) W => rBefore_any a.own x.own W)
  have C0 := Lib.hid (show ∀ W v ys, WS w a W v ys → W.cell? ⟨w.heap.size, 0, none⟩ = some (strV a.who) ∧ W.cell? ⟨w.heap.size, 1, none⟩ = some (strV a.asset) from fun W v ys h => ⟨h.bx.2.2 0 _ rfl, h.bx.2.2 1 _ rfl⟩)
  have LA := Lib.hid (show ∀ W v ys, WS w a W v ys → (Instr.loadAt 35 (.pointer (some ⟨w.heap.size, 0, none⟩))).run Try.prog W = .ok (.agg (encA a).toArray) W from fun W v ys h => load_at (o := 0) h.bx Try.underlying35 rfl (by simpa [encA] using size_ac) (by simp))
  have EW := Lib.hid (fun (x : Ac) => show ((strB x.who).toList == (strB a.who).toList) = decide (x.who = a.who) by rw [strB_list, strB_list, Bool.eq_iff_iff]; simp)
  have EA := Lib.hid (fun (x : Ac) => show ((strB x.asset).toList == (strB a.asset).toList) = decide (x.asset = a.asset) by rw [strB_list, strB_list, Bool.eq_iff_iff]; simp)
  have OW := Lib.hid (fun (x : Ac) => show x.own = a.own ↔ x.who = a.who ∧ x.asset = a.asset from by unfold Ac.own; exact Prod.mk.injEq .. ▸ Iff.rfl)
  have k2 : W1.cell? ⟨w.heap.size, 2, none⟩ = some (.int .i64 a.bal) := a1.2.2 2 _ rfl
  have MO := Lib.hid (fun W v ys (h : WS w a W v ys) => h.more)
  have DR := Lib.hid (fun W v ys (h : WS w a W v ys) q => h.drew q)
  have FIN := Lib.hid (show ∀ W v s, s = l.foldl (wst a) ([], a.bal == 0) → WS w a W v (wend a s) → AcsN (withR l a) w (.returned v) W from fun W v s e h => ⟨v, rfl, by
    have := h.ow.down (Nat.le_succ w.heap.size)
    rw [e] at this
    exact this, h.bl⟩)
  have HW := Lib.hid hW1
  clear h a1 b1 hW1
  obtain ⟨C, hC⟩ : ∃ C, (encA a).toArray = C := ⟨_, rfl⟩
  rw [hC] at LA HW ⊢
  have HC := Lib.hid hC
  obtain ⟨X, hX⟩ : ∃ X, strB a.who = X := ⟨_, rfl⟩
  obtain ⟨Y, hY⟩ : ∃ Y, strB a.asset = Y := ⟨_, rfl⟩
  have cB' := Lib.hid (show ∀ (x : Ac) W, Calls Try.prog 29 #[.string X, .string Y, strV x.who, strV x.asset] W (fun e w' => e = .returned (.bool (ahead a.own x.own)) ∧ w' = W) from fun x W => by rw [← hX, ← hY]; exact cB.out x W)
  have hbal : (a.bal == 0) = (a.bal == 0) := rfl
  unfold strV at C0
  rw [hX, hY] at C0
  rw [hX] at EW
  rw [hY] at EA
  have HXX := Lib.hid hX
  have HYY := Lib.hid hY
  have LA2 := Lib.hid (show ∀ W v ys, WS w a W v ys → (Instr.loadAt 35 (.pointer (some ⟨w.heap.size, 0, none⟩))).run Try.prog W = .ok (.agg #[.string X, .string Y, .int .i64 a.bal, .int .i64 a.held]) W from fun W v ys h => by rw [← hX, ← hY]; have := LA.out W v ys h; rw [← hC] at this; exact this)
  have MA0 := Lib.hid (show ∀ W v ys, WS w a W v ys → ys.length ≤ 100000 → ∃ v' W', (Builtin.append_ #[23, 23] 23 #[v, .slice (some ⟨W.heap.size, 0, none⟩) 1 1]).run Try.prog (W.alloc (.cells #[.string X, .string Y, .int .i64 a.bal, .int .i64 a.held] 35)) = .ok v' W' ∧ WS w a W' v' (ys ++ [a]) from fun W v ys h hl => by rw [← hX, ← hY]; exact h.more a hl)
  clear cB hX hY hC hbal
  obtain ⟨ab, hab⟩ : ∃ ab, a.bal = ab := ⟨_, rfl⟩
  rw [hab] at k2
  obtain ⟨d0, hd0⟩ : ∃ d, (a.bal == 0) = d := ⟨_, rfl⟩
  have ST2 := ST.out
  have FIN2 := FIN.out
  have hd1 : (ab == 0) = d0 := by rw [← hab]; exact hd0
  rw [hd0] at ST2 FIN2
  have ST3 := Lib.hid ST2
  have FIN3 := Lib.hid FIN2
  have HD := Lib.hid hd0
  clear ST FIN ST2 FIN2 hd0 hab
  go_enter Try.func42, Try.ntmps42
  go_wp2_with (first
    | ((with_reducible refine wpList_box_eq rfl 35 (.tmp 1) rfl C ?_ ?_); (next => rfl); rw [HW.out]))
  clear hd1 k2
  go_loopw [5, 6, 7] (fun v d i wr => Hid (WI w l a n v d i wr)) (fun _ _ i _ => n - (intOf i).toNat)
  case atStart => exact ST3
  case round =>
    obtain ⟨k, s, hs, rfl, rfl, hk, hS⟩ := hrel.out
    by_cases hlt : k < n
    · have hkl : k < l.length := by rw [HL.out]; exact hlt
      have hwr : IntKind.i64.wrap ((k : Int) + 1) = (k : Int) + 1 := IntWalk.i64_in _ (by omega)
      have t1 : (k : Int) < (n : Int) := by omega
      have t2 : (0 : Int) ≤ (k : Int) := by omega
      obtain ⟨b, off, rfl, hbl, hc⟩ := HR.out (by intro e; rw [e] at hkl; simp at hkl)
      have HS := Lib.hid hS
      have hlen : s.1.length ≤ 2 * k := by
        have := wst_len a (l.take k) ([], a.bal == 0)
        rw [← hs, List.length_take] at this
        simp at this
        omega
      have hlen : s.1.length ≤ 20000 := by omega
      have hlen : s.1.length ≤ 100000 := by omega
      have NXT := Lib.hid (show ∀ s', wst a s l[k] = s' → ∀ W v, WS w a W v s'.1 → WI w l a n v (.bool s'.2) (.int .i64 ((k : Int) + 1)) W from fun s' e W v hw => ⟨k + 1, s', by rw [fold_step hkl, ← hs, e], rfl, by rw [Int.natCast_add]; rfl, by omega, hw⟩)
      have CW := Lib.hid (show ∀ W, Below w.heap.size w W → W.cell? ⟨b, off + k * 4, none⟩ = some (strV l[k].who) ∧ W.cell? ⟨b, off + k * 4 + 1, none⟩ = some (strV l[k].asset) from fun W hb => by
        obtain ⟨h1, h2, _, _⟩ := four (range_below (hc k hkl) hb hbl)
        exact ⟨h1, h2⟩)
      have LX := Lib.hid (show ∀ W, Below w.heap.size w W → (Instr.loadAt 35 (.pointer (some ⟨b, off + k * 4, none⟩))).run Try.prog W = .ok (.agg (encA l[k]).toArray) W from fun W hb => load_ac (range_below (hc k hkl) hb hbl))
      obtain ⟨x, hx⟩ : ∃ x, l[k] = x := ⟨_, rfl⟩
      rw [hx] at NXT CW LX
      have hD : (encA x).toArray = #[.string (strB x.who), .string (strB x.asset), .int .i64 x.bal, .int .i64 x.held] := rfl
      rw [hD] at LX
      have MX := Lib.hid (show ∀ W v ys, WS w a W v ys → ys.length ≤ 100000 → ∃ v' W', (Builtin.append_ #[23, 23] 23 #[v, .slice (some ⟨W.heap.size, 0, none⟩) 1 1]).run Try.prog (W.alloc (.cells #[.string (strB x.who), .string (strB x.asset), .int .i64 x.bal, .int .i64 x.held] 35)) = .ok v' W' ∧ WS w a W' v' (ys ++ [x]) from fun W v ys h hl => h.more x hl)
      have MA := Lib.hid (show ∀ W v ys, WS w a W v ys → ys.length ≤ 100000 → ∃ v' W', (Builtin.append_ #[23, 23] 23 #[v, .slice (some ⟨W.heap.size, 0, none⟩) 1 1]).run Try.prog (W.alloc (.cells #[.string X, .string Y, .int .i64 a.bal, .int .i64 a.held] 35)) = .ok v' W' ∧ WS w a W' v' (ys ++ [a]) from fun W v ys h hl => by rw [← HXX.out, ← HYY.out]; exact h.more a hl)
      have q1 := EW.out x
      have q2 := EA.out x
      have HO := Lib.hid (OW.out x)
      obtain ⟨ys, dn⟩ := s
      dsimp only at hlen hS HS NXT
      have hlen : ys.length ≤ 20000 := by omega
      obtain ⟨a0, a1⟩ := C0.out wr _ _ HS.out
      obtain ⟨c0, c1⟩ := CW.out wr HS.out.bl
      unfold strV at c0 c1 CW cB'
      clear hs hS hc hbl hx hD hrel ST3 MO
      by_cases e1 : x.who = a.who
      · rw [decide_eq_true e1] at q1
        by_cases e2 : x.asset = a.asset
        · rw [decide_eq_true e2] at q2
          have N0 := Lib.hid (NXT.out (ys, dn) (by unfold wst; rw [if_pos (HO.out.2 ⟨e1, e2⟩)]))
          generalize strB x.who = P1 at *
          generalize strB x.asset = P2 at *
          clear NXT e1 e2 HO
          go_wp2_with fail
          go_quiet (fail)
          have NB := Lib.hid (N0.out _ _ (DR.out _ _ _ HS.out nq))
          go_wp2_with fail
          go_roundw
          case rel => exact NB
          case measure => simp [intOf]; omega
        · rw [decide_eq_false e2] at q2
          have ne : x.own ≠ a.own := fun e => e2 (HO.out.1 e).2
          obtain ⟨r, hr⟩ : ∃ r, ahead a.own x.own = r := ⟨_, rfl⟩
          have cB1 := Lib.hid (cB'.out x)
          have NX1 := Lib.hid (show (!dn && r) = true → ∀ W v, WS w a W v (ys ++ [a, x]) → WI w l a n v (.bool true) (.int .i64 ((k : Int) + 1)) W from fun e => NXT.out (ys ++ [a, x], true) (by unfold wst; rw [if_neg ne, hr, if_pos e]))
          have NX2 := Lib.hid (show (!dn && r) = false → ∀ W v, WS w a W v (ys ++ [x]) → WI w l a n v (.bool dn) (.int .i64 ((k : Int) + 1)) W from fun e => NXT.out (ys ++ [x], dn) (by unfold wst; rw [if_neg ne, hr, if_neg (by rw [e]; simp)]))
          rw [hr] at cB1
          generalize strB x.who = P1 at *
          generalize strB x.asset = P2 at *
          clear ne hr NXT e1 e2 HO
          rcases r with _ | _ <;> rcases dn with _ | _
          · have N2 := Lib.hid (NX2.out rfl)
            clear NX1 NX2
            go_wp2_with fail
            go_quiet (fail)
            have H5 := Lib.hid (DR.out _ _ _ HS.out nq)
            clear a0 a1 c0 c1
            generalize wr.drewN nq = W5 at *
            obtain ⟨a0, a1⟩ := C0.out W5 _ _ H5.out
            obtain ⟨c0, c1⟩ := CW.out W5 H5.out.bl
            clear HS
            go_wp2_with fail
            go_quiet ((go_at_call 29; refine Calls.quiet_of_same (cB1.out _)))
            have H6 := Lib.hid (DR.out _ _ _ H5.out nq)
            clear a0 a1 c0 c1
            generalize W5.drewN nq = W6 at *
            clear H5
            have L2 := Lib.hid (LX.out _ H6.out.bl)
            obtain ⟨v8, W8, r8, h8⟩ := MX.out _ _ _ H6.out (by omega)
            have R2 := Lib.hid r8
            have NB := Lib.hid (N2.out _ _ h8)
            clear r8 h8 CW LX MX MA LA LA2 C0 cB1 H6 hlen
            generalize x.bal = xb at *
            generalize x.held = xh at *
            go_wp2_with (first
              | ((with_reducible refine wpList_load_eq rfl 35 (.tmp 63) rfl _ ?_ L2.out ?_); (next => rfl))
              | ((with_reducible refine Coin.wpList_append_eq rfl (.tmp 60) (.tmp 65) 23 rfl ?_ ?_ R2.out ?_); (next => rfl); (next => rfl)))
            go_roundw
            case rel => exact NB
            case measure => simp [intOf]; omega
          · have N2 := Lib.hid (NX2.out rfl)
            clear NX1 NX2
            go_wp2_with fail
            go_quiet (fail)
            have H5 := Lib.hid (DR.out _ _ _ HS.out nq)
            clear a0 a1 c0 c1
            generalize wr.drewN nq = W5 at *
            obtain ⟨a0, a1⟩ := C0.out W5 _ _ H5.out
            obtain ⟨c0, c1⟩ := CW.out W5 H5.out.bl
            clear HS
            go_wp2_with fail
            go_quiet ((go_at_call 29; refine Calls.quiet_of_same (cB1.out _)))
            have H6 := Lib.hid (DR.out _ _ _ H5.out nq)
            clear a0 a1 c0 c1
            generalize W5.drewN nq = W6 at *
            clear H5
            have L2 := Lib.hid (LX.out _ H6.out.bl)
            obtain ⟨v8, W8, r8, h8⟩ := MX.out _ _ _ H6.out (by omega)
            have R2 := Lib.hid r8
            have NB := Lib.hid (N2.out _ _ h8)
            clear r8 h8 CW LX MX MA LA LA2 C0 cB1 H6 hlen
            generalize x.bal = xb at *
            generalize x.held = xh at *
            go_wp2_with (first
              | ((with_reducible refine wpList_load_eq rfl 35 (.tmp 63) rfl _ ?_ L2.out ?_); (next => rfl))
              | ((with_reducible refine Coin.wpList_append_eq rfl (.tmp 60) (.tmp 65) 23 rfl ?_ ?_ R2.out ?_); (next => rfl); (next => rfl)))
            go_roundw
            case rel => exact NB
            case measure => simp [intOf]; omega
          · have N1 := Lib.hid (NX1.out rfl)
            clear NX1 NX2
            go_wp2_with fail
            go_quiet (fail)
            have H5 := Lib.hid (DR.out _ _ _ HS.out nq)
            clear a0 a1 c0 c1
            generalize wr.drewN nq = W5 at *
            obtain ⟨a0, a1⟩ := C0.out W5 _ _ H5.out
            obtain ⟨c0, c1⟩ := CW.out W5 H5.out.bl
            clear HS
            go_wp2_with fail
            go_quiet ((go_at_call 29; refine Calls.quiet_of_same (cB1.out _)))
            have H6 := Lib.hid (DR.out _ _ _ H5.out nq)
            clear a0 a1 c0 c1
            generalize W5.drewN nq = W6 at *
            clear H5
            have L1 := Lib.hid (LA2.out _ _ _ H6.out)
            obtain ⟨v7, W7, r7, h7⟩ := MA.out _ _ _ H6.out (by omega)
            have R1 := Lib.hid r7
            have L2 := Lib.hid (LX.out _ h7.bl)
            obtain ⟨v8, W8, r8, h8⟩ := MX.out _ _ _ h7 (by rw [List.length_append]; simp; omega)
            have R2 := Lib.hid r8
            have NB := Lib.hid (N1.out _ _ (by rw [List.append_assoc] at h8; exact h8))
            clear r7 h7 r8 h8 CW LX MX MA LA LA2 C0 cB1 H6 hlen
            generalize x.bal = xb at *
            generalize x.held = xh at *
            generalize a.bal = aab at *
            generalize a.held = aah at *
            go_wp2_with (first
              | ((with_reducible refine wpList_load_eq rfl 35 (.tmp 3) rfl _ ?_ L1.out ?_); (next => rfl))
              | ((with_reducible refine Coin.wpList_append_eq rfl (.tmp 56) (.tmp 58) 23 rfl ?_ ?_ R1.out ?_); (next => rfl); (next => rfl))
              | ((with_reducible refine wpList_load_eq rfl 35 (.tmp 63) rfl _ ?_ L2.out ?_); (next => rfl))
              | ((with_reducible refine Coin.wpList_append_eq rfl (.tmp 60) (.tmp 65) 23 rfl ?_ ?_ R2.out ?_); (next => rfl); (next => rfl)))
            go_roundw
            case rel => exact NB
            case measure => simp [intOf]; omega
          · have N2 := Lib.hid (NX2.out rfl)
            clear NX1 NX2
            go_wp2_with fail
            go_quiet (fail)
            have H5 := Lib.hid (DR.out _ _ _ HS.out nq)
            clear a0 a1 c0 c1
            generalize wr.drewN nq = W5 at *
            obtain ⟨a0, a1⟩ := C0.out W5 _ _ H5.out
            obtain ⟨c0, c1⟩ := CW.out W5 H5.out.bl
            clear HS
            go_wp2_with fail
            go_quiet ((go_at_call 29; refine Calls.quiet_of_same (cB1.out _)))
            have H6 := Lib.hid (DR.out _ _ _ H5.out nq)
            clear a0 a1 c0 c1
            generalize W5.drewN nq = W6 at *
            clear H5
            have L2 := Lib.hid (LX.out _ H6.out.bl)
            obtain ⟨v8, W8, r8, h8⟩ := MX.out _ _ _ H6.out (by omega)
            have R2 := Lib.hid r8
            have NB := Lib.hid (N2.out _ _ h8)
            clear r8 h8 CW LX MX MA LA LA2 C0 cB1 H6 hlen
            generalize x.bal = xb at *
            generalize x.held = xh at *
            go_wp2_with (first
              | ((with_reducible refine wpList_load_eq rfl 35 (.tmp 63) rfl _ ?_ L2.out ?_); (next => rfl))
              | ((with_reducible refine Coin.wpList_append_eq rfl (.tmp 60) (.tmp 65) 23 rfl ?_ ?_ R2.out ?_); (next => rfl); (next => rfl)))
            go_roundw
            case rel => exact NB
            case measure => simp [intOf]; omega
      · rw [decide_eq_false e1] at q1
        have ne : x.own ≠ a.own := fun e => e1 (HO.out.1 e).1
        obtain ⟨r, hr⟩ : ∃ r, ahead a.own x.own = r := ⟨_, rfl⟩
        have cB1 := Lib.hid (cB'.out x)
        have NX1 := Lib.hid (show (!dn && r) = true → ∀ W v, WS w a W v (ys ++ [a, x]) → WI w l a n v (.bool true) (.int .i64 ((k : Int) + 1)) W from fun e => NXT.out (ys ++ [a, x], true) (by unfold wst; rw [if_neg ne, hr, if_pos e]))
        have NX2 := Lib.hid (show (!dn && r) = false → ∀ W v, WS w a W v (ys ++ [x]) → WI w l a n v (.bool dn) (.int .i64 ((k : Int) + 1)) W from fun e => NXT.out (ys ++ [x], dn) (by unfold wst; rw [if_neg ne, hr, if_neg (by rw [e]; simp)]))
        rw [hr] at cB1
        generalize strB x.who = P1 at *
        generalize strB x.asset = P2 at *
        clear ne hr NXT e1 HO q2
        rcases r with _ | _ <;> rcases dn with _ | _
        · have N2 := Lib.hid (NX2.out rfl)
          clear NX1 NX2
          go_wp2_with fail
          go_quiet (fail)
          have H5 := Lib.hid (DR.out _ _ _ HS.out nq)
          clear a0 a1 c0 c1
          generalize wr.drewN nq = W5 at *
          obtain ⟨a0, a1⟩ := C0.out W5 _ _ H5.out
          obtain ⟨c0, c1⟩ := CW.out W5 H5.out.bl
          clear HS
          go_wp2_with fail
          go_quiet ((go_at_call 29; refine Calls.quiet_of_same (cB1.out _)))
          have H6 := Lib.hid (DR.out _ _ _ H5.out nq)
          clear a0 a1 c0 c1
          generalize W5.drewN nq = W6 at *
          clear H5
          have L2 := Lib.hid (LX.out _ H6.out.bl)
          obtain ⟨v8, W8, r8, h8⟩ := MX.out _ _ _ H6.out (by omega)
          have R2 := Lib.hid r8
          have NB := Lib.hid (N2.out _ _ h8)
          clear r8 h8 CW LX MX MA LA LA2 C0 cB1 H6 hlen
          generalize x.bal = xb at *
          generalize x.held = xh at *
          go_wp2_with (first
            | ((with_reducible refine wpList_load_eq rfl 35 (.tmp 63) rfl _ ?_ L2.out ?_); (next => rfl))
            | ((with_reducible refine Coin.wpList_append_eq rfl (.tmp 60) (.tmp 65) 23 rfl ?_ ?_ R2.out ?_); (next => rfl); (next => rfl)))
          go_roundw
          case rel => exact NB
          case measure => simp [intOf]; omega
        · have N2 := Lib.hid (NX2.out rfl)
          clear NX1 NX2
          go_wp2_with fail
          go_quiet (fail)
          have H5 := Lib.hid (DR.out _ _ _ HS.out nq)
          clear a0 a1 c0 c1
          generalize wr.drewN nq = W5 at *
          obtain ⟨a0, a1⟩ := C0.out W5 _ _ H5.out
          obtain ⟨c0, c1⟩ := CW.out W5 H5.out.bl
          clear HS
          go_wp2_with fail
          go_quiet ((go_at_call 29; refine Calls.quiet_of_same (cB1.out _)))
          have H6 := Lib.hid (DR.out _ _ _ H5.out nq)
          clear a0 a1 c0 c1
          generalize W5.drewN nq = W6 at *
          clear H5
          have L2 := Lib.hid (LX.out _ H6.out.bl)
          obtain ⟨v8, W8, r8, h8⟩ := MX.out _ _ _ H6.out (by omega)
          have R2 := Lib.hid r8
          have NB := Lib.hid (N2.out _ _ h8)
          clear r8 h8 CW LX MX MA LA LA2 C0 cB1 H6 hlen
          generalize x.bal = xb at *
          generalize x.held = xh at *
          go_wp2_with (first
            | ((with_reducible refine wpList_load_eq rfl 35 (.tmp 63) rfl _ ?_ L2.out ?_); (next => rfl))
            | ((with_reducible refine Coin.wpList_append_eq rfl (.tmp 60) (.tmp 65) 23 rfl ?_ ?_ R2.out ?_); (next => rfl); (next => rfl)))
          go_roundw
          case rel => exact NB
          case measure => simp [intOf]; omega
        · have N1 := Lib.hid (NX1.out rfl)
          clear NX1 NX2
          go_wp2_with fail
          go_quiet (fail)
          have H5 := Lib.hid (DR.out _ _ _ HS.out nq)
          clear a0 a1 c0 c1
          generalize wr.drewN nq = W5 at *
          obtain ⟨a0, a1⟩ := C0.out W5 _ _ H5.out
          obtain ⟨c0, c1⟩ := CW.out W5 H5.out.bl
          clear HS
          go_wp2_with fail
          go_quiet ((go_at_call 29; refine Calls.quiet_of_same (cB1.out _)))
          have H6 := Lib.hid (DR.out _ _ _ H5.out nq)
          clear a0 a1 c0 c1
          generalize W5.drewN nq = W6 at *
          clear H5
          have L1 := Lib.hid (LA2.out _ _ _ H6.out)
          obtain ⟨v7, W7, r7, h7⟩ := MA.out _ _ _ H6.out (by omega)
          have R1 := Lib.hid r7
          have L2 := Lib.hid (LX.out _ h7.bl)
          obtain ⟨v8, W8, r8, h8⟩ := MX.out _ _ _ h7 (by rw [List.length_append]; simp; omega)
          have R2 := Lib.hid r8
          have NB := Lib.hid (N1.out _ _ (by rw [List.append_assoc] at h8; exact h8))
          clear r7 h7 r8 h8 CW LX MX MA LA LA2 C0 cB1 H6 hlen
          generalize x.bal = xb at *
          generalize x.held = xh at *
          generalize a.bal = aab at *
          generalize a.held = aah at *
          go_wp2_with (first
            | ((with_reducible refine wpList_load_eq rfl 35 (.tmp 3) rfl _ ?_ L1.out ?_); (next => rfl))
            | ((with_reducible refine Coin.wpList_append_eq rfl (.tmp 56) (.tmp 58) 23 rfl ?_ ?_ R1.out ?_); (next => rfl); (next => rfl))
            | ((with_reducible refine wpList_load_eq rfl 35 (.tmp 63) rfl _ ?_ L2.out ?_); (next => rfl))
            | ((with_reducible refine Coin.wpList_append_eq rfl (.tmp 60) (.tmp 65) 23 rfl ?_ ?_ R2.out ?_); (next => rfl); (next => rfl)))
          go_roundw
          case rel => exact NB
          case measure => simp [intOf]; omega
        · have N2 := Lib.hid (NX2.out rfl)
          clear NX1 NX2
          go_wp2_with fail
          go_quiet (fail)
          have H5 := Lib.hid (DR.out _ _ _ HS.out nq)
          clear a0 a1 c0 c1
          generalize wr.drewN nq = W5 at *
          obtain ⟨a0, a1⟩ := C0.out W5 _ _ H5.out
          obtain ⟨c0, c1⟩ := CW.out W5 H5.out.bl
          clear HS
          go_wp2_with fail
          go_quiet ((go_at_call 29; refine Calls.quiet_of_same (cB1.out _)))
          have H6 := Lib.hid (DR.out _ _ _ H5.out nq)
          clear a0 a1 c0 c1
          generalize W5.drewN nq = W6 at *
          clear H5
          have L2 := Lib.hid (LX.out _ H6.out.bl)
          obtain ⟨v8, W8, r8, h8⟩ := MX.out _ _ _ H6.out (by omega)
          have R2 := Lib.hid r8
          have NB := Lib.hid (N2.out _ _ h8)
          clear r8 h8 CW LX MX MA LA LA2 C0 cB1 H6 hlen
          generalize x.bal = xb at *
          generalize x.held = xh at *
          go_wp2_with (first
            | ((with_reducible refine wpList_load_eq rfl 35 (.tmp 63) rfl _ ?_ L2.out ?_); (next => rfl))
            | ((with_reducible refine Coin.wpList_append_eq rfl (.tmp 60) (.tmp 65) 23 rfl ?_ ?_ R2.out ?_); (next => rfl); (next => rfl)))
          go_roundw
          case rel => exact NB
          case measure => simp [intOf]; omega
    · obtain rfl : k = n := by omega
      have e : l.take k = l := List.take_of_length_le (by rw [HL.out]; exact Nat.le_refl _)
      rw [e] at hs
      have hlen : s.1.length ≤ 100000 := by
        have := wst_len a l ([], a.bal == 0)
        rw [← hs] at this
        simp at this
        have := HL.out
        omega
      have FN := Lib.hid (show ∀ W v, WS w a W v (wend a s) → AcsN (withR l a) w (.returned v) W from fun W v h => FIN3.out W v s (by rw [hs, HD.out]) h)
      obtain ⟨ys, dn⟩ := s
      dsimp only at hlen hS
      rcases dn with _ | _
      · have L1 := Lib.hid (LA2.out _ _ _ hS)
        obtain ⟨v7, W7, r7, h7⟩ := MA0.out _ _ _ hS hlen
        have R1 := Lib.hid r7
        have FF := Lib.hid (FN.out W7 v7 h7)
        clear FN r7 h7 hS hs e hlen hrel ST3
        go_wp2_with (first
          | ((with_reducible refine wpList_load_eq rfl 35 (.tmp 3) rfl _ ?_ L1.out ?_); (next => rfl))
          | ((with_reducible refine Coin.wpList_append_eq rfl (.tmp 69) (.tmp 71) 23 rfl ?_ ?_ R1.out ?_); (next => rfl); (next => rfl)))
        go_ret
        exact FF.out
      · have FF := Lib.hid (FN.out wr u5 hS)
        clear FN hS hs e hlen hrel ST3
        go_wp2_with fail
        go_ret
        exact FF.out
end Go.Proofs.Ytobpbbldgbgcdaa.Acc
namespace Go.Proofs.Ytobpbbldgbgcdaa.Acc
open Go.RowKit Go.Sort

def holdR (l : List Ac) (who asset : Bs) (n : Int) : List Ac × Int :=
  if holdB who asset n = true then
    if IntKind.i64.wrap ((findA l (who, asset)).bal - (findA l (who, asset)).held) < n then ([], 111)
    else (withR l ((findA l (who, asset)).hold (IntKind.i64.wrap ((findA l (who, asset)).held + n))), 0)
  else ([], 1)
set_option maxRecDepth 100000 in
set_option maxHeartbeats 4000000 in
theorem rHold_any {A : Option Addr} {m c : Nat} {l : List Ac} {w : World} (h : AAt w A m c l) (hm : m ≤ 10000) (who asset : Bs) (n : Int) (g1 : who.length ≤ 1000) (g2 : asset.length ≤ 1000) : Calls Try.prog 17 #[.slice A m c, strV who, strV asset, .int .i64 n] w (AcsE (holdR l who asset n).1 (holdR l who asset n).2 w) := by
  obtain rfl := h.len
  have cN := rNames_any who asset w g1 g2
  have cF := rFind_any h (by omega) (who, asset)
  dsimp only at cF
  obtain ⟨R, hR⟩ : ∃ R, holdR l who asset n = R := ⟨_, rfl⟩
  rw [hR]
  unfold holdR holdB at hR
  obtain ⟨F, hF⟩ : ∃ F, findA l (who, asset) = F := ⟨_, rfl⟩
  rw [hF] at hR cF
  have H := Lib.hid h
  obtain ⟨D, hD⟩ : ∃ D, IntKind.i64.wrap (F.bal - F.held) = D := ⟨_, rfl⟩
  rw [hD] at hR
  obtain ⟨M, hM⟩ : ∃ M, IntKind.i64.wrap (F.held + n) = M := ⟨_, rfl⟩
  rw [hM] at hR
  have hW : ((strB who).toList == [119, 111, 114, 108, 100]) = (who == worldB) := by rw [strB_list]; rfl
  clear h hF g1 g2
  unfold strV at cN cF ⊢
  generalize strB who = X at *
  generalize strB asset = Y at *
  generalize (who == worldB) = ew at *
  generalize namedB who asset = rn at *
  by_cases hn1 : 1 ≤ n
  rotate_left
  · have hlt : n < 1 := by omega
    have E := Lib.hid (show R = ([], 1) by rw [← hR, decide_eq_false hn1]; rfl)
    clear cF hR hW hn1
    go_enter Try.func17, Try.ntmps17
    go_wp2_with fail
    refine cN.mono ?_
    rintro e w' ⟨rfl, rfl⟩
    go_wp2_with fail
    go_ret2
    rw [E.out]
    exact AcsE.no 1 (Below.refl _ _)
  have hlt : ¬ n < 1 := by omega
  rw [decide_eq_true hn1] at hR
  have HR := Lib.hid hR
  clear hR hn1
  rcases ew with _ | _
  rotate_left
  · have E := Lib.hid (show R = ([], 1) by rw [← HR.out]; rfl)
    clear cF HR
    go_enter Try.func17, Try.ntmps17
    go_wp2_with fail
    refine cN.mono ?_
    rintro e w' ⟨rfl, rfl⟩
    go_wp2_with fail
    go_ret2
    rw [E.out]
    exact AcsE.no 1 (Below.refl _ _)
  rcases rn with _ | _
  · have E := Lib.hid (show R = ([], 1) by rw [← HR.out]; rfl)
    clear cF HR
    go_enter Try.func17, Try.ntmps17
    go_wp2_with fail
    refine cN.mono ?_
    rintro e w' ⟨rfl, rfl⟩
    go_wp2_with fail
    go_ret2
    rw [E.out]
    exact AcsE.no 1 (Below.refl _ _)
  go_enter Try.func17, Try.ntmps17
  go_wp2_with fail
  refine cN.mono ?_
  rintro e w' ⟨rfl, rfl⟩
  clear cN
  go_wp2_with fail
  refine cF.mono ?_
  rintro e w1 ⟨rfl, b1⟩
  have B1 := Lib.hid b1
  have P1 := Lib.hid (put_new w1 F)
  have b2 := below_box w1 (.cells (encA F).toArray 35)
  have a2 := at_new w1 (encA F).toArray 35
  obtain ⟨W2, hW2⟩ : ∃ W2, w1.alloc (.cells (encA F).toArray 35) = W2 := ⟨_, rfl⟩
  rw [hW2] at P1 b2 a2
  have c2 : W2.cell? ⟨w1.heap.size, 2, none⟩ = some (.int .i64 F.bal) := a2.2.2 2 _ rfl
  have c3 : W2.cell? ⟨w1.heap.size, 3, none⟩ = some (.int .i64 F.held) := a2.2.2 3 _ rfl
  have f3 := a2.2.1 3
  have B2 := Lib.hid (B1.out.trans (b2.mono B1.out.size))
  have a3 := a2.set 3 (.int .i64 M) (by simp [encA])
  rw [hold_set] at a3
  have b3 := (Below.refl w1.heap.size W2).setCell (p := ⟨w1.heap.size, 3, none⟩) (Nat.le_refl _) (.int .i64 M)
  have B3 := Lib.hid (B2.out.trans (b3.mono B1.out.size))
  have L3 := Lib.hid (load_at (o := 0) a3 Try.underlying35 rfl (by simpa [encA] using size_ac) (c := (encA (F.hold M)).toArray) (by simp))
  have cW := Lib.hid (rWith_any (H.out.below B3.out) hm (F.hold M))
  by_cases hn : D < n
  · have E := Lib.hid (show R = ([], 111) by rw [← HR.out]; simp [hn])
    clear HR L3 cW B3 a3 b3 a2 b2 hW2 b1
    go_wp2_with (first | ((with_reducible refine wpList_store_eq rfl 35 (.tmp 11) (.tmp 28) rfl _ _ ?_ ?_ P1.out ?_); (next => rfl); (next => rfl)))
    go_ret2
    rw [E.out]
    exact AcsE.no 111 B2.out
  · have E := Lib.hid (show R = (withR l (F.hold M), 0) by rw [← HR.out]; simp [hn])
    clear HR a3 b3 a2 b2 hW2 b1
    go_wp2_with (first
      | ((with_reducible refine wpList_store_eq rfl 35 (.tmp 11) (.tmp 28) rfl _ _ ?_ ?_ P1.out ?_); (next => rfl); (next => rfl))
      | ((with_reducible refine wpList_load_eq rfl 35 (.tmp 11) rfl _ ?_ L3.out ?_); (next => rfl)))
    refine cW.out.mono ?_
    rintro e w4 ⟨v, rfl, ho, b4⟩
    have HO := Lib.hid (ho.down B3.out.size)
    have B4 := Lib.hid (B3.out.trans (b4.mono B3.out.size))
    clear ho b4 cW
    go_wp2_with fail
    go_ret2
    rw [E.out]
    exact ⟨_, rfl, HO.out, B4.out⟩
def freeR (l : List Ac) (who asset : Bs) (n : Int) : List Ac × Int :=
  if holdB who asset n = true then
    if (findA l (who, asset)).held < n then ([], 112)
    else (withR l ((findA l (who, asset)).hold (IntKind.i64.wrap ((findA l (who, asset)).held - n))), 0)
  else ([], 1)
set_option maxRecDepth 100000 in
set_option maxHeartbeats 4000000 in
theorem rFree_any {A : Option Addr} {m c : Nat} {l : List Ac} {w : World} (h : AAt w A m c l) (hm : m ≤ 10000) (who asset : Bs) (n : Int) (g1 : who.length ≤ 1000) (g2 : asset.length ≤ 1000) : Calls Try.prog 19 #[.slice A m c, strV who, strV asset, .int .i64 n] w (AcsE (freeR l who asset n).1 (freeR l who asset n).2 w) := by
  obtain rfl := h.len
  have cN := rNames_any who asset w g1 g2
  have cF := rFind_any h (by omega) (who, asset)
  dsimp only at cF
  obtain ⟨R, hR⟩ : ∃ R, freeR l who asset n = R := ⟨_, rfl⟩
  rw [hR]
  unfold freeR holdB at hR
  obtain ⟨F, hF⟩ : ∃ F, findA l (who, asset) = F := ⟨_, rfl⟩
  rw [hF] at hR cF
  have H := Lib.hid h
  obtain ⟨M, hM⟩ : ∃ M, IntKind.i64.wrap (F.held - n) = M := ⟨_, rfl⟩
  rw [hM] at hR
  have hW : ((strB who).toList == [119, 111, 114, 108, 100]) = (who == worldB) := by rw [strB_list]; rfl
  clear h hF g1 g2
  unfold strV at cN cF ⊢
  generalize strB who = X at *
  generalize strB asset = Y at *
  generalize (who == worldB) = ew at *
  generalize namedB who asset = rn at *
  by_cases hn1 : 1 ≤ n
  rotate_left
  · have hlt : n < 1 := by omega
    have E := Lib.hid (show R = ([], 1) by rw [← hR, decide_eq_false hn1]; rfl)
    clear cF hR hW hn1
    go_enter Try.func19, Try.ntmps19
    go_wp2_with fail
    refine cN.mono ?_
    rintro e w' ⟨rfl, rfl⟩
    go_wp2_with fail
    go_ret2
    rw [E.out]
    exact AcsE.no 1 (Below.refl _ _)
  have hlt : ¬ n < 1 := by omega
  rw [decide_eq_true hn1] at hR
  have HR := Lib.hid hR
  clear hR hn1
  rcases ew with _ | _
  rotate_left
  · have E := Lib.hid (show R = ([], 1) by rw [← HR.out]; rfl)
    clear cF HR
    go_enter Try.func19, Try.ntmps19
    go_wp2_with fail
    refine cN.mono ?_
    rintro e w' ⟨rfl, rfl⟩
    go_wp2_with fail
    go_ret2
    rw [E.out]
    exact AcsE.no 1 (Below.refl _ _)
  rcases rn with _ | _
  · have E := Lib.hid (show R = ([], 1) by rw [← HR.out]; rfl)
    clear cF HR
    go_enter Try.func19, Try.ntmps19
    go_wp2_with fail
    refine cN.mono ?_
    rintro e w' ⟨rfl, rfl⟩
    go_wp2_with fail
    go_ret2
    rw [E.out]
    exact AcsE.no 1 (Below.refl _ _)
  go_enter Try.func19, Try.ntmps19
  go_wp2_with fail
  refine cN.mono ?_
  rintro e w' ⟨rfl, rfl⟩
  clear cN
  go_wp2_with fail
  refine cF.mono ?_
  rintro e w1 ⟨rfl, b1⟩
  have B1 := Lib.hid b1
  have P1 := Lib.hid (put_new w1 F)
  have b2 := below_box w1 (.cells (encA F).toArray 35)
  have a2 := at_new w1 (encA F).toArray 35
  obtain ⟨W2, hW2⟩ : ∃ W2, w1.alloc (.cells (encA F).toArray 35) = W2 := ⟨_, rfl⟩
  rw [hW2] at P1 b2 a2
  have c2 : W2.cell? ⟨w1.heap.size, 2, none⟩ = some (.int .i64 F.bal) := a2.2.2 2 _ rfl
  have c3 : W2.cell? ⟨w1.heap.size, 3, none⟩ = some (.int .i64 F.held) := a2.2.2 3 _ rfl
  have f3 := a2.2.1 3
  have B2 := Lib.hid (B1.out.trans (b2.mono B1.out.size))
  have a3 := a2.set 3 (.int .i64 M) (by simp [encA])
  rw [hold_set] at a3
  have b3 := (Below.refl w1.heap.size W2).setCell (p := ⟨w1.heap.size, 3, none⟩) (Nat.le_refl _) (.int .i64 M)
  have B3 := Lib.hid (B2.out.trans (b3.mono B1.out.size))
  have L3 := Lib.hid (load_at (o := 0) a3 Try.underlying35 rfl (by simpa [encA] using size_ac) (c := (encA (F.hold M)).toArray) (by simp))
  have cW := Lib.hid (rWith_any (H.out.below B3.out) hm (F.hold M))
  by_cases hn : F.held < n
  · have E := Lib.hid (show R = ([], 112) by rw [← HR.out]; simp [hn])
    clear HR L3 cW B3 a3 b3 a2 b2 hW2 b1
    go_wp2_with (first | ((with_reducible refine wpList_store_eq rfl 35 (.tmp 11) (.tmp 28) rfl _ _ ?_ ?_ P1.out ?_); (next => rfl); (next => rfl)))
    go_ret2
    rw [E.out]
    exact AcsE.no 112 B2.out
  · have E := Lib.hid (show R = (withR l (F.hold M), 0) by rw [← HR.out]; simp [hn])
    clear HR a3 b3 a2 b2 hW2 b1
    go_wp2_with (first
      | ((with_reducible refine wpList_store_eq rfl 35 (.tmp 11) (.tmp 28) rfl _ _ ?_ ?_ P1.out ?_); (next => rfl); (next => rfl))
      | ((with_reducible refine wpList_load_eq rfl 35 (.tmp 11) rfl _ ?_ L3.out ?_); (next => rfl)))
    refine cW.out.mono ?_
    rintro e w4 ⟨v, rfl, ho, b4⟩
    have HO := Lib.hid (ho.down B3.out.size)
    have B4 := Lib.hid (B3.out.trans (b4.mono B3.out.size))
    clear ho b4 cW
    go_wp2_with fail
    go_ret2
    rw [E.out]
    exact ⟨_, rfl, HO.out, B4.out⟩
end Go.Proofs.Ytobpbbldgbgcdaa.Acc
namespace Go.Proofs.Ytobpbbldgbgcdaa.Acc
open Go.RowKit Go.Sort

/-- The best of the legs that have been seen. -/
def NextP (l : List Lg) (o : Own) (g : Lg) (f : Bool) : Prop := (f = true ∧ g ∈ l ∧ ahead o g.own = true ∧ ∀ x ∈ l, ahead o x.own = true → ahead x.own g.own = false) ∨ (f = false ∧ g = ⟨[], [], 0⟩ ∧ ∀ x ∈ l, ahead o x.own = false)
theorem next_nil (o : Own) : NextP [] o ⟨[], [], 0⟩ false := .inr ⟨rfl, rfl, fun x h => absurd h (by simp)⟩
theorem next_skip {l : List Lg} {o : Own} {g : Lg} {f : Bool} {k : Nat} (hk : k < l.length) (h : NextP (l.take k) o g f) (hs : ahead o l[k].own = false ∨ (f = true ∧ ahead l[k].own g.own = false)) : NextP (l.take (k + 1)) o g f := by
  rw [List.take_succ_eq_append_getElem hk]
  rcases h with ⟨h1, h2, h3, h4⟩ | ⟨h1, h2, h3⟩
  · refine .inl ⟨h1, List.mem_append.2 (.inl h2), h3, fun x hx ha => ?_⟩
    rcases List.mem_append.1 hx with hx | hx
    · exact h4 x hx ha
    · rw [List.mem_singleton] at hx; subst hx
      rcases hs with hs | hs
      · rw [hs] at ha; cases ha
      · exact hs.2
  · refine .inr ⟨h1, h2, fun x hx => ?_⟩
    rcases List.mem_append.1 hx with hx | hx
    · exact h3 x hx
    · rw [List.mem_singleton] at hx; subst hx
      rcases hs with hs | hs
      · exact hs
      · rw [h1] at hs; cases hs.1
theorem next_hit {l : List Lg} {o : Own} {g : Lg} {f : Bool} {k : Nat} (hk : k < l.length) (h : NextP (l.take k) o g f) (ha : ahead o l[k].own = true) (hs : f = false ∨ ahead l[k].own g.own = true) : NextP (l.take (k + 1)) o l[k] true := by
  rw [List.take_succ_eq_append_getElem hk]
  refine .inl ⟨rfl, List.mem_append.2 (.inr (List.mem_singleton.2 rfl)), ha, fun x hx hb => ?_⟩
  rcases List.mem_append.1 hx with hx | hx
  · rcases h with ⟨h1, h2, h3, h4⟩ | ⟨h1, h2, h3⟩
    · have h5 := h4 x hx hb
      have h6 := hs.resolve_left (by simp [h1])
      rcases e : ahead x.own l[k].own with _ | _
      · rfl
      · rw [ahead_trans e h6] at h5; cases h5
    · rw [h3 x hx] at hb; cases hb
  · rw [List.mem_singleton] at hx; subst hx; exact ahead_irrefl _
/-- What next tells. -/
def NextE (l : List Lg) (o : Own) (w : World) (e : Ending) (w' : World) : Prop := ∃ g f, e = .returned (.tuple #[.agg (encL g).toArray, .bool f]) ∧ NextP l o g f ∧ Below w.heap.size w w'
theorem put_lgs {w : World} {b : Nat} {C : Array Value} (h : At w b C) (hC : C.size = 3) (x : Lg) {B : Nat} (hB : B ≤ b) : ∃ w', (Instr.storeAt 39 (.pointer (some ⟨b, 0, none⟩)) (.agg (encL x).toArray)).run Try.prog w = .ok () w' ∧ At w' b (encL x).toArray ∧ Below B w w' :=
  ⟨_, store_at h (by rw [hC]; simp [encL]) (by simpa [encL] using size_lg) (by simp [encL, Value.oneCell']), at_over h (by rw [hC]; simp [encL]) (by
    have : C.toList.length = 3 := by simpa using hC
    simp [encL, List.drop_eq_nil_of_le, this]), below_put hB _ _ _⟩
/-- The loop's blocks: the result's and the best's. -/
structure NXW (w : World) (g : Lg) (W : World) : Prop where
  bl : Below w.heap.size w W
  z : At W w.heap.size #[.string ⟨#[]⟩, .string ⟨#[]⟩, .int .i64 0]
  g : At W (w.heap.size + 1) (encL g).toArray
theorem NXW.drew {w : World} {g : Lg} {W : World} (h : NXW w g W) (q : Nat) : NXW w g (W.drewN q) := ⟨h.bl.trans ((drewN_below W q).mono h.bl.size), h.z.below (drewN_below W q) h.z.1, h.g.below (drewN_below W q) h.g.1⟩
def NextI (w : World) (l : List Lg) (o : Own) (n : Nat) (v i : Value) (W : World) : Prop := ∃ k : Nat, ∃ g f, v = .bool f ∧ i = .int .i64 (k : Int) ∧ k ≤ n ∧ NXW w g W ∧ NextP (l.take k) o g f
theorem NXW.put {w : World} {g : Lg} {W : World} (h : NXW w g W) (x : Lg) : ∃ W', (Instr.storeAt 39 (.pointer (some ⟨w.heap.size + 1, 0, none⟩)) (.agg (encL x).toArray)).run Try.prog W = .ok () W' ∧ NXW w x W' := by
  obtain ⟨W', h1, h2, h3⟩ := put_lgs h.g rfl x (Nat.le_refl (w.heap.size + 1))
  exact ⟨W', h1, h.bl.trans (h3.mono (Nat.le_succ _)), h.z.below h3 (Nat.lt_succ_self _), h2⟩
set_option maxRecDepth 100000 in
set_option maxHeartbeats 8000000 in
theorem rNext_any {A : Option Addr} {n c : Nat} {l : List Lg} {w : World} (hlen : l.length = n) (hrow : RowL w A l) (hn : n ≤ 1000000) (o : Own) :
    Calls Try.prog 39 #[.slice A n c, strV o.1, strV o.2] w (NextE l o w) := by
  have HL := Lib.hid hlen
  have HR := Lib.hid hrow
  have b1 := below_box w (.cells #[.string ⟨#[]⟩, .string ⟨#[]⟩, .int .i64 0] 39)
  have a1 := at_new w #[.string ⟨#[]⟩, .string ⟨#[]⟩, .int .i64 0] 39
  have s1 : (w.alloc (.cells #[.string ⟨#[]⟩, .string ⟨#[]⟩, .int .i64 0] 39)).heap.size = w.heap.size + 1 := by simp
  obtain ⟨W1, hW1⟩ : ∃ W1, w.alloc (.cells #[.string ⟨#[]⟩, .string ⟨#[]⟩, .int .i64 0] 39) = W1 := ⟨_, rfl⟩
  rw [hW1] at b1 a1 s1
  have b2 := below_box W1 (.cells #[.string ⟨#[]⟩, .string ⟨#[]⟩, .int .i64 0] 39)
  have a2 := at_new W1 #[.string ⟨#[]⟩, .string ⟨#[]⟩, .int .i64 0] 39
  rw [s1] at a2
  obtain ⟨W2, hW2⟩ : ∃ W2, W1.alloc (.cells #[.string ⟨#[]⟩, .string ⟨#[]⟩, .int .i64 0] 39) = W2 := ⟨_, rfl⟩
  rw [hW2] at b2 a2
  have ST := Lib.hid (show NextI w l o n (.bool false) (.int .i64 0) W2 from ⟨0, ⟨[], [], 0⟩, false, rfl, rfl, Nat.zero_le _, ⟨b1.trans (b2.mono b1.size), a1.below b2 a1.1, a2⟩, next_nil o⟩)
  have cB := Lib.hid (fun (x y : Own) W => rBefore_any x y W)
  clear hlen hrow b1 b2 a1 a2
  obtain ⟨OX, hX⟩ : ∃ X, strV o.1 = X := ⟨_, rfl⟩
  obtain ⟨OY, hY⟩ : ∃ Y, strV o.2 = Y := ⟨_, rfl⟩
  have HOX := Lib.hid hX
  have HOY := Lib.hid hY
  rw [hX, hY]
  clear hX hY
  go_enter Try.func39, Try.ntmps39
  go_wp2_with fail
  clear hW1 hW2 s1
  go_loopw [9, 10] (fun v i wr => Hid (NextI w l o n v i wr)) (fun _ i _ => n - (intOf i).toNat)
  case atStart => exact ST
  case round =>
    obtain ⟨k, g, f, rfl, rfl, hk, hI, hP⟩ := hrel.out
    have HI := Lib.hid hI
    have HP := Lib.hid hP
    clear hrel hI hP ST
    by_cases hlt : k < n
    · have hkl : k < l.length := by rw [HL.out]; exact hlt
      have hwr : IntKind.i64.wrap ((k : Int) + 1) = (k : Int) + 1 := IntWalk.i64_in _ (by omega)
      have t1 : (k : Int) < (n : Int) := by omega
      have t2 : (0 : Int) ≤ (k : Int) := by omega
      obtain ⟨b, off, rfl, hbl, hc⟩ := HR.out (by intro e; rw [e] at hkl; simp at hkl)
      have NS := Lib.hid (fun hs => next_skip hkl HP.out hs)
      have NH := Lib.hid (fun ha hs => next_hit hkl HP.out ha hs)
      have LR := Lib.hid (show ∀ W, Below w.heap.size w W → W.rangeAt b (off + k * 3) (encL l[k]) from fun W hb => range_below (hc k hkl) hb hbl)
      obtain ⟨x, hx⟩ : ∃ x, l[k] = x := ⟨_, rfl⟩
      rw [hx] at NS NH LR
      have cB1 := Lib.hid (fun W => cB.out o x.own W)
      have cB2 := Lib.hid (fun W => cB.out x.own g.own W)
      have CW := Lib.hid (show ∀ W, NXW w g W → W.cell? ⟨b, off + k * 3, none⟩ = some (strV x.who) ∧ W.cell? ⟨b, off + k * 3 + 1, none⟩ = some (strV x.asset) ∧ W.cell? ⟨w.heap.size + 1, 0, none⟩ = some (strV g.who) ∧ W.cell? ⟨w.heap.size + 1, 1, none⟩ = some (strV g.asset) from fun W hb => by
        have hr := LR.out W hb.bl
        exact ⟨hr 0 _ rfl, hr 1 _ rfl, hb.g.2.2 0 _ rfl, hb.g.2.2 1 _ rfl⟩)
      have LW := Lib.hid (show ∀ W, NXW w g W → (Instr.loadAt 39 (.pointer (some ⟨b, off + k * 3, none⟩))).run Try.prog W = .ok (.agg (encL x).toArray) W from fun W hb => load_lg (LR.out W hb.bl))
      have PW := Lib.hid (show ∀ W, NXW w g W → ∃ W', (Instr.storeAt 39 (.pointer (some ⟨w.heap.size + 1, 0, none⟩)) (.agg (encL x).toArray)).run Try.prog W = .ok () W' ∧ NXW w x W' from fun W hb => hb.put x)
      unfold Lg.own at cB1 cB2 NS NH
      dsimp only at cB1 cB2
      rw [HOX.out, HOY.out] at cB1
      have r1e : ∃ r, ahead o (x.who, x.asset) = r := ⟨_, rfl⟩
      have r2e : ∃ r, ahead (x.who, x.asset) (g.who, g.asset) = r := ⟨_, rfl⟩
      obtain ⟨r1, h1⟩ := r1e
      obtain ⟨r2, h2⟩ := r2e
      rw [h1] at cB1 NS NH
      rw [h2] at cB2 NS NH
      have NX := Lib.hid (show (r1 && (!f || r2)) = false → ∀ W, NXW w g W → NextI w l o n (.bool f) (.int .i64 ((k : Int) + 1)) W from fun e W hb => ⟨k + 1, g, f, rfl, by rw [Int.natCast_add]; rfl, by omega, hb, NS.out (by revert e; cases r1 <;> cases f <;> cases r2 <;> simp)⟩)
      have NY := Lib.hid (show (r1 && (!f || r2)) = true → ∀ W, NXW w x W → NextI w l o n (.bool true) (.int .i64 ((k : Int) + 1)) W from fun e W hb => ⟨k + 1, x, true, rfl, by rw [Int.natCast_add]; rfl, by omega, hb, hx ▸ NH.out (by revert e; cases r1 <;> simp) (by revert e; cases r1 <;> cases f <;> cases r2 <;> simp)⟩)
      obtain ⟨c0, c1, c2, c3⟩ := CW.out wr HI.out
      clear NS NH h1 h2 hc hbl LR hx cB HP
      obtain ⟨C, hC⟩ : ∃ C, (encL x).toArray = C := ⟨_, rfl⟩
      rw [hC] at LW PW
      clear hC
      generalize strV x.who = X1 at *
      generalize strV x.asset = Y1 at *
      generalize strV g.who = X2 at *
      generalize strV g.asset = Y2 at *
      rcases r1 with _ | _ <;> rcases f with _ | _ <;> rcases r2 with _ | _
      all_goals
        (first | (have NX1 := Lib.hid (NX.out rfl)) | (have NY1 := Lib.hid (NY.out rfl)))
        clear NX NY
        go_wp2_with fail
        go_quiet ((go_at_call 29; refine Calls.quiet_of_same (cB1.out _)))
        have H5 := Lib.hid (HI.out.drew nq)
        clear c0 c1 c2 c3
        generalize wr.drewN nq = W5 at *
        obtain ⟨c0, c1, c2, c3⟩ := CW.out W5 H5.out
        clear HI
        go_wp2_with fail
        go_quiet ((go_at_call 29; refine Calls.quiet_of_same (cB2.out _)))
        have H6 := Lib.hid (H5.out.drew nq)
        clear c0 c1 c2 c3
        generalize W5.drewN nq = W6 at *
        clear H5
        have LD := Lib.hid (LW.out W6 H6.out)
        obtain ⟨W7, rr, H7⟩ := PW.out W6 H6.out
        have R := Lib.hid rr
        have H7' := Lib.hid H7
        clear rr H7 CW LW PW cB1 cB2
        go_wp2_with (first
          | ((with_reducible refine wpList_load_eq rfl 39 (.tmp 57) rfl _ ?_ LD.out ?_); (next => rfl))
          | ((with_reducible refine wpList_store_eq rfl 39 (.tmp 8) (.tmp 58) rfl _ _ ?_ ?_ R.out ?_); (next => rfl); (next => rfl)))
        go_roundw
        case rel => first | exact Lib.hid (NX1.out _ H6.out) | exact Lib.hid (NY1.out _ H7'.out)
        case measure => simp [intOf]; omega
    · obtain rfl : k = n := by omega
      have e : l.take k = l := List.take_of_length_le (by rw [HL.out]; exact Nat.le_refl _)
      have hP := HP.out
      rw [e] at hP
      have LB := Lib.hid (show (Instr.loadAt 39 (.pointer (some ⟨w.heap.size + 1, 0, none⟩))).run Try.prog wr = .ok (.agg (encL g).toArray) wr from load_at (o := 0) HI.out.g Try.underlying39 rfl (by simpa [encL] using size_lg) (by simp))
      obtain ⟨W7, h1, h2, h3⟩ := put_lgs HI.out.z rfl g (Nat.le_refl w.heap.size)
      have R := Lib.hid h1
      have V := Lib.hid (show (loadVar 39 ⟨w.heap.size, 0, none⟩).run Try.prog W7 = .ok (.agg (encL g).toArray) W7 from var_at (o := 0) h2 Try.underlying39 rfl (by simpa [encL] using size_lg) (by simp))
      have FIN := Lib.hid (show NextE l o w (.returned (.tuple #[.agg (encL g).toArray, .bool f])) W7 from ⟨g, f, rfl, hP, HI.out.bl.trans h3⟩)
      obtain ⟨C, hC⟩ : ∃ C, (encL g).toArray = C := ⟨_, rfl⟩
      rw [hC] at LB R V FIN
      clear h1 h2 h3 hP e HP HI hC
      go_wp2_with (first
        | ((with_reducible refine wpList_load_eq rfl 39 (.tmp 8) rfl _ ?_ LB.out ?_); (next => rfl))
        | ((with_reducible refine wpList_store_eq rfl 39 (.tmp 6) (.tmp 59) rfl _ _ ?_ ?_ R.out ?_); (next => rfl); (next => rfl)))
      (try simp only [Exit.inBlock, Exit.then])
      refine bodyPost_ret (results_ct rfl rfl V.out) rfl ?_
      exact FIN.out
end Go.Proofs.Ytobpbbldgbgcdaa.Acc
namespace Go.Proofs.Ytobpbbldgbgcdaa.Acc
open Go.RowKit Go.Sort

/-- x has been booked when o has. -/
def upB (x o : Own) : Bool := ahead x o || decide (x = o)
/-- Between two rounds: all owners to o have been booked. -/
structure PI (l cur : List Ac) (F : Own → List Int) (o : Own) : Prop where
  fit : FitA cur
  ok : ∀ x, F x ≠ [] → upB x o = true → errP l F x = 0
  get : ∀ x, findA cur x = if upB x o = true then newA l F x else findA l x
theorem amts_leg {legs : List Lg} {x : Own} (h : amtsOf legs x ≠ []) : ∃ g ∈ legs, g.own = x := by
  unfold amtsOf at h
  rw [ne_eq, List.map_eq_nil_iff] at h
  obtain ⟨g, hg⟩ := List.exists_mem_of_ne_nil _ h
  obtain ⟨hm, e⟩ := List.mem_filter.1 hg
  exact ⟨g, hm, by simpa using e⟩
theorem leg_amts {legs : List Lg} {g : Lg} (h : g ∈ legs) : amtsOf legs g.own ≠ [] := by
  unfold amtsOf
  rw [ne_eq, List.map_eq_nil_iff]
  exact List.ne_nil_of_mem (List.mem_filter.2 ⟨h, by simp⟩)
theorem less_nil (x : Bs) : less x [] = false := by cases x <;> rfl
theorem up_nil (x : Own) : upB x ([], []) = true → x = ([], []) := by
  intro h
  unfold upB ahead at h
  rw [less_nil, less_nil] at h
  simpa using h
theorem pi_start {l : List Ac} {F : Own → List Int} (hl : FitA l) (hF : Named F) : PI l l F ([], []) := by
  have h0 : F ([], []) = [] := by
    by_cases e : F ([], []) = []
    · exact e
    · have := (hF _ e).2
      unfold namedB Label.whoS Label.madeB at this
      simp at this
  refine ⟨hl, fun x hx hu => ?_, fun x => ?_⟩
  · rw [up_nil x hu, h0] at hx
    exact absurd rfl hx
  · by_cases hu : upB x ([], []) = true
    · rw [if_pos hu, up_nil x hu]
      unfold newA
      rw [if_pos h0]
    · rw [if_neg hu]
theorem up_not {x o : Own} (h : upB x o = false) : ahead o x = true := by
  unfold upB at h
  rw [Bool.or_eq_false_iff] at h
  exact ahead_tri h.1 (by simpa using h.2)
theorem up_irr {o x : Own} (h : ahead o x = true) : upB x o = false := by
  unfold upB
  rw [Bool.or_eq_false_iff]
  refine ⟨ahead_asymm h, decide_eq_false (fun e => ?_)⟩
  rw [e, ahead_irrefl] at h; cases h
section
variable {l cur : List Ac} {legs : List Lg} {o : Own} {g : Lg}
/-- No owner with legs lies between. -/
theorem next_gap (h : NextP legs o g true) {x : Own} (hx : ahead x g.own = true) (hu : upB x o = false) : amtsOf legs x = [] := by
  rcases h with ⟨_, _, _, h4⟩ | ⟨h1, _⟩
  · by_cases e : amtsOf legs x = []
    · exact e
    · obtain ⟨y, hy, rfl⟩ := amts_leg e
      have := h4 y hy (up_not hu)
      rw [hx] at this; cases this
  · cases h1
theorem next_parts (h : NextP legs o g true) : g ∈ legs ∧ ahead o g.own = true := by
  rcases h with ⟨_, h2, h3, _⟩ | ⟨h1, _⟩
  · exact ⟨h2, h3⟩
  · cases h1
theorem pi_find (hp : PI l cur (amtsOf legs) o) (h : NextP legs o g true) : findA cur g.own = findA l g.own := by
  rw [hp.get, if_neg (by rw [up_irr (next_parts h).2]; simp)]
theorem pi_bad (hp : PI l cur (amtsOf legs) o) (h : NextP legs o g true) (he : errP l (amtsOf legs) g.own ≠ 0) : PostS l (amtsOf legs) ([], errP l (amtsOf legs) g.own) := by
  refine .inr ⟨rfl, he, g.own, leg_amts (next_parts h).1, rfl, fun x hx ha => ?_⟩
  rcases hu : upB x o with _ | _
  · exact absurd (next_gap h ha hu) hx
  · exact hp.ok x hx hu
theorem pi_end (hp : PI l cur (amtsOf legs) o) (h : NextP legs o g false) : PostS l (amtsOf legs) (cur, 0) := by
  have hn : ∀ x, upB x o = false → amtsOf legs x = [] := fun x hu => by
    rcases h with ⟨h1, _⟩ | ⟨_, _, h3⟩
    · cases h1
    · by_cases e : amtsOf legs x = []
      · exact e
      · obtain ⟨y, hy, rfl⟩ := amts_leg e
        have := h3 y hy
        rw [up_not hu] at this; cases this
  refine .inl ⟨rfl, fun x hx => ?_, hp.fit, fun x => ?_⟩
  · rcases hu : upB x o with _ | _
    · exact absurd (hn x hu) hx
    · exact hp.ok x hx hu
  · rw [hp.get]
    rcases hu : upB x o with _ | _
    · rw [if_neg (by simp)]
      unfold newA
      rw [if_pos (hn x hu)]
    · rw [if_pos rfl]
/-- What an account that may be bears. -/
theorem bear_may (hl : FitA l) (x : Own) (hn : namedB x.1 x.2 = true) {m : Int} (hs : shortA ((findA l x).bear m) = false) : (m ≠ 0 → mayA ((findA l x).bear m) = true) ∧ (m = 0 → (findA l x).bear m = zeroOf x) := by
  have ho := find_own l x
  have hx' : 0 ≤ (findA l x).held ∧ ((findA l x).who = worldB → (findA l x).held = 0) := by
    rcases find_cases l x with ⟨h1, _⟩ | ⟨_, h3⟩
    · have := may_parts.1 (((fit_iff l).1 hl).1 _ h1)
      exact ⟨this.2.2.1, this.2.2.2.2⟩
    · rw [h3]; exact ⟨Int.le_refl 0, fun _ => rfl⟩
  have hw : (findA l x).who = x.1 ∧ (findA l x).asset = x.2 := ⟨congrArg Prod.fst ho, congrArg Prod.snd ho⟩
  refine ⟨fun hm => may_parts.2 ⟨?_, hm, hx'.1, hs, hx'.2⟩, fun hm => ?_⟩
  · show namedB (findA l x).who (findA l x).asset = true
    rw [hw.1, hw.2]; exact hn
  · subst hm
    have : (findA l x).held = 0 := by
      by_cases e : (findA l x).who = worldB
      · exact hx'.2 e
      · unfold shortA at hs
        rcases Bool.and_eq_false_iff.1 hs with h3 | h3
        · exact absurd (by simpa [Ac.bear] using h3) e
        · have h4 := of_decide_eq_false h3
          have h5 : ¬ (0 : Int) < (findA l x).held := h4
          omega
    unfold Ac.bear zeroOf
    rw [this, hw.1, hw.2]
theorem pi_step (hl : FitA l) (hF : Named (amtsOf legs)) (hp : PI l cur (amtsOf legs) o) (h : NextP legs o g true) (he : errP l (amtsOf legs) g.own = 0) : PI l (withR cur ((findA cur g.own).bear ((findA cur g.own).bal + (amtsOf legs g.own).sum))) (amtsOf legs) g.own := by
  have hg := leg_amts (next_parts h).1
  have hN := (hF _ hg).2
  rw [pi_find hp h]
  have hok : (postedA (findA l g.own) (amtsOf legs g.own).sum).2 = 0 := he
  obtain ⟨_, hs, _, _⟩ := posted_ok hok
  obtain ⟨m1, m2⟩ := bear_may hl g.own hN hs
  obtain ⟨A, hA⟩ : ∃ A, (findA l g.own).bear ((findA l g.own).bal + (amtsOf legs g.own).sum) = A := ⟨_, rfl⟩
  have hAo : A.own = g.own := by rw [← hA]; exact find_own l g.own
  have hAb : A.bal = (findA l g.own).bal + (amtsOf legs g.own).sum := by rw [← hA]; rfl
  rw [hA] at m1 m2 ⊢
  rw [← hAb] at m1 m2
  obtain ⟨f1, f2⟩ := withR_fit hp.fit m1
  have hnew : newA l (amtsOf legs) g.own = A := by unfold newA; rw [if_neg hg, hA]
  refine ⟨f1, fun x hx hu => ?_, fun x => ?_⟩
  · unfold upB at hu
    rw [Bool.or_eq_true] at hu
    rcases hu with hu | hu
    · rcases hv : upB x o with _ | _
      · exact absurd (next_gap h hu hv) hx
      · exact hp.ok x hx hv
    · have : x = g.own := by simpa using hu
      rw [this]; exact he
  · rw [f2, hAo]
    by_cases e : x = g.own
    · have hu : upB g.own g.own = true := by unfold upB; simp
      rw [if_pos e, e, hu, if_pos (rfl : true = true), hnew]
      by_cases hb : A.bal = 0
      · rw [if_pos hb, m2 hb]
      · rw [if_neg hb]
    · rw [if_neg e, hp.get]
      rcases hv : upB x o with _ | _
      · rw [if_neg (by simp)]
        rcases hu : upB x g.own with _ | _
        · rw [if_neg (by simp)]
        · rw [if_pos rfl]
          have ha : ahead x g.own = true := by
            unfold upB at hu
            rw [Bool.or_eq_true] at hu
            exact hu.resolve_right (by simpa using e)
          unfold newA
          rw [if_pos (next_gap h ha hv)]
      · rw [if_pos rfl, if_pos ?_]
        unfold upB at hv ⊢
        rw [Bool.or_eq_true] at hv ⊢
        rcases hv with hv | hv
        · exact .inl (ahead_trans hv (next_parts h).2)
        · have : x = o := by simpa using hv
          rw [this]; exact .inl (next_parts h).2
/-- How many legs are left. -/
def leftN (legs : List Lg) (o : Own) : Nat := (legs.filter (fun x => ahead o x.own)).length
theorem left_less (h : NextP legs o g true) : leftN legs g.own < leftN legs o := by
  unfold leftN
  obtain ⟨h1, h2⟩ := next_parts h
  have e : legs.filter (fun x => ahead g.own x.own) = (legs.filter (fun x => ahead o x.own)).filter (fun x => ahead g.own x.own) := by
    rw [List.filter_filter]
    refine List.filter_congr (fun x _ => ?_)
    rcases hx : ahead g.own x.own with _ | _
    · simp
    · rw [ahead_trans h2 hx]; rfl
  rw [e]
  have hm : g ∈ legs.filter (fun x => ahead o x.own) := List.mem_filter.2 ⟨h1, h2⟩
  refine List.length_filter_lt_length_iff_exists.2 ⟨g, hm, ?_⟩
  rw [ahead_irrefl]; simp
/-- The same accounts once more. -/
theorem post_len (hp : PI l cur (amtsOf legs) o) : cur.length ≤ l.length + legs.length := by
  obtain ⟨hm, hr⟩ := (fit_iff cur).1 hp.fit
  have hn : (cur.map Ac.own).Nodup := by
    rw [List.Nodup, List.pairwise_map]
    exact hr.imp (fun {a b} hab e => by
      unfold aheadA at hab
      rw [e, ahead_irrefl] at hab; cases hab)
  have hsub : ∀ x ∈ cur.map Ac.own, x ∈ l.map Ac.own ++ legs.map Lg.own := fun x hx => by
    obtain ⟨y, hy, rfl⟩ := List.mem_map.1 hx
    rw [List.mem_append]
    by_cases hin : ∃ z ∈ l, z.own = y.own
    · obtain ⟨z, hz, e⟩ := hin
      exact .inl (List.mem_map.2 ⟨z, hz, e⟩)
    · by_cases e : amtsOf legs y.own = []
      · have h1 := find_mem hr hy
        rw [hp.get] at h1
        have h2 : findA l y.own = zeroOf y.own := find_no (fun z hz e => hin ⟨z, hz, e⟩)
        have h3 : newA l (amtsOf legs) y.own = zeroOf y.own := by unfold newA; rw [if_pos e, h2]
        rw [h2, h3, ite_self] at h1
        have := (may_parts.1 (hm y hy)).2.1
        rw [← h1] at this
        exact absurd rfl this
      · obtain ⟨z, hz, e⟩ := amts_leg e
        exact .inr (List.mem_map.2 ⟨z, hz, e⟩)
  have := nodup_len _ _ hn hsub
  simpa using this
end
end Go.Proofs.Ytobpbbldgbgcdaa.Acc
namespace Go.Proofs.Ytobpbbldgbgcdaa.Acc
open Go.RowKit Go.Sort

def RPostE (l : List Ac) (legs : List Lg) (w : World) (e : Ending) (w' : World) : Prop := ∃ l' er, PostR l legs (l', er) ∧ AcsE l' er w e w'
def RPI (w : World) (l : List Ac) (F : Own → List Int) (v x y : Value) (W : World) : Prop := ∃ cur o, x = strV o.1 ∧ y = strV o.2 ∧ OwnA W w.heap.size v cur ∧ PI l cur F o ∧ Below w.heap.size w W
def ownOf : Value → Value → Own
  | .string a, .string b => (a.toList, b.toList)
  | _, _ => ([], [])
theorem ownOf_str (o : Own) : ownOf (strV o.1) (strV o.2) = o := by
  show ((strB o.1).toList, (strB o.2).toList) = o
  rw [strB_list, strB_list]
theorem bear_put (x : Ac) (m : Int) : (encA x).toArray.setIfInBounds 2 (.int .i64 m) = (encA (x.bear m)).toArray := rfl
set_option maxRecDepth 100000 in
set_option maxHeartbeats 8000000 in
theorem rPost_any {A A' : Option Addr} {n c m c' : Nat} {l : List Ac} {legs : List Lg} {w : World} (h : AAt w A n c l) (hn : n ≤ 1000) (hl : FitA l) (hi : ∀ x ∈ l, AcIn x)
    (hlen : legs.length = m) (hm : m ≤ 1000) (hrow : RowL w A' legs) (hs : ∀ x ∈ legs, x.who.length ≤ 1000 ∧ x.asset.length ≤ 1000) (ha : ∀ x ∈ legs, LgIn x) :
    Calls Try.prog 15 #[.slice A n c, .slice A' m c'] w (RPostE l legs w) := by
  have NIL := Lib.hid (fun (k : Int) w' (hb : Below w.heap.size w w') (hp : PostR l legs ([], k)) => show RPostE l legs w (.returned (.tuple #[.slice none 0 0, .int .i64 k])) w' from ⟨[], k, hp, _, rfl, OwnA.nil _ _, hb⟩)
  by_cases c1 : m < 1
  · have PR := Lib.hid (show PostR l legs ([], 1) by unfold PostR; rw [if_pos (.inl (by rw [hlen]; exact c1))])
    obtain rfl : m = 0 := by omega
    clear h hl hi hlen hrow hs ha c1
    go_enter Try.func15, Try.ntmps15
    go_wp2_with fail
    go_ret2
    exact NIL.out 1 _ (Below.refl _ _) PR.out
  by_cases c2 : 200 < m
  · have PR := Lib.hid (show PostR l legs ([], 1) by unfold PostR; rw [if_pos (.inr (.inl (by rw [hlen]; exact c2)))])
    have t1 : ¬ (m : Int) < 1 := by omega
    have t2 : (200 : Int) < (m : Int) := by omega
    clear h hl hi hlen hrow hs ha c1 c2
    go_enter Try.func15, Try.ntmps15
    go_wp2_with fail
    go_ret2
    exact NIL.out 1 _ (Below.refl _ _) PR.out
  have t1 : ¬ (m : Int) < 1 := by omega
  have t2 : ¬ (200 : Int) < (m : Int) := by omega
  have H := Lib.hid h
  have HFIT := Lib.hid hl
  have HI := Lib.hid hi
  have HLL := Lib.hid hlen
  have HRL := Lib.hid hrow
  have HS := Lib.hid hs
  have HA := Lib.hid ha
  have HM := Lib.hid (show m ≤ 200 by omega)
  have HM1 := Lib.hid (show 1 ≤ m by omega)
  clear h hl hi hlen hrow hs ha c1 c2
  go_enter Try.func15, Try.ntmps15
  go_wp2_with fail
  clear t1 t2
  go_loopw [6] (fun i wr => ∃ k : Nat, i = .int .i64 (k : Int) ∧ k ≤ m ∧ Hid (Below w.heap.size w wr ∧ ∀ j (hj : j < legs.length), j < k → namelessB legs[j] = false)) (fun i _ => m - (intOf i).toNat)
  case atStart => exact ⟨0, rfl, Nat.zero_le _, Lib.hid ⟨Below.refl _ _, fun j _ h => absurd h (Nat.not_lt_zero _)⟩⟩
  case round =>
    obtain ⟨k, rfl, hk, HB⟩ := hrel
    by_cases hlt : k < m
    · have hkl : k < legs.length := by rw [HLL.out]; exact hlt
      have hwr : IntKind.i64.wrap ((k : Int) + 1) = (k : Int) + 1 := IntWalk.i64_in _ (by have := HM.out; omega)
      have t1 : (k : Int) < (m : Int) := by omega
      have t2 : (0 : Int) ≤ (k : Int) := by omega
      obtain ⟨b, off, rfl, hbl, hc⟩ := HRL.out (by intro e; rw [e] at hkl; simp at hkl)
      have hr := range_below (hc k hkl) HB.out.1 hbl
      have c0 : wr.cell? ⟨b, off + k * 3, none⟩ = some (strV legs[k].who) := hr 0 _ rfl
      have c1 : wr.cell? ⟨b, off + k * 3 + 1, none⟩ = some (strV legs[k].asset) := hr 1 _ rfl
      have hg := HS.out _ (List.getElem_mem hkl)
      have cN := Lib.hid (fun W => rNames_any legs[k].who legs[k].asset W hg.1 hg.2)
      have RB := Lib.hid (show ∀ q, Below w.heap.size w (wr.drewN q) from fun q => HB.out.1.trans ((drewN_below wr q).mono HB.out.1.size))
      have hnn : namelessB legs[k] = !namedB legs[k].who legs[k].asset := rfl
      have NX := Lib.hid (show namelessB legs[k] = false → ∀ j (hj : j < legs.length), j < k + 1 → namelessB legs[j] = false from fun e j hj hjk => by
        by_cases p : j = k
        · subst p; exact e
        · exact HB.out.2 j hj (by omega))
      have NY := Lib.hid (show namelessB legs[k] = true → PostR l legs ([], 1) from fun e => by
        unfold PostR
        rw [if_pos (.inr (.inr (List.any_eq_true.2 ⟨_, List.getElem_mem hkl, e⟩)))])
      rw [hnn] at NX NY
      generalize namedB legs[k].who legs[k].asset = rn at *
      unfold strV at c0 c1 cN
      generalize strB legs[k].who = X at *
      generalize strB legs[k].asset = Y at *
      clear hr hc hbl HB hg hnn
      rcases rn with _ | _
      · have PR := Lib.hid (NY.out rfl)
        clear NX NY
        go_wp2_with fail
        go_quiet ((go_at_call 28; refine Calls.quiet_of_same (cN.out _)))
        go_wp2_with fail
        go_ret2
        exact NIL.out 1 _ (RB.out _) PR.out
      · have NZ := Lib.hid (NX.out rfl)
        clear NX NY
        go_wp2_with fail
        go_quiet ((go_at_call 28; refine Calls.quiet_of_same (cN.out _)))
        go_wp2_with fail
        go_roundw
        case rel => exact ⟨k + 1, by go_num, by omega, Lib.hid ⟨RB.out _, NZ.out⟩⟩
        case measure => simp [intOf]; omega
    · obtain rfl : k = m := by omega
      have hany : legs.any namelessB = false := by
        rw [List.any_eq_false]
        intro x hx
        obtain ⟨j, hj, rfl⟩ := List.getElem_of_mem hx
        rw [HB.out.2 j hj (by rw [← HLL.out]; exact hj)]
        simp
      have HF := Lib.hid (amts_named (fun x hx => by have := HS.out x hx; omega) hany)
      have PR := Lib.hid (show ∀ r, PostS l (amtsOf legs) r → PostR l legs r from fun r hr => by
        unfold PostR
        rw [if_neg (by rw [HLL.out, hany]; have := HM.out; have := HM1.out; simp; omega)]
        exact hr)
      obtain ⟨v, W1, hrun, ho, hb1⟩ := copy_acs H.out HB.out.1 hn
      have R := Lib.hid hrun
      have ST := Lib.hid (show RPI w l (amtsOf legs) v (.string ⟨#[]⟩) (.string ⟨#[]⟩) W1 from ⟨l, ([], []), rfl, rfl, ho.down HB.out.1.size, pi_start HFIT.out HF.out, HB.out.1.trans (hb1.mono HB.out.1.size)⟩)
      clear HB hany hrun ho hb1
      go_wp2_with ((with_reducible refine Coin.wpList_append_eq rfl (.tmp 45) (.tmp 46) 23 rfl ?_ ?_ R.out ?_); (next => rfl); (next => rfl))
      go_loopw [8, 9, 10] (fun v x y wr => Hid (RPI w l (amtsOf legs) v x y wr)) (fun _ x y _ => leftN legs (ownOf x y))
      case atStart => exact ST
      case round =>
        obtain ⟨cur, o, rfl, rfl, hO, hP, hB⟩ := hrel.out
        have hl8 := post_len hP
        rw [HLL.out, H.out.len] at hl8
        obtain ⟨A8, c8, rfl, h8, _⟩ := hO.at
        have H8 := Lib.hid h8
        have HO := Lib.hid hO
        have HP := Lib.hid hP
        have HB := Lib.hid hB
        have HL8 := Lib.hid hl8
        have cN := rNext_any (c := c') HLL.out (HRL.out.below hB) (by have := HM.out; omega) o
        obtain ⟨n8, hn8⟩ : ∃ n8, cur.length = n8 := ⟨_, rfl⟩
        rw [hn8] at H8 HO HL8 ⊢
        obtain ⟨OX, hX⟩ : ∃ X, strV o.1 = X := ⟨_, rfl⟩
        obtain ⟨OY, hY⟩ : ∃ Y, strV o.2 = Y := ⟨_, rfl⟩
        have HOW := Lib.hid (show ownOf OX OY = o from by rw [← hX, ← hY]; exact ownOf_str o)
        rw [hX, hY] at cN ⊢
        clear hrel hO hP hB h8 hl8 ST R hn8 hX hY
        go_wp2_with fail
        refine cN.mono ?_
        rintro e w1 ⟨g, f, rfl, hx, b1⟩
        have P1 := Lib.hid (put_lg w1 g)
        have b2 := below_box w1 (.cells (encL g).toArray 39)
        have a2 := at_new w1 (encL g).toArray 39
        obtain ⟨W2, hW2⟩ : ∃ W2, w1.alloc (.cells (encL g).toArray 39) = W2 := ⟨_, rfl⟩
        rw [hW2] at P1 b2 a2
        have B12 := Lib.hid (b1.trans (b2.mono b1.size))
        have HX := Lib.hid hx
        have d0 : W2.cell? ⟨w1.heap.size, 0, none⟩ = some (strV g.who) := a2.2.2 0 _ rfl
        have d1 : W2.cell? ⟨w1.heap.size, 1, none⟩ = some (strV g.asset) := a2.2.2 1 _ rfl
        clear cN b1 b2 a2 hW2 hx
        rcases f with _ | _
        · have FIN := Lib.hid (show RPostE l legs w (.returned (.tuple #[.slice A8 n8 c8, .int .i64 0])) W2 from ⟨cur, 0, PR.out _ (pi_end HP.out HX.out), _, rfl, HO.out.below B12.out, HB.out.trans (B12.out.mono HB.out.size)⟩)
          clear HP HX H8 HO HL8 HOW d0 d1
          go_wp2_with ((with_reducible refine wpList_store_eq rfl 39 (.tmp 11) (.tmp 53) rfl _ _ ?_ ?_ P1.out ?_); (next => rfl); (next => rfl))
          go_ret2
          exact FIN.out
        have cF := rFind_any (H8.out.below B12.out) (by have := HL8.out; have := HM.out; omega) g.own
        rw [pi_find HP.out HX.out] at cF
        have hgl := (next_parts HX.out).1
        have XI := Lib.hid (find_in HI.out g.own)
        have XE := Lib.hid (show errP l (amtsOf legs) g.own = _ from posted_err (findA l g.own) (amtsOf legs g.own).sum)
        have XB := Lib.hid (show errP l (amtsOf legs) g.own ≠ 0 → PostR l legs ([], errP l (amtsOf legs) g.own) from fun e => PR.out _ (pi_bad HP.out HX.out e))
        have XS := Lib.hid (show errP l (amtsOf legs) g.own = 0 → PI l (withR cur ((findA l g.own).bear ((findA l g.own).bal + (amtsOf legs g.own).sum))) (amtsOf legs) g.own from fun e => by
          have := pi_step HFIT.out HF.out HP.out HX.out e
          rwa [pi_find HP.out HX.out] at this)
        have XW := Lib.hid (show (findA l g.own).who = g.who from congrArg Prod.fst (find_own l g.own))
        have LL := Lib.hid (left_less HX.out)
        have cS := Lib.hid (show ∀ W, Below w.heap.size w W → Calls Try.prog 40 #[.slice A' k c', strV g.who, strV g.asset] W (fun e w' => e = .returned (.tuple #[.int .i64 (Coin.val (amtsOf legs g.own).sum), .int .i64 (Coin.err (amtsOf legs g.own).sum)]) ∧ Below W.heap.size W w') from fun W hb => rSum_any HLL.out (HRL.out.below hb) (by have := HM.out; omega) g.own HA.out)
        have hW : ((strB g.who).toList == [119, 111, 114, 108, 100]) = (g.who == worldB) := by rw [strB_list]; rfl
        obtain ⟨x, hx⟩ : ∃ x, findA l g.own = x := ⟨_, rfl⟩
        obtain ⟨S, hS⟩ : ∃ S, (amtsOf legs g.own).sum = S := ⟨_, rfl⟩
        obtain ⟨E, hE⟩ : ∃ E, errP l (amtsOf legs) g.own = E := ⟨_, rfl⟩
        rw [hx] at cF XI XE XS XW
        rw [hS] at XE XS cS
        rw [hE] at XE XB XS
        unfold Lg.own at cF
        dsimp only at cF
        have XG := Lib.hid (show g.own = (g.who, g.asset) from rfl)
        obtain ⟨GW, hGW⟩ : ∃ X, strB g.who = X := ⟨_, rfl⟩
        obtain ⟨GA, hGA⟩ : ∃ X, strB g.asset = X := ⟨_, rfl⟩
        have HGO := Lib.hid (show strV g.own.1 = .string GW ∧ strV g.own.2 = .string GA from ⟨by rw [← hGW]; rfl, by rw [← hGA]; rfl⟩)
        unfold strV at d0 d1 cF cS
        rw [hGW] at d0 cF cS hW
        rw [hGA] at d1 cF cS
        have B2 := Lib.hid (HB.out.trans (B12.out.mono HB.out.size))
        clear hgl HP HX hx hS hE hGW hGA
        go_wp2_with ((with_reducible refine wpList_store_eq rfl 39 (.tmp 11) (.tmp 53) rfl _ _ ?_ ?_ P1.out ?_); (next => rfl); (next => rfl))
        refine cF.mono ?_
        rintro e w3 ⟨rfl, b3⟩
        have P3 := Lib.hid (put_new w3 x)
        have b4 := below_box w3 (.cells (encA x).toArray 35)
        have a4 := at_new w3 (encA x).toArray 35
        obtain ⟨W4, hW4⟩ : ∃ W4, w3.alloc (.cells (encA x).toArray 35) = W4 := ⟨_, rfl⟩
        rw [hW4] at P3 b4 a4
        have B24 := Lib.hid (b3.trans (b4.mono b3.size))
        have B4 := Lib.hid (B2.out.trans (B24.out.mono B2.out.size))
        have AT := Lib.hid (show ∀ W, Below W4.heap.size W4 W → At W w3.heap.size (encA x).toArray from fun W hb => a4.below hb a4.1)
        obtain ⟨C, hC⟩ : ∃ C, (encA x).toArray = C := ⟨_, rfl⟩
        rw [hC] at P3 ⊢
        have HC := Lib.hid hC
        have S3 := Lib.hid (Nat.le_trans B2.out.size b3.size)
        have S3' := Lib.hid (Nat.le_trans B12.out.size b3.size)
        clear cF b3 b4 a4 hW4 hC d0 d1
        go_wp2_with ((with_reducible refine wpList_store_eq rfl 35 (.tmp 13) (.tmp 65) rfl _ _ ?_ ?_ P3.out ?_); (next => rfl); (next => rfl))
        refine (cS.out W4 B4.out).mono ?_
        rintro e w5 ⟨rfl, b5⟩
        have A5 := Lib.hid (AT.out w5 b5)
        have B5 := Lib.hid (B4.out.trans (b5.mono B4.out.size))
        have HO5 := Lib.hid (((HO.out.below B12.out).below B24.out).below b5)
        have BR5 := Lib.hid (B12.out.trans ((B24.out.trans (b5.mono B24.out.size)).mono B12.out.size))
        clear b5 cS P3 P1
        by_cases he : Coin.err S = 0
        rotate_left
        · have FIN := Lib.hid (NIL.out (Coin.err S) w5 B5.out (by
            have e := XE.out
            rw [if_neg he] at e
            have := XB.out (by rw [e]; exact he)
            rwa [e] at this))
          have q : (Coin.err S == 0) = false := beq_eq_false_iff_ne.2 he
          clear XE XB XS XI A5 HO5 HO H8 AT
          generalize Coin.err S = er at *
          generalize Coin.val S = vl at *
          clear he
          go_wp2_with fail
          go_ret2
          exact FIN.out
        obtain ⟨hv, hv0, hv1⟩ := val_ok he
        rw [he, hv]
        have cA := Lib.hid (fun W => Coin.ref_add x.bal S W XI.out.1 XI.out.2 hv0 hv1)
        have d2 : w5.cell? ⟨w3.heap.size, 2, none⟩ = some (.int .i64 x.bal) := A5.out.2.2 2 _ rfl
        have d3 : w5.cell? ⟨w3.heap.size, 3, none⟩ = some (.int .i64 x.held) := A5.out.2.2 3 _ rfl
        have f2 := A5.out.2.1 2
        have HE := Lib.hid (show E = if Coin.err (x.bal + S) = 0 then if shortA (x.bear (x.bal + S)) = true then 111 else 0 else Coin.err (x.bal + S) from by rw [XE.out, if_pos he])
        clear he hv hv0 hv1 XE
        go_wp2_with fail
        refine (cA.out w5).mono ?_
        rintro e w6 ⟨rfl, rfl⟩
        clear cA
        by_cases hf : Coin.err (x.bal + S) = 0
        rotate_left
        · have FIN := Lib.hid (NIL.out (Coin.err (x.bal + S)) w5 B5.out (by
            have e := HE.out
            rw [if_neg hf] at e
            have := XB.out (by rw [e]; exact hf)
            rwa [e] at this))
          have q : (Coin.err (x.bal + S) == 0) = false := beq_eq_false_iff_ne.2 hf
          clear HE XB XS XI A5 HO5 HO H8 AT
          generalize Coin.err (x.bal + S) = er at *
          generalize Coin.val (x.bal + S) = vl at *
          clear hf
          go_wp2_with fail
          go_ret2
          exact FIN.out
        have hv := (val_ok hf).1
        rw [hf, hv]
        obtain ⟨T, hT⟩ : ∃ T, x.bal + S = T := ⟨_, rfl⟩
        rw [hT]
        have HE2 := Lib.hid (show E = if shortA (x.bear T) = true then 111 else 0 from by rw [HE.out, if_pos hf, hT])
        rw [hT] at XS
        have hsh : shortA (x.bear T) = (!(g.who == worldB) && decide (T < x.held)) := by unfold shortA; rw [show (x.bear T).who = g.who from XW.out]; rfl
        rw [hsh] at HE2
        clear hf hv hT hsh HE
        by_cases hbad : (!(g.who == worldB) && decide (T < x.held)) = true
        · have FIN := Lib.hid (NIL.out 111 w5 B5.out (by
            have e := HE2.out
            rw [if_pos hbad] at e
            have := XB.out (by rw [e]; decide)
            rwa [e] at this))
          rw [Bool.and_eq_true] at hbad
          obtain ⟨g1, g2⟩ := hbad
          have g3 : (g.who == worldB) = false := by simpa using g1
          have g4 : T < x.held := by simpa using g2
          rw [g3] at hW
          clear g1 g2 g3 XB XS XI A5 HO5 HO H8 AT HE2
          generalize x.held = xh at *
          generalize x.bal = xb at *
          go_wp2_with fail
          go_ret2
          exact FIN.out
        · have E0 := Lib.hid (XS.out (by rw [HE2.out, if_neg hbad]))
          have a7 := A5.out.set 2 (.int .i64 T) (by simp [encA])
          rw [bear_put] at a7
          have b7 := (Below.refl w3.heap.size w5).setCell (p := ⟨w3.heap.size, 2, none⟩) (Nat.le_refl _) (.int .i64 T)
          have B7 := Lib.hid (B5.out.trans (b7.mono S3.out))
          have L7 := Lib.hid (load_at (o := 0) a7 Try.underlying35 rfl (by simpa [encA] using size_ac) (c := (encA (x.bear T)).toArray) (by simp))
          have cW := Lib.hid (rWith_any (H8.out.below (BR5.out.trans (b7.mono S3'.out))) (by have := HL8.out; have := HM.out; omega) (x.bear T))
          have hg : (g.who == worldB) = true ∨ ((g.who == worldB) = false ∧ ¬ T < x.held) := by
            rcases hw : (g.who == worldB) with _ | _
            · refine .inr ⟨rfl, fun h => hbad ?_⟩
              rw [hw, decide_eq_true h]; rfl
            · exact .inl rfl
          clear hbad XB XS XI A5 HO5 HO H8 AT HE2 a7 b7
          obtain ⟨C7, hC7⟩ : ∃ C, (encA (x.bear T)).toArray = C := ⟨_, rfl⟩
          rw [hC7] at L7 cW
          clear hC7
          generalize x.held = xh at *
          generalize x.bal = xb at *
          rcases hg with g3 | ⟨g3, g4⟩
          all_goals
            rw [g3] at hW
            clear g3
            go_wp2_with ((with_reducible refine wpList_load_eq rfl 35 (.tmp 13) rfl _ ?_ L7.out ?_); (next => rfl))
            refine cW.out.mono ?_
            rintro e w9 ⟨v9, rfl, h9, b9⟩
            have NB := Lib.hid (show RPI w l (amtsOf legs) v9 (.string GW) (.string GA) w9 from ⟨_, g.own, HGO.out.1.symm, HGO.out.2.symm, h9.down B7.out.size, E0.out, B7.out.trans (b9.mono B7.out.size)⟩)
            have ML := Lib.hid (show leftN legs (ownOf (.string GW) (.string GA)) < leftN legs (ownOf OX OY) from by
              rw [HOW.out, ← HGO.out.1, ← HGO.out.2, ownOf_str]; exact LL.out)
            clear h9 b9 cW
            go_wp2_with fail
            go_roundw
            case rel => exact NB
            case measure => exact ML.out
end Go.Proofs.Ytobpbbldgbgcdaa.Acc
