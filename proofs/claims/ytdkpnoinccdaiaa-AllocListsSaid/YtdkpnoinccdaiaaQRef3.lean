/-
  Contracts of the document's own own and laid.
-/
import Derived.Test.YtdkpnoinccdaiaaQRef2
import Derived.Test.YtdkpnoinccdaiaaQLists
import Derived.Test.YtdkpnoinccdaiaaQOf
namespace Go.Proofs.Ytdkpnoinccdaiaa.Pool
open Go.RowKit Gen

abbrev Empty (W : World) (b : Nat) : Prop := W.heap[b]? = some (.cells #[] 3)
abbrev AppI (W W' : World) (v u v' : Value) : Prop := (Builtin.append_ #[23, 23] 23 #[v, u]).run Try.prog W = .ok v' W'
abbrev none0 (b : Nat) : Value := .slice (some ⟨b, 0, none⟩) 0 0
theorem own_empty {W : World} {b B : Nat} (h : Empty W b) (hb : B ≤ b) : OwnI W B (none0 b) [] := ⟨rfl, .inr ⟨b, 0, #[], rfl, hb, h, Nat.le_refl _, Nat.zero_le _, rfl, rfl⟩⟩
theorem app_own {W : World} {B : Nat} {v : Value} {l0 : List Int} (h0 : OwnI W B v l0) (hB : B ≤ W.heap.size) {A : Option Addr} {n c : Nat} {l : List Int} (hN : NAt W A n c l) (hn : l0.length + n ≤ 1000000) :
    ∃ X m d W', AppI W W' v (.slice A n c) (.slice X m d) ∧ OwnI W' B (.slice X m d) (l0 ++ l) ∧ W.grownBy W' v.ownBlock ∧ Below B W W' ∧ ∀ b', v.ownBlock ≠ some b' → b' < W.heap.size → (Value.slice X m d).ownBlock ≠ some b' := by
  obtain ⟨v', W', hrun, ho, hg, hv⟩ := append_row ints_elem W B v l0 h0 A n c l hN.len hN.nil hN.row (by omega) hB
  obtain ⟨X, d, e, -, -, -, -⟩ := OwnG.row ho
  subst e
  refine ⟨X, _, d, W', hrun, ho, hg, below_grown (Below.refl _ _) h0 hg hB, fun b' hne hlt e2 => ?_⟩
  rcases hv with hv | hv
  · rw [hv] at e2; exact hne e2
  · rw [hv] at e2; cases e2; omega
theorem own_nat {w : World} {B : Nat} {A : Option Addr} {n c : Nat} {l : List Int} (h : OwnI w B (.slice A n c) l) : NAt w A n c l := by
  obtain ⟨A', n', c', e, hN, -⟩ := own_nums h
  cases e
  exact hN
theorem own_low {w : World} {B : Nat} {A : Option Addr} {n c : Nat} {l : List Int} (h : OwnI w B (.slice A n c) l) : ∀ x, A = some x → B ≤ x.block := by
  obtain ⟨A', n', c', e, -, hA⟩ := own_nums h
  cases e
  exact hA
/-- Two new rows, made one behind the other. -/
theorem pair_at {Wb W : World} {b1 b2 : Nat} (hW : Below Wb.heap.size Wb W) (E1 : Empty W b1) (E2 : Empty W b2) (hne : b1 ≠ b2) (h1 : Wb.heap.size ≤ b1) (h2 : Wb.heap.size ≤ b2) {A1 A2 : Option Addr} {n1 c1 n2 c2 : Nat} {l1 l2 : List Int} (N1 : NAt Wb A1 n1 c1 l1) (N2 : NAt Wb A2 n2 c2 l2) (hn1 : n1 ≤ 100000) (hn2 : n2 ≤ 100000) :
    ∃ X m d W1 Y k e W2, AppI W W1 (none0 b1) (.slice A1 n1 c1) (.slice X m d) ∧ AppI W1 W2 (none0 b2) (.slice A2 n2 c2) (.slice Y k e) ∧ Below Wb.heap.size Wb W1 ∧ Below Wb.heap.size Wb W2 ∧ OwnI W2 Wb.heap.size (.slice X m d) l1 ∧ OwnI W2 Wb.heap.size (.slice Y k e) l2 := by
  have hs2 : b2 < W.heap.size := (Array.getElem?_eq_some_iff.1 E2).1
  obtain ⟨X, m, d, W1, r1, o1, g1, b1', f1⟩ := app_own (own_empty E1 h1) hW.size (N1.below hW) (by simp; omega)
  have hW1 := hW.trans b1'
  have E2' : Empty W1 b2 := (g1.block b2 hs2 (by intro e; cases e; exact hne rfl)).trans E2
  obtain ⟨Y, k, e, W2, r2, o2, g2, b2', -⟩ := app_own (own_empty E2' h2) hW1.size (N2.below hW1) (by simp; omega)
  exact ⟨X, m, d, W1, Y, k, e, W2, r1, r2, hW1, hW1.trans b2', ownG_kept o1 g2 (fun j hj e3 => f1 b2 (by intro e; cases e; exact hne rfl) hs2 (by rw [hj]; exact e3)), o2⟩
/-- .. the second one's place made behind the first one. -/
theorem pair_after {Wb W : World} {b1 : Nat} (hW : Below Wb.heap.size Wb W) (E1 : Empty W b1) (h1 : Wb.heap.size ≤ b1) {A1 A2 : Option Addr} {n1 c1 n2 c2 : Nat} {l1 l2 : List Int} (N1 : NAt Wb A1 n1 c1 l1) (N2 : NAt Wb A2 n2 c2 l2) (hn1 : n1 ≤ 100000) (hn2 : n2 ≤ 100000) :
    ∃ X m d W1 Y k e W2, AppI W W1 (none0 b1) (.slice A1 n1 c1) (.slice X m d) ∧ AppI (W1.alloc (.cells #[] 3)) W2 (none0 W1.heap.size) (.slice A2 n2 c2) (.slice Y k e) ∧ Below Wb.heap.size Wb W1 ∧ Below Wb.heap.size Wb (W1.alloc (.cells #[] 3)) ∧ Below Wb.heap.size Wb W2 ∧ OwnI W2 Wb.heap.size (.slice X m d) l1 ∧ OwnI W2 Wb.heap.size (.slice Y k e) l2 := by
  obtain ⟨X, m, d, W1, r1, o1, g1, b1', f1⟩ := app_own (own_empty E1 h1) hW.size (N1.below hW) (by simp; omega)
  have hW1 := hW.trans b1'
  have hW1' := hW1.alloc hW1.size (.cells #[] 3)
  have o1' := OwnG.kept o1 (below_box W1 (.cells #[] 3))
  obtain ⟨Y, k, e, W2, r2, o2, g2, b2', -⟩ := app_own (own_empty (heap_alloc_new W1 (.cells #[] 3)) hW1.size) hW1'.size (N2.below hW1') (by simp; omega)
  exact ⟨X, m, d, W1, Y, k, e, W2, r1, r2, hW1, hW1', hW1'.trans b2', ownG_kept o1' g2 (fun j hj e3 => by
    have := (World.ownsRow.lt o1 j hj).2
    simp [Value.ownBlock] at e3
    omega), o2⟩
/-- A pool that is handed back. -/
def PoolsO (q : Po) (w : World) (e : Ending) (w' : World) : Prop := ∃ a, e = .returned (poV q a) ∧ PoAt w' q a ∧ Below w.heap.size w w' ∧ Fresh w.heap.size a
/-- Where both rows have been made, and are stored. -/
theorem own_end {w W0 W2 : World} {p : Po} {X Y : Option Addr} {m d k e : Nat} (hz : At W0 (w.heap.size + 1) #[.int .i64 0, .slice none 0 0, .slice none 0 0]) (hb : Below w.heap.size w W0) (hs : W0.heap.size = w.heap.size + 2) (h2 : Below W0.heap.size W0 W2) (o1 : OwnI W2 W0.heap.size (.slice X m d) p.free) (o2 : OwnI W2 W0.heap.size (.slice Y k e) p.limbo) :
    W2.cell? ⟨w.heap.size + 1, 0, none⟩ = some (.int .i64 0) ∧ W2.cell? ⟨w.heap.size + 1, 1, none⟩ = some (.slice none 0 0) ∧ W2.cell? ⟨w.heap.size + 1, 2, none⟩ = some (.slice none 0 0) ∧ (∀ j, W2.frozen? ⟨w.heap.size + 1, j, none⟩ = false) ∧
      ∃ W9, set3 W2 (w.heap.size + 1) (.int .i64 p.high) (.slice X m d) (.slice Y k e) = W9 ∧ W9.cell? ⟨w.heap.size + 1, 0, none⟩ = some (.int .i64 p.high) ∧ W9.cell? ⟨w.heap.size + 1, 1, none⟩ = some (.slice X m d) ∧ W9.cell? ⟨w.heap.size + 1, 2, none⟩ = some (.slice Y k e) ∧
        m = p.free.length ∧ k = p.limbo.length ∧ PoAt W9 p { A1 := X, c1 := d, A2 := Y, c2 := e } ∧ Below w.heap.size w W9 ∧ Fresh w.heap.size { A1 := X, c1 := d, A2 := Y, c2 := e } := by
  have hz2 := hz.below h2 (by omega)
  have h3 := set3_at hz2 rfl (.int .i64 p.high) (.slice X m d) (.slice Y k e)
  have q1 := own_nat (own_set3 o1 (b := w.heap.size + 1) (by omega) (.int .i64 p.high) (.slice X m d) (.slice Y k e))
  have q2 := own_nat (own_set3 o2 (b := w.heap.size + 1) (by omega) (.int .i64 p.high) (.slice X m d) (.slice Y k e))
  have g1 := own_low o1
  have g2 := own_low o2
  obtain rfl := q1.len
  obtain rfl := q2.len
  exact ⟨hz2.2.2 0 _ rfl, hz2.2.2 1 _ rfl, hz2.2.2 2 _ rfl, hz2.2.1, _, rfl, h3.2.2 0 _ rfl, h3.2.2 1 _ rfl, h3.2.2 2 _ rfl, rfl, rfl, ⟨q1, q2⟩, set3_below (hb.trans (h2.mono hb.size)) (Nat.le_succ _) _ _ _, fun x e => by have := g1 x e; omega, fun x e => by have := g2 x e; omega⟩
set_option maxRecDepth 100000 in
set_option maxHeartbeats 8000000 in
theorem rOwn_any (p : Po) (a : La) (w : World) (h : PoAt w p a) (hf : p.free.length ≤ 100000) (hl : p.limbo.length ≤ 100000) : Calls Try.prog 29 #[poV p a] w (PoolsO p w) := by
  obtain ⟨t1, t2, t3, t4⟩ := two_boxes w p a
  have h0 := h.below t3
  unfold poV
  obtain ⟨W0, hW0⟩ : ∃ W0, (w.alloc (.cells (poC p a) 25)).alloc (.cells #[.int .i64 0, .slice none 0 0, .slice none 0 0] 25) = W0 := ⟨_, rfl⟩
  have e0 : poC { high := 0 } {} = #[.int .i64 0, .slice none 0 0, .slice none 0 0] := rfl
  rw [e0] at t4 h0 t1 t2 t3
  rw [hW0] at t1 t2 t3 t4 h0
  have KS := Lib.hid (show ∀ w', Below W0.heap.size W0 w' → w'.cell? ⟨w.heap.size, 0, none⟩ = some (.int .i64 p.high) ∧ w'.cell? ⟨w.heap.size, 1, none⟩ = some (.slice a.A1 p.free.length a.c1) ∧ w'.cell? ⟨w.heap.size, 2, none⟩ = some (.slice a.A2 p.limbo.length a.c2) from fun w' hB => po_cells (t1.below hB t1.1))
  have KX := Lib.hid (show ∀ w', Below W0.heap.size W0 w' → ∀ v1 v2, (fun w' => w'.cell? ⟨w.heap.size, 0, none⟩ = some (.int .i64 p.high) ∧ w'.cell? ⟨w.heap.size, 1, none⟩ = some (.slice a.A1 p.free.length a.c1) ∧ w'.cell? ⟨w.heap.size, 2, none⟩ = some (.slice a.A2 p.limbo.length a.c2)) (set3 w' (w.heap.size + 1) (.int .i64 p.high) v1 v2) from fun w' hB v1 v2 => po_cells (set3_other (t1.below hB t1.1) (Nat.succ_ne_self _) (.int .i64 p.high) v1 v2))
  obtain ⟨c0, c1, c2⟩ := po_cells t1
  have b1 : Below W0.heap.size W0 (W0.alloc (.cells #[] 3)).drew := (below_box W0 _).drew
  have b2 : Below W0.heap.size W0 ((W0.alloc (.cells #[] 3)).alloc (.cells #[] 3)).drew := ((below_box W0 _).alloc (below_box W0 _).size _).drew
  have z1 : Empty (W0.alloc (.cells #[] 3)).drew W0.heap.size := heap_alloc_new W0 (.cells #[] 3)
  have z2 : Empty ((W0.alloc (.cells #[] 3)).alloc (.cells #[] 3)).drew (W0.heap.size + 1) := by
    have := heap_alloc_new (W0.alloc (.cells #[] 3)) (.cells #[] 3)
    rw [World.size_alloc] at this
    exact this
  have z3 : Empty ((W0.alloc (.cells #[] 3)).alloc (.cells #[] 3)).drew W0.heap.size := (((below_box (W0.alloc (.cells #[] 3)) (.cells #[] 3))).block W0.heap.size (by simp)).trans (heap_alloc_new W0 (.cells #[] 3))
  obtain ⟨XA, mA, dA, W1A, YA, kA, eA, W2A, q1A, q2A, b1A, bxA, b2A, o1A, o2A⟩ := pair_after b1 z1 (Nat.le_refl _) h0.f h0.l hf hl
  obtain ⟨XB, mB, dB, W1B, YB, kB, eB, W2B, q1B, q2B, b1B, b2B, o1B, o2B⟩ := pair_at b2 z3 z2 (by omega) (Nat.le_refl _) (Nat.le_succ _) h0.f h0.l hf hl
  obtain ⟨XC, mC, dC, W1C, YC, kC, eC, W2C, q1C, q2C, b1C, b2C, o1C, o2C⟩ := pair_at b2 z2 z3 (by omega) (Nat.le_succ _) (Nat.le_refl _) h0.f h0.l hf hl
  have K0 := Lib.hid (KS.out W0.drew (Below.refl _ _).drew)
  have Ka := Lib.hid (KS.out _ b1)
  have Kb := Lib.hid (KS.out _ b2)
  have KAx := Lib.hid (KS.out _ bxA)
  have K1A := Lib.hid (KS.out _ b1A)
  have K2A := Lib.hid (KS.out _ b2A)
  have K3A := Lib.hid (KX.out _ b2A (.slice XA mA dA) (.slice YA kA eA))
  obtain ⟨r0A, r1A, r2A, fzA, W9A, hW9A, s0A, s1A, s2A, emA, ekA, poA, blA, frA⟩ := own_end t2 t3 t4 b2A o1A o2A
  have Q1A := Lib.hid q1A
  have Q2A := Lib.hid q2A
  have EMA := Lib.hid emA
  have EKA := Lib.hid ekA
  have POA := Lib.hid poA
  have BLA := Lib.hid blA
  have FRA := Lib.hid frA
  have SCA := Lib.hid (show W9A.cell? ⟨w.heap.size + 1, 0, none⟩ = some (.int .i64 p.high) ∧ W9A.cell? ⟨w.heap.size + 1, 1, none⟩ = some (.slice XA mA dA) ∧ W9A.cell? ⟨w.heap.size + 1, 2, none⟩ = some (.slice YA kA eA) from ⟨s0A, s1A, s2A⟩)
  rw [hW9A] at K3A
  unfold set3 at hW9A
  have HWA := Lib.hid hW9A
  have RA := Lib.hid (show W2A.cell? ⟨w.heap.size + 1, 0, none⟩ = some (.int .i64 0) ∧ W2A.cell? ⟨w.heap.size + 1, 1, none⟩ = some (.slice none 0 0) ∧ W2A.cell? ⟨w.heap.size + 1, 2, none⟩ = some (.slice none 0 0) ∧ (∀ j, W2A.frozen? ⟨w.heap.size + 1, j, none⟩ = false) from ⟨r0A, r1A, r2A, fzA⟩)
  clear hW9A r0A r1A r2A fzA
  clear frA q1A q2A emA ekA poA blA o1A o2A b1A b2A s0A s1A s2A
  have K1B := Lib.hid (KS.out _ b1B)
  have K2B := Lib.hid (KS.out _ b2B)
  have K3B := Lib.hid (KX.out _ b2B (.slice XB mB dB) (.slice YB kB eB))
  obtain ⟨r0B, r1B, r2B, fzB, W9B, hW9B, s0B, s1B, s2B, emB, ekB, poB, blB, frB⟩ := own_end t2 t3 t4 b2B o1B o2B
  have Q1B := Lib.hid q1B
  have Q2B := Lib.hid q2B
  have EMB := Lib.hid emB
  have EKB := Lib.hid ekB
  have POB := Lib.hid poB
  have BLB := Lib.hid blB
  have FRB := Lib.hid frB
  have SCB := Lib.hid (show W9B.cell? ⟨w.heap.size + 1, 0, none⟩ = some (.int .i64 p.high) ∧ W9B.cell? ⟨w.heap.size + 1, 1, none⟩ = some (.slice XB mB dB) ∧ W9B.cell? ⟨w.heap.size + 1, 2, none⟩ = some (.slice YB kB eB) from ⟨s0B, s1B, s2B⟩)
  rw [hW9B] at K3B
  unfold set3 at hW9B
  have HWB := Lib.hid hW9B
  have RB := Lib.hid (show W2B.cell? ⟨w.heap.size + 1, 0, none⟩ = some (.int .i64 0) ∧ W2B.cell? ⟨w.heap.size + 1, 1, none⟩ = some (.slice none 0 0) ∧ W2B.cell? ⟨w.heap.size + 1, 2, none⟩ = some (.slice none 0 0) ∧ (∀ j, W2B.frozen? ⟨w.heap.size + 1, j, none⟩ = false) from ⟨r0B, r1B, r2B, fzB⟩)
  clear hW9B r0B r1B r2B fzB
  clear frB q1B q2B emB ekB poB blB o1B o2B b1B b2B s0B s1B s2B
  have K1C := Lib.hid (KS.out _ b1C)
  have K2C := Lib.hid (KS.out _ b2C)
  have K3C := Lib.hid (KX.out _ b2C (.slice XC mC dC) (.slice YC kC eC))
  obtain ⟨r0C, r1C, r2C, fzC, W9C, hW9C, s0C, s1C, s2C, emC, ekC, poC, blC, frC⟩ := own_end t2 t3 t4 b2C o1C o2C
  have Q1C := Lib.hid q1C
  have Q2C := Lib.hid q2C
  have EMC := Lib.hid emC
  have EKC := Lib.hid ekC
  have POC := Lib.hid poC
  have BLC := Lib.hid blC
  have FRC := Lib.hid frC
  have SCC := Lib.hid (show W9C.cell? ⟨w.heap.size + 1, 0, none⟩ = some (.int .i64 p.high) ∧ W9C.cell? ⟨w.heap.size + 1, 1, none⟩ = some (.slice XC mC dC) ∧ W9C.cell? ⟨w.heap.size + 1, 2, none⟩ = some (.slice YC kC eC) from ⟨s0C, s1C, s2C⟩)
  rw [hW9C] at K3C
  unfold set3 at hW9C
  have HWC := Lib.hid hW9C
  have RC := Lib.hid (show W2C.cell? ⟨w.heap.size + 1, 0, none⟩ = some (.int .i64 0) ∧ W2C.cell? ⟨w.heap.size + 1, 1, none⟩ = some (.slice none 0 0) ∧ W2C.cell? ⟨w.heap.size + 1, 2, none⟩ = some (.slice none 0 0) ∧ (∀ j, W2C.frozen? ⟨w.heap.size + 1, j, none⟩ = false) from ⟨r0C, r1C, r2C, fzC⟩)
  clear hW9C r0C r1C r2C fzC
  clear frC q1C q2C emC ekC poC blC o1C o2C b1C b2C s0C s1C s2C
  clear bxA z1 z2 z3 b1 b2 h0 h t1 t2 t3 t4 hf hl e0
  go_enter Try.func29, Try.ntmps29
  go_wp2_with fail
  clear hW0 c0 c1 c2
  go_region_held3 (fun w' => w'.cell? ⟨w.heap.size, 0, none⟩ = some (.int .i64 p.high) ∧ w'.cell? ⟨w.heap.size, 1, none⟩ = some (.slice a.A1 p.free.length a.c1) ∧ w'.cell? ⟨w.heap.size, 2, none⟩ = some (.slice a.A2 p.limbo.length a.c2))
    (with_reducible (first | exact K0.out | exact Ka.out | exact Kb.out | exact KAx.out | exact K1A.out | exact K2A.out | exact K3A.out | exact K1B.out | exact K2B.out | exact K3B.out | exact K1C.out | exact K2C.out | exact K3C.out))
    (first
      | ((with_reducible refine step_append2_eq ?_ (.tmp 5) (.tmp 7) _ _ ?_ ?_ ?_ Q1A.out ?_); (next => rfl); (next => rfl); (next => rfl); (next => rfl))
      | ((with_reducible refine step_append2_eq ?_ (.tmp 5) (.tmp 7) _ _ ?_ ?_ ?_ Q1B.out ?_); (next => rfl); (next => rfl); (next => rfl); (next => rfl))
      | ((with_reducible refine step_append2_eq ?_ (.tmp 5) (.tmp 7) _ _ ?_ ?_ ?_ Q1C.out ?_); (next => rfl); (next => rfl); (next => rfl); (next => rfl))
      | ((with_reducible refine step_append2_eq ?_ (.tmp 9) (.tmp 11) _ _ ?_ ?_ ?_ Q2A.out ?_); (next => rfl); (next => rfl); (next => rfl); (next => rfl); obtain ⟨r0, r1, r2, fz⟩ := RA.out; have hw9 := HWA.out)
      | ((with_reducible refine step_append2_eq ?_ (.tmp 9) (.tmp 11) _ _ ?_ ?_ ?_ Q2B.out ?_); (next => rfl); (next => rfl); (next => rfl); (next => rfl); obtain ⟨r0, r1, r2, fz⟩ := RB.out; have hw9 := HWB.out)
      | ((with_reducible refine step_append2_eq ?_ (.tmp 9) (.tmp 11) _ _ ?_ ?_ ?_ Q2C.out ?_); (next => rfl); (next => rfl); (next => rfl); (next => rfl); obtain ⟨r0, r1, r2, fz⟩ := RC.out; have hw9 := HWC.out))
  all_goals (first
    | (go_wp2_with fail; (try with_reducible rw [HWA.out]); obtain ⟨c0, c1, c2⟩ := SCA.out; obtain rfl := EMA.out; obtain rfl := EKA.out; refine bodyPost_ret (v := poV p { A1 := XA, c1 := dA, A2 := YA, c2 := eA }) (by simp [results, Try.results29, go_sem, *]) rfl ?_; exact ⟨_, rfl, POA.out, BLA.out, FRA.out⟩)
    | (go_wp2_with fail; (try with_reducible rw [HWB.out]); obtain ⟨c0, c1, c2⟩ := SCB.out; obtain rfl := EMB.out; obtain rfl := EKB.out; refine bodyPost_ret (v := poV p { A1 := XB, c1 := dB, A2 := YB, c2 := eB }) (by simp [results, Try.results29, go_sem, *]) rfl ?_; exact ⟨_, rfl, POB.out, BLB.out, FRB.out⟩)
    | (go_wp2_with fail; (try with_reducible rw [HWC.out]); obtain ⟨c0, c1, c2⟩ := SCC.out; obtain rfl := EMC.out; obtain rfl := EKC.out; refine bodyPost_ret (v := poV p { A1 := XC, c1 := dC, A2 := YC, c2 := eC }) (by simp [results, Try.results29, go_sem, *]) rfl ?_; exact ⟨_, rfl, POC.out, BLC.out, FRC.out⟩))
end Go.Proofs.Ytdkpnoinccdaiaa.Pool
