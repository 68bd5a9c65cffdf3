/-
  Texts of one family, one behind the other: QTake, QChunk, QLists, QOf.
-/
import Derived.Test.YtboaamaneeodfaaGreatKQ2
import Derived.IntWalk
import Derived.RegionIn
import Derived.Test.YtboaamaneeodfaaGreatKA1
import Derived.RangeFuncBox
import Derived.RangeFuncNested
namespace Go.Proofs.YtboaamaneeodfaaGreat.Pool
open Go.RowKit Gen

set_option maxRecDepth 100000 in
set_option maxHeartbeats 8000000 in
theorem take_fresh (p : Po) (a : La) (most : Int) (w : World) (h : PoAt w p a) (hf : p.free.length ≤ 100000) (hl : p.limbo.length ≤ 100000) (hi : -9223372036854775808 ≤ p.high) (hm : most ≤ 9223372036854775807) : Calls Tryz.prog 130 #[poV p a, .int .i64 most] w (PoolNF (takeP p most) w) := by
  obtain ⟨t1, t2, t3, t4⟩ := two_boxes w p a
  have HH := Lib.hid h
  have h0 := h.below t3
  have AT := Lib.hid t1
  have AZ := Lib.hid t2
  have BB := Lib.hid t3
  unfold poV
  obtain ⟨W0, hW0⟩ : ∃ W0, (w.alloc (.cells (poC p a) 73)).alloc (.cells #[.int .i64 0, .slice none 0 0, .slice none 0 0] 73) = W0 := ⟨_, rfl⟩
  have e0 : poC { high := 0 } {} = #[.int .i64 0, .slice none 0 0, .slice none 0 0] := rfl
  rw [e0] at t4 h0 AT AZ BB
  rw [hW0] at AT AZ BB t4 h0
  have HP := Lib.hid h0
  have HS := Lib.hid (Nat.le_of_eq t4.symm)
  obtain ⟨c0, c1, c2⟩ := po_cells AT.out
  clear t1 t2 t3 t4 h0 h e0
  rcases hfr : p.free with _ | ⟨x, fs⟩
  rotate_left
  · have HN := Lib.hid (show takeP p most = ({ high := p.high, free := fs, limbo := p.limbo }, x, 0) by unfold takeP; rw [hfr])
    have hf2 := HP.out.f
    have hf3 := HH.out.f
    rw [hfr] at hf2 hf3 hf
    obtain ⟨b, off, hA, hlt, hc⟩ := hf3.row (by simp)
    have hx : w.cell? ⟨b, off, none⟩ = some (.int .i64 x) := hc 0 (by simp)
    have ht := hf2.tail (k := 1) (by simp)
    have q : ∀ W, (Instr.slice 68 (.slice a.A1 (x :: fs).length a.c1) (some (.int .i64 1)) none none).run Tryz.prog W = .ok (.slice (if a.c1 = 1 then a.A1 else a.A1.map (·.add 1)) ((x :: fs).length - 1) (a.c1 - 1)) W := fun W => tail_run a.A1 _ a.c1 1 (by simp) W
    rw [show (x :: fs).length - 1 = fs.length from rfl] at q ht
    rw [show (x :: fs).drop 1 = fs from rfl] at ht
    generalize (if a.c1 = 1 then a.A1 else a.A1.map (·.add 1)) = A3 at q ht
    generalize a.c1 - 1 = c3 at q ht
    obtain ⟨nf, hnf⟩ : ∃ nf, (x :: fs).length = nf := ⟨_, rfl⟩
    rw [hfr, hnf, hA] at c1
    rw [hnf, hA] at q
    have hnf0 : (0 : Int) < (nf : Int) := by rw [← hnf]; simp
    have hfs : fs.length ≤ 100000 := by simp at hf; omega
    have HT := Lib.hid ht
    have hx0 : W0.cell? ⟨b, off, none⟩ = some (.int .i64 x) := (BB.out.cell (p := ⟨b, off, none⟩) hlt).trans hx
    have KS := Lib.hid (show ∀ w', Below W0.heap.size W0 w' → w'.cell? ⟨w.heap.size, 0, none⟩ = some (.int .i64 p.high) ∧ w'.cell? ⟨w.heap.size, 1, none⟩ = some (.slice (some ⟨b, off, none⟩) nf a.c1) ∧ w'.cell? ⟨w.heap.size, 2, none⟩ = some (.slice a.A2 p.limbo.length a.c2) ∧ w'.cell? ⟨b, off, none⟩ = some (.int .i64 x) from fun w' hB => by
      have g := po_cells (AT.out.below hB AT.out.1)
      rw [hfr, hnf, hA] at g
      exact ⟨g.1, g.2.1, g.2.2, (hB.cell (p := ⟨b, off, none⟩) (Nat.lt_of_lt_of_le hlt BB.out.size)).trans hx0⟩)
    have KX := Lib.hid (show ∀ w', Below W0.heap.size W0 w' → ∀ v1 v2, (fun w' => w'.cell? ⟨w.heap.size, 0, none⟩ = some (.int .i64 p.high) ∧ w'.cell? ⟨w.heap.size, 1, none⟩ = some (.slice (some ⟨b, off, none⟩) nf a.c1) ∧ w'.cell? ⟨w.heap.size, 2, none⟩ = some (.slice a.A2 p.limbo.length a.c2) ∧ w'.cell? ⟨b, off, none⟩ = some (.int .i64 x)) (set3 w' (w.heap.size + 1) (.int .i64 p.high) v1 v2) from fun w' hB v1 v2 => by
      have g := po_cells (set3_other (AT.out.below hB AT.out.1) (Nat.succ_ne_self _) (.int .i64 p.high) v1 v2)
      rw [hfr, hnf, hA] at g
      exact ⟨g.1, g.2.1, g.2.2, ((set3_below (Below.refl w.heap.size w') (Nat.le_succ _) (.int .i64 p.high) v1 v2).cell (p := ⟨b, off, none⟩) hlt).trans ((hB.cell (p := ⟨b, off, none⟩) (Nat.lt_of_lt_of_le hlt BB.out.size)).trans hx0)⟩)
    have J1 := Lib.hid (show ∀ W b, Below W0.heap.size W0 W → W.cell? ⟨b, 0, none⟩ = some (.slice A3 fs.length c3) → b < W.heap.size → Calls Tryz.prog 78 #[.slice (some ⟨b, 0, none⟩) 1 1] W (Owns fs W) from fun W b hB hc hb => join_at (A3, c3, fs) W b hc hb (HT.out.below hB) (by simp only; omega))
    have J2 := Lib.hid (show ∀ W b, Below W0.heap.size W0 W → W.cell? ⟨b, 0, none⟩ = some (.slice a.A2 p.limbo.length a.c2) → b < W.heap.size → Calls Tryz.prog 78 #[.slice (some ⟨b, 0, none⟩) 1 1] W (Owns p.limbo W) from fun W b hB hc hb => join_at (a.A2, a.c2, p.limbo) W b hc hb (HP.out.l.below hB) (by simp only; omega))
    clear hf2 hf3 hc hx ht hx0 hf hl
    go_enter Tryz.func130, Tryz.ntmps130
    go_wp2_with fail
    clear hW0 c0 c1 c2
    have BD := Lib.hid (show Below W0.heap.size W0 W0.drew from (Below.refl _ _).drew)
    have Ba := Lib.hid (show Below W0.heap.size W0 (W0.alloc (.cells #[.slice A3 fs.length c3] 68)).drew from (below_box W0 _).drew)
    have Bb := Lib.hid (show Below W0.heap.size W0 (W0.alloc (.cells #[.slice a.A2 p.limbo.length a.c2] 68)).drew from (below_box W0 _).drew)
    have Bab := Lib.hid (show Below W0.heap.size W0 ((W0.alloc (.cells #[.slice A3 fs.length c3] 68)).alloc (.cells #[.slice a.A2 p.limbo.length a.c2] 68)).drew from ((below_box W0 _).alloc (below_box W0 _).size _).drew)
    have Bba := Lib.hid (show Below W0.heap.size W0 ((W0.alloc (.cells #[.slice a.A2 p.limbo.length a.c2] 68)).alloc (.cells #[.slice A3 fs.length c3] 68)).drew from ((below_box W0 _).alloc (below_box W0 _).size _).drew)
    have K0 := Lib.hid (KS.out _ BD.out)
    have Ka := Lib.hid (KS.out _ Ba.out)
    have Kb := Lib.hid (KS.out _ Bb.out)
    have Kab := Lib.hid (KS.out _ Bab.out)
    have Kba := Lib.hid (KS.out _ Bba.out)
    have cA := J1.out (W0.alloc (.cells #[.slice A3 fs.length c3] 68)).drew W0.heap.size Ba.out (cell1D W0 (.slice A3 fs.length c3) 68).1 (cell1D W0 (.slice A3 fs.length c3) 68).2
    have cB := J1.out ((W0.alloc (.cells #[.slice A3 fs.length c3] 68)).alloc (.cells #[.slice a.A2 p.limbo.length a.c2] 68)).drew W0.heap.size Bab.out (cell2D W0 (.slice A3 fs.length c3) 68 (.slice a.A2 p.limbo.length a.c2) 68).1 (cell2D W0 (.slice A3 fs.length c3) 68 (.slice a.A2 p.limbo.length a.c2) 68).2.2.2
    have cC := J1.out ((W0.alloc (.cells #[.slice a.A2 p.limbo.length a.c2] 68)).alloc (.cells #[.slice A3 fs.length c3] 68)).drew (W0.heap.size + 1) Bba.out (cell2D W0 (.slice a.A2 p.limbo.length a.c2) 68 (.slice A3 fs.length c3) 68).2.1 (cell2D W0 (.slice a.A2 p.limbo.length a.c2) 68 (.slice A3 fs.length c3) 68).2.2.1
    have xb := Lib.hid (cell2D W0 (.slice A3 fs.length c3) 68 (.slice a.A2 p.limbo.length a.c2) 68).2.1
    have xc := Lib.hid (cell2D W0 (.slice a.A2 p.limbo.length a.c2) 68 (.slice A3 fs.length c3) 68).1
    have sb := Lib.hid (cell2D W0 (.slice A3 fs.length c3) 68 (.slice a.A2 p.limbo.length a.c2) 68).2.2.1
    have sc := Lib.hid (cell2D W0 (.slice a.A2 p.limbo.length a.c2) 68 (.slice A3 fs.length c3) 68).2.2.2
    clear J1
    go_region_held3 (fun w' => w'.cell? ⟨w.heap.size, 0, none⟩ = some (.int .i64 p.high) ∧ w'.cell? ⟨w.heap.size, 1, none⟩ = some (.slice (some ⟨b, off, none⟩) nf a.c1) ∧ w'.cell? ⟨w.heap.size, 2, none⟩ = some (.slice a.A2 p.limbo.length a.c2) ∧ w'.cell? ⟨b, off, none⟩ = some (.int .i64 x))
      (with_reducible (first | exact K0.out | exact Ka.out | exact Kb.out | exact Kab.out | exact Kba.out | exact K1.out | exact K1b.out | exact K2.out | exact K3.out))
      (first
        | (go_at_call 78; (with_reducible refine cA.mono ?_); rintro e w1 ⟨v1, rfl, ho, hb⟩
           have hB : Below W0.heap.size W0 w1 := Ba.out.trans (hb.mono Ba.out.size); have ho' := own_base ho Ba.out.size; have K1 := Lib.hid (KS.out _ hB); have hB2 := hB.alloc hB.size (.cells #[.slice a.A2 p.limbo.length a.c2] 68); have K1b := Lib.hid (KS.out _ hB2); have HBc := Lib.hid hB2; have HO1 := Lib.hid (OwnG.kept ho' (below_box w1 (.cells #[.slice a.A2 p.limbo.length a.c2] 68))); have cD := J2.out _ w1.heap.size hB2 (cell1 w1 (.slice a.A2 p.limbo.length a.c2) 68).1 (cell1 w1 (.slice a.A2 p.limbo.length a.c2) 68).2; clear hB2; clear ho hb hB ho')
        | (go_at_call 78; (with_reducible refine cB.mono ?_); rintro e w1 ⟨v1, rfl, ho, hb⟩
           have hB : Below W0.heap.size W0 w1 := Bab.out.trans (hb.mono Bab.out.size); have ho' := own_base ho Bab.out.size; have K1 := Lib.hid (KS.out _ hB); have HBc := Lib.hid hB; have HO1 := Lib.hid ho'; have cD := J2.out w1 (W0.heap.size + 1) hB ((hb.cell (p := ⟨W0.heap.size + 1, 0, none⟩) sb.out).trans xb.out) (Nat.lt_of_lt_of_le sb.out hb.size); clear ho hb hB ho')
        | (go_at_call 78; (with_reducible refine cC.mono ?_); rintro e w1 ⟨v1, rfl, ho, hb⟩
           have hB : Below W0.heap.size W0 w1 := Bba.out.trans (hb.mono Bba.out.size); have ho' := own_base ho Bba.out.size; have K1 := Lib.hid (KS.out _ hB); have HBc := Lib.hid hB; have HO1 := Lib.hid ho'; have cD := J2.out w1 W0.heap.size hB ((hb.cell (p := ⟨W0.heap.size, 0, none⟩) sc.out).trans xc.out) (Nat.lt_of_lt_of_le sc.out hb.size); clear ho hb hB ho')
        | (go_at_call 78; (with_reducible refine cD.mono ?_); rintro e w2 ⟨v2, rfl, ho2, hb2⟩
           have hB3 := HBc.out.trans (hb2.mono HBc.out.size)
           have K2 := Lib.hid (KS.out _ hB3)
           have HO1' := own_set3 (OwnG.kept HO1.out hb2) (b := w.heap.size + 1) (show w.heap.size + 1 < W0.heap.size by have := HS.out; omega) (.int .i64 p.high) v1 v2
           have HO2' := own_set3 (own_base ho2 HBc.out.size) (b := w.heap.size + 1) (show w.heap.size + 1 < W0.heap.size by have := HS.out; omega) (.int .i64 p.high) v1 v2
           have AZ2 := Lib.hid (AZ.out.below hB3 (by have := HS.out; omega))
           have A3 := Lib.hid (set3_at AZ2.out rfl (.int .i64 p.high) v1 v2)
           have B3 := Lib.hid (set3_below (BB.out.trans (hB3.mono BB.out.size)) (Nat.le_succ _) (.int .i64 p.high) v1 v2)
           have K3 := Lib.hid (KX.out _ hB3 v1 v2)
           have r0 : w2.cell? ⟨w.heap.size + 1, 0, none⟩ = some (.int .i64 0) := AZ2.out.2.2 0 _ rfl
           have r1 : w2.cell? ⟨w.heap.size + 1, 1, none⟩ = some (.slice none 0 0) := AZ2.out.2.2 1 _ rfl
           have r2 : w2.cell? ⟨w.heap.size + 1, 2, none⟩ = some (.slice none 0 0) := AZ2.out.2.2 2 _ rfl
           have fz := AZ2.out.2.1
           obtain ⟨X1', n1', d1', rfl, hN1, hf1⟩ := own_nums HO1'
           obtain ⟨X2', n2', d2', rfl, hN2, hf2⟩ := own_nums HO2'
           have HN1 := Lib.hid hN1
           have HN2 := Lib.hid hN2
           have HF1 := Lib.hid hf1
           have HF2 := Lib.hid hf2
           unfold set3 at K3
           clear ho2 hb2 hB3 hN1 hN2 hf1 hf2 HO1' HO2' HO1 cD))
    all_goals
      go_wp2_with fail
      change bodyPost _ _ _ _ _ (set3 w2 (w.heap.size + 1) (.int .i64 p.high) (.slice X1' n1' d1') (.slice X2' n2' d2'))
      generalize set3 w2 (w.heap.size + 1) (.int .i64 p.high) (.slice X1' n1' d1') (.slice X2' n2' d2') = W9 at *
      clear r0 r1 r2 fz K0 Ka Kb Kab Kba K2 K3
      have c0 := A3.out.2.2 0 _ rfl
      have c1 := A3.out.2.2 1 _ rfl
      have c2 := A3.out.2.2 2 _ rfl
      obtain rfl := HN1.out.len
      obtain rfl := HN2.out.len
      refine bodyPost_ret (v := .tuple #[poV { high := p.high, free := fs, limbo := p.limbo } { A1 := X1', c1 := d1', A2 := X2', c2 := d2' }, numV x, numV 0]) (by simp [results, Tryz.results130, go_sem, *]) rfl ?_
      exact ⟨{ A1 := X1', c1 := d1', A2 := X2', c2 := d2' }, by rw [HN.out], by rw [HN.out]; exact ⟨HN1.out, HN2.out⟩, B3.out, fun x e => Nat.le_trans BB.out.size (HF1.out x e), fun x e => Nat.le_trans BB.out.size (HF2.out x e)⟩
  rw [hfr] at c1
  have d0 : decide ((0 : Int) < (0 : Int)) = false := by simp
  by_cases hmh : most ≤ p.high
  · have HN : Hid (takeP p most = ({ high := 0 }, 0, 60)) := Lib.hid (by unfold takeP; rw [hfr]; simp only; rw [if_pos hmh])
    have d1 : decide (most ≤ p.high) = true := by simp [hmh]
    have r0 : W0.cell? ⟨w.heap.size + 1, 0, none⟩ = some (.int .i64 0) := AZ.out.2.2 0 _ rfl
    have r1 : W0.cell? ⟨w.heap.size + 1, 1, none⟩ = some (.slice none 0 0) := AZ.out.2.2 1 _ rfl
    have r2 : W0.cell? ⟨w.heap.size + 1, 2, none⟩ = some (.slice none 0 0) := AZ.out.2.2 2 _ rfl
    have fz := AZ.out.2.1
    have A3 := Lib.hid (set3_at AZ.out rfl (.int .i64 0) (.slice none 0 0) (.slice none 0 0))
    have B3 := Lib.hid (set3_below BB.out (Nat.le_succ _) (.int .i64 0) (.slice none 0 0) (.slice none 0 0))
    clear hmh hf hl
    go_enter Tryz.func130, Tryz.ntmps130
    go_wp2_with fail
    change bodyPost _ _ _ _ _ (set3 W0 (w.heap.size + 1) (.int .i64 0) (.slice none 0 0) (.slice none 0 0))
    generalize set3 W0 (w.heap.size + 1) (.int .i64 0) (.slice none 0 0) (.slice none 0 0) = W9 at *
    clear r0 r1 r2 fz c0 c1 c2
    have c0 := A3.out.2.2 0 _ rfl
    have c1 := A3.out.2.2 1 _ rfl
    have c2 := A3.out.2.2 2 _ rfl
    refine bodyPost_ret (v := .tuple #[poV { high := 0 } {}, numV 0, numV 60]) (by simp [results, Tryz.results130, go_sem, *]) rfl ?_
    rw [HN.out]
    exact ⟨{}, rfl, none_at _, B3.out, fun x e => (by cases e), fun x e => (by cases e)⟩
  have HN : Hid (takeP p most = ({ high := p.high + 1, limbo := p.limbo }, p.high, 0)) := Lib.hid (by unfold takeP; rw [hfr]; simp only; rw [if_neg hmh])
  have d1 : decide (most ≤ p.high) = false := by simp; omega
  have hb1 := below_box W0 (.cells #[.slice a.A2 p.limbo.length a.c2] 68)
  have KS := Lib.hid (show ∀ w', Below W0.heap.size W0 w' → w'.cell? ⟨w.heap.size, 0, none⟩ = some (.int .i64 p.high) ∧ w'.cell? ⟨w.heap.size, 2, none⟩ = some (.slice a.A2 p.limbo.length a.c2) from fun w' hB => by
    have g := po_cells (AT.out.below hB AT.out.1)
    exact ⟨g.1, g.2.2⟩)
  have KX := Lib.hid (show ∀ w', Below W0.heap.size W0 w' → ∀ v0 v1 v2, (fun w' => w'.cell? ⟨w.heap.size, 0, none⟩ = some (.int .i64 p.high) ∧ w'.cell? ⟨w.heap.size, 2, none⟩ = some (.slice a.A2 p.limbo.length a.c2)) (set3 w' (w.heap.size + 1) v0 v1 v2) from fun w' hB v0 v1 v2 => by
    have g := po_cells (set3_other (AT.out.below hB AT.out.1) (Nat.succ_ne_self _) v0 v1 v2)
    exact ⟨g.1, g.2.2⟩)
  have K0 := Lib.hid (KS.out W0.drew (Below.refl _ _).drew)
  have Ba := Lib.hid (show Below W0.heap.size W0 (W0.alloc (.cells #[.slice a.A2 p.limbo.length a.c2] 68)).drew from hb1.drew)
  have Ka := Lib.hid (KS.out _ Ba.out)
  have cJ := join_at (a.A2, a.c2, p.limbo) (W0.alloc (.cells #[.slice a.A2 p.limbo.length a.c2] 68)).drew W0.heap.size (cell1 W0 (.slice a.A2 p.limbo.length a.c2) 68).1 (cell1 W0 (.slice a.A2 p.limbo.length a.c2) 68).2 (HP.out.l.below Ba.out) (by simp only; omega)
  have hw : IntKind.i64.wrap (p.high + 1) = p.high + 1 := IntWalk.i64_in _ (by omega)
  clear hmh hf hl hb1
  go_enter Tryz.func130, Tryz.ntmps130
  go_wp2_with fail
  clear hW0 c0 c1 c2 hi hm
  go_region_held3 (fun w' => w'.cell? ⟨w.heap.size, 0, none⟩ = some (.int .i64 p.high) ∧ w'.cell? ⟨w.heap.size, 2, none⟩ = some (.slice a.A2 p.limbo.length a.c2))
    (with_reducible (first | exact K0.out | exact Ka.out | exact K1.out | exact K2.out))
    ((go_at_call 78; (with_reducible refine cJ.mono ?_); rintro e w1 ⟨v1, rfl, ho, hb⟩
      have hB := Ba.out.trans (hb.mono Ba.out.size)
      have K1 := Lib.hid (KS.out _ hB)
      have HO1' := own_set3 (own_base ho Ba.out.size) (b := w.heap.size + 1) (show w.heap.size + 1 < W0.heap.size by have := HS.out; omega) (.int .i64 (p.high + 1)) (.slice none 0 0) v1
      have AZ2 := Lib.hid (AZ.out.below hB (by have := HS.out; omega))
      have A3 := Lib.hid (set3_at AZ2.out rfl (.int .i64 (p.high + 1)) (.slice none 0 0) v1)
      have B3 := Lib.hid (set3_below (BB.out.trans (hB.mono BB.out.size)) (Nat.le_succ _) (.int .i64 (p.high + 1)) (.slice none 0 0) v1)
      have K2 := Lib.hid (KX.out _ hB (.int .i64 (p.high + 1)) (.slice none 0 0) v1)
      have r0 : w1.cell? ⟨w.heap.size + 1, 0, none⟩ = some (.int .i64 0) := AZ2.out.2.2 0 _ rfl
      have r1 : w1.cell? ⟨w.heap.size + 1, 1, none⟩ = some (.slice none 0 0) := AZ2.out.2.2 1 _ rfl
      have r2 : w1.cell? ⟨w.heap.size + 1, 2, none⟩ = some (.slice none 0 0) := AZ2.out.2.2 2 _ rfl
      have fz := AZ2.out.2.1
      obtain ⟨X1', n1', d1', rfl, hN1, hf1⟩ := own_nums HO1'
      have HN1 := Lib.hid hN1
      have HF1 := Lib.hid hf1
      unfold set3 at K2
      clear ho hb hB hN1 hf1 HO1'))
  go_wp2_with fail
  change bodyPost _ _ _ _ _ (set3 w1 (w.heap.size + 1) (.int .i64 (p.high + 1)) (.slice none 0 0) (.slice X1' n1' d1'))
  generalize set3 w1 (w.heap.size + 1) (.int .i64 (p.high + 1)) (.slice none 0 0) (.slice X1' n1' d1') = W9 at *
  clear r0 r1 r2 fz K0 Ka K1 K2 hw
  have c0 := A3.out.2.2 0 _ rfl
  have c1 := A3.out.2.2 1 _ rfl
  have c2 := A3.out.2.2 2 _ rfl
  obtain rfl := HN1.out.len
  refine bodyPost_ret (v := .tuple #[poV { high := p.high + 1, limbo := p.limbo } { A2 := X1', c2 := d1' }, numV p.high, numV 0]) (by simp [results, Tryz.results130, go_sem, *]) rfl ?_
  rw [HN.out]
  exact ⟨{ A2 := X1', c2 := d1' }, rfl, ⟨NAt.none _, HN1.out⟩, B3.out, fun x e => (by cases e), fun x e => Nat.le_trans BB.out.size (HF1.out x e)⟩
theorem take_any (p : Po) (a : La) (most : Int) (w : World) (h : PoAt w p a) (hf : p.free.length ≤ 100000) (hl : p.limbo.length ≤ 100000) (hi : -9223372036854775808 ≤ p.high) (hm : most ≤ 9223372036854775807) : Calls Tryz.prog 130 #[poV p a, .int .i64 most] w (PoolN (takeP p most) w) :=
  (take_fresh p a most w h hf hl hi hm).mono fun _ _ ⟨a, h1, h2, h3, _⟩ => ⟨a, h1, h2, h3⟩
end Go.Proofs.YtboaamaneeodfaaGreat.Pool
namespace Go.Proofs.YtboaamaneeodfaaGreat.Pool
open Go.RowKit Go.Shelf Gen
attribute [local go_sem] Oper.semAt_some

/-- What lay below n₁ lies as it lay, but for one block. -/
def KeepB (n₁ Lb : Nat) (W W' : World) : Prop := W.heap.size ≤ W'.heap.size ∧ ∀ k, k < n₁ → k ≠ Lb → W'.heap[k]? = W.heap[k]?
theorem KeepB.refl (n₁ Lb : Nat) (W : World) : KeepB n₁ Lb W W := ⟨Nat.le_refl _, fun _ _ _ => rfl⟩
theorem KeepB.trans {n₁ Lb : Nat} {A B C : World} (h : KeepB n₁ Lb A B) (k : KeepB n₁ Lb B C) : KeepB n₁ Lb A C := ⟨Nat.le_trans h.1 k.1, fun j hj hne => (k.2 j hj hne).trans (h.2 j hj hne)⟩
theorem KeepB.of_below {n₁ Lb : Nat} {W W' : World} (h : Below n₁ W W') : KeepB n₁ Lb W W' := ⟨h.size, fun k hk _ => h.block k hk⟩
theorem KeepB.cell {n₁ Lb : Nat} {W W' : World} (h : KeepB n₁ Lb W W') {p : Addr} (h1 : p.block < n₁) (h2 : p.block ≠ Lb) : W'.cell? p = W.cell? p := World.cell?_of_block (h.2 _ h1 h2)
theorem KeepB.at {w1 W : World} {Lb : Nat} {A : Option Addr} {n c : Nat} {l : List Int} (h : NAt w1 A n c l) (hk : KeepB w1.heap.size Lb w1 W) (hA : l ≠ [] → ∀ a, A = some a → a.block ≠ Lb) : NAt W A n c l :=
  ⟨h.len, h.cap, h.max, h.nil, fun hne => by
    obtain ⟨b, off, e, hlt, hc⟩ := h.row hne
    exact ⟨b, off, e, Nat.lt_of_lt_of_le hlt hk.1, fun j hj => (hk.cell (p := ⟨b, off + j, none⟩) hlt (show b ≠ Lb from hA hne _ e)).trans (hc j hj)⟩⟩
/-- A piece: it lies in w1, apart from a block. -/
abbrev GP (w1 : World) (Lb : Nat) := { x : Part // NAt w1 x.1 x.2.2.length x.2.1 x.2.2 ∧ (x.2.2 ≠ [] → ∀ a, x.1 = some a → a.block ≠ Lb) ∧ x.2.2.length ≤ 200 }
theorem mid3_run (A : Option Addr) (n c i m : Nat) (h : i + m ≤ c) (W : World) : (Instr.slice 68 (.slice A n c) (some (.int .i64 (i : Int))) (some (.int .i64 ((i : Int) + (m : Int)))) (some (.int .i64 ((i : Int) + (m : Int))))).run Tryz.prog W = .ok (.slice (if i + m = i then A else A.map (·.add i)) m m) W := by
  rw [show (i : Int) + (m : Int) = ((i + m : Nat) : Int) by omega]
  rw [run_slice_lhm W 68 A n c elem_is .i64 .i64 .i64 (i : Int) ((i + m : Nat) : Int) ((i + m : Nat) : Int) (by omega) (by omega) (by omega) (by omega), size_is]
  unfold sliced
  have e : ((i : Int) + (m : Int)).toNat = i + m := by omega
  simp [Result.andThen, e]
theorem gdrew (w : World) : w.grownBy w.drew none := ⟨rfl, rfl, rfl, Nat.le_refl _, fun _ _ _ => rfl⟩
set_option maxRecDepth 100000 in
set_option maxHeartbeats 4000000 in
theorem chunk1_in (F : Fence) (n : Nat) (hf : F.fn 151) (hro : F.round = none) (hn : 1 ≤ n) (l Bs Bn Lb : Nat) (A : Option Addr) (len cap : Nat) (zs : List Int) (w1 : World) (h : NAt w1 A len cap zs) (hA : zs ≠ [] → ∀ a, A = some a → a.block ≠ Lb)
    (hBs : Bs < w1.heap.size) (hBs2 : Bs ≠ Lb) (hBn : Bn < w1.heap.size) (hBn2 : Bn ≠ Lb) (hlen : len ≤ 1000000) (J Jx : List (GP w1 Lb) → World → Prop)
    (hY : ∀ pre x W, J pre W → pre.length < (chunks zs).length → YieldAt F (n - 1) Tryz.prog l #[encS x.1] W fun e W' =>
      (e = .returned (.bool true) ∧ J (pre ++ [x]) W' ∧ KeepB w1.heap.size Lb W W') ∨ (e = .returned (.bool false) ∧ Jx (pre ++ [x]) W'))
    (W : World) (hJ : AbidesFrom W.heap.size J) (hc1 : W.cell? ⟨Bs, 0, none⟩ = some (.slice A len cap)) (hc2 : W.cell? ⟨Bn, 0, none⟩ = some (.int .i64 200)) (h0 : J [] W) :
    CallsIn F n Tryz.prog 151 #[.func (.yield l) #[] #[], .pointer (some ⟨Bs, 0, none⟩), .pointer (some ⟨Bn, 0, none⟩)] W fun e W' => (∃ v, e = .returned v) ∧
      ((∃ ys, ys.map (·.1.2.2) = chunks zs ∧ J ys W') ∨ (∃ pre, True ∧ Jx pre W')) := by
  refine callsIn_of_wp Tryz.func151 rfl hf ?_ hro
  simp only [Tryz.ntmps151, List.size_toArray, List.length_cons, List.length_nil, Nat.reduceAdd, Nat.reduceSub, Array.replicate_succ, Array.replicate_zero, List.push_toArray, List.append_toArray, List.nil_append, List.cons_append]
  have HH := Lib.hid h
  have HA := Lib.hid hA
  have HC1 := Lib.hid hc1
  have HC2 := Lib.hid hc2
  clear h hA hc1 hc2
  gi_wp2
  gi_loopw [4] (fun i wr => ∃ (q : Nat) (pre : List (GP w1 Lb)), i = .int .i64 (q : Int) ∧ q ≤ len + 200 ∧ J pre wr ∧ KeepB w1.heap.size Lb W wr ∧ Hid (pre.map (·.1.2.2) ++ chunks (zs.drop q) = chunks zs))
    (fun i _ => len + 200 - (intOf i).toNat)
  case atStart => exact ⟨0, [], rfl, Nat.zero_le _, h0, KeepB.refl _ _ _, Lib.hid (by rw [List.drop_zero]; rfl)⟩
  case round =>
    obtain ⟨q, pre, rfl, hq, hJs, hk, hQ⟩ := hrel
    have c1 := (hk.cell (p := ⟨Bs, 0, none⟩) hBs hBs2).trans HC1.out
    have c2 := (hk.cell (p := ⟨Bn, 0, none⟩) hBn hBn2).trans HC2.out
    by_cases hlt : q < len
    · obtain ⟨d, hd⟩ : ∃ d, len - q = d := ⟨_, rfl⟩
      obtain ⟨m, hm⟩ : ∃ m, min 200 d = m := ⟨_, rfl⟩
      have hmp : 0 < m ∧ m ≤ 200 ∧ q + m ≤ len := by omega
      have hcap := HH.out.cap
      have hzl := HH.out.len
      have q1 : ∀ W, (Instr.slice 68 (.slice A len cap) (some (.int .i64 (q : Int))) none none).run Tryz.prog W = .ok (.slice (if cap = q then A else A.map (·.add q)) d (cap - q)) W := fun W => by rw [← hd]; exact tail_run A len cap q (by omega) W
      have q2 : ∀ W, (Instr.slice 68 (.slice A len cap) (some (.int .i64 (q : Int))) (some (.int .i64 ((q : Int) + (m : Int)))) (some (.int .i64 ((q : Int) + (m : Int))))).run Tryz.prog W = .ok (.slice (if q + m = q then A else A.map (·.add q)) m m) W := fun W => mid3_run A len cap q m (by omega) W
      have hmin : min (200 : Int) (d : Int) = (m : Int) := by omega
      have ht := (HH.out.tail (k := q) (by omega)).head (k := m) (by omega)
      rw [if_neg (show ¬ cap = q by omega)] at q1 ht
      rw [if_neg (show ¬ q + m = q by omega)] at q2
      have htk : (zs.drop q).take m = (zs.drop q).take 200 := by
        rcases Nat.le_total 200 d with g | g
        · rw [show m = 200 by omega]
        · rw [List.take_of_length_le (by rw [List.length_drop]; omega), List.take_of_length_le (by rw [List.length_drop]; omega)]
      rw [htk] at ht
      have HE := Lib.hid (show chunks (zs.drop q) = (zs.drop q).take 200 :: chunks (zs.drop (q + 200)) by
        rw [chunks_cons _ (by rw [List.length_drop]; omega), List.drop_drop])
      have hap : (zs.drop q).take 200 ≠ [] → ∀ a, A.map (·.add q) = some a → a.block ≠ Lb := fun hne a e => by
        obtain ⟨a0, rfl, rfl⟩ := Option.map_eq_some_iff.1 e
        have := HA.out (fun e2 => hne (by rw [e2]; simp)) a0 rfl
        unfold Addr.add
        split <;> exact this
      obtain ⟨L, hL⟩ : ∃ L, (zs.drop q).take 200 = L := ⟨_, rfl⟩
      rw [hL] at ht hap HE
      have hLm := ht.len
      generalize A.map (·.add q) = A3 at q1 q2 ht hap
      have hJd : J pre wr.drew := hJ pre wr wr.drew none hJs (gdrew wr) (fun r e => by cases e)
      have hpl : pre.length < (chunks zs).length := by
        rw [← hQ.out, HE.out, List.length_append, List.length_map, List.length_cons]; omega
      obtain ⟨x, hx⟩ : ∃ x : GP w1 Lb, x.1 = (A3, m, L) := ⟨⟨(A3, m, L), ⟨⟨rfl, by show L.length ≤ m; omega, by have := ht.max; show m ≤ maxLen; unfold maxLen; omega, fun e => by
        have := ht.nil e
        have := ht.cap
        show m = 0; omega, ht.row⟩, hap, by show L.length ≤ 200; omega⟩⟩, rfl⟩
      obtain ⟨fn, tmps, assign, body, hy, hR⟩ := hY pre x wr.drew hJd hpl
      rw [hx] at hy
      rw [show encS (A3, m, L) = .slice A3 m m by show Value.slice A3 L.length m = _; rw [hLm]] at hy
      have HQ2 := Lib.hid (show (pre ++ [x]).map (·.1.2.2) ++ chunks (zs.drop (q + 200)) = chunks zs from by
        rw [← hQ.out, HE.out, List.map_append, List.map_singleton, hx, List.append_assoc]; rfl)
      clear ht hap hx hd hm htk hL hQ HE hJs hJd
      gi_wp2
      gi_region
      all_goals
        gi_wp2
        refine hR.mono ?_
        rintro e W3 (⟨rfl, hJ3, hk3⟩ | ⟨rfl, hJx3⟩)
        · have c2' := (hk3.cell (p := ⟨Bn, 0, none⟩) hBn hBn2).trans (show wr.drew.cell? ⟨Bn, 0, none⟩ = some (.int .i64 200) from c2)
          have HK := Lib.hid (hk.trans ((show KeepB w1.heap.size Lb wr wr.drew from ⟨Nat.le_refl _, fun _ _ _ => rfl⟩).trans hk3))
          have HJ := Lib.hid hJ3
          clear hJ3 hk3 hk
          gi_wp2
          go_roundw
          case rel => exact ⟨q + 200, _, by go_num, by omega, HJ.out, HK.out, HQ2⟩
          case measure => simp [intOf]; omega
        · gi_wp2
          refine bodyPost_ret (results_none rfl _ _ _) rfl ?_
          exact ⟨⟨_, rfl⟩, .inr ⟨_, trivial, hJx3⟩⟩
    · have HE : Hid (pre.map (·.1.2.2) = chunks zs) := Lib.hid (by
        have := hQ.out
        rw [List.drop_of_length_le (by have := HH.out.len; omega), chunks_nil, List.append_nil] at this
        exact this)
      clear hQ
      gi_wp2
      go_end0
      exact ⟨⟨_, rfl⟩, .inl ⟨_, HE.out, hJs⟩⟩
set_option maxRecDepth 100000 in
theorem chunk_in (F : Fence) (n : Nat) (h5 : F.fn 129) (hro : F.round = none) (a : Option Addr) (len cap : Nat) (w : World) :
    CallsIn F n Tryz.prog 129 #[.slice a len cap, .int .i64 200] w fun e w' => e = .returned (.func (.func 151) #[] #[.pointer (some ⟨w.heap.size, 0, none⟩), .pointer (some ⟨w.heap.size + 1, 0, none⟩)]) ∧ w' = (w.alloc (.cells #[.slice a len cap] 68)).alloc (.cells #[.int .i64 200] 3) := by
  refine callsIn_of_wp Tryz.func129 rfl h5 ?_ hro
  simp only [Tryz.ntmps129, List.size_toArray, List.length_cons, List.length_nil, Nat.reduceAdd, Nat.reduceSub, Array.replicate_succ, Array.replicate_zero, List.push_toArray, List.append_toArray, List.nil_append, List.cons_append]
  gi_wp2
  go_ret
  exact ⟨rfl, rfl⟩
theorem chunk_stops (F : Fence) (n : Nat) (h7 : F.fn 151) (hro : F.round = none) (hn : 1 ≤ n) (Bs Bn Lb : Nat) (A : Option Addr) (len cap : Nat) (zs : List Int) (w1 : World) (h : NAt w1 A len cap zs) (hA : zs ≠ [] → ∀ a, A = some a → a.block ≠ Lb)
    (hBs : Bs < w1.heap.size) (hBs2 : Bs ≠ Lb) (hBn : Bn < w1.heap.size) (hBn2 : Bn ≠ Lb) (hlen : len ≤ 1000000)
    (hc1 : w1.cell? ⟨Bs, 0, none⟩ = some (.slice A len cap)) (hc2 : w1.cell? ⟨Bn, 0, none⟩ = some (.int .i64 200)) :
    SeqStopsK F n Tryz.prog 151 #[.pointer (some ⟨Bs, 0, none⟩), .pointer (some ⟨Bn, 0, none⟩)] (fun x : GP w1 Lb => #[encS x.1]) (KeepB w1.heap.size Lb) (fun ys => ys.map (·.1.2.2) = chunks zs) (fun _ => True) (chunks zs).length w1 := fun l J Jx W hW hJ _ hY h0 =>
  chunk1_in F n h7 hro hn l Bs Bn Lb A len cap zs w1 h hA hBs hBs2 hBn hBn2 hlen J Jx hY W hJ ((hW.cell (p := ⟨Bs, 0, none⟩) hBs).trans hc1) ((hW.cell (p := ⟨Bn, 0, none⟩) hBn).trans hc2) h0
end Go.Proofs.YtboaamaneeodfaaGreat.Pool
namespace Go.Proofs.YtboaamaneeodfaaGreat.Pool
open Go.RowKit Go.Shelf Gen
attribute [local go_sem] Oper.semAt_some

/-- An append whose run is known, in a region that draws its order. -/
theorem step_append2_eq {P : Program} {ops : Array Oper} {o : Oper} {a : Act} {K : Act → World → Prop} {Q : Exit → Act → World → Prop} {X : Prop} {w w' : World} {v u v' : Value} (hgd : o.guard = none) (s x : Operand) (t t' : TypeId)
    (ho : o.op = .call { callee := .builtin .append, args := #[s, x], argTypes := #[t, t'] }) (hs : a.eval s = v) (hx : a.eval x = u) (hrun : (Builtin.append_ #[t, t'] o.type #[v, u]).run P w = .ok v' w')
    (h : K (a.put o.dst v') w') : if Region.wanted o (yielded ops a.tmps) = true then Oper.wp P o a w K Q else X := by
  have hw : Region.wanted o (yielded ops a.tmps) = true := by simp [Region.wanted, hgd]
  rw [if_pos hw]
  unfold Oper.wp
  simp [execOp, ho, resolve, invoke, builtin, hs, hx, hrun, Result.andThen]
  exact h
theorem KeepsOthers.of_below' {W W' : World} (h : Below W.heap.size W W') : KeepsOthers W W' := ⟨h.size, fun k _ hk _ => (h.block k (Array.getElem?_eq_some_iff.1 hk).1).trans hk⟩
theorem ownG_kept {α : Type} {enc : α → Value} {e : TypeId} {w w' : World} {row : Option Nat} {B : Nat} {v : Value} {l : List α} (h : OwnG w e enc B v l) (g : w.grownBy w' row) (hne : ∀ k, v.ownBlock = some k → some k ≠ row) : OwnG w' e enc B v l := by
  obtain ⟨hl, h | ⟨k, cap, cur, rfl, hg, hh, h4, h5, h6, h7⟩⟩ := h
  · exact ⟨hl, .inl h⟩
  · exact ⟨hl, .inr ⟨k, cap, cur, rfl, hg, by rw [g.block k (Array.getElem?_eq_some_iff.1 hh).1 (hne k rfl)]; exact hh, h4, h5, h6, h7⟩⟩
theorem nat_grown {w w' : World} {A : Option Addr} {n c : Nat} {l : List Int} {row : Option Nat} (h : NAt w A n c l) (g : w.grownBy w' row) (hA : l ≠ [] → ∀ a, A = some a → some a.block ≠ row) : NAt w' A n c l :=
  ⟨h.len, h.cap, h.max, h.nil, row_grown h.row g hA⟩
/-- A list's cells lie in no block that is no cells. -/
theorem nat_cells {w : World} {A : Option Addr} {n c : Nat} {l : List Int} (h : NAt w A n c l) (hne : l ≠ []) {a : Addr} (e : A = some a) {o : Obj} (ho : w.heap[a.block]? = some o) : o.isCells = true := by
  obtain ⟨b, off, e2, hlt, hc⟩ := h.row hne
  rw [e] at e2
  cases e2
  have h0 := hc 0 (List.length_pos_iff.2 hne)
  unfold World.cell? at h0
  simp only at ho
  rw [ho] at h0
  cases o <;> simp_all [Obj.isCells]
/-- The pieces so far, in the list's own box. -/
def Got (n₁ Lb : Nat) (W : World) (v : Value) (xs : List Part) : Prop := Boxed W Lb 98 v ∧ OwnL W n₁ v xs ∧ (∀ x ∈ xs, Lies W v.ownBlock x ∧ ∀ a, x.1 = some a → n₁ ≤ a.block)
theorem Got.other {n₁ Lb : Nat} {W W' : World} {v : Value} {xs : List Part} {row : Option Nat} (h : Got n₁ Lb W v xs) (g : W.grownBy W' row) (hr : ∀ r, row = some r → ∃ o : Obj, W.heap[r]? = some o ∧ o.isCells = false) : Got n₁ Lb W' v xs := by
  obtain ⟨h1, h2, h3⟩ := h
  refine ⟨h1.kept g (fun e => ?_), ownG_kept h2 g (fun k hk e => ?_), fun x hx => ⟨⟨nat_grown (h3 x hx).1.at_ g (fun hne a ea e => ?_), fun hne a ea => ?_⟩, (h3 x hx).2⟩⟩
  · obtain ⟨o, ho, hc⟩ := hr Lb e.symm
    rw [show W.heap[Lb]? = _ from h1] at ho; cases ho; cases hc
  · obtain ⟨o, ho, hc⟩ := hr k e.symm
    obtain ⟨_, h2 | ⟨g', cap, cur, rfl, _, hh, _⟩⟩ := h2
    · rw [h2.1] at hk; cases hk
    · cases hk; rw [hh] at ho; cases ho; cases hc
  · obtain ⟨o, ho, hc⟩ := hr _ e.symm
    rw [nat_cells (h3 x hx).1.at_ hne ea ho] at hc; cases hc
  · have := (h3 x hx).1.apart hne a ea
    exact ⟨Nat.lt_of_lt_of_le this.1 g.size, this.2⟩
theorem Got.below {n₁ Lb : Nat} {W W' : World} {v : Value} {xs : List Part} (h : Got n₁ Lb W v xs) (hb : Below W.heap.size W W') : Got n₁ Lb W' v xs :=
  ⟨(hb.block Lb h.1.lt).trans h.1, OwnG.kept h.2.1 hb, fun x hx => ⟨⟨(h.2.2 x hx).1.at_.below hb, fun hne a ea => by
    have := (h.2.2 x hx).1.apart hne a ea
    exact ⟨Nat.lt_of_lt_of_le this.1 hb.size, this.2⟩⟩, (h.2.2 x hx).2⟩⟩
/-- One piece more. -/
theorem Got.more {n₀ n₁ Lb : Nat} {w : World} {v : Value} {xs : List Part} (h : Got n₁ Lb w v xs) (y : Part) (hy : Lies w v.ownBlock y) (hyb : ∀ a, y.1 = some a → n₁ ≤ a.block) (h0 : n₀ ≤ Lb) (h1 : Lb < n₁) (h2 : n₁ ≤ w.heap.size) (hn : xs.length ≤ 900000) :
    ∃ g cap W', (Builtin.append_ #[98, 98] 98 #[v, .slice (some ⟨w.heap.size, 0, none⟩) 1 1]).run Tryz.prog (w.alloc (.cells #[encS y] 68)) = .ok (.slice (some ⟨g, 0, none⟩) (xs.length + 1) cap) W' ∧
      W'.cell? ⟨Lb, 0, none⟩ = some v ∧ W'.frozen? ⟨Lb, 0, none⟩ = false ∧ Got n₁ Lb (W'.setCell ⟨Lb, 0, none⟩ (.slice (some ⟨g, 0, none⟩) (xs.length + 1) cap)) (.slice (some ⟨g, 0, none⟩) (xs.length + 1) cap) (xs ++ [y]) ∧
      KeepsOthers w (W'.setCell ⟨Lb, 0, none⟩ (.slice (some ⟨g, 0, none⟩) (xs.length + 1) cap)) ∧ Below n₀ w (W'.setCell ⟨Lb, 0, none⟩ (.slice (some ⟨g, 0, none⟩) (xs.length + 1) cap)) ∧ KeepB n₁ Lb w (W'.setCell ⟨Lb, 0, none⟩ (.slice (some ⟨g, 0, none⟩) (xs.length + 1) cap)) := by
  obtain ⟨hv, ho, hp⟩ := h
  have hb1 := below_box w (.cells #[encS y] 68)
  have hrow : RowG (w.alloc (.cells #[encS y] 68)) encS (some ⟨w.heap.size, 0, none⟩) [y] := fun _ => ⟨w.heap.size, 0, rfl, by simp, fun k hk => by
    obtain rfl : k = 0 := by simp at hk; omega
    simp⟩
  obtain ⟨v', W', hrun, ho', hg, hv'⟩ := append_row lists_elem (w.alloc (.cells #[encS y] 68)) n₁ v xs (OwnG.kept ho hb1) (some ⟨w.heap.size, 0, none⟩) 1 1 [y] rfl (fun e => by cases e) hrow (by omega) (Nat.le_trans h2 hb1.size)
  have ho2 : W'.ownsRow n₁ 68 1 v' (xs.length + 1) ((xs ++ [y]).map encS) := by
    have := ho'
    unfold OwnG at this
    rw [List.length_append] at this
    exact this
  obtain ⟨g, cap, rfl⟩ := ownsRow_succ ho2
  have hrow0 : w.ownsRow n₀ 68 1 v xs.length (xs.map encS) := own_base ho (by omega)
  obtain ⟨k1, k2, -, k4, k5⟩ := hv.appended (by decide) hrow0 (by omega) h0 (own_base (show OwnL W' n₁ _ (xs ++ [y]) from ho') (show n₀ ≤ n₁ by omega)) hg
  have hgs := grown_set W' Lb 0 (.slice (some ⟨g, 0, none⟩) (xs.length + 1) cap)
  have hbn := below_grown ((Below.refl n₁ w).alloc h2 (.cells #[encS y] 68)) (OwnG.kept ho hb1) hg (Nat.le_trans h2 hb1.size)
  refine ⟨g, cap, W', hrun, k1.cell, k1.frozen, ⟨k2, ownG_kept ho' hgs (fun k hk e => ?_), fun x hx => ?_⟩, k4, k5, ⟨Nat.le_trans hbn.size hgs.size, fun k hk hne => (hgs.block k (Nat.lt_of_lt_of_le hk (Nat.le_trans h2 hbn.size)) (fun e => hne (Option.some.inj e))).trans (hbn.block k hk)⟩⟩
  · have := (World.ownsRow.lt ho' k hk).1
    have := Option.some.inj e
    omega
  · have hx1 : Lies W' (Value.ownBlock (.slice (some ⟨g, 0, none⟩) (xs.length + 1) cap)) x ∧ ∀ a, x.1 = some a → n₁ ≤ a.block := by
      rcases List.mem_append.1 hx with hx | hx
      · exact ⟨((hp x hx).1.alloc _).grown hg hv', (hp x hx).2⟩
      · rw [List.mem_singleton.1 hx]; exact ⟨(hy.alloc _).grown hg hv', hyb⟩
    refine ⟨⟨nat_grown hx1.1.at_ hgs (fun _ a ea e => ?_), fun hne a ea => ?_⟩, hx1.2⟩
    · have := hx1.2 a ea
      have := Option.some.inj e
      omega
    · have := hx1.1.apart hne a ea
      exact ⟨Nat.lt_of_lt_of_le this.1 hgs.size, this.2⟩
/-- What Lists hands back. -/
def ListsR (ls : List (List Int)) (w : World) (e : Ending) (w' : World) : Prop := ∃ v xs, e = .returned v ∧ OwnL w' w.heap.size v xs ∧ PartsIn w' xs ∧ xs.map (·.2.2) = ls ∧ Below w.heap.size w w' ∧ ∀ x ∈ xs, ∀ a, x.1 = some a → w.heap.size ≤ a.block
def LI (w w2 : World) (Lb : Nat) (pre : List (GP w2 Lb)) (W : World) : Prop := (∃ v xs, Got w2.heap.size Lb W v xs ∧ xs.map (·.2.2) = pre.map (·.1.2.2)) ∧ Below w.heap.size w W ∧ KeepB w2.heap.size Lb w2 W
theorem LI.own {w w2 : World} {Lb : Nat} (hw : w.heap.size ≤ w2.heap.size) : OwnFrom w2.heap.size (LI w w2 Lb) := fun s W W' row hs hg hr => by
  obtain ⟨⟨v, xs, h1, h2⟩, h3, h4⟩ := hs
  exact ⟨⟨v, xs, h1.other hg (fun r e => (hr r e).2), h2⟩, h3.grown hg h3.size (fun k e => Nat.le_trans hw (hr k e).1), Nat.le_trans h4.1 hg.size, fun k hk hne => (hg.block k (Nat.lt_of_lt_of_le hk h4.1) (fun e => by have := (hr k e.symm).1; omega)).trans (h4.2 k hk hne)⟩
theorem keepB_put {w2 : World} {Lb : Nat} (W : World) (l : Nat) (o o' : Obj) (hl : w2.heap.size ≤ l) (_ : W.heap[l]? = some o) (_ : o.isCells = false) (_ : o.isWalk = false) : KeepB w2.heap.size Lb W (W.putObj l o') :=
  ⟨by simp, fun k hk _ => World.putObj_heap_other (by omega)⟩
set_option maxRecDepth 100000 in
set_option maxHeartbeats 8000000 in
theorem lists_any (p : Po) (a : La) (w : World) (h : PoAt w p a) (hf : p.free.length ≤ 100000) (hl : p.limbo.length ≤ 100000) :
    Calls Tryz.prog 99 #[poV p a] w (ListsR (chunks (layAll p.free p.limbo)) w) := by
  refine (callsIn_wide (n := 5)).1 ?_
  have b1 := below_box w (.cells (poC p a) 73)
  have hat := po_box w p a
  have b2 := b1.alloc b1.size (.cells #[.slice none 0 0] 98)
  have bx := Boxed.new (w.alloc (.cells (poC p a) 73)) 98 (.slice none 0 0)
  rw [World.size_alloc] at bx
  have hat2 := hat.below (n := w.heap.size + 1) (show Below (w.heap.size + 1) _ ((w.alloc (.cells (poC p a) 73)).alloc (.cells #[.slice none 0 0] 98)) from (Below.refl _ _).alloc (by simp) _) (by omega)
  have sz : ((w.alloc (.cells (poC p a) 73)).alloc (.cells #[.slice none 0 0] 98)).heap.size = w.heap.size + 2 := by simp
  obtain ⟨W0, hW0⟩ : ∃ W0, (w.alloc (.cells (poC p a) 73)).alloc (.cells #[.slice none 0 0] 98) = W0 := ⟨_, rfl⟩
  rw [hW0] at b2 bx hat2 sz
  obtain ⟨c0, c1, c2⟩ := po_cells hat2
  have cT := turn_any p a W0 (h.below b2) hf hl
  have BB := Lib.hid b2
  have SZ := Lib.hid sz
  have BX := Lib.hid bx
  have HL := Lib.hid (show (layAll p.free p.limbo).length ≤ 200000 by rw [layAll_len]; omega)
  clear b1 b2 bx sz hat hat2 h hf hl
  unfold poV at cT
  unfold poV
  refine callsIn_of_wp_marks Tryz.func99 rfl trivial ?_ rfl
  simp only [Tryz.ntmps99, List.size_toArray, List.length_cons, List.length_nil, Nat.reduceAdd, Nat.reduceSub, Array.replicate_succ, Array.replicate_zero, List.push_toArray, List.append_toArray, List.nil_append, List.cons_append]
  gi_wp2_with (refine ⟨trivial, ?_⟩; gi_at_call 71; refine (callsIn_wide.2 cT).mono ?_; rintro e w1 ⟨b, rfl, hp, hb, hbl⟩; clear cT)
  unfold poV
  unfold poC
  generalize layAll p.free p.limbo = R at *
  have qf := field_run p.high b.A1 b.A2 R.length 0 b.c1 b.c2
  have HP := Lib.hid hp.f
  have HB1 := Lib.hid hb
  have HBL := Lib.hid hbl
  clear hp hb hbl hW0 c0 c1 c2
  gi_wp2_with (refine ⟨trivial, ?_⟩; gi_at_call 129; refine (chunk_in Fence.wide _ trivial rfl _ _ _ _).mono ?_; rintro e w2 ⟨rfl, rfl⟩)
  have hb2 : Below w1.heap.size w1 ((w1.alloc (.cells #[.slice b.A1 R.length b.c1] 68)).alloc (.cells #[.int .i64 200] 3)) := (below_box w1 _).alloc (by simp) _
  have hsz : ((w1.alloc (.cells #[.slice b.A1 R.length b.c1] 68)).alloc (.cells #[.int .i64 200] 3)).heap.size = w1.heap.size + 2 := by simp
  have hc1 : ((w1.alloc (.cells #[.slice b.A1 R.length b.c1] 68)).alloc (.cells #[.int .i64 200] 3)).cell? ⟨w1.heap.size, 0, none⟩ = some (.slice b.A1 R.length b.c1) := ((below_box _ _).cell (p := ⟨w1.heap.size, 0, none⟩) (by simp)).trans (cell1 w1 _ _).1
  have hc2 : ((w1.alloc (.cells #[.slice b.A1 R.length b.c1] 68)).alloc (.cells #[.int .i64 200] 3)).cell? ⟨w1.heap.size + 1, 0, none⟩ = some (.int .i64 200) := by
    have := (cell1 (w1.alloc (.cells #[.slice b.A1 R.length b.c1] 68)) (.int .i64 200) 3).1
    rw [World.size_alloc] at this
    exact this
  obtain ⟨W2, hW2⟩ : ∃ W2, (w1.alloc (.cells #[.slice b.A1 R.length b.c1] 68)).alloc (.cells #[.int .i64 200] 3) = W2 := ⟨_, rfl⟩
  rw [hW2] at hb2 hsz hc1 hc2 ⊢
  have hs1 := HB1.out.size
  have hs0 := SZ.out
  have hBW : Below w.heap.size w W2 := (BB.out.trans (HB1.out.mono BB.out.size)).trans (hb2.mono (Nat.le_trans BB.out.size hs1))
  have hbx : Boxed W2 (w.heap.size + 1) 98 (.slice none 0 0) := ((hb2.block _ (by omega)).trans (HB1.out.block _ (by omega))).trans BX.out
  clear hW2 qf
  refine wpIn_rangeFunc_ownG rfl (by omega) (gf := 151) (lb := #[.pointer (some ⟨w1.heap.size, 0, none⟩), .pointer (some ⟨w1.heap.size + 1, 0, none⟩)]) rfl trivial (enters_of Tryz.func151 (by kernel_rfl) rfl)
    (chunk_stops Fence.wide _ trivial rfl (by omega) w1.heap.size (w1.heap.size + 1) (w.heap.size + 1) b.A1 R.length b.c1 R W2 (HP.out.below hb2) (fun _ x e e2 => by have := HBL.out x e; omega) (by omega) (by omega) (by omega) (by omega) (by have := HL.out; omega) hc1 hc2)
    KeepB.trans keepB_put (Below.refl _ _) (fun _ => rfl)
    (LI w W2 (w.heap.size + 1)) (fun _ _ _ => False) (LI.own hBW.size) (fun _ _ _ _ _ hs _ _ => hs)
    ⟨⟨_, [], ⟨hbx, OwnG.nil _ _ _ _, fun x hx => by simp at hx⟩, rfl⟩, hBW, KeepB.refl _ _ _⟩
    (fun x => { tmps := #[.agg #[.int .i64 p.high, .slice a.A1 p.free.length a.c1, .slice a.A2 p.limbo.length a.c2], .pointer (some ⟨w.heap.size, 0, none⟩), .slice none 0 0, .pointer (some ⟨w.heap.size + 1, 0, none⟩), encS x.1, .agg #[.int .i64 p.high, .slice a.A1 p.free.length a.c1, .slice a.A2 p.limbo.length a.c2], .agg #[.int .i64 p.high, .slice b.A1 R.length b.c1, .slice b.A2 0 b.c2], .slice b.A1 R.length b.c1, .func (.func 151) #[] #[.pointer (some ⟨w1.heap.size, 0, none⟩), .pointer (some ⟨w1.heap.size + 1, 0, none⟩)], encS x.1, undef, undef, undef, undef, undef, undef, undef], defers := [] }) ?assign ?body ?done ?stop
  case assign =>
    intro l x W K hK
    gi_wp2
    exact hK
  case body =>
    rintro l pre ⟨⟨A4, c4, l4⟩, hx1, hx2, hx3⟩ W ⟨⟨v, xs, hg, hm⟩, hB, hKB⟩ hlen
    refine wpIn_block ?_
    refine region_last_in (S := fun w' => w'.cell? ⟨w.heap.size + 1, 0, none⟩ = some v) 6 (by kernel_rfl) (by rintro ⟨_, _, h⟩; exact h) (by kernel_rfl) rfl rfl rfl rfl (by kernel_rfl) (by kernel_rfl) ?_
    intro w3 hw3
    have hwd : Below W.heap.size W w3 := by rw [hw3]; exact (Below.refl _ _).drew
    have hko : KeepsOthers W w3 := by rw [hw3]; exact KeepsOthers.drew _
    have hgg := hg.below hwd
    have hn3 : NAt w3 A4 l4.length c4 l4 := (KeepB.at hx1 hKB hx2).below hwd
    clear hw3 hg
    have hsz3 : W2.heap.size ≤ w3.heap.size := Nat.le_trans hKB.1 hwd.size
    have hb4 := below_box w3 (.cells #[.slice A4 l4.length c4] 68)
    have cJ := join_at (A4, c4, l4) (w3.alloc (.cells #[.slice A4 l4.length c4] 68)) w3.heap.size (cell1 w3 (.slice A4 l4.length c4) 68).1 (cell1 w3 (.slice A4 l4.length c4) 68).2 (hn3.below hb4) (by show l4.length ≤ 1000000; have : l4.length ≤ 200 := hx3; omega)
    have hSR : w3.cell? ⟨w.heap.size + 1, 0, none⟩ = some v := hgg.1.cell
    have S2 : (w3.alloc (.cells #[.slice A4 l4.length c4] 68)).cell? ⟨w.heap.size + 1, 0, none⟩ = some v := (hgg.below hb4).1.cell
    have hxl : xs.length ≤ 200000 := by
      have h1 := congrArg List.length hm
      rw [List.length_map, List.length_map] at h1
      have := chunks_len R
      have := HL.out
      omega
    have HG := Lib.hid hgg
    have HM := Lib.hid hm
    have HB := Lib.hid hB
    have HKB := Lib.hid hKB
    have HWD := Lib.hid hwd
    have HKO := Lib.hid hko
    have HB4 := Lib.hid hb4
    have HX1 := Lib.hid hx1
    clear hgg hm hB hKB hwd hko hb4 hn3 hlen
    simp only [List.set_cons_zero, List.set_cons_succ]
    refine wpAnyH_take (i := 0) (v := ?_) rfl (by kernel_rfl) (by kernel_rfl) (by kernel_rfl) (fun _ _ _ h => h) (Or.inl ⟨by rfl, ?_⟩) hSR ?_
    rotate_left
    · (intro w' hSw; (try dsimp only at hSw); go_simp; (try with_reducible rfl))
    simp only [Act.put]
    refine wpAnyH_take (i := 1) (v := ?_) rfl (by kernel_rfl) (by kernel_rfl) (by kernel_rfl) (fun _ _ _ h => h) (Or.inl ⟨by rfl, ?_⟩) hSR ?_
    rotate_left
    · (intro w' hSw; (try dsimp only at hSw); go_simp; (try with_reducible rfl))
    simp only [Act.put]
    refine wpAnyH_ready (rs := [2]) (by kernel_rfl) (by simp) (AllReadyH.cons rfl (fun K hK => ?_) AllReadyH.nil)
    go_simp
    refine hK.out _ _ S2 (fun hSR => ?_)
    clear hK K
    refine wpAnyH_ready (rs := [3]) (by kernel_rfl) (by simp) (AllReadyH.cons rfl (fun K hK => ?_) AllReadyH.nil)
    go_simp
    refine cJ.mono ?_
    rintro e w4 ⟨v4, rfl, ho4, hb4⟩
    clear cJ
    have hgb : Got W2.heap.size (w.heap.size + 1) w4 v xs := (HG.out.below HB4.out).below hb4
    obtain ⟨A5, n5, c5, rfl, hn5, hbl5⟩ := own_nums ho4
    obtain rfl := hn5.len
    have hbl : ∀ x, A5 = some x → w3.heap.size < x.block := fun x e => by have := hbl5 x e; rw [World.size_alloc] at this; omega
    have hly : Lies w4 v.ownBlock (A5, c5, l4) := ⟨hn5, fun hne x e => by
      obtain ⟨b', o', e', hlt', -⟩ := hn5.row hne
      have e4 : some x = some ⟨b', o', none⟩ := e.symm.trans e'
      cases e4
      refine ⟨hlt', fun e5 => ?_⟩
      have h1 := (World.ownsRow.lt HG.out.2.1 _ e5.symm).2
      have h2 := hbl _ e
      omega⟩
    obtain ⟨g, cap, W', hrun, k1, k2, k3, k4, k5, k6⟩ := hgb.more (n₀ := w.heap.size) (A5, c5, l4) hly (fun x e => by have := hbl x e; omega) (by omega) (by omega) (Nat.le_trans hsz3 (Nat.le_trans HB4.out.size hb4.size)) (by omega)
    have S4 : w4.cell? ⟨w.heap.size + 1, 0, none⟩ = some v := hgb.1.cell
    have S5 : (w4.alloc (.cells #[.slice A5 l4.length c5] 68)).cell? ⟨w.heap.size + 1, 0, none⟩ = some v := (hgb.below (below_box w4 _)).1.cell
    have Q := Lib.hid hrun
    have K3 := Lib.hid k3
    have K4 := Lib.hid k4
    have K5 := Lib.hid k5
    have K6 := Lib.hid k6
    have HB5 := Lib.hid (HB4.out.trans (hb4.mono HB4.out.size))
    clear ho4 hgb hn5 hbl5 hbl hly hrun k3 k4 k5 k6 hb4
    refine hK.out _ _ S4 (fun hSR => ?_)
    clear hK K
    refine wpAnyH_ready (rs := [4]) (by kernel_rfl) (by simp) (AllReadyH.cons rfl (fun K hK => ?_) AllReadyH.nil)
    go_simp
    refine hK.out _ _ S5 (fun hSR => ?_)
    clear hK K
    refine wpAnyH_ready (rs := [5]) (by kernel_rfl) (by simp) (AllReadyH.cons rfl (fun K hK => ?_) AllReadyH.nil)
    refine step_append2_eq (by rfl) (.tmp 10) (.tmp 14) _ _ (by rfl) (by rfl) (by rfl) Q.out ?_
    refine hK.out _ _ k1 (fun hSR => ?_)
    clear hK K
    simp only [Act.put]
    refine wpAnyH_take (i := 6) (v := ?_) rfl (by kernel_rfl) (by kernel_rfl) (by kernel_rfl) (fun _ _ _ h => h) (Or.inl ⟨by rfl, ?_⟩) hSR ?_
    rotate_left
    · (intro w' hSw; (try dsimp only at hSw); go_simp; (try with_reducible rfl))
    simp only [Act.put]
    refine wpAnyH_done (by kernel_rfl) ?_ _
    show Oper.wp _ _ _ _ _ _
    unfold Oper.wp
    go_simp
    refine ⟨((HKO.out.trans (KeepsOthers.of_below' HB5.out)).trans K4.out).from _, ?_, ⟨⟨_, _, K3.out, ?_⟩, ?_, ?_⟩⟩
    · have h := (KeepB.of_below (Lb := w.heap.size + 1) (HWD.out.mono HKB.out.1)).trans ((KeepB.of_below (HB5.out.mono hsz3)).trans K6.out)
      rw [hsz] at h
      exact h
    · rw [List.map_append, List.map_append, HM.out]; rfl
    · exact (HB.out.trans ((HWD.out.mono HB.out.size).trans (HB5.out.mono (Nat.le_trans HB.out.size HWD.out.size)))).trans K5.out
    · exact HKB.out.trans ((KeepB.of_below (HWD.out.mono HKB.out.1)).trans ((KeepB.of_below (HB5.out.mono hsz3)).trans K6.out))
  case done =>
    rintro D ys W hD hys hI hK
    have hI2 := OwnFrom.putObj (LI.own hBW.size) (.deferred none) hI hD hK rfl
    obtain ⟨⟨v, xs, ⟨hv, -, -⟩, -⟩, -, -⟩ := hI
    have hvc := hv.cell
    gi_wp2
    refine ⟨by simp, .inl ⟨_, _, rfl, run_takeDeferred hK, ?_⟩⟩
    obtain ⟨⟨v', xs', ⟨hv', ho', hp'⟩, hm'⟩, hB', -⟩ := hI2
    have : v' = v := by
      have h1 := hv'.cell
      have h2 := (Boxed.kept hv (grownBy_putObj' W D (.deferred none)) (fun e => by
        have := Option.some.inj e
        subst this
        rw [show W.heap[w.heap.size + 1]? = _ from hv] at hK
        cases hK)).cell
      rw [h1] at h2
      exact Option.some.inj h2
    subst this
    exact ⟨_, results_tmp rfl _ _ _, _, xs', rfl, own_base ho' hBW.size, fun x hx => (hp' x hx).1.at_, hm'.trans hys, hB', fun x hx a e => Nat.le_trans hBW.size ((hp' x hx).2 a e)⟩
  case stop =>
    rintro D c pre W _ _ h _
    exact h.elim
end Go.Proofs.YtboaamaneeodfaaGreat.Pool
namespace Go.Proofs.YtboaamaneeodfaaGreat.Pool
open Go.RowKit Gen

theorem nat_set3 {w : World} {A : Option Addr} {n c b : Nat} {l : List Int} (h : NAt w A n c l) (hA : ∀ a, A = some a → a.block ≠ b) (v0 v1 v2 : Value) : NAt (set3 w b v0 v1 v2) A n c l :=
  ⟨h.len, h.cap, h.max, h.nil, row_grown h.row (set3_grown w b v0 v1 v2) (fun _ a e e2 => hA a e (Option.some.inj e2))⟩
def ofP (high : Int) (l : List Int) : Po × Int := if PoolOk { high := high, free := l } 4096 then ({ high := high, free := l }, 0) else ({ high := 0 }, 61)
/-- .. whose row is told to lie in memory. -/
def PoolU (r : Po × Int) (w : World) (e : Ending) (w' : World) : Prop := ∃ a, e = .returned (.tuple #[poV r.1 a, numV r.2]) ∧ PoAt w' r.1 a ∧ Below w.heap.size w w' ∧ Fresh w.heap.size a ∧ (∀ x, a.A1 = some x → x.block < w'.heap.size) ∧ a.A2 = none
set_option maxRecDepth 100000 in
set_option maxHeartbeats 8000000 in
theorem of_w (high : Int) (A : Option Addr) (n c : Nat) (xs : List Part) (w : World) (hl : xs.length = n) (hn : n ≤ 100000) (hR : RowG w encS A xs) (hP : PartsW w xs) (hb : (allOf xs).length ≤ 100000) :
    Calls Tryz.prog 46 #[.int .i64 high, .slice A n c] w (PoolU (ofP high (allOf xs)) w) := by
  have b1 := below_box w (.cells #[.int .i64 0, .slice none 0 0, .slice none 0 0] 73)
  have cJ := joined_w A n c xs (w.alloc (.cells #[.int .i64 0, .slice none 0 0, .slice none 0 0] 73)) hl (by omega) (RowG.below hR b1) (hP.below b1) (by omega)
  have AZ := Lib.hid (po_box w { high := 0 } {})
  have BB := Lib.hid b1
  have SZ := Lib.hid (show (w.alloc (.cells #[.int .i64 0, .slice none 0 0, .slice none 0 0] 73)).heap.size = w.heap.size + 1 by simp)
  have e0 : poC { high := 0 } {} = #[.int .i64 0, .slice none 0 0, .slice none 0 0] := rfl
  rw [e0] at AZ
  clear hR hP b1 hl e0
  obtain ⟨W0, hW0⟩ : ∃ W0, w.alloc (.cells #[.int .i64 0, .slice none 0 0, .slice none 0 0] 73) = W0 := ⟨_, rfl⟩
  rw [hW0] at AZ BB SZ cJ
  generalize allOf xs = L at *
  go_enter Tryz.func46, Tryz.ntmps46
  go_wp2_with fail
  refine cJ.mono ?_
  rintro e w1 ⟨v, rfl, ho, hb1⟩
  obtain ⟨A1, n1, d1, rfl, hN, hbl⟩ := own_nums ho
  have HBL := Lib.hid (fun a (e : A1 = some a) => Nat.lt_of_lt_of_le (Nat.lt_of_lt_of_le (Nat.lt_succ_self w.heap.size) (Nat.le_of_eq SZ.out.symm)) (hbl a e))
  clear hbl
  have HUB := Lib.hid (fun x (e : A1 = some x) => (World.ownsRow.lt ho x.block (by rw [e]; rfl)).2)
  obtain rfl := hN.len
  have HN := Lib.hid hN
  have HB1 := Lib.hid (BB.out.trans (hb1.mono BB.out.size))
  have AZ1 := Lib.hid (AZ.out.below hb1 AZ.out.1)
  have SZ1 := Lib.hid (show w.heap.size + 1 ≤ w1.heap.size by have := SZ.out; have := hb1.size; omega)
  have hz := Lib.hid (show At (w1.alloc (.cells #[.int .i64 0, .slice none 0 0, .slice none 0 0] 73)) w1.heap.size #[.int .i64 0, .slice none 0 0, .slice none 0 0] from po_box w1 { high := 0 } {})
  obtain ⟨W2, hW2⟩ : ∃ W2, w1.alloc (.cells #[.int .i64 0, .slice none 0 0, .slice none 0 0] 73) = W2 := ⟨_, rfl⟩
  have B2 := Lib.hid (below_box w1 (.cells #[.int .i64 0, .slice none 0 0, .slice none 0 0] 73))
  rw [hW2] at hz B2
  have r0 : W2.cell? ⟨w1.heap.size, 0, none⟩ = some (.int .i64 0) := hz.out.2.2 0 _ rfl
  have r1 : W2.cell? ⟨w1.heap.size, 1, none⟩ = some (.slice none 0 0) := hz.out.2.2 1 _ rfl
  have r2 : W2.cell? ⟨w1.heap.size, 2, none⟩ = some (.slice none 0 0) := hz.out.2.2 2 _ rfl
  have fz := hz.out.2.1
  have A3 := Lib.hid (set3_at hz.out rfl (.int .i64 high) (.slice A1 L.length d1) (.slice none 0 0))
  have G3 := Lib.hid (set3_below B2.out (Nat.le_refl _) (.int .i64 high) (.slice A1 L.length d1) (.slice none 0 0))
  obtain ⟨W3, hW3⟩ : ∃ W3, set3 W2 w1.heap.size (.int .i64 high) (.slice A1 L.length d1) (.slice none 0 0) = W3 := ⟨_, rfl⟩
  rw [hW3] at A3 G3
  have N3 := Lib.hid (HN.out.below G3.out)
  have cK : Calls Tryz.prog 79 #[.agg #[.int .i64 high, .slice A1 L.length d1, .slice none 0 0], .int .i64 4096] W3 (Checks { high := high, free := L } 4096 W3) :=
    check_any { high := high, free := L } { A1 := A1, c1 := d1 } 4096 W3 ⟨N3.out, NAt.none _⟩ hb (Nat.zero_le _)
  have c0 : W3.cell? ⟨w1.heap.size, 0, none⟩ = some (.int .i64 high) := A3.out.2.2 0 _ rfl
  have c1 : W3.cell? ⟨w1.heap.size, 1, none⟩ = some (.slice A1 L.length d1) := A3.out.2.2 1 _ rfl
  have c2 : W3.cell? ⟨w1.heap.size, 2, none⟩ = some (.slice none 0 0) := A3.out.2.2 2 _ rfl
  have AZ3 := Lib.hid (AZ1.out.below (G3.out) (Nat.lt_of_lt_of_le (Nat.lt_succ_self _) SZ1.out))
  have HB3 := Lib.hid (HB1.out.trans (G3.out.mono HB1.out.size))
  unfold set3 at hW3
  clear ho hb1 hN cJ AZ BB SZ hW0 HN B2 hz HB1 AZ1
  go_wp2_with fail
  unfold Checks at cK
  by_cases hok : PoolOk { high := high, free := L } 4096
  · have HR : Hid (ofP high L = ({ high := high, free := L }, 0)) := Lib.hid (by unfold ofP; rw [if_pos hok])
    rw [if_pos hok] at cK
    refine cK.mono ?_
    rintro e w4 ⟨rfl, hb4⟩
    have A4 := Lib.hid (A3.out.below hb4 A3.out.1)
    have N4 := Lib.hid (N3.out.below hb4)
    have AZ4 := Lib.hid (AZ3.out.below hb4 AZ3.out.1)
    have HB4 := Lib.hid (HB3.out.trans (hb4.mono HB3.out.size))
    clear hW2 hW3 r0 r1 r2 fz c0 c1 c2 cK hok hb4
    have c0 : w4.cell? ⟨w1.heap.size, 0, none⟩ = some (.int .i64 high) := A4.out.2.2 0 _ rfl
    have c1 : w4.cell? ⟨w1.heap.size, 1, none⟩ = some (.slice A1 L.length d1) := A4.out.2.2 1 _ rfl
    have c2 : w4.cell? ⟨w1.heap.size, 2, none⟩ = some (.slice none 0 0) := A4.out.2.2 2 _ rfl
    have r0 : w4.cell? ⟨w.heap.size, 0, none⟩ = some (.int .i64 0) := AZ4.out.2.2 0 _ rfl
    have r1 : w4.cell? ⟨w.heap.size, 1, none⟩ = some (.slice none 0 0) := AZ4.out.2.2 1 _ rfl
    have r2 : w4.cell? ⟨w.heap.size, 2, none⟩ = some (.slice none 0 0) := AZ4.out.2.2 2 _ rfl
    have fz := AZ4.out.2.1
    have A5 := Lib.hid (set3_at AZ4.out rfl (.int .i64 high) (.slice A1 L.length d1) (.slice none 0 0))
    have B5 := Lib.hid (set3_below HB4.out (Nat.le_refl _) (.int .i64 high) (.slice A1 L.length d1) (.slice none 0 0))
    have N5 := Lib.hid (show NAt (set3 w4 w.heap.size (.int .i64 high) (.slice A1 L.length d1) (.slice none 0 0)) A1 L.length d1 L from nat_set3 N4.out (fun a e => Nat.ne_of_gt (HBL.out a e)) _ _ _)
    have SZ9 := Lib.hid (show ∀ x, A1 = some x → x.block < (set3 w4 w.heap.size (.int .i64 high) (.slice A1 L.length d1) (.slice none 0 0)).heap.size from fun x e => by have h1 := HUB.out x e; have h2 := A4.out.1; simp [set3]; omega)
    go_wp2_with fail
    change bodyPost _ _ _ _ _ (set3 w4 w.heap.size (.int .i64 high) (.slice A1 L.length d1) (.slice none 0 0))
    generalize set3 w4 w.heap.size (.int .i64 high) (.slice A1 L.length d1) (.slice none 0 0) = W9 at *
    clear r0 r1 r2 fz c0 c1 c2
    have c0 := A5.out.2.2 0 _ rfl
    have c1 := A5.out.2.2 1 _ rfl
    have c2 := A5.out.2.2 2 _ rfl
    refine bodyPost_ret (v := .tuple #[poV { high := high, free := L } { A1 := A1, c1 := d1 }, numV 0]) (by simp [results, Tryz.results46, go_sem, *]) rfl ?_
    rw [HR.out]
    exact ⟨{ A1 := A1, c1 := d1 }, rfl, ⟨N5.out, NAt.none _⟩, B5.out, ⟨fun x e => Nat.le_of_lt (HBL.out x e), fun x e => (by cases e)⟩, SZ9.out, rfl⟩
  · have HR : Hid (ofP high L = ({ high := 0 }, 61)) := Lib.hid (by unfold ofP; rw [if_neg hok])
    rw [if_neg hok] at cK
    refine cK.mono ?_
    rintro e w4 ⟨rfl, hb4⟩
    have AZ4 := Lib.hid (AZ3.out.below hb4 AZ3.out.1)
    have HB4 := Lib.hid (HB3.out.trans (hb4.mono HB3.out.size))
    clear hW2 hW3 r0 r1 r2 fz c0 c1 c2 cK hok hb4
    have r0 : w4.cell? ⟨w.heap.size, 0, none⟩ = some (.int .i64 0) := AZ4.out.2.2 0 _ rfl
    have r1 : w4.cell? ⟨w.heap.size, 1, none⟩ = some (.slice none 0 0) := AZ4.out.2.2 1 _ rfl
    have r2 : w4.cell? ⟨w.heap.size, 2, none⟩ = some (.slice none 0 0) := AZ4.out.2.2 2 _ rfl
    have fz := AZ4.out.2.1
    have A5 := Lib.hid (set3_at AZ4.out rfl (.int .i64 0) (.slice none 0 0) (.slice none 0 0))
    have B5 := Lib.hid (set3_below HB4.out (Nat.le_refl _) (.int .i64 0) (.slice none 0 0) (.slice none 0 0))
    go_wp2_with fail
    change bodyPost _ _ _ _ _ (set3 w4 w.heap.size (.int .i64 0) (.slice none 0 0) (.slice none 0 0))
    generalize set3 w4 w.heap.size (.int .i64 0) (.slice none 0 0) (.slice none 0 0) = W9 at *
    clear r0 r1 r2 fz
    have c0 := A5.out.2.2 0 _ rfl
    have c1 := A5.out.2.2 1 _ rfl
    have c2 := A5.out.2.2 2 _ rfl
    refine bodyPost_ret (v := .tuple #[poV { high := 0 } {}, numV 61]) (by simp [results, Tryz.results46, go_sem, *]) rfl ?_
    rw [HR.out]
    exact ⟨{}, rfl, none_at _, B5.out, Fresh.nil _, fun x e => (by cases e), rfl⟩
theorem of_any (high : Int) (A : Option Addr) (n c : Nat) (xs : List Part) (w : World) (hl : xs.length = n) (hn : n ≤ 100000) (hR : RowG w encS A xs) (hP : PartsIn w xs) (hb : (allOf xs).length ≤ 100000) :
    Calls Tryz.prog 46 #[.int .i64 high, .slice A n c] w (PoolE (ofP high (allOf xs)) w) := (of_w high A n c xs w hl hn hR hP.weak hb).mono (fun _ _ ⟨a, h1, h2, h3, h4, _⟩ => ⟨a, h1, h2, h3, h4⟩)
end Go.Proofs.YtboaamaneeodfaaGreat.Pool
