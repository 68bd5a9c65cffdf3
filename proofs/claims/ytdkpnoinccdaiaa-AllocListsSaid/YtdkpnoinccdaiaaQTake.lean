/-
  Contract of alloc's Take.
-/
import Derived.Test.YtdkpnoinccdaiaaQGive
import Derived.IntWalk
namespace Go.Proofs.Ytdkpnoinccdaiaa.Pool
open Go.RowKit Gen

set_option maxRecDepth 100000 in
set_option maxHeartbeats 8000000 in
theorem take_fresh (p : Po) (a : La) (most : Int) (w : World) (h : PoAt w p a) (hf : p.free.length ≤ 100000) (hl : p.limbo.length ≤ 100000) (hi : -9223372036854775808 ≤ p.high) (hm : most ≤ 9223372036854775807) : Calls Try.prog 12 #[poV p a, .int .i64 most] w (PoolNF (takeP p most) w) := by
  obtain ⟨t1, t2, t3, t4⟩ := two_boxes w p a
  have HH := Lib.hid h
  have h0 := h.below t3
  have AT := Lib.hid t1
  have AZ := Lib.hid t2
  have BB := Lib.hid t3
  unfold poV
  obtain ⟨W0, hW0⟩ : ∃ W0, (w.alloc (.cells (poC p a) 25)).alloc (.cells #[.int .i64 0, .slice none 0 0, .slice none 0 0] 25) = W0 := ⟨_, rfl⟩
  have e0 : poC { high := 0 } {} = #[.int .i64 0, .slice none 0 0, .slice none 0 0] := rfl
  rw [e0] at t4 h0 AT AZ BB
  rw [hW0] at AT AZ BB t4 h0
  have HP := Lib.hid h0
  have HS := Lib.hid (Nat.le_of_eq t4.symm)
  obtain ⟨c0, c1, c2⟩ := po_cells AT.out
  clear t1 t2 t3 t4 h0 h e0
  rcases hfr : p.free with _ | ⟨x, fs⟩
  rotate_left
  · have HN := Lib.hid (show takeP p most = ({ high := p.high, free := fs, limbo := p.limbo }, x, 0) by unfold takeP; rw [hfr])
    have hf2 := HP.out.f
    have hf3 := HH.out.f
    rw [hfr] at hf2 hf3 hf
    obtain ⟨b, off, hA, hlt, hc⟩ := hf3.row (by simp)
    have hx : w.cell? ⟨b, off, none⟩ = some (.int .i64 x) := hc 0 (by simp)
    have ht := hf2.tail (k := 1) (by simp)
    have q : ∀ W, (Instr.slice 23 (.slice a.A1 (x :: fs).length a.c1) (some (.int .i64 1)) none none).run Try.prog W = .ok (.slice (if a.c1 = 1 then a.A1 else a.A1.map (·.add 1)) ((x :: fs).length - 1) (a.c1 - 1)) W := fun W => tail_run a.A1 _ a.c1 1 (by simp) W
    rw [show (x :: fs).length - 1 = fs.length from rfl] at q ht
    rw [show (x :: fs).drop 1 = fs from rfl] at ht
    generalize (if a.c1 = 1 then a.A1 else a.A1.map (·.add 1)) = A3 at q ht
    generalize a.c1 - 1 = c3 at q ht
    obtain ⟨nf, hnf⟩ : ∃ nf, (x :: fs).length = nf := ⟨_, rfl⟩
    rw [hfr, hnf, hA] at c1
    rw [hnf, hA] at q
    have hnf0 : (0 : Int) < (nf : Int) := by rw [← hnf]; simp
    have hfs : fs.length ≤ 100000 := by simp at hf; omega
    have HT := Lib.hid ht
    have hx0 : W0.cell? ⟨b, off, none⟩ = some (.int .i64 x) := (BB.out.cell (p := ⟨b, off, none⟩) hlt).trans hx
    have KS := Lib.hid (show ∀ w', Below W0.heap.size W0 w' → w'.cell? ⟨w.heap.size, 0, none⟩ = some (.int .i64 p.high) ∧ w'.cell? ⟨w.heap.size, 1, none⟩ = some (.slice (some ⟨b, off, none⟩) nf a.c1) ∧ w'.cell? ⟨w.heap.size, 2, none⟩ = some (.slice a.A2 p.limbo.length a.c2) ∧ w'.cell? ⟨b, off, none⟩ = some (.int .i64 x) from fun w' hB => by
      have g := po_cells (AT.out.below hB AT.out.1)
      rw [hfr, hnf, hA] at g
      exact ⟨g.1, g.2.1, g.2.2, (hB.cell (p := ⟨b, off, none⟩) (Nat.lt_of_lt_of_le hlt BB.out.size)).trans hx0⟩)
    have KX := Lib.hid (show ∀ w', Below W0.heap.size W0 w' → ∀ v1 v2, (fun w' => w'.cell? ⟨w.heap.size, 0, none⟩ = some (.int .i64 p.high) ∧ w'.cell? ⟨w.heap.size, 1, none⟩ = some (.slice (some ⟨b, off, none⟩) nf a.c1) ∧ w'.cell? ⟨w.heap.size, 2, none⟩ = some (.slice a.A2 p.limbo.length a.c2) ∧ w'.cell? ⟨b, off, none⟩ = some (.int .i64 x)) (set3 w' (w.heap.size + 1) (.int .i64 p.high) v1 v2) from fun w' hB v1 v2 => by
      have g := po_cells (set3_other (AT.out.below hB AT.out.1) (Nat.succ_ne_self _) (.int .i64 p.high) v1 v2)
      rw [hfr, hnf, hA] at g
      exact ⟨g.1, g.2.1, g.2.2, ((set3_below (Below.refl w.heap.size w') (Nat.le_succ _) (.int .i64 p.high) v1 v2).cell (p := ⟨b, off, none⟩) hlt).trans ((hB.cell (p := ⟨b, off, none⟩) (Nat.lt_of_lt_of_le hlt BB.out.size)).trans hx0)⟩)
    have J1 := Lib.hid (show ∀ W b, Below W0.heap.size W0 W → W.cell? ⟨b, 0, none⟩ = some (.slice A3 fs.length c3) → b < W.heap.size → Calls Try.prog 28 #[.slice (some ⟨b, 0, none⟩) 1 1] W (Owns fs W) from fun W b hB hc hb => join_at (A3, c3, fs) W b hc hb (HT.out.below hB) (by simp only; omega))
    have J2 := Lib.hid (show ∀ W b, Below W0.heap.size W0 W → W.cell? ⟨b, 0, none⟩ = some (.slice a.A2 p.limbo.length a.c2) → b < W.heap.size → Calls Try.prog 28 #[.slice (some ⟨b, 0, none⟩) 1 1] W (Owns p.limbo W) from fun W b hB hc hb => join_at (a.A2, a.c2, p.limbo) W b hc hb (HP.out.l.below hB) (by simp only; omega))
    clear hf2 hf3 hc hx ht hx0 hf hl
    go_enter Try.func12, Try.ntmps12
    go_wp2_with fail
    clear hW0 c0 c1 c2
    have BD := Lib.hid (show Below W0.heap.size W0 W0.drew from (Below.refl _ _).drew)
    have Ba := Lib.hid (show Below W0.heap.size W0 (W0.alloc (.cells #[.slice A3 fs.length c3] 23)).drew from (below_box W0 _).drew)
    have Bb := Lib.hid (show Below W0.heap.size W0 (W0.alloc (.cells #[.slice a.A2 p.limbo.length a.c2] 23)).drew from (below_box W0 _).drew)
    have Bab := Lib.hid (show Below W0.heap.size W0 ((W0.alloc (.cells #[.slice A3 fs.length c3] 23)).alloc (.cells #[.slice a.A2 p.limbo.length a.c2] 23)).drew from ((below_box W0 _).alloc (below_box W0 _).size _).drew)
    have Bba := Lib.hid (show Below W0.heap.size W0 ((W0.alloc (.cells #[.slice a.A2 p.limbo.length a.c2] 23)).alloc (.cells #[.slice A3 fs.length c3] 23)).drew from ((below_box W0 _).alloc (below_box W0 _).size _).drew)
    have K0 := Lib.hid (KS.out _ BD.out)
    have Ka := Lib.hid (KS.out _ Ba.out)
    have Kb := Lib.hid (KS.out _ Bb.out)
    have Kab := Lib.hid (KS.out _ Bab.out)
    have Kba := Lib.hid (KS.out _ Bba.out)
    have cA := J1.out (W0.alloc (.cells #[.slice A3 fs.length c3] 23)).drew W0.heap.size Ba.out (cell1D W0 (.slice A3 fs.length c3) 23).1 (cell1D W0 (.slice A3 fs.length c3) 23).2
    have cB := J1.out ((W0.alloc (.cells #[.slice A3 fs.length c3] 23)).alloc (.cells #[.slice a.A2 p.limbo.length a.c2] 23)).drew W0.heap.size Bab.out (cell2D W0 (.slice A3 fs.length c3) 23 (.slice a.A2 p.limbo.length a.c2) 23).1 (cell2D W0 (.slice A3 fs.length c3) 23 (.slice a.A2 p.limbo.length a.c2) 23).2.2.2
    have cC := J1.out ((W0.alloc (.cells #[.slice a.A2 p.limbo.length a.c2] 23)).alloc (.cells #[.slice A3 fs.length c3] 23)).drew (W0.heap.size + 1) Bba.out (cell2D W0 (.slice a.A2 p.limbo.length a.c2) 23 (.slice A3 fs.length c3) 23).2.1 (cell2D W0 (.slice a.A2 p.limbo.length a.c2) 23 (.slice A3 fs.length c3) 23).2.2.1
    have xb := Lib.hid (cell2D W0 (.slice A3 fs.length c3) 23 (.slice a.A2 p.limbo.length a.c2) 23).2.1
    have xc := Lib.hid (cell2D W0 (.slice a.A2 p.limbo.length a.c2) 23 (.slice A3 fs.length c3) 23).1
    have sb := Lib.hid (cell2D W0 (.slice A3 fs.length c3) 23 (.slice a.A2 p.limbo.length a.c2) 23).2.2.1
    have sc := Lib.hid (cell2D W0 (.slice a.A2 p.limbo.length a.c2) 23 (.slice A3 fs.length c3) 23).2.2.2
    clear J1
    go_region_held3 (fun w' => w'.cell? ⟨w.heap.size, 0, none⟩ = some (.int .i64 p.high) ∧ w'.cell? ⟨w.heap.size, 1, none⟩ = some (.slice (some ⟨b, off, none⟩) nf a.c1) ∧ w'.cell? ⟨w.heap.size, 2, none⟩ = some (.slice a.A2 p.limbo.length a.c2) ∧ w'.cell? ⟨b, off, none⟩ = some (.int .i64 x))
      (with_reducible (first | exact K0.out | exact Ka.out | exact Kb.out | exact Kab.out | exact Kba.out | exact K1.out | exact K1b.out | exact K2.out | exact K3.out))
      (first
        | (go_at_call 28; (with_reducible refine cA.mono ?_); rintro e w1 ⟨v1, rfl, ho, hb⟩
           have hB : Below W0.heap.size W0 w1 := Ba.out.trans (hb.mono Ba.out.size); have ho' := own_base ho Ba.out.size; have K1 := Lib.hid (KS.out _ hB); have hB2 := hB.alloc hB.size (.cells #[.slice a.A2 p.limbo.length a.c2] 23); have K1b := Lib.hid (KS.out _ hB2); have HBc := Lib.hid hB2; have HO1 := Lib.hid (OwnG.kept ho' (below_box w1 (.cells #[.slice a.A2 p.limbo.length a.c2] 23))); have cD := J2.out _ w1.heap.size hB2 (cell1 w1 (.slice a.A2 p.limbo.length a.c2) 23).1 (cell1 w1 (.slice a.A2 p.limbo.length a.c2) 23).2; clear hB2; clear ho hb hB ho')
        | (go_at_call 28; (with_reducible refine cB.mono ?_); rintro e w1 ⟨v1, rfl, ho, hb⟩
           have hB : Below W0.heap.size W0 w1 := Bab.out.trans (hb.mono Bab.out.size); have ho' := own_base ho Bab.out.size; have K1 := Lib.hid (KS.out _ hB); have HBc := Lib.hid hB; have HO1 := Lib.hid ho'; have cD := J2.out w1 (W0.heap.size + 1) hB ((hb.cell (p := ⟨W0.heap.size + 1, 0, none⟩) sb.out).trans xb.out) (Nat.lt_of_lt_of_le sb.out hb.size); clear ho hb hB ho')
        | (go_at_call 28; (with_reducible refine cC.mono ?_); rintro e w1 ⟨v1, rfl, ho, hb⟩
           have hB : Below W0.heap.size W0 w1 := Bba.out.trans (hb.mono Bba.out.size); have ho' := own_base ho Bba.out.size; have K1 := Lib.hid (KS.out _ hB); have HBc := Lib.hid hB; have HO1 := Lib.hid ho'; have cD := J2.out w1 W0.heap.size hB ((hb.cell (p := ⟨W0.heap.size, 0, none⟩) sc.out).trans xc.out) (Nat.lt_of_lt_of_le sc.out hb.size); clear ho hb hB ho')
        | (go_at_call 28; (with_reducible refine cD.mono ?_); rintro e w2 ⟨v2, rfl, ho2, hb2⟩
           have hB3 := HBc.out.trans (hb2.mono HBc.out.size)
           have K2 := Lib.hid (KS.out _ hB3)
           have HO1' := own_set3 (OwnG.kept HO1.out hb2) (b := w.heap.size + 1) (show w.heap.size + 1 < W0.heap.size by have := HS.out; omega) (.int .i64 p.high) v1 v2
           have HO2' := own_set3 (own_base ho2 HBc.out.size) (b := w.heap.size + 1) (show w.heap.size + 1 < W0.heap.size by have := HS.out; omega) (.int .i64 p.high) v1 v2
           have AZ2 := Lib.hid (AZ.out.below hB3 (by have := HS.out; omega))
           have A3 := Lib.hid (set3_at AZ2.out rfl (.int .i64 p.high) v1 v2)
           have B3 := Lib.hid (set3_below (BB.out.trans (hB3.mono BB.out.size)) (Nat.le_succ _) (.int .i64 p.high) v1 v2)
           have K3 := Lib.hid (KX.out _ hB3 v1 v2)
           have r0 : w2.cell? ⟨w.heap.size + 1, 0, none⟩ = some (.int .i64 0) := AZ2.out.2.2 0 _ rfl
           have r1 : w2.cell? ⟨w.heap.size + 1, 1, none⟩ = some (.slice none 0 0) := AZ2.out.2.2 1 _ rfl
           have r2 : w2.cell? ⟨w.heap.size + 1, 2, none⟩ = some (.slice none 0 0) := AZ2.out.2.2 2 _ rfl
           have fz := AZ2.out.2.1
           obtain ⟨X1', n1', d1', rfl, hN1, hf1⟩ := own_nums HO1'
           obtain ⟨X2', n2', d2', rfl, hN2, hf2⟩ := own_nums HO2'
           have HN1 := Lib.hid hN1
           have HN2 := Lib.hid hN2
           have HF1 := Lib.hid hf1
           have HF2 := Lib.hid hf2
           unfold set3 at K3
           clear ho2 hb2 hB3 hN1 hN2 hf1 hf2 HO1' HO2' HO1 cD))
    all_goals
      go_wp2_with fail
      change bodyPost _ _ _ _ _ (set3 w2 (w.heap.size + 1) (.int .i64 p.high) (.slice X1' n1' d1') (.slice X2' n2' d2'))
      generalize set3 w2 (w.heap.size + 1) (.int .i64 p.high) (.slice X1' n1' d1') (.slice X2' n2' d2') = W9 at *
      clear r0 r1 r2 fz K0 Ka Kb Kab Kba K2 K3
      have c0 := A3.out.2.2 0 _ rfl
      have c1 := A3.out.2.2 1 _ rfl
      have c2 := A3.out.2.2 2 _ rfl
      obtain rfl := HN1.out.len
      obtain rfl := HN2.out.len
      refine bodyPost_ret (v := .tuple #[poV { high := p.high, free := fs, limbo := p.limbo } { A1 := X1', c1 := d1', A2 := X2', c2 := d2' }, numV x, numV 0]) (by simp [results, Try.results12, go_sem, *]) rfl ?_
      exact ⟨{ A1 := X1', c1 := d1', A2 := X2', c2 := d2' }, by rw [HN.out], by rw [HN.out]; exact ⟨HN1.out, HN2.out⟩, B3.out, fun x e => Nat.le_trans BB.out.size (HF1.out x e), fun x e => Nat.le_trans BB.out.size (HF2.out x e)⟩
  rw [hfr] at c1
  have d0 : decide ((0 : Int) < (0 : Int)) = false := by simp
  by_cases hmh : most ≤ p.high
  · have HN : Hid (takeP p most = ({ high := 0 }, 0, 60)) := Lib.hid (by unfold takeP; rw [hfr]; simp only; rw [if_pos hmh])
    have d1 : decide (most ≤ p.high) = true := by simp [hmh]
    have r0 : W0.cell? ⟨w.heap.size + 1, 0, none⟩ = some (.int .i64 0) := AZ.out.2.2 0 _ rfl
    have r1 : W0.cell? ⟨w.heap.size + 1, 1, none⟩ = some (.slice none 0 0) := AZ.out.2.2 1 _ rfl
    have r2 : W0.cell? ⟨w.heap.size + 1, 2, none⟩ = some (.slice none 0 0) := AZ.out.2.2 2 _ rfl
    have fz := AZ.out.2.1
    have A3 := Lib.hid (set3_at AZ.out rfl (.int .i64 0) (.slice none 0 0) (.slice none 0 0))
    have B3 := Lib.hid (set3_below BB.out (Nat.le_succ _) (.int .i64 0) (.slice none 0 0) (.slice none 0 0))
    clear hmh hf hl
    go_enter Try.func12, Try.ntmps12
    go_wp2_with fail
    change bodyPost _ _ _ _ _ (set3 W0 (w.heap.size + 1) (.int .i64 0) (.slice none 0 0) (.slice none 0 0))
    generalize set3 W0 (w.heap.size + 1) (.int .i64 0) (.slice none 0 0) (.slice none 0 0) = W9 at *
    clear r0 r1 r2 fz c0 c1 c2
    have c0 := A3.out.2.2 0 _ rfl
    have c1 := A3.out.2.2 1 _ rfl
    have c2 := A3.out.2.2 2 _ rfl
    refine bodyPost_ret (v := .tuple #[poV { high := 0 } {}, numV 0, numV 60]) (by simp [results, Try.results12, go_sem, *]) rfl ?_
    rw [HN.out]
    exact ⟨{}, rfl, none_at _, B3.out, fun x e => (by cases e), fun x e => (by cases e)⟩
  have HN : Hid (takeP p most = ({ high := p.high + 1, limbo := p.limbo }, p.high, 0)) := Lib.hid (by unfold takeP; rw [hfr]; simp only; rw [if_neg hmh])
  have d1 : decide (most ≤ p.high) = false := by simp; omega
  have hb1 := below_box W0 (.cells #[.slice a.A2 p.limbo.length a.c2] 23)
  have KS := Lib.hid (show ∀ w', Below W0.heap.size W0 w' → w'.cell? ⟨w.heap.size, 0, none⟩ = some (.int .i64 p.high) ∧ w'.cell? ⟨w.heap.size, 2, none⟩ = some (.slice a.A2 p.limbo.length a.c2) from fun w' hB => by
    have g := po_cells (AT.out.below hB AT.out.1)
    exact ⟨g.1, g.2.2⟩)
  have KX := Lib.hid (show ∀ w', Below W0.heap.size W0 w' → ∀ v0 v1 v2, (fun w' => w'.cell? ⟨w.heap.size, 0, none⟩ = some (.int .i64 p.high) ∧ w'.cell? ⟨w.heap.size, 2, none⟩ = some (.slice a.A2 p.limbo.length a.c2)) (set3 w' (w.heap.size + 1) v0 v1 v2) from fun w' hB v0 v1 v2 => by
    have g := po_cells (set3_other (AT.out.below hB AT.out.1) (Nat.succ_ne_self _) v0 v1 v2)
    exact ⟨g.1, g.2.2⟩)
  have K0 := Lib.hid (KS.out W0.drew (Below.refl _ _).drew)
  have Ba := Lib.hid (show Below W0.heap.size W0 (W0.alloc (.cells #[.slice a.A2 p.limbo.length a.c2] 23)).drew from hb1.drew)
  have Ka := Lib.hid (KS.out _ Ba.out)
  have cJ := join_at (a.A2, a.c2, p.limbo) (W0.alloc (.cells #[.slice a.A2 p.limbo.length a.c2] 23)).drew W0.heap.size (cell1 W0 (.slice a.A2 p.limbo.length a.c2) 23).1 (cell1 W0 (.slice a.A2 p.limbo.length a.c2) 23).2 (HP.out.l.below Ba.out) (by simp only; omega)
  have hw : IntKind.i64.wrap (p.high + 1) = p.high + 1 := IntWalk.i64_in _ (by omega)
  clear hmh hf hl hb1
  go_enter Try.func12, Try.ntmps12
  go_wp2_with fail
  clear hW0 c0 c1 c2 hi hm
  go_region_held3 (fun w' => w'.cell? ⟨w.heap.size, 0, none⟩ = some (.int .i64 p.high) ∧ w'.cell? ⟨w.heap.size, 2, none⟩ = some (.slice a.A2 p.limbo.length a.c2))
    (with_reducible (first | exact K0.out | exact Ka.out | exact K1.out | exact K2.out))
    ((go_at_call 28; (with_reducible refine cJ.mono ?_); rintro e w1 ⟨v1, rfl, ho, hb⟩
      have hB := Ba.out.trans (hb.mono Ba.out.size)
      have K1 := Lib.hid (KS.out _ hB)
      have HO1' := own_set3 (own_base ho Ba.out.size) (b := w.heap.size + 1) (show w.heap.size + 1 < W0.heap.size by have := HS.out; omega) (.int .i64 (p.high + 1)) (.slice none 0 0) v1
      have AZ2 := Lib.hid (AZ.out.below hB (by have := HS.out; omega))
      have A3 := Lib.hid (set3_at AZ2.out rfl (.int .i64 (p.high + 1)) (.slice none 0 0) v1)
      have B3 := Lib.hid (set3_below (BB.out.trans (hB.mono BB.out.size)) (Nat.le_succ _) (.int .i64 (p.high + 1)) (.slice none 0 0) v1)
      have K2 := Lib.hid (KX.out _ hB (.int .i64 (p.high + 1)) (.slice none 0 0) v1)
      have r0 : w1.cell? ⟨w.heap.size + 1, 0, none⟩ = some (.int .i64 0) := AZ2.out.2.2 0 _ rfl
      have r1 : w1.cell? ⟨w.heap.size + 1, 1, none⟩ = some (.slice none 0 0) := AZ2.out.2.2 1 _ rfl
      have r2 : w1.cell? ⟨w.heap.size + 1, 2, none⟩ = some (.slice none 0 0) := AZ2.out.2.2 2 _ rfl
      have fz := AZ2.out.2.1
      obtain ⟨X1', n1', d1', rfl, hN1, hf1⟩ := own_nums HO1'
      have HN1 := Lib.hid hN1
      have HF1 := Lib.hid hf1
      unfold set3 at K2
      clear ho hb hB hN1 hf1 HO1'))
  go_wp2_with fail
  change bodyPost _ _ _ _ _ (set3 w1 (w.heap.size + 1) (.int .i64 (p.high + 1)) (.slice none 0 0) (.slice X1' n1' d1'))
  generalize set3 w1 (w.heap.size + 1) (.int .i64 (p.high + 1)) (.slice none 0 0) (.slice X1' n1' d1') = W9 at *
  clear r0 r1 r2 fz K0 Ka K1 K2 hw
  have c0 := A3.out.2.2 0 _ rfl
  have c1 := A3.out.2.2 1 _ rfl
  have c2 := A3.out.2.2 2 _ rfl
  obtain rfl := HN1.out.len
  refine bodyPost_ret (v := .tuple #[poV { high := p.high + 1, limbo := p.limbo } { A2 := X1', c2 := d1' }, numV p.high, numV 0]) (by simp [results, Try.results12, go_sem, *]) rfl ?_
  rw [HN.out]
  exact ⟨{ A2 := X1', c2 := d1' }, rfl, ⟨NAt.none _, HN1.out⟩, B3.out, fun x e => (by cases e), fun x e => Nat.le_trans BB.out.size (HF1.out x e)⟩
theorem take_any (p : Po) (a : La) (most : Int) (w : World) (h : PoAt w p a) (hf : p.free.length ≤ 100000) (hl : p.limbo.length ≤ 100000) (hi : -9223372036854775808 ≤ p.high) (hm : most ≤ 9223372036854775807) : Calls Try.prog 12 #[poV p a, .int .i64 most] w (PoolN (takeP p most) w) :=
  (take_fresh p a most w h hf hl hi hm).mono fun _ _ ⟨a, h1, h2, h3, _⟩ => ⟨a, h1, h2, h3⟩
end Go.Proofs.Ytdkpnoinccdaiaa.Pool
