/-
  Contracts of the document's own Give, Back.
-/
import Derived.Test.YtdkpnoinccdaiaaQRef5
namespace Go.Proofs.Ytdkpnoinccdaiaa.Pool
open Go.RowKit Gen

set_option maxRecDepth 100000 in
set_option maxHeartbeats 8000000 in
theorem rGive_any (p : Po) (a : La) (n : Int) (w : World) (h : PoAt w p a) (hf : p.free.length ≤ 100000) (hl : p.limbo.length ≤ 100000) : Calls Try.prog 15 #[poV p a, .int .i64 n] w (PoolE (giveP p n) w) := by
  obtain ⟨t1, t2, t3, t4⟩ := two_boxes w p a
  have h0 := h.below t3
  have AT := Lib.hid t1
  have AZ := Lib.hid t2
  have BB := Lib.hid t3
  unfold poV
  obtain ⟨W0, hW0⟩ : ∃ W0, (w.alloc (.cells (poC p a) 25)).alloc (.cells #[.int .i64 0, .slice none 0 0, .slice none 0 0] 25) = W0 := ⟨_, rfl⟩
  have e0 : poC { high := 0 } {} = #[.int .i64 0, .slice none 0 0, .slice none 0 0] := rfl
  rw [e0] at t4 h0 AT AZ BB
  rw [hW0] at AT AZ BB t4 h0
  have HP := Lib.hid h0
  have HS := Lib.hid (Nat.le_of_eq t4.symm)
  obtain ⟨c0, c1, c2⟩ := po_cells AT.out
  clear t1 t2 t3 t4 h0 h e0
  have cM := rMay_any p a n W0 HP.out
  have hh0 : W0.cell? ⟨w.heap.size + 1, 0, none⟩ = some (.int .i64 0) := AZ.out.2.2 0 _ rfl
  unfold poV at cM
  go_enter Try.func15, Try.ntmps15
  go_wp2_with fail
  refine cM.mono ?_
  rintro e w0 ⟨r, rfl, hr, hb⟩
  clear hW0 c0 c1 c2 cM hh0
  replace AT := Lib.hid (AT.out.below hb AT.out.1)
  replace AZ := Lib.hid (AZ.out.below hb (by have := HS.out; omega))
  replace BB := Lib.hid (BB.out.trans (hb.mono BB.out.size))
  replace HP := Lib.hid (HP.out.below hb)
  replace HS := Lib.hid (Nat.le_trans HS.out hb.size)
  clear hb
  rcases r with _ | _
  · have HN : Hid (giveP p n = ({ high := 0 }, 1)) := Lib.hid (by unfold giveP; rw [if_neg (fun g => by cases hr.2 g)])
    clear hr
    have r0 : w0.cell? ⟨w.heap.size + 1, 0, none⟩ = some (.int .i64 0) := AZ.out.2.2 0 _ rfl
    have r1 : w0.cell? ⟨w.heap.size + 1, 1, none⟩ = some (.slice none 0 0) := AZ.out.2.2 1 _ rfl
    have r2 : w0.cell? ⟨w.heap.size + 1, 2, none⟩ = some (.slice none 0 0) := AZ.out.2.2 2 _ rfl
    have fz := AZ.out.2.1
    have A3 := Lib.hid (set3_at AZ.out rfl (.int .i64 0) (.slice none 0 0) (.slice none 0 0))
    have B3 := Lib.hid (set3_below BB.out (Nat.le_succ _) (.int .i64 0) (.slice none 0 0) (.slice none 0 0))
    go_wp2_with fail
    change bodyPost _ _ _ _ _ (set3 w0 (w.heap.size + 1) (.int .i64 0) (.slice none 0 0) (.slice none 0 0))
    generalize set3 w0 (w.heap.size + 1) (.int .i64 0) (.slice none 0 0) (.slice none 0 0) = W9 at *
    clear r0 r1 r2 fz
    have c0 := A3.out.2.2 0 _ rfl
    have c1 := A3.out.2.2 1 _ rfl
    have c2 := A3.out.2.2 2 _ rfl
    refine bodyPost_ret (v := .tuple #[poV { high := 0 } {}, numV 1]) (by simp [results, Try.results15, go_sem, *]) rfl ?_
    rw [HN.out]
    exact ⟨{}, rfl, none_at _, B3.out⟩
  have HN : Hid (giveP p n = ({ high := p.high, free := p.free, limbo := (lay1 n p.limbo) }, 0)) := Lib.hid (by unfold giveP; rw [if_pos (hr.1 rfl)])
  clear hr
  obtain ⟨c0, c1, c2⟩ := po_cells AT.out
  have cO := rOwn_any p a w0 HP.out hf hl
  unfold poV at cO
  go_wp2_with fail
  refine cO.mono ?_
  rintro e w1 ⟨a1, rfl, hp1, hb1, hfr1⟩
  have AZ1 := Lib.hid (AZ.out.below hb1 (by have := HS.out; omega))
  have BB1 := Lib.hid (BB.out.trans (hb1.mono BB.out.size))
  have HF1 := Lib.hid (show (∀ x, a1.A1 = some x → w.heap.size + 2 ≤ x.block) ∧ ∀ x, a1.A2 = some x → w.heap.size + 2 ≤ x.block from ⟨fun x e => Nat.le_trans HS.out (hfr1.1 x e), fun x e => Nat.le_trans HS.out (hfr1.2 x e)⟩)
  have SZ1 := Lib.hid (show w.heap.size + 2 ≤ w1.heap.size from Nat.le_trans HS.out hb1.size)
  have P1 := Lib.hid hp1
  clear hb1 hp1 hfr1 cO HP AT AZ BB HS c0 c1 c2
  obtain ⟨Wz, W1, z1, r0, r1, r2, fz, s1, at1, bl1, lt1⟩ := put_box w1 (.int .i64 p.high) (.slice a1.A1 p.free.length a1.c1) (.slice a1.A2 p.limbo.length a1.c2)
  have A1 := Lib.hid (show At W1 w1.heap.size (poC p a1) from at1)
  have BL1 := Lib.hid bl1
  have AZ2 := Lib.hid (AZ1.out.below bl1 (by have := SZ1.out; omega))
  have BB2 := Lib.hid (BB1.out.trans (bl1.mono BB1.out.size))
  clear at1 bl1
  have hx : W1.cell? ⟨w1.heap.size, 2, none⟩ = some (.slice a1.A2 p.limbo.length a1.c2) := A1.out.2.2 2 _ rfl
  have cL := rLaid_any a1.A2 _ a1.c2 p.limbo n W1 (P1.out.l.below BL1.out) (by omega)
  go_wp2_with fail
  clear z1 r0 r1 r2 fz s1 lt1 hx
  refine cL.mono ?_
  rintro e w2 ⟨v, rfl, ho, hb2⟩
  have A2 := Lib.hid (A1.out.below hb2 A1.out.1)
  have AZ3 := Lib.hid (AZ2.out.below hb2 AZ2.out.1)
  have BB3 := Lib.hid (BB2.out.trans (hb2.mono BB2.out.size))
  have BL2 := Lib.hid (BL1.out.trans (hb2.mono BL1.out.size))
  have LT := Lib.hid A1.out.1
  obtain ⟨X, nx, dx, rfl, hN, hX⟩ := own_nums ho
  obtain rfl := hN.len
  have HO := Lib.hid (show ∀ v0 v1 v2, NAt (set3 (w2.setCell ⟨w1.heap.size, 2, none⟩ (.slice X (lay1 n p.limbo).length dx)) (w.heap.size + 1) v0 v1 v2) X (lay1 n p.limbo).length dx (lay1 n p.limbo) from fun v0 v1 v2 => own_nat (own_set3 (own_kept ho (grown_set w2 w1.heap.size 2 _) (by
    right
    intro e2
    have := (World.ownsRow.lt ho _ e2).1
    have := LT.out
    omega)) (b := w.heap.size + 1) (by have := SZ1.out; have := LT.out; omega) v0 v1 v2))
  clear cL ho hb2 hN hX A1 AZ2 BB2 BL1
  have AB := Lib.hid (show At (w2.setCell ⟨w1.heap.size, 2, none⟩ (.slice X (lay1 n p.limbo).length dx)) w1.heap.size #[.int .i64 p.high, .slice a1.A1 p.free.length a1.c1, .slice X (lay1 n p.limbo).length dx] from A2.out.set 2 (.slice X (lay1 n p.limbo).length dx) (by simp))
  have AY := Lib.hid (AZ3.out.set_other (b' := w1.heap.size) (i := 2) (v := .slice X (lay1 n p.limbo).length dx) (by have := SZ1.out; omega))
  have BY := Lib.hid (BB3.out.setCell (p := ⟨w1.heap.size, 2, none⟩) (by have := SZ1.out; show w.heap.size ≤ w1.heap.size; omega) (.slice X (lay1 n p.limbo).length dx))
  have x0 : w2.cell? ⟨w1.heap.size, 2, none⟩ = some (.slice a1.A2 p.limbo.length a1.c2) := A2.out.2.2 2 _ rfl
  have xf := A2.out.2.1 2
  have y0 : (w2.setCell ⟨w1.heap.size, 2, none⟩ (.slice X (lay1 n p.limbo).length dx)).cell? ⟨w1.heap.size, 0, none⟩ = some (.int .i64 p.high) := AB.out.2.2 0 _ rfl
  have y1 : (w2.setCell ⟨w1.heap.size, 2, none⟩ (.slice X (lay1 n p.limbo).length dx)).cell? ⟨w1.heap.size, 1, none⟩ = some (.slice a1.A1 p.free.length a1.c1) := AB.out.2.2 1 _ rfl
  have y2 : (w2.setCell ⟨w1.heap.size, 2, none⟩ (.slice X (lay1 n p.limbo).length dx)).cell? ⟨w1.heap.size, 2, none⟩ = some (.slice X (lay1 n p.limbo).length dx) := AB.out.2.2 2 _ rfl
  have k0 : (w2.setCell ⟨w1.heap.size, 2, none⟩ (.slice X (lay1 n p.limbo).length dx)).cell? ⟨w.heap.size + 1, 0, none⟩ = some (.int .i64 0) := AY.out.2.2 0 _ rfl
  have k1 : (w2.setCell ⟨w1.heap.size, 2, none⟩ (.slice X (lay1 n p.limbo).length dx)).cell? ⟨w.heap.size + 1, 1, none⟩ = some (.slice none 0 0) := AY.out.2.2 1 _ rfl
  have k2 : (w2.setCell ⟨w1.heap.size, 2, none⟩ (.slice X (lay1 n p.limbo).length dx)).cell? ⟨w.heap.size + 1, 2, none⟩ = some (.slice none 0 0) := AY.out.2.2 2 _ rfl
  have fk := AY.out.2.1
  have A3 := Lib.hid (set3_at AY.out rfl (.int .i64 p.high) (.slice a1.A1 p.free.length a1.c1) (.slice X (lay1 n p.limbo).length dx))
  have B3 := Lib.hid (set3_below BY.out (Nat.le_succ _) (.int .i64 p.high) (.slice a1.A1 p.free.length a1.c1) (.slice X (lay1 n p.limbo).length dx))
  have N3 := Lib.hid (show PoAt (set3 (w2.setCell ⟨w1.heap.size, 2, none⟩ (.slice X (lay1 n p.limbo).length dx)) (w.heap.size + 1) (.int .i64 p.high) (.slice a1.A1 p.free.length a1.c1) (.slice X (lay1 n p.limbo).length dx)) { high := p.high, free := p.free, limbo := (lay1 n p.limbo) } { A1 := a1.A1, c1 := a1.c1, A2 := X, c2 := dx } from ⟨nat_two P1.out.f BL2.out HF1.out.1 (Nat.le_refl _) _ _ _ _, HO.out _ _ _⟩)
  go_wp2_with fail
  change bodyPost _ _ _ _ _ (set3 (w2.setCell ⟨w1.heap.size, 2, none⟩ (.slice X (lay1 n p.limbo).length dx)) (w.heap.size + 1) (.int .i64 p.high) (.slice a1.A1 p.free.length a1.c1) (.slice X (lay1 n p.limbo).length dx))
  generalize set3 (w2.setCell ⟨w1.heap.size, 2, none⟩ (.slice X (lay1 n p.limbo).length dx)) (w.heap.size + 1) (.int .i64 p.high) (.slice a1.A1 p.free.length a1.c1) (.slice X (lay1 n p.limbo).length dx) = W9 at *
  clear x0 xf y0 y1 y2 k0 k1 k2 fk
  have c0 := A3.out.2.2 0 _ rfl
  have c1 := A3.out.2.2 1 _ rfl
  have c2 := A3.out.2.2 2 _ rfl
  refine bodyPost_ret (v := .tuple #[poV { high := p.high, free := p.free, limbo := (lay1 n p.limbo) } { A1 := a1.A1, c1 := a1.c1, A2 := X, c2 := dx }, numV 0]) (by simp [results, Try.results15, go_sem, *]) rfl ?_
  rw [HN.out]
  exact ⟨{ A1 := a1.A1, c1 := a1.c1, A2 := X, c2 := dx }, rfl, N3.out, B3.out⟩
set_option maxRecDepth 100000 in
set_option maxHeartbeats 8000000 in
theorem rBack_any (p : Po) (a : La) (n : Int) (w : World) (h : PoAt w p a) (hf : p.free.length ≤ 100000) (hl : p.limbo.length ≤ 100000) : Calls Try.prog 17 #[poV p a, .int .i64 n] w (PoolE (backP p n) w) := by
  obtain ⟨t1, t2, t3, t4⟩ := two_boxes w p a
  have h0 := h.below t3
  have AT := Lib.hid t1
  have AZ := Lib.hid t2
  have BB := Lib.hid t3
  unfold poV
  obtain ⟨W0, hW0⟩ : ∃ W0, (w.alloc (.cells (poC p a) 25)).alloc (.cells #[.int .i64 0, .slice none 0 0, .slice none 0 0] 25) = W0 := ⟨_, rfl⟩
  have e0 : poC { high := 0 } {} = #[.int .i64 0, .slice none 0 0, .slice none 0 0] := rfl
  rw [e0] at t4 h0 AT AZ BB
  rw [hW0] at AT AZ BB t4 h0
  have HP := Lib.hid h0
  have HS := Lib.hid (Nat.le_of_eq t4.symm)
  obtain ⟨c0, c1, c2⟩ := po_cells AT.out
  clear t1 t2 t3 t4 h0 h e0
  have cM := rMay_any p a n W0 HP.out
  have hh0 : W0.cell? ⟨w.heap.size + 1, 0, none⟩ = some (.int .i64 0) := AZ.out.2.2 0 _ rfl
  unfold poV at cM
  go_enter Try.func17, Try.ntmps17
  go_wp2_with fail
  refine cM.mono ?_
  rintro e w0 ⟨r, rfl, hr, hb⟩
  clear hW0 c0 c1 c2 cM hh0
  replace AT := Lib.hid (AT.out.below hb AT.out.1)
  replace AZ := Lib.hid (AZ.out.below hb (by have := HS.out; omega))
  replace BB := Lib.hid (BB.out.trans (hb.mono BB.out.size))
  replace HP := Lib.hid (HP.out.below hb)
  replace HS := Lib.hid (Nat.le_trans HS.out hb.size)
  clear hb
  rcases r with _ | _
  · have HN : Hid (backP p n = ({ high := 0 }, 1)) := Lib.hid (by unfold backP; rw [if_neg (fun g => by cases hr.2 g)])
    clear hr
    have r0 : w0.cell? ⟨w.heap.size + 1, 0, none⟩ = some (.int .i64 0) := AZ.out.2.2 0 _ rfl
    have r1 : w0.cell? ⟨w.heap.size + 1, 1, none⟩ = some (.slice none 0 0) := AZ.out.2.2 1 _ rfl
    have r2 : w0.cell? ⟨w.heap.size + 1, 2, none⟩ = some (.slice none 0 0) := AZ.out.2.2 2 _ rfl
    have fz := AZ.out.2.1
    have A3 := Lib.hid (set3_at AZ.out rfl (.int .i64 0) (.slice none 0 0) (.slice none 0 0))
    have B3 := Lib.hid (set3_below BB.out (Nat.le_succ _) (.int .i64 0) (.slice none 0 0) (.slice none 0 0))
    go_wp2_with fail
    change bodyPost _ _ _ _ _ (set3 w0 (w.heap.size + 1) (.int .i64 0) (.slice none 0 0) (.slice none 0 0))
    generalize set3 w0 (w.heap.size + 1) (.int .i64 0) (.slice none 0 0) (.slice none 0 0) = W9 at *
    clear r0 r1 r2 fz
    have c0 := A3.out.2.2 0 _ rfl
    have c1 := A3.out.2.2 1 _ rfl
    have c2 := A3.out.2.2 2 _ rfl
    refine bodyPost_ret (v := .tuple #[poV { high := 0 } {}, numV 1]) (by simp [results, Try.results17, go_sem, *]) rfl ?_
    rw [HN.out]
    exact ⟨{}, rfl, none_at _, B3.out⟩
  have HN : Hid (backP p n = ({ high := p.high, free := (lay1 n p.free), limbo := p.limbo }, 0)) := Lib.hid (by unfold backP; rw [if_pos (hr.1 rfl)])
  clear hr
  obtain ⟨c0, c1, c2⟩ := po_cells AT.out
  have cO := rOwn_any p a w0 HP.out hf hl
  unfold poV at cO
  go_wp2_with fail
  refine cO.mono ?_
  rintro e w1 ⟨a1, rfl, hp1, hb1, hfr1⟩
  have AZ1 := Lib.hid (AZ.out.below hb1 (by have := HS.out; omega))
  have BB1 := Lib.hid (BB.out.trans (hb1.mono BB.out.size))
  have HF1 := Lib.hid (show (∀ x, a1.A1 = some x → w.heap.size + 2 ≤ x.block) ∧ ∀ x, a1.A2 = some x → w.heap.size + 2 ≤ x.block from ⟨fun x e => Nat.le_trans HS.out (hfr1.1 x e), fun x e => Nat.le_trans HS.out (hfr1.2 x e)⟩)
  have SZ1 := Lib.hid (show w.heap.size + 2 ≤ w1.heap.size from Nat.le_trans HS.out hb1.size)
  have P1 := Lib.hid hp1
  clear hb1 hp1 hfr1 cO HP AT AZ BB HS c0 c1 c2
  obtain ⟨Wz, W1, z1, r0, r1, r2, fz, s1, at1, bl1, lt1⟩ := put_box w1 (.int .i64 p.high) (.slice a1.A1 p.free.length a1.c1) (.slice a1.A2 p.limbo.length a1.c2)
  have A1 := Lib.hid (show At W1 w1.heap.size (poC p a1) from at1)
  have BL1 := Lib.hid bl1
  have AZ2 := Lib.hid (AZ1.out.below bl1 (by have := SZ1.out; omega))
  have BB2 := Lib.hid (BB1.out.trans (bl1.mono BB1.out.size))
  clear at1 bl1
  have hx : W1.cell? ⟨w1.heap.size, 1, none⟩ = some (.slice a1.A1 p.free.length a1.c1) := A1.out.2.2 1 _ rfl
  have cL := rLaid_any a1.A1 _ a1.c1 p.free n W1 (P1.out.f.below BL1.out) (by omega)
  go_wp2_with fail
  clear z1 r0 r1 r2 fz s1 lt1 hx
  refine cL.mono ?_
  rintro e w2 ⟨v, rfl, ho, hb2⟩
  have A2 := Lib.hid (A1.out.below hb2 A1.out.1)
  have AZ3 := Lib.hid (AZ2.out.below hb2 AZ2.out.1)
  have BB3 := Lib.hid (BB2.out.trans (hb2.mono BB2.out.size))
  have BL2 := Lib.hid (BL1.out.trans (hb2.mono BL1.out.size))
  have LT := Lib.hid A1.out.1
  obtain ⟨X, nx, dx, rfl, hN, hX⟩ := own_nums ho
  obtain rfl := hN.len
  have HO := Lib.hid (show ∀ v0 v1 v2, NAt (set3 (w2.setCell ⟨w1.heap.size, 1, none⟩ (.slice X (lay1 n p.free).length dx)) (w.heap.size + 1) v0 v1 v2) X (lay1 n p.free).length dx (lay1 n p.free) from fun v0 v1 v2 => own_nat (own_set3 (own_kept ho (grown_set w2 w1.heap.size 1 _) (by
    right
    intro e2
    have := (World.ownsRow.lt ho _ e2).1
    have := LT.out
    omega)) (b := w.heap.size + 1) (by have := SZ1.out; have := LT.out; omega) v0 v1 v2))
  clear cL ho hb2 hN hX A1 AZ2 BB2 BL1
  have AB := Lib.hid (show At (w2.setCell ⟨w1.heap.size, 1, none⟩ (.slice X (lay1 n p.free).length dx)) w1.heap.size #[.int .i64 p.high, .slice X (lay1 n p.free).length dx, .slice a1.A2 p.limbo.length a1.c2] from A2.out.set 1 (.slice X (lay1 n p.free).length dx) (by simp))
  have AY := Lib.hid (AZ3.out.set_other (b' := w1.heap.size) (i := 1) (v := .slice X (lay1 n p.free).length dx) (by have := SZ1.out; omega))
  have BY := Lib.hid (BB3.out.setCell (p := ⟨w1.heap.size, 1, none⟩) (by have := SZ1.out; show w.heap.size ≤ w1.heap.size; omega) (.slice X (lay1 n p.free).length dx))
  have x0 : w2.cell? ⟨w1.heap.size, 1, none⟩ = some (.slice a1.A1 p.free.length a1.c1) := A2.out.2.2 1 _ rfl
  have xf := A2.out.2.1 1
  have y0 : (w2.setCell ⟨w1.heap.size, 1, none⟩ (.slice X (lay1 n p.free).length dx)).cell? ⟨w1.heap.size, 0, none⟩ = some (.int .i64 p.high) := AB.out.2.2 0 _ rfl
  have y1 : (w2.setCell ⟨w1.heap.size, 1, none⟩ (.slice X (lay1 n p.free).length dx)).cell? ⟨w1.heap.size, 1, none⟩ = some (.slice X (lay1 n p.free).length dx) := AB.out.2.2 1 _ rfl
  have y2 : (w2.setCell ⟨w1.heap.size, 1, none⟩ (.slice X (lay1 n p.free).length dx)).cell? ⟨w1.heap.size, 2, none⟩ = some (.slice a1.A2 p.limbo.length a1.c2) := AB.out.2.2 2 _ rfl
  have k0 : (w2.setCell ⟨w1.heap.size, 1, none⟩ (.slice X (lay1 n p.free).length dx)).cell? ⟨w.heap.size + 1, 0, none⟩ = some (.int .i64 0) := AY.out.2.2 0 _ rfl
  have k1 : (w2.setCell ⟨w1.heap.size, 1, none⟩ (.slice X (lay1 n p.free).length dx)).cell? ⟨w.heap.size + 1, 1, none⟩ = some (.slice none 0 0) := AY.out.2.2 1 _ rfl
  have k2 : (w2.setCell ⟨w1.heap.size, 1, none⟩ (.slice X (lay1 n p.free).length dx)).cell? ⟨w.heap.size + 1, 2, none⟩ = some (.slice none 0 0) := AY.out.2.2 2 _ rfl
  have fk := AY.out.2.1
  have A3 := Lib.hid (set3_at AY.out rfl (.int .i64 p.high) (.slice X (lay1 n p.free).length dx) (.slice a1.A2 p.limbo.length a1.c2))
  have B3 := Lib.hid (set3_below BY.out (Nat.le_succ _) (.int .i64 p.high) (.slice X (lay1 n p.free).length dx) (.slice a1.A2 p.limbo.length a1.c2))
  have N3 := Lib.hid (show PoAt (set3 (w2.setCell ⟨w1.heap.size, 1, none⟩ (.slice X (lay1 n p.free).length dx)) (w.heap.size + 1) (.int .i64 p.high) (.slice X (lay1 n p.free).length dx) (.slice a1.A2 p.limbo.length a1.c2)) { high := p.high, free := (lay1 n p.free), limbo := p.limbo } { A1 := X, c1 := dx, A2 := a1.A2, c2 := a1.c2 } from ⟨HO.out _ _ _, nat_two P1.out.l BL2.out HF1.out.2 (Nat.le_refl _) _ _ _ _⟩)
  go_wp2_with fail
  change bodyPost _ _ _ _ _ (set3 (w2.setCell ⟨w1.heap.size, 1, none⟩ (.slice X (lay1 n p.free).length dx)) (w.heap.size + 1) (.int .i64 p.high) (.slice X (lay1 n p.free).length dx) (.slice a1.A2 p.limbo.length a1.c2))
  generalize set3 (w2.setCell ⟨w1.heap.size, 1, none⟩ (.slice X (lay1 n p.free).length dx)) (w.heap.size + 1) (.int .i64 p.high) (.slice X (lay1 n p.free).length dx) (.slice a1.A2 p.limbo.length a1.c2) = W9 at *
  clear x0 xf y0 y1 y2 k0 k1 k2 fk
  have c0 := A3.out.2.2 0 _ rfl
  have c1 := A3.out.2.2 1 _ rfl
  have c2 := A3.out.2.2 2 _ rfl
  refine bodyPost_ret (v := .tuple #[poV { high := p.high, free := (lay1 n p.free), limbo := p.limbo } { A1 := X, c1 := dx, A2 := a1.A2, c2 := a1.c2 }, numV 0]) (by simp [results, Try.results17, go_sem, *]) rfl ?_
  rw [HN.out]
  exact ⟨{ A1 := X, c1 := dx, A2 := a1.A2, c2 := a1.c2 }, rfl, N3.out, B3.out⟩
end Go.Proofs.Ytdkpnoinccdaiaa.Pool
