/-
  The walk of AllocTells.
-/
import Derived.Test.YtdkpnoinccdaiaaQRow
import Derived.Test.YtdkpnoinccdaiaaQRef8
namespace Go.Proofs.Ytdkpnoinccdaiaa.Pool
open Go.RowKit Gen

set_option maxRecDepth 100000 in
set_option maxHeartbeats 32000000 in
theorem tells_walk (p : Po) (a : La) (most page : Int) (w : World) (h : PoAt w p a) (hi : I64 p.high) (hm : I64 most) : Calls Try.prog 4 #[poV p a, .int .i64 most, .int .i64 page] w (fun e w' => e = .returned (.bool true) ∧ Below w.heap.size w w') := by
  have hb := below_box w (.cells (poC p a) 25)
  have AT := Lib.hid (po_box w p a)
  have HP := Lib.hid (h.below hb)
  have BB := Lib.hid hb
  clear h hb
  obtain ⟨W0, hW0⟩ : ∃ W0, w.alloc (.cells (poC p a) 25) = W0 := ⟨_, rfl⟩
  rw [hW0] at AT HP BB
  have cA := awake_any W0
  unfold poV
  go_enter Try.func4, Try.ntmps4
  go_wp2_with fail
  clear hW0
  refine cA.mono ?_
  rintro e w1 ⟨rfl, hb⟩
  clear cA
  replace AT := Lib.hid (AT.out.below hb AT.out.1)
  replace HP := Lib.hid (HP.out.below hb)
  replace BB := Lib.hid (BB.out.trans (hb.mono BB.out.size))
  clear hb
  obtain ⟨x0, x1, x2⟩ := po_cells AT.out
  have cF := few_any p a w1
  unfold poV at cF
  go_wp2_with fail
  clear x0 x1 x2
  refine cF.mono ?_
  rintro e w2 ⟨r, rfl, hr, hb⟩
  clear cF
  replace AT := Lib.hid (AT.out.below hb AT.out.1)
  replace HP := Lib.hid (HP.out.below hb)
  replace BB := Lib.hid (BB.out.trans (hb.mono BB.out.size))
  clear hb
  rcases r with _ | _
  · clear hr
    go_wp2_with fail
    go_ret
    exact ⟨rfl, BB.out⟩
  have HF := Lib.hid (hr.1 rfl)
  clear hr
  have HI := Lib.hid (show -9223372036854775808 ≤ p.high ∧ most ≤ 9223372036854775807 from ⟨hi.1, hm.2⟩)
  clear hi hm
  obtain ⟨x0, x1, x2⟩ := po_cells AT.out
  have cC := take_any p a most w2 HP.out (by have := HF.out; omega) (by have := HF.out; omega) HI.out.1 HI.out.2
  obtain ⟨r3, hr3⟩ : ∃ r, takeP p most = r := ⟨_, rfl⟩
  have HR3 := Lib.hid hr3
  rw [hr3] at cC
  clear hr3
  obtain ⟨q3, k3, e3⟩ := r3
  unfold PoolN poV poC at cC
  dsimp only at cC
  go_wp2_with fail
  refine cC.mono ?_
  rintro e w3 ⟨a3, rfl, hp3, hb⟩
  clear cC
  replace AT := Lib.hid (AT.out.below hb AT.out.1)
  replace HP := Lib.hid (HP.out.below hb)
  replace BB := Lib.hid (BB.out.trans (hb.mono BB.out.size))
  have P3 := Lib.hid hp3
  clear hb hp3
  clear x0 x1 x2
  obtain ⟨Wz, W3, z1, r0, r1, r2, fz, s1, at1, bl1, lt1⟩ := put_box w3 (.int .i64 q3.high) (.slice a3.A1 q3.free.length a3.c1) (.slice a3.A2 q3.limbo.length a3.c2)
  replace AT := Lib.hid (AT.out.below bl1 AT.out.1)
  replace HP := Lib.hid (HP.out.below bl1)
  replace BB := Lib.hid (BB.out.trans (bl1.mono BB.out.size))
  replace P3 := Lib.hid (P3.out.below bl1)
  have A3 := Lib.hid (show At W3 w3.heap.size (poC q3 a3) from at1)
  clear at1
  obtain ⟨x0, x1, x2⟩ := po_cells AT.out
  have cC := rTake_any p a most W3 HP.out (by have := HF.out; omega) (by have := HF.out; omega) HI.out.1 HI.out.2
  rw [HR3.out] at cC
  unfold PoolN poV poC at cC
  dsimp only at cC
  go_wp2_with fail
  clear z1 r0 r1 r2 fz s1 bl1 lt1
  refine cC.mono ?_
  rintro e w4 ⟨a4, rfl, hp4, hb⟩
  clear cC
  replace AT := Lib.hid (AT.out.below hb AT.out.1)
  replace HP := Lib.hid (HP.out.below hb)
  replace BB := Lib.hid (BB.out.trans (hb.mono BB.out.size))
  replace P3 := Lib.hid (P3.out.below hb)
  replace A3 := Lib.hid (A3.out.below hb A3.out.1)
  have P4 := Lib.hid hp4
  clear hb hp4
  clear x0 x1 x2
  obtain ⟨Wz, W4, z1, r0, r1, r2, fz, s1, at1, bl1, lt1⟩ := put_box w4 (.int .i64 q3.high) (.slice a4.A1 q3.free.length a4.c1) (.slice a4.A2 q3.limbo.length a4.c2)
  replace AT := Lib.hid (AT.out.below bl1 AT.out.1)
  replace HP := Lib.hid (HP.out.below bl1)
  replace BB := Lib.hid (BB.out.trans (bl1.mono BB.out.size))
  replace P3 := Lib.hid (P3.out.below bl1)
  replace A3 := Lib.hid (A3.out.below bl1 A3.out.1)
  replace P4 := Lib.hid (P4.out.below bl1)
  have A4 := Lib.hid (show At W4 w4.heap.size (poC q3 a4) from at1)
  clear at1
  obtain ⟨x0, x1, x2⟩ := po_cells AT.out
  have cC := give_any p a page W4 HP.out (by have := HF.out; omega) (by have := HF.out; omega)
  obtain ⟨r5, hr5⟩ : ∃ r, giveP p page = r := ⟨_, rfl⟩
  have HR5 := Lib.hid hr5
  rw [hr5] at cC
  clear hr5
  obtain ⟨q5, e5⟩ := r5
  unfold PoolE poV poC at cC
  dsimp only at cC
  go_wp2_with fail
  clear z1 r0 r1 r2 fz s1 bl1 lt1
  refine cC.mono ?_
  rintro e w5 ⟨a5, rfl, hp5, hb⟩
  clear cC
  replace AT := Lib.hid (AT.out.below hb AT.out.1)
  replace HP := Lib.hid (HP.out.below hb)
  replace BB := Lib.hid (BB.out.trans (hb.mono BB.out.size))
  replace P3 := Lib.hid (P3.out.below hb)
  replace A3 := Lib.hid (A3.out.below hb A3.out.1)
  replace P4 := Lib.hid (P4.out.below hb)
  replace A4 := Lib.hid (A4.out.below hb A4.out.1)
  have P5 := Lib.hid hp5
  clear hb hp5
  clear x0 x1 x2
  obtain ⟨Wz, W5, z1, r0, r1, r2, fz, s1, at1, bl1, lt1⟩ := put_box w5 (.int .i64 q5.high) (.slice a5.A1 q5.free.length a5.c1) (.slice a5.A2 q5.limbo.length a5.c2)
  replace AT := Lib.hid (AT.out.below bl1 AT.out.1)
  replace HP := Lib.hid (HP.out.below bl1)
  replace BB := Lib.hid (BB.out.trans (bl1.mono BB.out.size))
  replace P3 := Lib.hid (P3.out.below bl1)
  replace A3 := Lib.hid (A3.out.below bl1 A3.out.1)
  replace P4 := Lib.hid (P4.out.below bl1)
  replace A4 := Lib.hid (A4.out.below bl1 A4.out.1)
  replace P5 := Lib.hid (P5.out.below bl1)
  have A5 := Lib.hid (show At W5 w5.heap.size (poC q5 a5) from at1)
  clear at1
  obtain ⟨x0, x1, x2⟩ := po_cells AT.out
  have cC := rGive_any p a page W5 HP.out (by have := HF.out; omega) (by have := HF.out; omega)
  rw [HR5.out] at cC
  unfold PoolE poV poC at cC
  dsimp only at cC
  go_wp2_with fail
  clear z1 r0 r1 r2 fz s1 bl1 lt1
  refine cC.mono ?_
  rintro e w6 ⟨a6, rfl, hp6, hb⟩
  clear cC
  replace AT := Lib.hid (AT.out.below hb AT.out.1)
  replace HP := Lib.hid (HP.out.below hb)
  replace BB := Lib.hid (BB.out.trans (hb.mono BB.out.size))
  replace P3 := Lib.hid (P3.out.below hb)
  replace A3 := Lib.hid (A3.out.below hb A3.out.1)
  replace P4 := Lib.hid (P4.out.below hb)
  replace A4 := Lib.hid (A4.out.below hb A4.out.1)
  replace P5 := Lib.hid (P5.out.below hb)
  replace A5 := Lib.hid (A5.out.below hb A5.out.1)
  have P6 := Lib.hid hp6
  clear hb hp6
  clear x0 x1 x2
  obtain ⟨Wz, W6, z1, r0, r1, r2, fz, s1, at1, bl1, lt1⟩ := put_box w6 (.int .i64 q5.high) (.slice a6.A1 q5.free.length a6.c1) (.slice a6.A2 q5.limbo.length a6.c2)
  replace AT := Lib.hid (AT.out.below bl1 AT.out.1)
  replace HP := Lib.hid (HP.out.below bl1)
  replace BB := Lib.hid (BB.out.trans (bl1.mono BB.out.size))
  replace P3 := Lib.hid (P3.out.below bl1)
  replace A3 := Lib.hid (A3.out.below bl1 A3.out.1)
  replace P4 := Lib.hid (P4.out.below bl1)
  replace A4 := Lib.hid (A4.out.below bl1 A4.out.1)
  replace P5 := Lib.hid (P5.out.below bl1)
  replace A5 := Lib.hid (A5.out.below bl1 A5.out.1)
  replace P6 := Lib.hid (P6.out.below bl1)
  have A6 := Lib.hid (show At W6 w6.heap.size (poC q5 a6) from at1)
  clear at1
  obtain ⟨x0, x1, x2⟩ := po_cells AT.out
  have cC := back_any p a page W6 HP.out (by have := HF.out; omega) (by have := HF.out; omega)
  obtain ⟨r7, hr7⟩ : ∃ r, backP p page = r := ⟨_, rfl⟩
  have HR7 := Lib.hid hr7
  rw [hr7] at cC
  clear hr7
  obtain ⟨q7, e7⟩ := r7
  unfold PoolE poV poC at cC
  dsimp only at cC
  go_wp2_with fail
  clear z1 r0 r1 r2 fz s1 bl1 lt1
  refine cC.mono ?_
  rintro e w7 ⟨a7, rfl, hp7, hb⟩
  clear cC
  replace AT := Lib.hid (AT.out.below hb AT.out.1)
  replace HP := Lib.hid (HP.out.below hb)
  replace BB := Lib.hid (BB.out.trans (hb.mono BB.out.size))
  replace P3 := Lib.hid (P3.out.below hb)
  replace A3 := Lib.hid (A3.out.below hb A3.out.1)
  replace P4 := Lib.hid (P4.out.below hb)
  replace A4 := Lib.hid (A4.out.below hb A4.out.1)
  replace P5 := Lib.hid (P5.out.below hb)
  replace A5 := Lib.hid (A5.out.below hb A5.out.1)
  replace P6 := Lib.hid (P6.out.below hb)
  replace A6 := Lib.hid (A6.out.below hb A6.out.1)
  have P7 := Lib.hid hp7
  clear hb hp7
  clear x0 x1 x2
  obtain ⟨Wz, W7, z1, r0, r1, r2, fz, s1, at1, bl1, lt1⟩ := put_box w7 (.int .i64 q7.high) (.slice a7.A1 q7.free.length a7.c1) (.slice a7.A2 q7.limbo.length a7.c2)
  replace AT := Lib.hid (AT.out.below bl1 AT.out.1)
  replace HP := Lib.hid (HP.out.below bl1)
  replace BB := Lib.hid (BB.out.trans (bl1.mono BB.out.size))
  replace P3 := Lib.hid (P3.out.below bl1)
  replace A3 := Lib.hid (A3.out.below bl1 A3.out.1)
  replace P4 := Lib.hid (P4.out.below bl1)
  replace A4 := Lib.hid (A4.out.below bl1 A4.out.1)
  replace P5 := Lib.hid (P5.out.below bl1)
  replace A5 := Lib.hid (A5.out.below bl1 A5.out.1)
  replace P6 := Lib.hid (P6.out.below bl1)
  replace A6 := Lib.hid (A6.out.below bl1 A6.out.1)
  replace P7 := Lib.hid (P7.out.below bl1)
  have A7 := Lib.hid (show At W7 w7.heap.size (poC q7 a7) from at1)
  clear at1
  obtain ⟨x0, x1, x2⟩ := po_cells AT.out
  have cC := rBack_any p a page W7 HP.out (by have := HF.out; omega) (by have := HF.out; omega)
  rw [HR7.out] at cC
  unfold PoolE poV poC at cC
  dsimp only at cC
  go_wp2_with fail
  clear z1 r0 r1 r2 fz s1 bl1 lt1
  refine cC.mono ?_
  rintro e w8 ⟨a8, rfl, hp8, hb⟩
  clear cC
  replace AT := Lib.hid (AT.out.below hb AT.out.1)
  replace HP := Lib.hid (HP.out.below hb)
  replace BB := Lib.hid (BB.out.trans (hb.mono BB.out.size))
  replace P3 := Lib.hid (P3.out.below hb)
  replace A3 := Lib.hid (A3.out.below hb A3.out.1)
  replace P4 := Lib.hid (P4.out.below hb)
  replace A4 := Lib.hid (A4.out.below hb A4.out.1)
  replace P5 := Lib.hid (P5.out.below hb)
  replace A5 := Lib.hid (A5.out.below hb A5.out.1)
  replace P6 := Lib.hid (P6.out.below hb)
  replace A6 := Lib.hid (A6.out.below hb A6.out.1)
  replace P7 := Lib.hid (P7.out.below hb)
  replace A7 := Lib.hid (A7.out.below hb A7.out.1)
  have P8 := Lib.hid hp8
  clear hb hp8
  clear x0 x1 x2
  obtain ⟨Wz, W8, z1, r0, r1, r2, fz, s1, at1, bl1, lt1⟩ := put_box w8 (.int .i64 q7.high) (.slice a8.A1 q7.free.length a8.c1) (.slice a8.A2 q7.limbo.length a8.c2)
  replace AT := Lib.hid (AT.out.below bl1 AT.out.1)
  replace HP := Lib.hid (HP.out.below bl1)
  replace BB := Lib.hid (BB.out.trans (bl1.mono BB.out.size))
  replace P3 := Lib.hid (P3.out.below bl1)
  replace A3 := Lib.hid (A3.out.below bl1 A3.out.1)
  replace P4 := Lib.hid (P4.out.below bl1)
  replace A4 := Lib.hid (A4.out.below bl1 A4.out.1)
  replace P5 := Lib.hid (P5.out.below bl1)
  replace A5 := Lib.hid (A5.out.below bl1 A5.out.1)
  replace P6 := Lib.hid (P6.out.below bl1)
  replace A6 := Lib.hid (A6.out.below bl1 A6.out.1)
  replace P7 := Lib.hid (P7.out.below bl1)
  replace A7 := Lib.hid (A7.out.below bl1 A7.out.1)
  replace P8 := Lib.hid (P8.out.below bl1)
  have A8 := Lib.hid (show At W8 w8.heap.size (poC q7 a8) from at1)
  clear at1
  obtain ⟨x0, x1, x2⟩ := po_cells A3.out
  obtain ⟨y0, y1, y2⟩ := po_cells A4.out
  have cS := rSame_any q3 q3 a3 a4 W8 P3.out P4.out
  unfold poV poC at cS
  go_wp2_with fail
  clear z1 r0 r1 r2 fz s1 bl1 lt1
  refine cS.mono ?_
  rintro e w9 ⟨r, rfl, hr, hb⟩
  clear cS
  replace AT := Lib.hid (AT.out.below hb AT.out.1)
  replace HP := Lib.hid (HP.out.below hb)
  replace BB := Lib.hid (BB.out.trans (hb.mono BB.out.size))
  replace P3 := Lib.hid (P3.out.below hb)
  replace A3 := Lib.hid (A3.out.below hb A3.out.1)
  replace P4 := Lib.hid (P4.out.below hb)
  replace A4 := Lib.hid (A4.out.below hb A4.out.1)
  replace P5 := Lib.hid (P5.out.below hb)
  replace A5 := Lib.hid (A5.out.below hb A5.out.1)
  replace P6 := Lib.hid (P6.out.below hb)
  replace A6 := Lib.hid (A6.out.below hb A6.out.1)
  replace P7 := Lib.hid (P7.out.below hb)
  replace A7 := Lib.hid (A7.out.below hb A7.out.1)
  replace P8 := Lib.hid (P8.out.below hb)
  replace A8 := Lib.hid (A8.out.below hb A8.out.1)
  clear x0 x1 x2 y0 y1 y2
  obtain rfl : r = true := (by first | exact hr.2 rfl | exact hr.2 trivial)
  clear hb hr
  obtain ⟨x0, x1, x2⟩ := po_cells A5.out
  obtain ⟨y0, y1, y2⟩ := po_cells A6.out
  have cS := rSame_any q5 q5 a5 a6 w9 P5.out P6.out
  unfold poV poC at cS
  go_wp2_with fail
  refine cS.mono ?_
  rintro e w10 ⟨r, rfl, hr, hb⟩
  clear cS
  replace AT := Lib.hid (AT.out.below hb AT.out.1)
  replace HP := Lib.hid (HP.out.below hb)
  replace BB := Lib.hid (BB.out.trans (hb.mono BB.out.size))
  replace P3 := Lib.hid (P3.out.below hb)
  replace A3 := Lib.hid (A3.out.below hb A3.out.1)
  replace P4 := Lib.hid (P4.out.below hb)
  replace A4 := Lib.hid (A4.out.below hb A4.out.1)
  replace P5 := Lib.hid (P5.out.below hb)
  replace A5 := Lib.hid (A5.out.below hb A5.out.1)
  replace P6 := Lib.hid (P6.out.below hb)
  replace A6 := Lib.hid (A6.out.below hb A6.out.1)
  replace P7 := Lib.hid (P7.out.below hb)
  replace A7 := Lib.hid (A7.out.below hb A7.out.1)
  replace P8 := Lib.hid (P8.out.below hb)
  replace A8 := Lib.hid (A8.out.below hb A8.out.1)
  clear x0 x1 x2 y0 y1 y2
  obtain rfl : r = true := (by first | exact hr.2 rfl | exact hr.2 trivial)
  clear hb hr
  obtain ⟨x0, x1, x2⟩ := po_cells A7.out
  obtain ⟨y0, y1, y2⟩ := po_cells A8.out
  have cS := rSame_any q7 q7 a7 a8 w10 P7.out P8.out
  unfold poV poC at cS
  go_wp2_with fail
  refine cS.mono ?_
  rintro e w11 ⟨r, rfl, hr, hb⟩
  clear cS
  replace AT := Lib.hid (AT.out.below hb AT.out.1)
  replace HP := Lib.hid (HP.out.below hb)
  replace BB := Lib.hid (BB.out.trans (hb.mono BB.out.size))
  replace P3 := Lib.hid (P3.out.below hb)
  replace A3 := Lib.hid (A3.out.below hb A3.out.1)
  replace P4 := Lib.hid (P4.out.below hb)
  replace A4 := Lib.hid (A4.out.below hb A4.out.1)
  replace P5 := Lib.hid (P5.out.below hb)
  replace A5 := Lib.hid (A5.out.below hb A5.out.1)
  replace P6 := Lib.hid (P6.out.below hb)
  replace A6 := Lib.hid (A6.out.below hb A6.out.1)
  replace P7 := Lib.hid (P7.out.below hb)
  replace A7 := Lib.hid (A7.out.below hb A7.out.1)
  replace P8 := Lib.hid (P8.out.below hb)
  replace A8 := Lib.hid (A8.out.below hb A8.out.1)
  clear x0 x1 x2 y0 y1 y2
  obtain rfl : r = true := (by first | exact hr.2 rfl | exact hr.2 trivial)
  clear hb hr
  clear P3 A3 P4 A4 P5 A5 P6 A6 P7 A7 P8 A8
  have hd : Below w11.heap.size w11 w11.drew := (Below.refl _ _).drew
  have cN := turn_any p a w11.drew (HP.out.below hd) (by have := HF.out; omega) (by have := HF.out; omega)
  unfold Pools poV poC at cN
  have CM := Lib.hid (fun W (hW : Below w11.heap.size w11 W) => rTurn_any p a W (HP.out.below hW) (by have := HF.out; omega) (by have := HF.out; omega))
  unfold PoolsB poV poC at CM
  generalize layAll p.free p.limbo = R at *
  have KS := Lib.hid (show ∀ w', Below w11.heap.size w11 w' → w'.cell? ⟨w.heap.size, 0, none⟩ = some (.int .i64 p.high) ∧ w'.cell? ⟨w.heap.size, 1, none⟩ = some (.slice a.A1 p.free.length a.c1) ∧ w'.cell? ⟨w.heap.size, 2, none⟩ = some (.slice a.A2 p.limbo.length a.c2) from fun w' hB => po_cells (AT.out.below hB AT.out.1))
  have K0 := Lib.hid (KS.out _ hd)
  clear hd
  go_wp2_with fail
  go_region_held3 (fun w' => w'.cell? ⟨w.heap.size, 0, none⟩ = some (.int .i64 p.high) ∧ w'.cell? ⟨w.heap.size, 1, none⟩ = some (.slice a.A1 p.free.length a.c1) ∧ w'.cell? ⟨w.heap.size, 2, none⟩ = some (.slice a.A2 p.limbo.length a.c2))
    (with_reducible (first | exact K0.out | exact K1.out | exact K2.out | exact K3.out))
    (first
      | (go_at_call 19; (with_reducible refine cN.mono ?_); rintro e w12 ⟨b, rfl, hpb, hb, -⟩
         have hB : Below w11.heap.size w11 w12 := (Below.refl w11.heap.size w11).drew.trans hb; have K1 := Lib.hid (KS.out _ hB); have HB1 := Lib.hid hB; have PB := Lib.hid hpb
         have cM := CM.out _ hB; clear hb hB hpb cN)
      | (go_at_call 20; (with_reducible refine cM.mono ?_); rintro e w13 ⟨c, rfl, hpc, hb⟩
         have hB : Below w11.heap.size w11 w13 := HB1.out.trans (hb.mono HB1.out.size); have K2 := Lib.hid (KS.out _ hB); have HB2 := Lib.hid hB
         have cS := rSame_any { high := p.high, free := R } { high := p.high, free := R } b c w13 (PB.out.below hb) hpc; unfold poV poC at cS; simp only [List.length_nil] at cS; clear hb hB hpc cM)
      | (go_at_call 18; (with_reducible refine cS.mono ?_); rintro e w14 ⟨r, rfl, hr, hb⟩
         have hB : Below w11.heap.size w11 w14 := HB2.out.trans (hb.mono HB2.out.size); have K3 := Lib.hid (KS.out _ hB); have HB3 := Lib.hid hB
         have hrt : r = true := (by first | exact hr.2 rfl | exact hr.2 trivial); clear hb hr hB cS))
  subst hrt
  replace AT := Lib.hid (AT.out.below HB3.out AT.out.1)
  replace HP := Lib.hid (HP.out.below HB3.out)
  replace BB := Lib.hid (BB.out.trans (HB3.out.mono BB.out.size))
  clear K0 K1 K2 K3 KS CM PB HB1 HB2 HB3
  have hd : Below w14.heap.size w14 w14.drew := (Below.refl _ _).drew
  have cA := check_any p a most w14.drew (HP.out.below hd) (by have := HF.out; omega) (by have := HF.out; omega)
  unfold Checks poV poC at cA
  have CB := Lib.hid (fun W (hW : Below w14.heap.size w14 W) => rCheck_any p a most W (HP.out.below hW))
  unfold Checks poV poC at CB
  generalize (if PoolOk p most then (0 : Int) else 61) = v at *
  have KS := Lib.hid (show ∀ w', Below w14.heap.size w14 w' → w'.cell? ⟨w.heap.size, 0, none⟩ = some (.int .i64 p.high) ∧ w'.cell? ⟨w.heap.size, 1, none⟩ = some (.slice a.A1 p.free.length a.c1) ∧ w'.cell? ⟨w.heap.size, 2, none⟩ = some (.slice a.A2 p.limbo.length a.c2) from fun w' hB => po_cells (AT.out.below hB AT.out.1))
  have K0 := Lib.hid (KS.out _ hd)
  clear hd
  go_wp2_with fail
  go_region_held3 (fun w' => w'.cell? ⟨w.heap.size, 0, none⟩ = some (.int .i64 p.high) ∧ w'.cell? ⟨w.heap.size, 1, none⟩ = some (.slice a.A1 p.free.length a.c1) ∧ w'.cell? ⟨w.heap.size, 2, none⟩ = some (.slice a.A2 p.limbo.length a.c2))
    (with_reducible (first | exact K0.out | exact K1.out | exact K2.out))
    (first
      | (go_at_call 21; (with_reducible refine cA.mono ?_); rintro e w15 ⟨rfl, hb⟩
         have hB : Below w14.heap.size w14 w15 := (Below.refl w14.heap.size w14).drew.trans hb; have K1 := Lib.hid (KS.out _ hB); have HB1 := Lib.hid hB
         have cB := CB.out _ hB; clear hb hB cA)
      | (go_at_call 22; (with_reducible refine cB.mono ?_); rintro e w16 ⟨rfl, hb⟩
         have hB : Below w14.heap.size w14 w16 := HB1.out.trans (hb.mono HB1.out.size); have K2 := Lib.hid (KS.out _ hB); have HBB := Lib.hid (BB.out.trans (hB.mono BB.out.size)); clear hb hB cB))
  clear K0 K1 K2 KS CB
  go_wp2_with fail
  go_ret
  exact ⟨by simp, HBB.out⟩
end Go.Proofs.Ytdkpnoinccdaiaa.Pool
