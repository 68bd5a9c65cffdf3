/-
  The walk of AllocStays.
-/
import Derived.Test.YtdkpnoinccdaiaaQRow
namespace Go.Proofs.Ytdkpnoinccdaiaa.Pool
open Go.RowKit Gen

theorem rise_tail {x : Int} {l : List Int} (h : Rise (x :: l)) : Rise l := (List.pairwise_cons.1 h).2
/-- Of a pool that may be each answer is one that may be. -/
theorem take_ok {p : Po} {most : Int} (h : PoolOk p most) (he : (takeP p most).2.2 = 0) : PoolOk (takeP p most).1 most ∧ (takeP p most).1.high - ((takeP p most).1.free.length : Int) - ((takeP p most).1.limbo.length : Int) = p.high - ((p.free.length : Int) + (p.limbo.length : Int)) + 1 := by
  unfold takeP at *
  rcases hfr : p.free with _ | ⟨x, fs⟩
  · rw [hfr] at he
    simp only at he ⊢
    by_cases hm : most ≤ p.high
    · rw [if_pos hm] at he; simp at he
    · rw [if_neg hm]
      have h1 := h.low
      exact ⟨⟨by show 2 ≤ p.high + 1; omega, by show p.high + 1 ≤ most; omega, List.Pairwise.nil, h.limbo, fun x hx => (by cases hx), fun x hx => ⟨(h.l x hx).1, by have := (h.l x hx).2; show x < p.high + 1; omega⟩, fun x _ hx => (by cases hx)⟩, by simp; omega⟩
  · simp only
    refine ⟨⟨h.low, h.top, rise_tail (by rw [← hfr]; exact h.free), h.limbo, fun y hy => h.f y (by rw [hfr]; exact List.mem_cons_of_mem _ hy), h.l, fun y hy hz => h.apart y hy (by rw [hfr]; exact List.mem_cons_of_mem _ hz)⟩, by simp; omega⟩
theorem give_ok {p : Po} {most n : Int} (h : PoolOk p most) (hm : May p n) : PoolOk { high := p.high, free := p.free, limbo := lay1 n p.limbo } most := by
  refine ⟨h.low, h.top, h.free, lay1_rise _ _ h.limbo hm.2.2, h.f, fun x hx => ?_, fun x hx => ?_⟩
  · rcases (lay1_mem p.limbo n x).1 hx with rfl | hx
    · exact hm.1
    · exact h.l x hx
  · rcases (lay1_mem p.limbo n x).1 hx with rfl | hx
    · exact hm.2.1
    · exact h.apart x hx
theorem back_ok {p : Po} {most n : Int} (h : PoolOk p most) (hm : May p n) : PoolOk { high := p.high, free := lay1 n p.free, limbo := p.limbo } most := by
  refine ⟨h.low, h.top, lay1_rise _ _ h.free hm.2.1, h.limbo, fun x hx => ?_, h.l, fun x hx hf => ?_⟩
  · rcases (lay1_mem p.free n x).1 hx with rfl | hx
    · exact hm.1
    · exact h.f x hx
  · rcases (lay1_mem p.free n x).1 hf with rfl | hf
    · exact hm.2.2 hx
    · exact h.apart x hx hf
theorem turn_ok {p : Po} {most : Int} (h : PoolOk p most) : PoolOk { high := p.high, free := layAll p.free p.limbo } most := by
  have h2 := (poolOk_iff p most).1 h
  exact ⟨h.low, h.top, h2.2.2.2.1, List.Pairwise.nil, h2.2.2.2.2, fun x hx => (by cases hx), fun x hx => (by cases hx)⟩
theorem take_len (p : Po) (most : Int) : (takeP p most).1.free.length ≤ p.free.length ∧ (takeP p most).1.limbo.length ≤ p.limbo.length := by
  unfold takeP
  rcases hfr : p.free with _ | ⟨x, fs⟩
  · simp only
    split <;> simp
  · simp
set_option maxRecDepth 100000 in
set_option maxHeartbeats 32000000 in
theorem stays_walk (p : Po) (a : La) (most page : Int) (w : World) (h : PoAt w p a) (hi : I64 p.high) (hm : I64 most) : Calls Try.prog 6 #[poV p a, .int .i64 most, .int .i64 page] w (fun e w' => e = .returned (.bool true) ∧ Below w.heap.size w w') := by
  have hb := below_box w (.cells (poC p a) 25)
  have AT := Lib.hid (po_box w p a)
  have HP := Lib.hid (h.below hb)
  have BB := Lib.hid hb
  clear h hb
  obtain ⟨W0, hW0⟩ : ∃ W0, w.alloc (.cells (poC p a) 25) = W0 := ⟨_, rfl⟩
  rw [hW0] at AT HP BB
  have cA := awake_any W0
  unfold poV
  go_enter Try.func6, Try.ntmps6
  go_wp2_with fail
  clear hW0
  refine cA.mono ?_
  rintro e w1 ⟨rfl, hb⟩
  clear cA
  replace AT := Lib.hid (AT.out.below hb AT.out.1)
  replace HP := Lib.hid (HP.out.below hb)
  replace BB := Lib.hid (BB.out.trans (hb.mono BB.out.size))
  clear hb
  obtain ⟨x0, x1, x2⟩ := po_cells AT.out
  have cF := few_any p a w1
  unfold poV at cF
  go_wp2_with fail
  clear x0 x1 x2
  refine cF.mono ?_
  rintro e w2 ⟨r, rfl, hr, hb⟩
  clear cF
  replace AT := Lib.hid (AT.out.below hb AT.out.1)
  replace HP := Lib.hid (HP.out.below hb)
  replace BB := Lib.hid (BB.out.trans (hb.mono BB.out.size))
  clear hb
  rcases r with _ | _
  · clear hr
    go_wp2_with fail
    go_ret
    exact ⟨rfl, BB.out⟩
  have HF := Lib.hid (hr.1 rfl)
  clear hr
  have cK := check_any p a most w2 HP.out (by have := HF.out; omega) (by have := HF.out; omega)
  unfold Checks poV at cK
  obtain ⟨x0, x1, x2⟩ := po_cells AT.out
  by_cases hok : PoolOk p most
  rotate_left
  · rw [if_neg hok] at cK
    clear hok
    go_wp2_with fail
    refine cK.mono ?_
    rintro e w3 ⟨rfl, hb⟩
    replace BB := Lib.hid (BB.out.trans (hb.mono BB.out.size))
    clear hb cK x0 x1 x2
    go_wp2_with fail
    go_ret
    exact ⟨rfl, BB.out⟩
  rw [if_pos hok] at cK
  have HOK := Lib.hid hok
  clear hok
  go_wp2_with fail
  clear x0 x1 x2
  refine cK.mono ?_
  rintro e w3 ⟨rfl, hb⟩
  clear cK
  replace AT := Lib.hid (AT.out.below hb AT.out.1)
  replace HP := Lib.hid (HP.out.below hb)
  replace BB := Lib.hid (BB.out.trans (hb.mono BB.out.size))
  clear hb
  have hlen : ((p.free.length : Int) + (p.limbo.length : Int)) ≤ 1200 := by have := HF.out; omega
  obtain ⟨x0, x1, x2⟩ := po_cells AT.out
  have cT := take_any p a most w3 HP.out (by have := HF.out; omega) (by have := HF.out; omega) hi.1 hm.2
  unfold PoolN poV at cT
  have HT := Lib.hid (take_ok HOK.out)
  have HTL := Lib.hid (take_len p most)
  generalize takeP p most = r4 at cT HT HTL
  obtain ⟨q4, k4, e4⟩ := r4
  dsimp only at cT HT HTL
  unfold poC at cT
  go_wp2_with fail
  refine cT.mono ?_
  rintro e w4 ⟨a4, rfl, hp4, hb⟩
  clear cT
  replace AT := Lib.hid (AT.out.below hb AT.out.1)
  replace HP := Lib.hid (HP.out.below hb)
  replace BB := Lib.hid (BB.out.trans (hb.mono BB.out.size))
  have P4 := Lib.hid hp4
  clear hb hp4
  clear x0 x1 x2
  obtain ⟨Wz, W4, z1, r0, r1, r2, fz, s1, at1, bl1, lt1⟩ := put_box w4 (.int .i64 q4.high) (.slice a4.A1 q4.free.length a4.c1) (.slice a4.A2 q4.limbo.length a4.c2)
  replace AT := Lib.hid (AT.out.below bl1 AT.out.1)
  replace HP := Lib.hid (HP.out.below bl1)
  replace BB := Lib.hid (BB.out.trans (bl1.mono BB.out.size))
  replace P4 := Lib.hid (P4.out.below bl1)
  have A4 := Lib.hid (show At W4 w4.heap.size (poC q4 a4) from at1)
  clear at1
  obtain ⟨x0, x1, x2⟩ := po_cells AT.out
  have cG := give_any p a page W4 HP.out (by have := HF.out; omega) (by have := HF.out; omega)
  unfold PoolE poV at cG
  have HG := Lib.hid (show (giveP p page).2 = (if May p page then 0 else 1) ∧ (May p page → (giveP p page).1 = { high := p.high, free := p.free, limbo := lay1 page p.limbo }) from by
    unfold giveP
    by_cases hm : May p page
    · rw [if_pos hm, if_pos hm]; exact ⟨rfl, fun _ => rfl⟩
    · rw [if_neg hm, if_neg hm]; exact ⟨rfl, fun g => absurd g hm⟩)
  generalize giveP p page = r5 at cG HG
  obtain ⟨q5, e5⟩ := r5
  dsimp only at cG HG
  unfold poC at cG
  go_wp2_with fail
  clear z1 r0 r1 r2 fz s1 bl1 lt1
  refine cG.mono ?_
  rintro e w5 ⟨a5, rfl, hp5, hb⟩
  clear cG
  replace AT := Lib.hid (AT.out.below hb AT.out.1)
  replace HP := Lib.hid (HP.out.below hb)
  replace BB := Lib.hid (BB.out.trans (hb.mono BB.out.size))
  replace P4 := Lib.hid (P4.out.below hb)
  replace A4 := Lib.hid (A4.out.below hb A4.out.1)
  have P5 := Lib.hid hp5
  clear hb hp5
  clear x0 x1 x2
  obtain ⟨Wz, W5, z1, r0, r1, r2, fz, s1, at1, bl1, lt1⟩ := put_box w5 (.int .i64 q5.high) (.slice a5.A1 q5.free.length a5.c1) (.slice a5.A2 q5.limbo.length a5.c2)
  replace AT := Lib.hid (AT.out.below bl1 AT.out.1)
  replace HP := Lib.hid (HP.out.below bl1)
  replace BB := Lib.hid (BB.out.trans (bl1.mono BB.out.size))
  replace P4 := Lib.hid (P4.out.below bl1)
  replace A4 := Lib.hid (A4.out.below bl1 A4.out.1)
  replace P5 := Lib.hid (P5.out.below bl1)
  have A5 := Lib.hid (show At W5 w5.heap.size (poC q5 a5) from at1)
  clear at1
  obtain ⟨x0, x1, x2⟩ := po_cells AT.out
  have cB := back_any p a page W5 HP.out (by have := HF.out; omega) (by have := HF.out; omega)
  unfold PoolE poV at cB
  have HK := Lib.hid (show (backP p page).2 = (if May p page then 0 else 1) ∧ (May p page → (backP p page).1 = { high := p.high, free := lay1 page p.free, limbo := p.limbo }) from by
    unfold backP
    by_cases hm : May p page
    · rw [if_pos hm, if_pos hm]; exact ⟨rfl, fun _ => rfl⟩
    · rw [if_neg hm, if_neg hm]; exact ⟨rfl, fun g => absurd g hm⟩)
  generalize backP p page = r6 at cB HK
  obtain ⟨q6, e6⟩ := r6
  dsimp only at cB HK
  unfold poC at cB
  go_wp2_with fail
  clear z1 r0 r1 r2 fz s1 bl1 lt1
  refine cB.mono ?_
  rintro e w6 ⟨a6, rfl, hp6, hb⟩
  clear cB
  replace AT := Lib.hid (AT.out.below hb AT.out.1)
  replace HP := Lib.hid (HP.out.below hb)
  replace BB := Lib.hid (BB.out.trans (hb.mono BB.out.size))
  replace P4 := Lib.hid (P4.out.below hb)
  replace A4 := Lib.hid (A4.out.below hb A4.out.1)
  replace P5 := Lib.hid (P5.out.below hb)
  replace A5 := Lib.hid (A5.out.below hb A5.out.1)
  have P6 := Lib.hid hp6
  clear hb hp6
  clear x0 x1 x2
  obtain ⟨Wz, W6, z1, r0, r1, r2, fz, s1, at1, bl1, lt1⟩ := put_box w6 (.int .i64 q6.high) (.slice a6.A1 q6.free.length a6.c1) (.slice a6.A2 q6.limbo.length a6.c2)
  replace AT := Lib.hid (AT.out.below bl1 AT.out.1)
  replace HP := Lib.hid (HP.out.below bl1)
  replace BB := Lib.hid (BB.out.trans (bl1.mono BB.out.size))
  replace P4 := Lib.hid (P4.out.below bl1)
  replace A4 := Lib.hid (A4.out.below bl1 A4.out.1)
  replace P5 := Lib.hid (P5.out.below bl1)
  replace A5 := Lib.hid (A5.out.below bl1 A5.out.1)
  replace P6 := Lib.hid (P6.out.below bl1)
  have A6 := Lib.hid (show At W6 w6.heap.size (poC q6 a6) from at1)
  clear at1
  obtain ⟨x0, x1, x2⟩ := po_cells AT.out
  have cN := turn_any p a W6 HP.out (by have := HF.out; omega) (by have := HF.out; omega)
  unfold Pools poV at cN
  have HU := Lib.hid (show PoolOk { high := p.high, free := layAll p.free p.limbo } most ∧ ((layAll p.free p.limbo).length : Int) = (p.free.length : Int) + (p.limbo.length : Int) from ⟨turn_ok HOK.out, by rw [layAll_len]; omega⟩)
  generalize hq7 : ({ high := p.high, free := layAll p.free p.limbo } : Po) = q7 at cN HU
  have HQ7 := Lib.hid (show q7.limbo.length = 0 ∧ (layAll p.free p.limbo).length = q7.free.length from by rw [← hq7]; exact ⟨rfl, rfl⟩)
  clear hq7
  unfold poC at cN
  go_wp2_with fail
  clear z1 r0 r1 r2 fz s1 bl1 lt1
  refine cN.mono ?_
  rintro e w7 ⟨a7, rfl, hp7, hb, -⟩
  clear cN
  replace AT := Lib.hid (AT.out.below hb AT.out.1)
  replace HP := Lib.hid (HP.out.below hb)
  replace BB := Lib.hid (BB.out.trans (hb.mono BB.out.size))
  replace P4 := Lib.hid (P4.out.below hb)
  replace A4 := Lib.hid (A4.out.below hb A4.out.1)
  replace P5 := Lib.hid (P5.out.below hb)
  replace A5 := Lib.hid (A5.out.below hb A5.out.1)
  replace P6 := Lib.hid (P6.out.below hb)
  replace A6 := Lib.hid (A6.out.below hb A6.out.1)
  have P7 := Lib.hid hp7
  clear hb hp7
  clear x0 x1 x2
  obtain ⟨Wz, W7, z1, r0, r1, r2, fz, s1, at1, bl1, lt1⟩ := put_box w7 (.int .i64 q7.high) (.slice a7.A1 q7.free.length a7.c1) (.slice a7.A2 q7.limbo.length a7.c2)
  replace AT := Lib.hid (AT.out.below bl1 AT.out.1)
  replace HP := Lib.hid (HP.out.below bl1)
  replace BB := Lib.hid (BB.out.trans (bl1.mono BB.out.size))
  replace P4 := Lib.hid (P4.out.below bl1)
  replace A4 := Lib.hid (A4.out.below bl1 A4.out.1)
  replace P5 := Lib.hid (P5.out.below bl1)
  replace A5 := Lib.hid (A5.out.below bl1 A5.out.1)
  replace P6 := Lib.hid (P6.out.below bl1)
  replace A6 := Lib.hid (A6.out.below bl1 A6.out.1)
  replace P7 := Lib.hid (P7.out.below bl1)
  have A7 := Lib.hid (show At W7 w7.heap.size (poC q7 a7) from at1)
  clear at1
  have hh4 := HTL.out
  have hff := HF.out
  have hL4 : (q4.free.length : Int) ≤ 600 := by omega
  have hM4 : (q4.limbo.length : Int) ≤ 600 := by omega
  clear hh4 hff
  have HOKL := Lib.hid (show 2 ≤ p.high ∧ p.high ≤ 9223372036854775807 from ⟨HOK.out.low, hi.2⟩)
  have hpl := HOKL.out.1
  have hph := HOKL.out.2
  have HB7 : Hid (q7.free.length ≤ 100000 ∧ q7.limbo.length ≤ 100000) := Lib.hid (by have h1 := HQ7.out; have h2 := HU.out.2; have h3 := HF.out; omega)
  have d7 : ((q7.free.length : Int) == (p.free.length : Int) + (p.limbo.length : Int)) = true := by rw [← HQ7.out.2]; exact beq_iff_eq.2 HU.out.2
  have n7 : ((q7.limbo.length : Int) == 0) = true := by rw [HQ7.out.1]; rfl
  by_cases hmay : May p page
  · skip
    have HG5 := Lib.hid (show e5 = 0 ∧ q5 = { high := p.high, free := p.free, limbo := lay1 page p.limbo } from ⟨by rw [HG.out.1, if_pos hmay], HG.out.2 hmay⟩)
    have HK6 := Lib.hid (show e6 = 0 ∧ q6 = { high := p.high, free := lay1 page p.free, limbo := p.limbo } from ⟨by rw [HK.out.1, if_pos hmay], HK.out.2 hmay⟩)
    have HG5o : Hid (PoolOk q5 most) := Lib.hid (by rw [HG5.out.2]; exact give_ok HOK.out hmay)
    have HK6o : Hid (PoolOk q6 most) := Lib.hid (by rw [HK6.out.2]; exact back_ok HOK.out hmay)
    have HB5 : Hid (p.free.length ≤ 100000 ∧ (lay1 page p.limbo).length ≤ 100000) := Lib.hid (by rw [lay1_len]; have := HF.out; omega)
    have HB6 : Hid ((lay1 page p.free).length ≤ 100000 ∧ p.limbo.length ≤ 100000) := Lib.hid (by rw [lay1_len]; have := HF.out; omega)
    have l5 : ((q5.limbo.length : Int) != (p.limbo.length : Int) + 1) = false := by rw [HG5.out.2]; show (((lay1 page p.limbo).length : Int) != _) = false; rw [lay1_len]; simp [bne]
    have f5 : ((q5.free.length : Int) != (p.free.length : Int)) = false := by rw [HG5.out.2]; simp
    have l6 : ((q6.free.length : Int) != (p.free.length : Int) + 1) = false := by rw [HK6.out.2]; show (((lay1 page p.free).length : Int) != _) = false; rw [lay1_len]; simp [bne]
    obtain rfl : e5 = 0 := HG5.out.1
    obtain rfl : e6 = 0 := HK6.out.1
    clear hmay HG HK
    by_cases he4 : e4 = 0
    · skip
      subst he4
      have HT4 := Lib.hid (HT.out rfl)
      clear HT
      have cK4 := check_any q4 a4 most W7 P4.out (by omega) (by omega)
      unfold Checks poV poC at cK4
      rw [if_pos HT4.out.1] at cK4
      obtain ⟨x0, x1, x2⟩ := po_cells AT.out
      obtain ⟨i0, i1, i2⟩ := po_cells A4.out
      obtain ⟨j0, j1, j2⟩ := po_cells A5.out
      obtain ⟨k0, k1, k2⟩ := po_cells A6.out
      obtain ⟨l0, l1, l2⟩ := po_cells A7.out
      have hlo4 := HT4.out.1.low
      have hhi4 : q4.high ≤ 9223372036854775807 := Int.le_trans HT4.out.1.top hm.2
      have hbd : p.high - ((p.free.length : Int) + (p.limbo.length : Int)) + 1 ≤ 9223372036854775807 := by have := HT4.out.2; omega
      have dd : ((q4.high - (q4.free.length : Int) - (q4.limbo.length : Int)) != (p.high - ((p.free.length : Int) + (p.limbo.length : Int)) + 1)) = false := by have := HT4.out.2; simp [bne]; omega
      go_wp2_with fail
      clear x0 x1 x2 i0 i1 i2 j0 j1 j2 k0 k1 k2 l0 l1 l2
      refine cK4.mono ?_
      rintro e w8 ⟨rfl, hb⟩
      clear cK4
      replace AT := Lib.hid (AT.out.below hb AT.out.1)
      replace HP := Lib.hid (HP.out.below hb)
      replace BB := Lib.hid (BB.out.trans (hb.mono BB.out.size))
      replace P4 := Lib.hid (P4.out.below hb)
      replace A4 := Lib.hid (A4.out.below hb A4.out.1)
      replace P5 := Lib.hid (P5.out.below hb)
      replace A5 := Lib.hid (A5.out.below hb A5.out.1)
      replace P6 := Lib.hid (P6.out.below hb)
      replace A6 := Lib.hid (A6.out.below hb A6.out.1)
      replace P7 := Lib.hid (P7.out.below hb)
      replace A7 := Lib.hid (A7.out.below hb A7.out.1)
      clear hb
      obtain ⟨x0, x1, x2⟩ := po_cells AT.out
      obtain ⟨i0, i1, i2⟩ := po_cells A4.out
      obtain ⟨j0, j1, j2⟩ := po_cells A5.out
      obtain ⟨k0, k1, k2⟩ := po_cells A6.out
      obtain ⟨l0, l1, l2⟩ := po_cells A7.out
      have cK5 := check_any q5 a5 most w8 P5.out (by rw [HG5.out.2]; exact HB5.out.1) (by rw [HG5.out.2]; exact HB5.out.2)
      unfold Checks poV poC at cK5
      rw [if_pos HG5o.out] at cK5
      go_wp2_with fail
      clear x0 x1 x2 i0 i1 i2 j0 j1 j2 k0 k1 k2 l0 l1 l2
      refine cK5.mono ?_
      rintro e w9 ⟨rfl, hb⟩
      clear cK5
      replace AT := Lib.hid (AT.out.below hb AT.out.1)
      replace HP := Lib.hid (HP.out.below hb)
      replace BB := Lib.hid (BB.out.trans (hb.mono BB.out.size))
      replace P4 := Lib.hid (P4.out.below hb)
      replace A4 := Lib.hid (A4.out.below hb A4.out.1)
      replace P5 := Lib.hid (P5.out.below hb)
      replace A5 := Lib.hid (A5.out.below hb A5.out.1)
      replace P6 := Lib.hid (P6.out.below hb)
      replace A6 := Lib.hid (A6.out.below hb A6.out.1)
      replace P7 := Lib.hid (P7.out.below hb)
      replace A7 := Lib.hid (A7.out.below hb A7.out.1)
      clear hb
      obtain ⟨x0, x1, x2⟩ := po_cells AT.out
      obtain ⟨i0, i1, i2⟩ := po_cells A4.out
      obtain ⟨j0, j1, j2⟩ := po_cells A5.out
      obtain ⟨k0, k1, k2⟩ := po_cells A6.out
      obtain ⟨l0, l1, l2⟩ := po_cells A7.out
      have cK6 := check_any q6 a6 most w9 P6.out (by rw [HK6.out.2]; exact HB6.out.1) (by rw [HK6.out.2]; exact HB6.out.2)
      unfold Checks poV poC at cK6
      rw [if_pos HK6o.out] at cK6
      go_wp2_with fail
      clear x0 x1 x2 i0 i1 i2 j0 j1 j2 k0 k1 k2 l0 l1 l2
      refine cK6.mono ?_
      rintro e w10 ⟨rfl, hb⟩
      clear cK6
      replace AT := Lib.hid (AT.out.below hb AT.out.1)
      replace HP := Lib.hid (HP.out.below hb)
      replace BB := Lib.hid (BB.out.trans (hb.mono BB.out.size))
      replace P4 := Lib.hid (P4.out.below hb)
      replace A4 := Lib.hid (A4.out.below hb A4.out.1)
      replace P5 := Lib.hid (P5.out.below hb)
      replace A5 := Lib.hid (A5.out.below hb A5.out.1)
      replace P6 := Lib.hid (P6.out.below hb)
      replace A6 := Lib.hid (A6.out.below hb A6.out.1)
      replace P7 := Lib.hid (P7.out.below hb)
      replace A7 := Lib.hid (A7.out.below hb A7.out.1)
      clear hb
      obtain ⟨x0, x1, x2⟩ := po_cells AT.out
      obtain ⟨i0, i1, i2⟩ := po_cells A4.out
      obtain ⟨j0, j1, j2⟩ := po_cells A5.out
      obtain ⟨k0, k1, k2⟩ := po_cells A6.out
      obtain ⟨l0, l1, l2⟩ := po_cells A7.out
      have cK7 := check_any q7 a7 most w10 P7.out HB7.out.1 HB7.out.2
      unfold Checks poV poC at cK7
      rw [if_pos HU.out.1] at cK7
      go_wp2_with fail
      clear x0 x1 x2 i0 i1 i2 j0 j1 j2 k0 k1 k2 l0 l1 l2
      refine cK7.mono ?_
      rintro e w11 ⟨rfl, hb⟩
      clear cK7
      replace AT := Lib.hid (AT.out.below hb AT.out.1)
      replace HP := Lib.hid (HP.out.below hb)
      replace BB := Lib.hid (BB.out.trans (hb.mono BB.out.size))
      replace P4 := Lib.hid (P4.out.below hb)
      replace A4 := Lib.hid (A4.out.below hb A4.out.1)
      replace P5 := Lib.hid (P5.out.below hb)
      replace A5 := Lib.hid (A5.out.below hb A5.out.1)
      replace P6 := Lib.hid (P6.out.below hb)
      replace A6 := Lib.hid (A6.out.below hb A6.out.1)
      replace P7 := Lib.hid (P7.out.below hb)
      replace A7 := Lib.hid (A7.out.below hb A7.out.1)
      clear hb
      obtain ⟨x0, x1, x2⟩ := po_cells AT.out
      obtain ⟨i0, i1, i2⟩ := po_cells A4.out
      obtain ⟨j0, j1, j2⟩ := po_cells A5.out
      obtain ⟨k0, k1, k2⟩ := po_cells A6.out
      obtain ⟨l0, l1, l2⟩ := po_cells A7.out
      go_wp2_with fail
      go_ret
      exact ⟨rfl, BB.out⟩
    · skip
      have be4 : (e4 == 0) = false := beq_eq_false_iff_ne.2 he4
      clear he4 HT
      obtain ⟨x0, x1, x2⟩ := po_cells AT.out
      obtain ⟨i0, i1, i2⟩ := po_cells A4.out
      obtain ⟨j0, j1, j2⟩ := po_cells A5.out
      obtain ⟨k0, k1, k2⟩ := po_cells A6.out
      obtain ⟨l0, l1, l2⟩ := po_cells A7.out
      have cK5 := check_any q5 a5 most W7 P5.out (by rw [HG5.out.2]; exact HB5.out.1) (by rw [HG5.out.2]; exact HB5.out.2)
      unfold Checks poV poC at cK5
      rw [if_pos HG5o.out] at cK5
      go_wp2_with fail
      clear x0 x1 x2 i0 i1 i2 j0 j1 j2 k0 k1 k2 l0 l1 l2
      refine cK5.mono ?_
      rintro e w8 ⟨rfl, hb⟩
      clear cK5
      replace AT := Lib.hid (AT.out.below hb AT.out.1)
      replace HP := Lib.hid (HP.out.below hb)
      replace BB := Lib.hid (BB.out.trans (hb.mono BB.out.size))
      replace P4 := Lib.hid (P4.out.below hb)
      replace A4 := Lib.hid (A4.out.below hb A4.out.1)
      replace P5 := Lib.hid (P5.out.below hb)
      replace A5 := Lib.hid (A5.out.below hb A5.out.1)
      replace P6 := Lib.hid (P6.out.below hb)
      replace A6 := Lib.hid (A6.out.below hb A6.out.1)
      replace P7 := Lib.hid (P7.out.below hb)
      replace A7 := Lib.hid (A7.out.below hb A7.out.1)
      clear hb
      obtain ⟨x0, x1, x2⟩ := po_cells AT.out
      obtain ⟨i0, i1, i2⟩ := po_cells A4.out
      obtain ⟨j0, j1, j2⟩ := po_cells A5.out
      obtain ⟨k0, k1, k2⟩ := po_cells A6.out
      obtain ⟨l0, l1, l2⟩ := po_cells A7.out
      have cK6 := check_any q6 a6 most w8 P6.out (by rw [HK6.out.2]; exact HB6.out.1) (by rw [HK6.out.2]; exact HB6.out.2)
      unfold Checks poV poC at cK6
      rw [if_pos HK6o.out] at cK6
      go_wp2_with fail
      clear x0 x1 x2 i0 i1 i2 j0 j1 j2 k0 k1 k2 l0 l1 l2
      refine cK6.mono ?_
      rintro e w9 ⟨rfl, hb⟩
      clear cK6
      replace AT := Lib.hid (AT.out.below hb AT.out.1)
      replace HP := Lib.hid (HP.out.below hb)
      replace BB := Lib.hid (BB.out.trans (hb.mono BB.out.size))
      replace P4 := Lib.hid (P4.out.below hb)
      replace A4 := Lib.hid (A4.out.below hb A4.out.1)
      replace P5 := Lib.hid (P5.out.below hb)
      replace A5 := Lib.hid (A5.out.below hb A5.out.1)
      replace P6 := Lib.hid (P6.out.below hb)
      replace A6 := Lib.hid (A6.out.below hb A6.out.1)
      replace P7 := Lib.hid (P7.out.below hb)
      replace A7 := Lib.hid (A7.out.below hb A7.out.1)
      clear hb
      obtain ⟨x0, x1, x2⟩ := po_cells AT.out
      obtain ⟨i0, i1, i2⟩ := po_cells A4.out
      obtain ⟨j0, j1, j2⟩ := po_cells A5.out
      obtain ⟨k0, k1, k2⟩ := po_cells A6.out
      obtain ⟨l0, l1, l2⟩ := po_cells A7.out
      have cK7 := check_any q7 a7 most w9 P7.out HB7.out.1 HB7.out.2
      unfold Checks poV poC at cK7
      rw [if_pos HU.out.1] at cK7
      go_wp2_with fail
      clear x0 x1 x2 i0 i1 i2 j0 j1 j2 k0 k1 k2 l0 l1 l2
      refine cK7.mono ?_
      rintro e w10 ⟨rfl, hb⟩
      clear cK7
      replace AT := Lib.hid (AT.out.below hb AT.out.1)
      replace HP := Lib.hid (HP.out.below hb)
      replace BB := Lib.hid (BB.out.trans (hb.mono BB.out.size))
      replace P4 := Lib.hid (P4.out.below hb)
      replace A4 := Lib.hid (A4.out.below hb A4.out.1)
      replace P5 := Lib.hid (P5.out.below hb)
      replace A5 := Lib.hid (A5.out.below hb A5.out.1)
      replace P6 := Lib.hid (P6.out.below hb)
      replace A6 := Lib.hid (A6.out.below hb A6.out.1)
      replace P7 := Lib.hid (P7.out.below hb)
      replace A7 := Lib.hid (A7.out.below hb A7.out.1)
      clear hb
      obtain ⟨x0, x1, x2⟩ := po_cells AT.out
      obtain ⟨i0, i1, i2⟩ := po_cells A4.out
      obtain ⟨j0, j1, j2⟩ := po_cells A5.out
      obtain ⟨k0, k1, k2⟩ := po_cells A6.out
      obtain ⟨l0, l1, l2⟩ := po_cells A7.out
      go_wp2_with fail
      go_ret
      exact ⟨rfl, BB.out⟩
  · skip
    obtain rfl : e5 = 1 := by rw [HG.out.1, if_neg hmay]
    obtain rfl : e6 = 1 := by rw [HK.out.1, if_neg hmay]
    clear hmay HG HK
    by_cases he4 : e4 = 0
    · skip
      subst he4
      have HT4 := Lib.hid (HT.out rfl)
      clear HT
      have cK4 := check_any q4 a4 most W7 P4.out (by omega) (by omega)
      unfold Checks poV poC at cK4
      rw [if_pos HT4.out.1] at cK4
      obtain ⟨x0, x1, x2⟩ := po_cells AT.out
      obtain ⟨i0, i1, i2⟩ := po_cells A4.out
      obtain ⟨j0, j1, j2⟩ := po_cells A5.out
      obtain ⟨k0, k1, k2⟩ := po_cells A6.out
      obtain ⟨l0, l1, l2⟩ := po_cells A7.out
      have hlo4 := HT4.out.1.low
      have hhi4 : q4.high ≤ 9223372036854775807 := Int.le_trans HT4.out.1.top hm.2
      have hbd : p.high - ((p.free.length : Int) + (p.limbo.length : Int)) + 1 ≤ 9223372036854775807 := by have := HT4.out.2; omega
      have dd : ((q4.high - (q4.free.length : Int) - (q4.limbo.length : Int)) != (p.high - ((p.free.length : Int) + (p.limbo.length : Int)) + 1)) = false := by have := HT4.out.2; simp [bne]; omega
      go_wp2_with fail
      clear x0 x1 x2 i0 i1 i2 j0 j1 j2 k0 k1 k2 l0 l1 l2
      refine cK4.mono ?_
      rintro e w8 ⟨rfl, hb⟩
      clear cK4
      replace AT := Lib.hid (AT.out.below hb AT.out.1)
      replace HP := Lib.hid (HP.out.below hb)
      replace BB := Lib.hid (BB.out.trans (hb.mono BB.out.size))
      replace P4 := Lib.hid (P4.out.below hb)
      replace A4 := Lib.hid (A4.out.below hb A4.out.1)
      replace P5 := Lib.hid (P5.out.below hb)
      replace A5 := Lib.hid (A5.out.below hb A5.out.1)
      replace P6 := Lib.hid (P6.out.below hb)
      replace A6 := Lib.hid (A6.out.below hb A6.out.1)
      replace P7 := Lib.hid (P7.out.below hb)
      replace A7 := Lib.hid (A7.out.below hb A7.out.1)
      clear hb
      obtain ⟨x0, x1, x2⟩ := po_cells AT.out
      obtain ⟨i0, i1, i2⟩ := po_cells A4.out
      obtain ⟨j0, j1, j2⟩ := po_cells A5.out
      obtain ⟨k0, k1, k2⟩ := po_cells A6.out
      obtain ⟨l0, l1, l2⟩ := po_cells A7.out
      have cK7 := check_any q7 a7 most w8 P7.out HB7.out.1 HB7.out.2
      unfold Checks poV poC at cK7
      rw [if_pos HU.out.1] at cK7
      go_wp2_with fail
      clear x0 x1 x2 i0 i1 i2 j0 j1 j2 k0 k1 k2 l0 l1 l2
      refine cK7.mono ?_
      rintro e w9 ⟨rfl, hb⟩
      clear cK7
      replace AT := Lib.hid (AT.out.below hb AT.out.1)
      replace HP := Lib.hid (HP.out.below hb)
      replace BB := Lib.hid (BB.out.trans (hb.mono BB.out.size))
      replace P4 := Lib.hid (P4.out.below hb)
      replace A4 := Lib.hid (A4.out.below hb A4.out.1)
      replace P5 := Lib.hid (P5.out.below hb)
      replace A5 := Lib.hid (A5.out.below hb A5.out.1)
      replace P6 := Lib.hid (P6.out.below hb)
      replace A6 := Lib.hid (A6.out.below hb A6.out.1)
      replace P7 := Lib.hid (P7.out.below hb)
      replace A7 := Lib.hid (A7.out.below hb A7.out.1)
      clear hb
      obtain ⟨x0, x1, x2⟩ := po_cells AT.out
      obtain ⟨i0, i1, i2⟩ := po_cells A4.out
      obtain ⟨j0, j1, j2⟩ := po_cells A5.out
      obtain ⟨k0, k1, k2⟩ := po_cells A6.out
      obtain ⟨l0, l1, l2⟩ := po_cells A7.out
      go_wp2_with fail
      go_ret
      exact ⟨rfl, BB.out⟩
    · skip
      have be4 : (e4 == 0) = false := beq_eq_false_iff_ne.2 he4
      clear he4 HT
      obtain ⟨x0, x1, x2⟩ := po_cells AT.out
      obtain ⟨i0, i1, i2⟩ := po_cells A4.out
      obtain ⟨j0, j1, j2⟩ := po_cells A5.out
      obtain ⟨k0, k1, k2⟩ := po_cells A6.out
      obtain ⟨l0, l1, l2⟩ := po_cells A7.out
      have cK7 := check_any q7 a7 most W7 P7.out HB7.out.1 HB7.out.2
      unfold Checks poV poC at cK7
      rw [if_pos HU.out.1] at cK7
      go_wp2_with fail
      clear x0 x1 x2 i0 i1 i2 j0 j1 j2 k0 k1 k2 l0 l1 l2
      refine cK7.mono ?_
      rintro e w8 ⟨rfl, hb⟩
      clear cK7
      replace AT := Lib.hid (AT.out.below hb AT.out.1)
      replace HP := Lib.hid (HP.out.below hb)
      replace BB := Lib.hid (BB.out.trans (hb.mono BB.out.size))
      replace P4 := Lib.hid (P4.out.below hb)
      replace A4 := Lib.hid (A4.out.below hb A4.out.1)
      replace P5 := Lib.hid (P5.out.below hb)
      replace A5 := Lib.hid (A5.out.below hb A5.out.1)
      replace P6 := Lib.hid (P6.out.below hb)
      replace A6 := Lib.hid (A6.out.below hb A6.out.1)
      replace P7 := Lib.hid (P7.out.below hb)
      replace A7 := Lib.hid (A7.out.below hb A7.out.1)
      clear hb
      obtain ⟨x0, x1, x2⟩ := po_cells AT.out
      obtain ⟨i0, i1, i2⟩ := po_cells A4.out
      obtain ⟨j0, j1, j2⟩ := po_cells A5.out
      obtain ⟨k0, k1, k2⟩ := po_cells A6.out
      obtain ⟨l0, l1, l2⟩ := po_cells A7.out
      go_wp2_with fail
      go_ret
      exact ⟨rfl, BB.out⟩
end Go.Proofs.Ytdkpnoinccdaiaa.Pool
