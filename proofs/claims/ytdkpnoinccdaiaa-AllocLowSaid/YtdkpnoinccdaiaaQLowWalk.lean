/-
  The walk of AllocLow.
-/
import Derived.Test.YtdkpnoinccdaiaaQRow
namespace Go.Proofs.Ytdkpnoinccdaiaa.Pool
open Go.RowKit Gen

theorem takeP_cons {p : Po} {most x : Int} {fs : List Int} (h : p.free = x :: fs) : takeP p most = ({ high := p.high, free := fs, limbo := p.limbo }, x, 0) := by unfold takeP; rw [h]
theorem takeP_no {p : Po} {most : Int} (h : p.free = []) (hm : most ≤ p.high) : takeP p most = ({ high := 0 }, 0, 60) := by unfold takeP; rw [h]; exact if_pos hm
theorem takeP_new {p : Po} {most : Int} (h : p.free = []) (hm : ¬ most ≤ p.high) : takeP p most = ({ high := p.high + 1, limbo := p.limbo }, p.high, 0) := by unfold takeP; rw [h]; exact if_neg hm
set_option maxRecDepth 100000 in
set_option maxHeartbeats 16000000 in
theorem low_walk (p : Po) (a : La) (most : Int) (w : World) (h : PoAt w p a) (hi : I64 p.high) (hm : I64 most) : Calls Try.prog 9 #[poV p a, .int .i64 most] w (fun e w' => e = .returned (.bool true) ∧ Below w.heap.size w w') := by
  have hb := below_box w (.cells (poC p a) 25)
  have AT := Lib.hid (po_box w p a)
  have HP := Lib.hid (h.below hb)
  have BB := Lib.hid hb
  clear h hb
  obtain ⟨W0, hW0⟩ : ∃ W0, w.alloc (.cells (poC p a) 25) = W0 := ⟨_, rfl⟩
  rw [hW0] at AT HP BB
  have cA := awake_any W0
  unfold poV
  go_enter Try.func9, Try.ntmps9
  go_wp2_with fail
  clear hW0
  refine cA.mono ?_
  rintro e w1 ⟨rfl, hb⟩
  clear cA
  replace AT := Lib.hid (AT.out.below hb AT.out.1)
  replace HP := Lib.hid (HP.out.below hb)
  replace BB := Lib.hid (BB.out.trans (hb.mono BB.out.size))
  clear hb
  obtain ⟨x0, x1, x2⟩ := po_cells AT.out
  have cF := few_any p a w1
  unfold poV at cF
  go_wp2_with fail
  clear x0 x1 x2
  refine cF.mono ?_
  rintro e w2 ⟨r, rfl, hr, hb⟩
  clear cF
  replace AT := Lib.hid (AT.out.below hb AT.out.1)
  replace HP := Lib.hid (HP.out.below hb)
  replace BB := Lib.hid (BB.out.trans (hb.mono BB.out.size))
  clear hb
  rcases r with _ | _
  · clear hr
    go_wp2_with fail
    go_ret
    exact ⟨rfl, BB.out⟩
  have HF := Lib.hid (hr.1 rfl)
  clear hr
  have cK := check_any p a most w2 HP.out (by have := HF.out; omega) (by have := HF.out; omega)
  unfold Checks poV at cK
  obtain ⟨x0, x1, x2⟩ := po_cells AT.out
  by_cases hok : PoolOk p most
  rotate_left
  · rw [if_neg hok] at cK
    clear hok
    go_wp2_with fail
    refine cK.mono ?_
    rintro e w3 ⟨rfl, hb⟩
    replace BB := Lib.hid (BB.out.trans (hb.mono BB.out.size))
    clear hb cK x0 x1 x2
    go_wp2_with fail
    go_ret
    exact ⟨rfl, BB.out⟩
  rw [if_pos hok] at cK
  have HOK := Lib.hid hok
  clear hok
  go_wp2_with fail
  clear x0 x1 x2
  refine cK.mono ?_
  rintro e w3 ⟨rfl, hb⟩
  clear cK
  replace AT := Lib.hid (AT.out.below hb AT.out.1)
  replace HP := Lib.hid (HP.out.below hb)
  replace BB := Lib.hid (BB.out.trans (hb.mono BB.out.size))
  clear hb
  have cT := take_any p a most w3 HP.out (by have := HF.out; omega) (by have := HF.out; omega) hi.1 hm.2
  unfold PoolN poV at cT
  obtain ⟨x0, x1, x2⟩ := po_cells AT.out
  rcases (show p.free = [] ∨ ∃ x fs, p.free = x :: fs from by
    rcases p.free with _ | ⟨x, fs⟩
    · exact .inl rfl
    · exact .inr ⟨x, fs, rfl⟩) with hfr | ⟨x, fs, hfr⟩
  · by_cases hmh : most ≤ p.high
    · have HEQ := Lib.hid (show (p.high == most) = true from beq_iff_eq.2 (Int.le_antisymm HOK.out.top hmh))
      rw [takeP_no hfr hmh] at cT
      unfold poC at cT
      dsimp only at cT
      have HFR := Lib.hid hfr
      clear hmh hfr
      go_wp2_with fail
      refine cT.mono ?_
      rintro e w4 ⟨a4, rfl, -, hb⟩
      clear cT
      replace AT := Lib.hid (AT.out.below hb AT.out.1)
      replace HP := Lib.hid (HP.out.below hb)
      replace BB := Lib.hid (BB.out.trans (hb.mono BB.out.size))
      clear hb x0 x1 x2
      obtain ⟨Wz, W4, z1, r0, r1, r2, fz, s1, at1, bl1, lt1⟩ := put_box w4 (.int .i64 0) (.slice a4.A1 0 a4.c1) (.slice a4.A2 0 a4.c2)
      replace AT := Lib.hid (AT.out.below bl1 AT.out.1)
      replace HP := Lib.hid (HP.out.below bl1)
      replace BB := Lib.hid (BB.out.trans (bl1.mono BB.out.size))
      have A4 := Lib.hid (show At W4 w4.heap.size (poC { high := 0 } a4) from at1)
      clear at1
      obtain ⟨x0, x1, x2⟩ := po_cells AT.out
      rw [HFR.out] at x1
      have e9 := HEQ.out
      go_wp2_with fail
      go_ret
      exact ⟨rfl, BB.out⟩
    · rw [takeP_new hfr hmh] at cT
      unfold poC at cT
      dsimp only at cT
      have HFR := Lib.hid hfr
      clear hmh hfr
      go_wp2_with fail
      refine cT.mono ?_
      rintro e w4 ⟨a4, rfl, -, hb⟩
      clear cT
      replace AT := Lib.hid (AT.out.below hb AT.out.1)
      replace HP := Lib.hid (HP.out.below hb)
      replace BB := Lib.hid (BB.out.trans (hb.mono BB.out.size))
      clear hb x0 x1 x2
      obtain ⟨Wz, W4, z1, r0, r1, r2, fz, s1, at1, bl1, lt1⟩ := put_box w4 (.int .i64 (p.high + 1)) (.slice a4.A1 0 a4.c1) (.slice a4.A2 p.limbo.length a4.c2)
      replace AT := Lib.hid (AT.out.below bl1 AT.out.1)
      replace HP := Lib.hid (HP.out.below bl1)
      replace BB := Lib.hid (BB.out.trans (bl1.mono BB.out.size))
      have A4 := Lib.hid (show At W4 w4.heap.size (poC { high := p.high + 1, limbo := p.limbo } a4) from at1)
      clear at1
      obtain ⟨x0, x1, x2⟩ := po_cells AT.out
      rw [HFR.out] at x1
      clear A4
      go_wp2_with fail
      clear z1 r0 r1 r2 fz s1 bl1 lt1
      go_loop [9] (fun i => i = .int .i64 0) (fun _ => 0)
      case atStart => rfl
      case round =>
        obtain rfl := hrel
        go_wp2_with fail
        go_ret
        exact ⟨rfl, BB.out⟩
  rw [takeP_cons hfr] at cT
  unfold poC at cT
  dsimp only at cT
  have HFR := Lib.hid hfr
  clear hfr
  go_wp2_with fail
  refine cT.mono ?_
  rintro e w4 ⟨a4, rfl, -, hb⟩
  clear cT
  replace AT := Lib.hid (AT.out.below hb AT.out.1)
  replace HP := Lib.hid (HP.out.below hb)
  replace BB := Lib.hid (BB.out.trans (hb.mono BB.out.size))
  clear hb x0 x1 x2
  obtain ⟨Wz, W4, z1, r0, r1, r2, fz, s1, at1, bl1, lt1⟩ := put_box w4 (.int .i64 p.high) (.slice a4.A1 fs.length a4.c1) (.slice a4.A2 p.limbo.length a4.c2)
  replace AT := Lib.hid (AT.out.below bl1 AT.out.1)
  replace HP := Lib.hid (HP.out.below bl1)
  replace BB := Lib.hid (BB.out.trans (bl1.mono BB.out.size))
  have A4 := Lib.hid (show At W4 w4.heap.size (poC { high := p.high, free := fs, limbo := p.limbo } a4) from at1)
  clear at1
  obtain ⟨x0, x1, x2⟩ := po_cells AT.out
  clear A4
  have hfr := HFR.out
  obtain ⟨b, off, hA, hlt, hc⟩ := HP.out.f.row (by rw [hfr]; simp)
  rw [hA] at x1
  obtain ⟨nf, hnf⟩ : ∃ nf, p.free.length = nf := ⟨_, rfl⟩
  have hn0 : 0 < nf := by rw [← hnf, hfr]; simp
  have y0 : W4.cell? ⟨b, off, none⟩ = some (.int .i64 x) := by have h0 := hc 0 (by omega); simp only [hfr, List.getElem_cons_zero] at h0; exact h0
  have HC := Lib.hid (show ∀ k (hk : k < p.free.length), W4.cell? ⟨b, off + k, none⟩ = some (.int .i64 p.free[k]) ∧ ¬ p.free[k] < x from fun k hk => ⟨hc k hk, fun hlt => by
    have hr := HOK.out.free
    unfold Rise at hr
    rw [hfr, List.pairwise_cons] at hr
    rcases k with _ | k
    · simp only [hfr, List.getElem_cons_zero] at hlt; omega
    · simp only [hfr, List.getElem_cons_succ] at hlt
      have := hr.1 _ (List.getElem_mem (by rw [hfr] at hk; simpa using hk))
      omega⟩)
  have HNF := Lib.hid hnf
  rw [hnf] at x1
  have hnb : nf ≤ 600 := by rw [← hnf]; exact HF.out.1
  have t1 : (0 : Int) < (nf : Int) := by omega
  have d1 : ((nf : Int) == 0) = false := by simp; omega
  clear hnf hc hfr hlt
  go_wp2_with fail
  clear z1 r0 r1 r2 fz s1 bl1 lt1
  go_loop [9] (fun i => ∃ k : Nat, i = .int .i64 (k : Int) ∧ k ≤ nf) (fun i => nf - (intOf i).toNat)
  case atStart => exact ⟨0, rfl, Nat.zero_le _⟩
  case round =>
    obtain ⟨k, rfl, hk⟩ := hrel
    by_cases hlt : k < nf
    · obtain ⟨hck, hnl⟩ := HC.out k (by rw [HNF.out]; exact hlt)
      generalize p.free[k]'(by rw [HNF.out]; exact hlt) = y at hck hnl
      have dd : decide (y < x) = false := by simp; omega
      have t3 : (k : Int) < (nf : Int) := by omega
      clear d1
      go_wp2_with fail
      go_round
      case rel => exact ⟨k + 1, by go_num, by omega⟩
      case measure => simp [intOf]; omega
    · have dd : decide ((k : Int) < (nf : Int)) = false := by simp; omega
      go_wp2_with fail
      go_ret
      exact ⟨rfl, BB.out⟩
end Go.Proofs.Ytdkpnoinccdaiaa.Pool
