/-
  The walk of AllocBack.
-/
import Derived.Test.YtdkpnoinccdaiaaQStaysWalk
namespace Go.Proofs.Ytdkpnoinccdaiaa.Pool
open Go.RowKit Gen

/-- All lists but the last have two hundred. -/
theorem chunks_each : ∀ (n : Nat) (l : List Int), l.length ≤ n → ∀ k (h : k < (chunks l).length), 1 ≤ (chunks l)[k].length ∧ (chunks l)[k].length ≤ 200 ∧ (k + 1 < (chunks l).length → (chunks l)[k].length = 200)
  | 0, l, hn, k, h => by
    have := chunks_len l
    omega
  | n + 1, l, hn, k, h => by
    by_cases h0 : l.length = 0
    · have := chunks_len l
      omega
    · have e := chunks_cons l h0
      have hl : (chunks l).length = (chunks (l.drop 200)).length + 1 := by rw [e, List.length_cons]
      have ih := chunks_each n (l.drop 200) (by rw [List.length_drop]; omega)
      rcases k with _ | k
      · have e0 : (chunks l)[0] = l.take 200 := by simp only [e, List.getElem_cons_zero]
        rw [e0, List.length_take]
        refine ⟨by omega, by omega, fun hk => ?_⟩
        have : 0 < (chunks (l.drop 200)).length := by omega
        have h2 := chunks_len (l.drop 200)
        rw [List.length_drop] at h2
        omega
      · have e1 : (chunks l)[k + 1] = (chunks (l.drop 200))[k]'(by omega) := by simp only [e, List.getElem_cons_succ]
        rw [e1]
        have h2 := ih k (by omega)
        exact ⟨h2.1, h2.2.1, fun hk => h2.2.2 (by omega)⟩
theorem allOf_nums (xs : List Part) : allOf xs = (numsOf xs).flatten := by rw [allOf, numsOf, List.flatMap_def]
set_option maxRecDepth 100000 in
set_option maxHeartbeats 16000000 in
theorem back_walk (p : Po) (a : La) (w : World) (h : PoAt w p a) : Calls Try.prog 8 #[poV p a] w (fun e w' => e = .returned (.bool true) ∧ Below w.heap.size w w') := by
  have hb := below_box w (.cells (poC p a) 25)
  have AT := Lib.hid (po_box w p a)
  have HP := Lib.hid (h.below hb)
  have BB := Lib.hid hb
  clear h hb
  obtain ⟨W0, hW0⟩ : ∃ W0, w.alloc (.cells (poC p a) 25) = W0 := ⟨_, rfl⟩
  rw [hW0] at AT HP BB
  have cA := awake_any W0
  unfold poV
  go_enter Try.func8, Try.ntmps8
  go_wp2_with fail
  clear hW0
  refine cA.mono ?_
  rintro e w1 ⟨rfl, hb⟩
  clear cA
  replace AT := Lib.hid (AT.out.below hb AT.out.1)
  replace HP := Lib.hid (HP.out.below hb)
  replace BB := Lib.hid (BB.out.trans (hb.mono BB.out.size))
  clear hb
  obtain ⟨x0, x1, x2⟩ := po_cells AT.out
  have cF := few_any p a w1
  unfold poV at cF
  go_wp2_with fail
  clear x0 x1 x2
  refine cF.mono ?_
  rintro e w2 ⟨r, rfl, hr, hb⟩
  clear cF
  replace AT := Lib.hid (AT.out.below hb AT.out.1)
  replace HP := Lib.hid (HP.out.below hb)
  replace BB := Lib.hid (BB.out.trans (hb.mono BB.out.size))
  clear hb
  rcases r with _ | _
  · clear hr
    go_wp2_with fail
    go_ret
    exact ⟨rfl, BB.out⟩
  have HF := Lib.hid (hr.1 rfl)
  clear hr
  have cK := check_any p a 4096 w2 HP.out (by have := HF.out; omega) (by have := HF.out; omega)
  unfold Checks poV at cK
  obtain ⟨x0, x1, x2⟩ := po_cells AT.out
  by_cases hok : PoolOk p 4096
  rotate_left
  · rw [if_neg hok] at cK
    clear hok
    go_wp2_with fail
    refine cK.mono ?_
    rintro e w3 ⟨rfl, hb⟩
    replace BB := Lib.hid (BB.out.trans (hb.mono BB.out.size))
    clear hb cK x0 x1 x2
    go_wp2_with fail
    go_ret
    exact ⟨rfl, BB.out⟩
  rw [if_pos hok] at cK
  have HOK := Lib.hid hok
  clear hok
  go_wp2_with fail
  clear x0 x1 x2
  refine cK.mono ?_
  rintro e w3 ⟨rfl, hb⟩
  clear cK
  replace AT := Lib.hid (AT.out.below hb AT.out.1)
  replace HP := Lib.hid (HP.out.below hb)
  replace BB := Lib.hid (BB.out.trans (hb.mono BB.out.size))
  clear hb
  have cL := lists_any p a w3 HP.out (by have := HF.out; omega) (by have := HF.out; omega)
  unfold poV poC at cL
  obtain ⟨x0, x1, x2⟩ := po_cells AT.out
  have HTO := Lib.hid (show PoolOk { high := p.high, free := layAll p.free p.limbo } 4096 ∧ (layAll p.free p.limbo).length ≤ 100000 from ⟨turn_ok HOK.out, by rw [layAll_len]; have := HF.out; omega⟩)
  go_wp2_with fail
  refine cL.mono ?_
  rintro e w4 ⟨v4, xs, rfl, ho, hpi, hxs, hb⟩
  clear cL
  replace AT := Lib.hid (AT.out.below hb AT.out.1)
  replace HP := Lib.hid (HP.out.below hb)
  replace BB := Lib.hid (BB.out.trans (hb.mono BB.out.size))
  clear x0 x1 x2
  obtain ⟨A4, c4, rfl, -, -, -, hR⟩ := OwnG.row ho
  have hnum : numsOf xs = chunks (layAll p.free p.limbo) := hxs
  have hall : allOf xs = layAll p.free p.limbo := by rw [allOf_nums, hnum, chunks_flat]
  have hxl : xs.length = (chunks (layAll p.free p.limbo)).length := by rw [← hnum, numsOf, List.length_map]
  have hx5 : xs.length ≤ 100000 := by rw [hxl]; exact Nat.le_trans (chunks_len _) HTO.out.2
  have HC := Lib.hid (show ∀ k (hk : k < xs.length), 1 ≤ xs[k].2.2.length ∧ xs[k].2.2.length ≤ 200 ∧ (k + 1 < xs.length → xs[k].2.2.length = 200) from fun k hk => by
    have h1 := chunks_each _ (layAll p.free p.limbo) (Nat.le_refl _) k (by omega)
    have e1 : (chunks (layAll p.free p.limbo))[k]'(by omega) = xs[k].2.2 := by simp only [← hnum, numsOf, List.getElem_map]
    rw [e1] at h1
    exact ⟨h1.1, h1.2.1, fun h => h1.2.2 (by omega)⟩)
  have HR := Lib.hid hR
  have HPI := Lib.hid hpi
  have HALL := Lib.hid hall
  obtain ⟨n4, hn4⟩ : ∃ n4, xs.length = n4 := ⟨_, rfl⟩
  have HN4 := Lib.hid hn4
  rw [hn4] at hx5 ⊢
  clear ho hpi hxs hb hR hnum hall hxl hn4
  go_wp2_with fail
  go_loop [5] (fun i => ∃ k : Nat, i = .int .i64 (k : Int) ∧ k ≤ n4) (fun i => n4 - (intOf i).toNat)
  case atStart => exact ⟨0, rfl, Nat.zero_le _⟩
  case round =>
    obtain ⟨k, rfl, hk⟩ := hrel
    by_cases hlt : k < n4
    · have hkl : k < xs.length := by rw [HN4.out]; exact hlt
      obtain ⟨b, off, rfl, hlb, hc⟩ := HR.out (by intro e; rw [e] at hkl; simp at hkl)
      have hck := hc k hkl
      obtain ⟨h1, h2, h3⟩ := HC.out k hkl
      rw [HN4.out] at h3
      generalize xs[k] = y at hck h1 h2 h3
      obtain ⟨X1, X2, X3⟩ := y
      have hck2 : w4.cell? ⟨b, off + k, none⟩ = some (.slice X1 X3.length X2) := hck
      dsimp only at h1 h2 h3
      generalize X3.length = m at hck2 h1 h2 h3
      clear hck hc
      have d1 : decide ((200 : Int) < (m : Int)) = false := by simp; omega
      have d2 : ((m : Int) == 0) = false := by simp; omega
      have t1 : (0 : Int) ≤ (k : Int) := by omega
      have t2 : (k : Int) < (n4 : Int) := by omega
      by_cases hl : k + 1 < n4
      · have d3 : decide ((m : Int) < 200) = false := by have := h3 hl; simp; omega
        have d4 : decide ((k : Int) < (n4 : Int) - 1) = true := by simp; omega
        clear h1 h2 h3 hl
        go_wp2_with fail
        go_round
        case rel => exact ⟨k + 1, by go_num, by omega⟩
        case measure => simp [intOf]; omega
      · have d4 : decide ((k : Int) < (n4 : Int) - 1) = false := by simp; omega
        clear h1 h2 h3 hl
        go_wp2_with fail
        go_round
        case rel => exact ⟨k + 1, by go_num, by omega⟩
        case measure => simp [intOf]; omega
    · have hke : k = n4 := by omega
      subst hke
      have dd : decide ((k : Int) < (k : Int)) = false := by simp
      obtain ⟨x0, x1, x2⟩ := po_cells AT.out
      have cO := of_any p.high A4 k c4 xs w4 HN4.out (by omega) HR.out HPI.out (by rw [HALL.out]; exact HTO.out.2)
      rw [HALL.out] at cO
      have e5 : ofP p.high (layAll p.free p.limbo) = ({ high := p.high, free := layAll p.free p.limbo }, 0) := if_pos HTO.out.1
      rw [e5] at cO
      unfold PoolE poV poC at cO
      clear e5 hlt
      go_wp2_with fail
      refine cO.mono ?_
      rintro e w5 ⟨a5, rfl, hp5, hb⟩
      clear cO
      replace AT := Lib.hid (AT.out.below hb AT.out.1)
      replace HP := Lib.hid (HP.out.below hb)
      replace BB := Lib.hid (BB.out.trans (hb.mono BB.out.size))
      replace HR := Lib.hid (RowG.below HR.out hb)
      replace HPI := Lib.hid (HPI.out.below hb)
      have P5 := Lib.hid hp5
      clear hb hp5 x0 x1 x2 dd
      obtain ⟨Wz, W5, z1, r0, r1, r2, fz, s1, at1, bl1, lt1⟩ := put_box w5 (.int .i64 p.high) (.slice a5.A1 (layAll p.free p.limbo).length a5.c1) (.slice a5.A2 0 a5.c2)
      replace AT := Lib.hid (AT.out.below bl1 AT.out.1)
      replace HP := Lib.hid (HP.out.below bl1)
      replace BB := Lib.hid (BB.out.trans (bl1.mono BB.out.size))
      replace HR := Lib.hid (RowG.below HR.out bl1)
      replace HPI := Lib.hid (HPI.out.below bl1)
      replace P5 := Lib.hid (P5.out.below bl1)
      have A5 := Lib.hid (show At W5 w5.heap.size (poC { high := p.high, free := layAll p.free p.limbo } a5) from at1)
      clear at1
      have hd5 : Below W5.heap.size W5 W5.drew := (Below.refl _ _).drew
      have cN := turn_any p a W5.drew (HP.out.below hd5) (by have := HF.out; omega) (by have := HF.out; omega)
      unfold Pools poV poC at cN
      have HL6 := Lib.hid HTO.out.2
      generalize layAll p.free p.limbo = R at *
      have KS := Lib.hid (show ∀ w', Below W5.heap.size W5 w' → (w'.cell? ⟨w.heap.size, 0, none⟩ = some (.int .i64 p.high) ∧ w'.cell? ⟨w.heap.size, 1, none⟩ = some (.slice a.A1 p.free.length a.c1) ∧ w'.cell? ⟨w.heap.size, 2, none⟩ = some (.slice a.A2 p.limbo.length a.c2)) ∧ (w'.cell? ⟨w5.heap.size, 0, none⟩ = some (.int .i64 p.high) ∧ w'.cell? ⟨w5.heap.size, 1, none⟩ = some (.slice a5.A1 R.length a5.c1) ∧ w'.cell? ⟨w5.heap.size, 2, none⟩ = some (.slice a5.A2 0 a5.c2)) from fun w' hB => ⟨po_cells (AT.out.below hB AT.out.1), po_cells (A5.out.below hB A5.out.1)⟩)
      have K0 := Lib.hid (KS.out _ hd5)
      clear hd5
      go_wp2_with fail
      clear z1 r0 r1 r2 fz s1 bl1 lt1
      go_region_held3 (fun w' => (w'.cell? ⟨w.heap.size, 0, none⟩ = some (.int .i64 p.high) ∧ w'.cell? ⟨w.heap.size, 1, none⟩ = some (.slice a.A1 p.free.length a.c1) ∧ w'.cell? ⟨w.heap.size, 2, none⟩ = some (.slice a.A2 p.limbo.length a.c2)) ∧ (w'.cell? ⟨w5.heap.size, 0, none⟩ = some (.int .i64 p.high) ∧ w'.cell? ⟨w5.heap.size, 1, none⟩ = some (.slice a5.A1 R.length a5.c1) ∧ w'.cell? ⟨w5.heap.size, 2, none⟩ = some (.slice a5.A2 0 a5.c2)))
        (with_reducible (first | exact K0.out | exact K1.out | exact K2.out))
        (first
          | (go_at_call 19; (with_reducible refine cN.mono ?_); rintro e w6 ⟨a6, rfl, hp6, hb, -⟩
             have hB : Below W5.heap.size W5 w6 := (Below.refl W5.heap.size W5).drew.trans hb; have K1 := Lib.hid (KS.out _ hB); have HB6 := Lib.hid hB
             have cS := rSame_any { high := p.high, free := R } { high := p.high, free := R } a5 a6 w6 (P5.out.below hB) hp6; unfold poV poC at cS; simp only [List.length_nil] at cS; clear hb hB hp6 cN)
          | (go_at_call 18; (with_reducible refine cS.mono ?_); rintro e w7 ⟨r, rfl, hr, hb⟩
             have K2 := Lib.hid (KS.out _ (HB6.out.trans (hb.mono HB6.out.size))); have HBB := Lib.hid (BB.out.trans ((HB6.out.trans (hb.mono HB6.out.size)).mono BB.out.size)); have hrt : r = true := (by first | exact hr.2 rfl | exact hr.2 trivial); clear hb hr cS))
      subst hrt
      go_wp2_with fail
      go_ret
      exact ⟨rfl, HBB.out⟩
end Go.Proofs.Ytdkpnoinccdaiaa.Pool
