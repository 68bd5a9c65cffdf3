/-
  The walk of AllocLists.
-/
import Derived.Test.YtdkpnoinccdaiaaQRow
import Derived.Test.YtdkpnoinccdaiaaQRef8
namespace Go.Proofs.Ytdkpnoinccdaiaa.Pool
open Go.RowKit Gen

theorem all_le : ∀ (l : List Part), (∀ x ∈ l, x.2.2.length ≤ 300) → (allOf l).length ≤ 300 * l.length
  | [], _ => by simp [allOf]
  | x :: l, h => by
    have h1 := h x (List.mem_cons_self ..)
    have h2 := all_le l (fun y hy => h y (List.mem_cons_of_mem _ hy))
    rw [show allOf (x :: l) = x.2.2 ++ allOf l by simp [allOf], List.length_append, List.length_cons]
    omega
set_option maxRecDepth 100000 in
set_option maxHeartbeats 32000000 in
theorem lists_walk (p : Po) (a : La) (high : Int) (A : Option Addr) (n c : Nat) (l : List Part) (w : World) (h : PoAt w p a) (hl : l.length = n) (hR : RowG w encS A l) (hP : PartsIn w l) : Calls Try.prog 5 #[poV p a, .int .i64 high, .slice A n c] w (fun e w' => e = .returned (.bool true) ∧ Below w.heap.size w w') := by
  have HRW := Lib.hid hR
  have HPW := Lib.hid hP
  have HL := Lib.hid hl
  clear hR hP hl
  have hb := below_box w (.cells (poC p a) 25)
  have AT := Lib.hid (po_box w p a)
  have HP := Lib.hid (h.below hb)
  have BB := Lib.hid hb
  clear h hb
  obtain ⟨W0, hW0⟩ : ∃ W0, w.alloc (.cells (poC p a) 25) = W0 := ⟨_, rfl⟩
  rw [hW0] at AT HP BB
  have cA := awake_any W0
  unfold poV
  go_enter Try.func5, Try.ntmps5
  go_wp2_with fail
  clear hW0
  refine cA.mono ?_
  rintro e w1 ⟨rfl, hb⟩
  clear cA
  replace AT := Lib.hid (AT.out.below hb AT.out.1)
  replace HP := Lib.hid (HP.out.below hb)
  replace BB := Lib.hid (BB.out.trans (hb.mono BB.out.size))
  clear hb
  obtain ⟨x0, x1, x2⟩ := po_cells AT.out
  have cF := few_any p a w1
  unfold poV at cF
  go_wp2_with fail
  clear x0 x1 x2
  refine cF.mono ?_
  rintro e w2 ⟨r, rfl, hr, hb⟩
  clear cF
  replace AT := Lib.hid (AT.out.below hb AT.out.1)
  replace HP := Lib.hid (HP.out.below hb)
  replace BB := Lib.hid (BB.out.trans (hb.mono BB.out.size))
  clear hb
  rcases r with _ | _
  · clear hr
    go_wp2_with fail
    go_ret
    exact ⟨rfl, BB.out⟩
  have HF := Lib.hid (hr.1 rfl)
  clear hr
  have HR := Lib.hid (RowG.below HRW.out BB.out)
  have HPI := Lib.hid (HPW.out.below BB.out)
  clear HRW HPW
  by_cases hn : n ≤ 10
  rotate_left
  · have d1 : decide ((10 : Int) < (n : Int)) = true := by simp; omega
    go_wp2_with fail
    go_ret
    exact ⟨rfl, BB.out⟩
  have d1 : decide ((10 : Int) < (n : Int)) = false := by simp; omega
  go_wp2_with fail
  clear d1
  go_loop [8] (fun i => ∃ k : Nat, i = .int .i64 (k : Int) ∧ k ≤ n ∧ Hid (∀ j (h : j < l.length), j < k → l[j].2.2.length ≤ 300)) (fun i => n - (intOf i).toNat)
  case atStart => exact ⟨0, rfl, Nat.zero_le _, Lib.hid (fun j h hj => absurd hj (Nat.not_lt_zero j))⟩
  case round =>
    obtain ⟨k, rfl, hk, hQ⟩ := hrel
    by_cases hlt : k < n
    · have hkl : k < l.length := by rw [HL.out]; exact hlt
      obtain ⟨b, off, rfl, hlb, hc⟩ := HR.out (by intro e; rw [e] at hkl; simp at hkl)
      have hck := hc k hkl
      have HY : Hid (l[k].2.2.length ≤ 300 → ∀ j (h : j < l.length), j < k + 1 → l[j].2.2.length ≤ 300) := Lib.hid (fun g j hj hjk => by
        by_cases e : j = k
        · subst e; exact g
        · exact hQ.out j hj (by omega))
      generalize l[k] = y at hck HY
      obtain ⟨X1, X2, X3⟩ := y
      have hck2 : w2.cell? ⟨b, off + k, none⟩ = some (.slice X1 X3.length X2) := hck
      dsimp only at HY
      generalize X3.length = m at hck2 HY
      have t1 : (0 : Int) ≤ (k : Int) := by omega
      have t2 : (k : Int) < (n : Int) := by omega
      clear hck hc hQ hkl hlb
      by_cases hm : m ≤ 300
      · have dm : decide ((300 : Int) < (m : Int)) = false := by simp; omega
        have HN := Lib.hid (HY.out hm)
        clear hm HY
        go_wp2_with fail
        go_round
        case rel => exact ⟨k + 1, by go_num, by omega, HN⟩
        case measure => simp [intOf]; omega
      · have dm : decide ((300 : Int) < (m : Int)) = true := by simp; omega
        clear hm HY
        go_wp2_with fail
        go_ret
        exact ⟨rfl, BB.out⟩
    · have hkn : k = n := by omega
      have HLE := Lib.hid (show (allOf l).length ≤ 100000 from by
        have h1 := all_le l (fun x hx => by
          obtain ⟨j, hj, rfl⟩ := List.getElem_of_mem hx
          exact hQ.out j hj (by rw [hkn, ← HL.out]; exact hj))
        rw [HL.out] at h1
        omega)
      have cO := of_any high A n c l w2 HL.out (by omega) HR.out HPI.out HLE.out
      obtain ⟨r3, hr3⟩ : ∃ r, ofP high (allOf l) = r := ⟨_, rfl⟩
      have HR3 := Lib.hid hr3
      rw [hr3] at cO
      clear hr3
      obtain ⟨q3, e3⟩ := r3
      unfold PoolE poV poC at cO
      dsimp only at cO
      have hn2 := Lib.hid (show n ≤ 100000 by omega)
      clear hQ hkn hn hk
      go_wp2_with fail
      refine cO.mono ?_
      rintro e w3 ⟨a3, rfl, hp3, hb⟩
      clear cO
      replace AT := Lib.hid (AT.out.below hb AT.out.1)
      replace HP := Lib.hid (HP.out.below hb)
      replace BB := Lib.hid (BB.out.trans (hb.mono BB.out.size))
      replace HR := Lib.hid (RowG.below HR.out hb)
      replace HPI := Lib.hid (HPI.out.below hb)
      have P3 := Lib.hid hp3
      clear hb hp3
      obtain ⟨Wz, W3, z1, r0, r1, r2, fz, s1, at1, bl1, lt1⟩ := put_box w3 (.int .i64 q3.high) (.slice a3.A1 q3.free.length a3.c1) (.slice a3.A2 q3.limbo.length a3.c2)
      replace AT := Lib.hid (AT.out.below bl1 AT.out.1)
      replace HP := Lib.hid (HP.out.below bl1)
      replace BB := Lib.hid (BB.out.trans (bl1.mono BB.out.size))
      replace HR := Lib.hid (RowG.below HR.out bl1)
      replace HPI := Lib.hid (HPI.out.below bl1)
      replace P3 := Lib.hid (P3.out.below bl1)
      have A3 := Lib.hid (show At W3 w3.heap.size (poC q3 a3) from at1)
      clear at1
      have cO := rOf_any high A n c l W3 HL.out hn2.out HR.out HPI.out HLE.out
      rw [HR3.out] at cO
      unfold PoolE poV poC at cO
      dsimp only at cO
      go_wp2_with fail
      clear z1 r0 r1 r2 fz s1 bl1 lt1
      refine cO.mono ?_
      rintro e w4 ⟨a4, rfl, hp4, hb⟩
      clear cO
      replace AT := Lib.hid (AT.out.below hb AT.out.1)
      replace HP := Lib.hid (HP.out.below hb)
      replace BB := Lib.hid (BB.out.trans (hb.mono BB.out.size))
      replace HR := Lib.hid (RowG.below HR.out hb)
      replace HPI := Lib.hid (HPI.out.below hb)
      replace P3 := Lib.hid (P3.out.below hb)
      replace A3 := Lib.hid (A3.out.below hb A3.out.1)
      have P4 := Lib.hid hp4
      clear hb hp4
      obtain ⟨Wz, W4, z1, r0, r1, r2, fz, s1, at1, bl1, lt1⟩ := put_box w4 (.int .i64 q3.high) (.slice a4.A1 q3.free.length a4.c1) (.slice a4.A2 q3.limbo.length a4.c2)
      replace AT := Lib.hid (AT.out.below bl1 AT.out.1)
      replace HP := Lib.hid (HP.out.below bl1)
      replace BB := Lib.hid (BB.out.trans (bl1.mono BB.out.size))
      replace HR := Lib.hid (RowG.below HR.out bl1)
      replace HPI := Lib.hid (HPI.out.below bl1)
      replace P3 := Lib.hid (P3.out.below bl1)
      replace A3 := Lib.hid (A3.out.below bl1 A3.out.1)
      replace P4 := Lib.hid (P4.out.below bl1)
      have A4 := Lib.hid (show At W4 w4.heap.size (poC q3 a4) from at1)
      clear at1
      obtain ⟨x0, x1, x2⟩ := po_cells A3.out
      obtain ⟨y0, y1, y2⟩ := po_cells A4.out
      have cS := rSame_any q3 q3 a3 a4 W4 P3.out P4.out
      unfold poV poC at cS
      go_wp2_with fail
      clear z1 r0 r1 r2 fz s1 bl1 lt1
      refine cS.mono ?_
      rintro e w5 ⟨r, rfl, hr, hb⟩
      clear cS
      replace AT := Lib.hid (AT.out.below hb AT.out.1)
      replace HP := Lib.hid (HP.out.below hb)
      replace BB := Lib.hid (BB.out.trans (hb.mono BB.out.size))
      replace HR := Lib.hid (RowG.below HR.out hb)
      replace HPI := Lib.hid (HPI.out.below hb)
      replace P3 := Lib.hid (P3.out.below hb)
      replace A3 := Lib.hid (A3.out.below hb A3.out.1)
      replace P4 := Lib.hid (P4.out.below hb)
      replace A4 := Lib.hid (A4.out.below hb A4.out.1)
      obtain rfl : r = true := (by first | exact hr.2 rfl | exact hr.2 trivial)
      clear hb hr x0 x1 x2 y0 y1 y2 P3 P4 A3 A4 HR HPI HR3 HLE hn2
      have hd : Below w5.heap.size w5 w5.drew := (Below.refl _ _).drew
      have cN := lists_any p a w5.drew (HP.out.below hd) (by have := HF.out; omega) (by have := HF.out; omega)
      unfold ListsR poV poC at cN
      have CM := Lib.hid (fun W (hW : Below w5.heap.size w5 W) => rLists_any p a W (HP.out.below hW) (by have := HF.out; omega) (by have := HF.out; omega))
      unfold ListsR poV poC at CM
      have HCL := Lib.hid (show (chunks (layAll p.free p.limbo)).length ≤ 1000000 from by have := chunks_len (layAll p.free p.limbo); rw [layAll_len] at this; have := HF.out; omega)
      generalize chunks (layAll p.free p.limbo) = R at *
      have KS := Lib.hid (show ∀ w', Below w5.heap.size w5 w' → w'.cell? ⟨w.heap.size, 0, none⟩ = some (.int .i64 p.high) ∧ w'.cell? ⟨w.heap.size, 1, none⟩ = some (.slice a.A1 p.free.length a.c1) ∧ w'.cell? ⟨w.heap.size, 2, none⟩ = some (.slice a.A2 p.limbo.length a.c2) from fun w' hB => po_cells (AT.out.below hB AT.out.1))
      have K0 := Lib.hid (KS.out _ hd)
      clear hd
      go_wp2_with fail
      go_region_held3 (fun w' => w'.cell? ⟨w.heap.size, 0, none⟩ = some (.int .i64 p.high) ∧ w'.cell? ⟨w.heap.size, 1, none⟩ = some (.slice a.A1 p.free.length a.c1) ∧ w'.cell? ⟨w.heap.size, 2, none⟩ = some (.slice a.A2 p.limbo.length a.c2))
        (with_reducible (first | exact K0.out | exact K1.out | exact K2.out | exact K3.out))
        (first
          | (go_at_call 26; (with_reducible refine cN.mono ?_); rintro e w12 ⟨v12, xs, rfl, ho, hpi, hxs, hb⟩
             have hB : Below w5.heap.size w5 w12 := (Below.refl w5.heap.size w5).drew.trans hb; have K1 := Lib.hid (KS.out _ hB); have HB1 := Lib.hid hB
             obtain ⟨A12, c12, rfl, -, -, -, hR12⟩ := OwnG.row ho; have PB := Lib.hid (show RowG w12 encS A12 xs ∧ PartsIn w12 xs from ⟨hR12, hpi⟩); have NX := Lib.hid (show numsOf xs = R from hxs)
             have cM := CM.out _ hB; clear hb hB hpi ho hR12 hxs cN)
          | (go_at_call 27; (with_reducible refine cM.mono ?_); rintro e w13 ⟨v13, ys, rfl, ho, hpi, hxs, hb⟩
             have hB : Below w5.heap.size w5 w13 := HB1.out.trans (hb.mono HB1.out.size); have K2 := Lib.hid (KS.out _ hB); have HB2 := Lib.hid hB
             obtain ⟨A13, c13, rfl, -, -, -, hR13⟩ := OwnG.row ho; have NY := Lib.hid (show numsOf ys = R from hxs)
             have cS := rSameLists_any A12 A13 xs.length c12 ys.length c13 xs ys w13 rfl rfl (by have h1 := congrArg List.length NX.out; rw [numsOf, List.length_map] at h1; have := HCL.out; omega) (RowG.below PB.out.1 hb) hR13 (PB.out.2.below hb) hpi
             clear hb hB hpi ho hR13 hxs cM)
          | (go_at_call 25; (with_reducible refine cS.mono ?_); rintro e w14 ⟨r, rfl, hr, hb⟩
             have hB : Below w5.heap.size w5 w14 := HB2.out.trans (hb.mono HB2.out.size); have K3 := Lib.hid (KS.out _ hB); have HBB := Lib.hid (BB.out.trans (hB.mono BB.out.size))
             have hrt : r = true := hr.2 (NX.out.trans NY.out.symm); clear hb hr hB cS))
      subst hrt
      clear K0 K1 K2 K3 KS CM PB HB1 HB2
      go_wp2_with fail
      go_ret
      exact ⟨by simp, HBB.out⟩
end Go.Proofs.Ytdkpnoinccdaiaa.Pool
