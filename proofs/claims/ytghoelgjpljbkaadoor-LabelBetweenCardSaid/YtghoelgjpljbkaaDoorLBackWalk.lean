/-
  The walks of LabelKeys and LabelBack.
-/
import Derived.Test.YtghoelgjpljbkaaDoorLAwake
namespace Go.Proofs.YtghoelgjpljbkaaDoor.Label
open Go.RowKit

theorem SRow.nil (w : World) (A : Option Addr) : SRow w A [] := fun h => absurd rfl h

set_option maxHeartbeats 4000000 in
set_option maxRecDepth 100000 in
theorem keys_walk (sp : UInt8) (A : Option Addr) (n c : Nat) (l : List ByteArray) (key : ByteArray) (w : World) (hl : l.length = n) (hc : n ≤ 9223372036854775807) (hz : ∀ p ∈ l, p.size ≤ 9223372036854775807) (hR : SRow w A l) (hk : key.size ≤ 9223372036854775807) (hr : Ready w) :
    Calls Tryd.prog 5 #[.int .u8 (sp.toNat : Int), .slice A n c, .string key] w fun e w' => e = .returned (.bool true) ∧ Below w.heap.size w w' := by
  have HR := Lib.hid hr
  have HRow := Lib.hid hR
  have HZ := Lib.hid hz
  have HL := Lib.hid hl
  clear hr hR hz hl
  by_cases h1 : 10 < n
  · go_enter Tryd.func5, Tryd.ntmps5
    go_wp2_with fail
    refine (awake_any _ HR.out).mono ?_
    rintro e w1 ⟨rfl, B1⟩
    go_wp2
    go_ret
    exact ⟨rfl, B1⟩
  · by_cases h2 : 100 < key.size
    · go_enter Tryd.func5, Tryd.ntmps5
      go_wp2_with fail
      refine (awake_any _ HR.out).mono ?_
      rintro e w1 ⟨rfl, B1⟩
      go_wp2
      go_ret
      exact ⟨rfl, B1⟩
    · have g1 : decide (10 < (n : Int)) = false := by simp; omega
      have g2 : decide (100 < (key.size : Int)) = false := by simp; omega
      go_enter Tryd.func5, Tryd.ntmps5
      go_wp2_with fail
      refine (awake_any _ HR.out).mono ?_
      rintro e w1 ⟨rfl, B1⟩
      have hRow1 := HRow.out.below B1
      have HRow1 := Lib.hid hRow1
      clear hRow1
      go_wp2
      go_loop [8] (fun i => ∃ k : Nat, k ≤ n ∧ i = .int .i64 k) (fun i => n - (intOf i).toNat)
      case atStart => exact ⟨0, by omega, rfl⟩
      case round =>
        obtain ⟨k, hkn, rfl⟩ := hrel
        by_cases hlt : k < n
        · have hkl : k < l.length := by rw [HL.out]; exact hlt
          obtain ⟨b, off, rfl, hb, hC⟩ := HRow1.out (by intro e; rw [e] at hkl; simp at hkl)
          have hcell := hC k hkl
          have hsz := HZ.out l[k] (List.getElem_mem hkl)
          clear hC
          generalize l[k] = p at *
          by_cases hp : 100 < p.size
          · go_wp2
            go_ret
            exact ⟨rfl, B1⟩
          · go_wp2
            go_round
            case rel => exact ⟨k + 1, by omega, by go_num⟩
            case measure => simp [intOf]; omega
        · obtain rfl : k = n := by omega
          go_wp2_with fail
          refine (key_any sp A k c l _ HL.out (by omega) HZ.out HRow1.out).mono ?_
          rintro e w2 ⟨rfl, c2⟩
          have B2 := B1.trans (c2.mono B1.size)
          have HRow2 := Lib.hid (HRow1.out.below c2)
          go_wp2_with fail
          refine (ref_key sp A k c l _ HL.out (by omega) HZ.out HRow2.out).mono ?_
          rintro e w3 ⟨rfl, c3⟩
          have B3 := B2.trans (c3.mono B2.size)
          clear B1 B2 c2 c3 HRow2
          go_wp2_with fail
          refine (split_any key _ (by omega) (HR.out.below B3)).mono ?_
          intro e w4 h4
          have B4 := B3.trans (h4.1.mono B3.size)
          clear B3
          have hcase := h4.2
          rcases hcase with ⟨s4, A4, c4, bs, k4, e4, rfl, l4, R4⟩ | ⟨n4, rfl⟩
          · have hlen4 : bs.length ≤ 4 := by have := (ok_parts k4).2.2.1; rwa [txt_len] at this
            have HK4 := Lib.hid k4
            have HE4 := Lib.hid e4
            have HR4 := Lib.hid R4
            clear k4 e4 R4 h4
            go_wp2_with fail
            refine (ref_split key _ (by omega)).mono ?_
            rintro e w5 ⟨c5, ⟨s5, A5, d5, bs5, k5, e5, rfl, l5, R5⟩ | ⟨n5, rfl⟩⟩
            · obtain ⟨rfl, hbb⟩ := key_inj HK4.out k5 (HE4.out.symm.trans e5)
              obtain rfl := txt_eq.1 hbb
              have B5 := B4.trans (c5.mono B4.size)
              have HR5 := Lib.hid R5
              have HR45 := Lib.hid (HR4.out.below c5)
              clear B4 c5 k5 e5 hbb R5 HR4
              go_wp2_with fail
              refine (same_any A4 A5 bs.length bs.length c4 d5 bs bs _ rfl rfl (by omega) (by omega) HR45.out HR5.out).mono ?_
              rintro e w6 ⟨rfl, c6⟩
              have B6 := B5.trans (c6.mono B5.size)
              clear B5 c6
              go_wp2
              go_ret
              exact ⟨rfl, B6⟩
            · exact absurd HE4.out (n5 _ _ HK4.out)
          · have HN4 := Lib.hid n4
            clear n4 h4
            go_wp2_with fail
            refine (ref_split key _ (by omega)).mono ?_
            rintro e w5 ⟨c5, ⟨s5, A5, d5, bs5, k5, e5, rfl, l5, R5⟩ | ⟨n5, rfl⟩⟩
            · exact absurd e5 (HN4.out _ _ k5)
            · have B5 := B4.trans (c5.mono B4.size)
              clear B4 c5 n5
              go_wp2_with fail
              refine (same_any none none 0 0 0 0 [] [] _ rfl rfl (by omega) (by omega) (SRow.nil _ _) (SRow.nil _ _)).mono ?_
              rintro e w6 ⟨rfl, c6⟩
              have B6 := B5.trans (c6.mono B5.size)
              clear B5 c6
              go_wp2
              go_ret
              exact ⟨rfl, B6⟩

/-- What Split tells of a key, behind the part of LabelBack that asks for parts. -/
theorem back_tail (key : ByteArray) (hk : key.size ≤ 100) (W : World) (hr : Ready W) :
    Calls Tryd.prog 24 #[.string key] W fun e w' => Below W.heap.size W w' ∧ ((e = .returned (.tuple #[.int .u8 0, .slice none 0 0, .int .i64 20])) ∨
      ∃ (sp : UInt8) (A : Option Addr) (n c : Nat), e = .returned (.tuple #[.int .u8 (sp.toNat : Int), .slice A n c, .int .i64 0]) ∧ n ≤ 4 ∧
        ∀ W', Below w'.heap.size w' W' → Calls Tryd.prog 22 #[.int .u8 (sp.toNat : Int), .slice A n c] W' fun e w'' => e = .returned (.tuple #[.string key, .int .i64 0]) ∧ Below W'.heap.size W' w'') := by
  refine (split_any key W (by omega) hr).mono ?_
  rintro e w' ⟨hb, ⟨sp, A, c, bs, k4, e4, rfl, l4, R4⟩ | ⟨n4, rfl⟩⟩
  · have hlen4 : bs.length ≤ 4 := by have := (ok_parts k4).2.2.1; rwa [txt_len] at this
    refine ⟨hb, Or.inr ⟨sp, A, bs.length, c, rfl, hlen4, fun W' hW' => ?_⟩⟩
    have h := key_any sp A bs.length c bs W' rfl (by omega) (fun p hp => by
      have h1 := bars_ge bs p hp
      have h2 := congrArg List.length e4
      rw [show key.data.toList.length = key.size from rfl] at h2
      simp [keyS] at h2
      omega) (R4.below hW')
    have e1 : kR sp (txt bs) = key.data.toList := by unfold kR; rw [k4, e4]; rfl
    have e2 : kE sp (txt bs) = 0 := by unfold kE; rw [k4]; rfl
    rw [e1, e2] at h
    exact h
  · exact ⟨hb, Or.inl rfl⟩

set_option maxHeartbeats 4000000 in
set_option maxRecDepth 100000 in
theorem back_walk (sp : UInt8) (A : Option Addr) (n c : Nat) (l : List ByteArray) (key : ByteArray) (w : World) (hl : l.length = n) (hc : n ≤ 9223372036854775807) (hz : ∀ p ∈ l, p.size ≤ 9223372036854775807) (hR : SRow w A l) (hk : key.size ≤ 9223372036854775807) (hr : Ready w) :
    Calls Tryd.prog 6 #[.int .u8 (sp.toNat : Int), .slice A n c, .string key] w fun e w' => e = .returned (.bool true) ∧ Below w.heap.size w w' := by
  have HR := Lib.hid hr
  have HRow := Lib.hid hR
  have HZ := Lib.hid hz
  have HL := Lib.hid hl
  clear hr hR hz hl
  by_cases h1 : 10 < n
  · go_enter Tryd.func6, Tryd.ntmps6
    go_wp2_with fail
    refine (awake_any _ HR.out).mono ?_
    rintro e w1 ⟨rfl, B1⟩
    go_wp2
    go_ret
    exact ⟨rfl, B1⟩
  · by_cases h2 : 100 < key.size
    · go_enter Tryd.func6, Tryd.ntmps6
      go_wp2_with fail
      refine (awake_any _ HR.out).mono ?_
      rintro e w1 ⟨rfl, B1⟩
      go_wp2
      go_ret
      exact ⟨rfl, B1⟩
    · have g1 : decide (10 < (n : Int)) = false := by simp; omega
      have g2 : decide (100 < (key.size : Int)) = false := by simp; omega
      have hT := fun W hW => back_tail key (by omega) W hW
      have HT := Lib.hid hT
      clear hT
      cases hko : keyOk sp (txt l)
      · have e2 : kE sp (txt l) = 20 := by unfold kE; rw [hko]; rfl
        have HE2 := Lib.hid e2
        clear e2 hko
        go_enter Tryd.func6, Tryd.ntmps6
        go_wp2_with fail
        refine (awake_any _ HR.out).mono ?_
        rintro e w1 ⟨rfl, B1⟩
        go_wp2_with fail
        refine (key_any sp A n c l _ HL.out (by omega) HZ.out (HRow.out.below B1)).mono ?_
        rintro e w2 ⟨rfl, c2⟩
        rw [HE2.out]
        have B2 := B1.trans (c2.mono B1.size)
        clear B1 c2
        go_wp2_with fail
        refine (HT.out _ (HR.out.below B2)).mono ?_
        rintro e w3 ⟨c3, rfl | ⟨s3, A3, n3, d3, rfl, l3, K3⟩⟩
        · have B3 := B2.trans (c3.mono B2.size)
          go_wp2
          go_ret
          exact ⟨rfl, B3⟩
        · have B3 := B2.trans (c3.mono B2.size)
          have HK3 := Lib.hid K3
          clear K3 B2 c3
          go_wp2_with fail
          refine (HK3.out _ (Below.refl _ _)).mono ?_
          rintro e w4 ⟨rfl, c4⟩
          have B4 := B3.trans (c4.mono B3.size)
          go_wp2
          go_ret
          exact ⟨rfl, B4⟩
      · have e1 : kR sp (txt l) = keyS sp (txt l) := by unfold kR; rw [hko]; rfl
        have e2 : kE sp (txt l) = 0 := by unfold kE; rw [hko]; rfl
        have HE1 := Lib.hid e1
        have HE2 := Lib.hid e2
        have hS := fun W hW => split_any ⟨(keyS sp (txt l)).toArray⟩ W (by have := (key_len hko).2; show (keyS sp (txt l)).toArray.size ≤ 1000; simp; omega) hW
        have HS := Lib.hid hS
        have HKO := Lib.hid hko
        clear e1 e2 hko hS
        go_enter Tryd.func6, Tryd.ntmps6
        go_wp2_with fail
        refine (awake_any _ HR.out).mono ?_
        rintro e w1 ⟨rfl, B1⟩
        go_wp2_with fail
        refine (key_any sp A n c l _ HL.out (by omega) HZ.out (HRow.out.below B1)).mono ?_
        rintro e w2 ⟨rfl, c2⟩
        rw [HE1.out, HE2.out]
        have B2 := B1.trans (c2.mono B1.size)
        clear B1 c2
        go_wp2_with fail
        refine (HS.out _ (HR.out.below B2)).mono ?_
        rintro e w3 ⟨c3, ⟨s5, A5, d5, bs5, k5, e5, rfl, l5, R5⟩ | ⟨n5, rfl⟩⟩
        · obtain ⟨rfl, hbb⟩ := key_inj HKO.out k5 e5
          obtain rfl := txt_eq.1 hbb
          have B3 := B2.trans (c3.mono B2.size)
          have HR5 := Lib.hid R5
          clear B2 c3 hbb k5 e5 R5
          go_wp2_with fail
          refine (same_any A5 A l.length n d5 c l l _ rfl HL.out (by rw [HL.out]; omega) (by omega) HR5.out (HRow.out.below B3)).mono ?_
          rintro e w4 ⟨rfl, c4⟩
          have B4 := B3.trans (c4.mono B3.size)
          clear B3 c4
          go_wp2_with fail
          refine (HT.out _ (HR.out.below B4)).mono ?_
          rintro e w5 ⟨c5, rfl | ⟨s3, A3, n3, d3, rfl, l3, K3⟩⟩
          · have B5 := B4.trans (c5.mono B4.size)
            go_wp2
            go_ret
            exact ⟨rfl, B5⟩
          · have B5 := B4.trans (c5.mono B4.size)
            have HK3 := Lib.hid K3
            clear K3 B4 c5
            go_wp2_with fail
            refine (HK3.out _ (Below.refl _ _)).mono ?_
            rintro e w6 ⟨rfl, c6⟩
            have B6 := B5.trans (c6.mono B5.size)
            go_wp2
            go_ret
            exact ⟨rfl, B6⟩
        · exact absurd rfl (n5 _ _ HKO.out)
end Go.Proofs.YtghoelgjpljbkaaDoor.Label
