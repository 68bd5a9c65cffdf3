/-
  The walks of LabelTells and LabelRises.
-/
import Derived.Test.YtghoelgjpljbkaaDoorLAwake
import Derived.Test.YtghoelgjpljbkaaDoorLOrder
import Derived.WalkLawsBesides
namespace Go.Proofs.YtghoelgjpljbkaaDoor.Label
open Go.RowKit

/-- What both Numbers tell of a text. -/
theorem number_both (s : ByteArray) : ∃ a b : Int, (∀ W, Ready W → Calls Tryd.prog 10 #[.string s] W fun e w' => e = .returned (.tuple #[.int .u64 a, .int .i64 b]) ∧ Below W.heap.size W w') ∧
    (∀ W, Calls Tryd.prog 11 #[.string s] W fun e w' => e = .returned (.tuple #[.int .u64 a, .int .i64 b]) ∧ Below W.heap.size W w') := by
  by_cases h : ∃ n, n < 18446744073709551616 ∧ s.data.toList = hexN 16 n
  · obtain ⟨n, hn, he⟩ := h
    have hs : s = ⟨(hexN 16 n).toArray⟩ := ByteArray.ext (Array.toList_inj.1 (by rw [he]))
    exact ⟨n, 0, fun W hW => number_yes s n hn hs W hW, fun W => ref_number_yes s n hn hs W⟩
  · have hn : ∀ n, n < 18446744073709551616 → s.data.toList ≠ hexN 16 n := fun n hn he => h ⟨n, hn, he⟩
    exact ⟨0, 20, fun W hW => number_no s hn W hW, fun W => ref_number_no s hn W⟩

set_option maxHeartbeats 4000000 in
set_option maxRecDepth 100000 in
theorem tells_walk (s : ByteArray) (n : Nat) (w : World) (hs : s.size ≤ maxLen) (hn : n < 18446744073709551616) (hr : Ready w) :
    Calls Tryd.prog 4 #[.string s, .int .u64 n] w fun e w' => e = .returned (.bool true) ∧ Below w.heap.size w w' := by
  unfold maxLen at hs
  have HR := Lib.hid hr
  clear hr
  by_cases hlen : 100 < s.size
  · go_enter Tryd.func4, Tryd.ntmps4
    go_wp2_with fail
    refine (awake_any _ HR.out).mono ?_
    rintro e w1 ⟨rfl, B1⟩
    go_wp2
    go_ret
    exact ⟨rfl, B1⟩
  · obtain ⟨a, b, hP, hQ⟩ := number_both s
    have HP := Lib.hid hP
    have HQ := Lib.hid hQ
    clear hP hQ
    go_enter Tryd.func4, Tryd.ntmps4
    go_wp2_with fail
    refine (awake_any _ HR.out).mono ?_
    rintro e w1 ⟨rfl, B1⟩
    go_wp2_with fail
    refine (HP.out _ (HR.out.below B1)).mono ?_
    rintro e w2 ⟨rfl, c2⟩
    have B2 := B1.trans (c2.mono B1.size)
    clear B1 c2
    go_wp2_with fail
    refine (HQ.out _).mono ?_
    rintro e w3 ⟨rfl, c3⟩
    have B3 := B2.trans (c3.mono B2.size)
    clear B2 c3
    go_wp2_with fail
    refine (who_any _ _ (by omega)).mono ?_
    rintro e w' ⟨rfl, rfl⟩
    go_wp2_with fail
    refine (ref_who _ _ (by omega)).mono ?_
    rintro e w' ⟨rfl, rfl⟩
    go_wp2_with fail
    refine (asset_any _ _ (by omega)).mono ?_
    rintro e w' ⟨rfl, rfl⟩
    go_wp2_with fail
    refine (ref_asset _ _ (by omega)).mono ?_
    rintro e w' ⟨rfl, rfl⟩
    go_wp2_with fail
    refine (word_any _ _ (by omega)).mono ?_
    rintro e w' ⟨rfl, rfl⟩
    go_wp2_with fail
    refine (ref_word _ _ (by omega)).mono ?_
    rintro e w' ⟨rfl, rfl⟩
    go_wp2_with fail
    refine (digits_any n _ hn (HR.out.below B3)).mono ?_
    rintro e w4 ⟨rfl, c4⟩
    have B4 := B3.trans (c4.mono B3.size)
    clear B3 c4
    go_wp2_with fail
    refine (ref_digits n _ hn).mono ?_
    rintro e w5 ⟨rfl, c5⟩
    have B5 := B4.trans (c5.mono B4.size)
    clear B4 c5
    go_wp2_with fail
    refine (end_any _ _ (by omega)).mono ?_
    rintro e w' ⟨rfl, rfl⟩
    go_wp2_with fail
    refine (ref_end _ _ (by omega)).mono ?_
    rintro e w' ⟨rfl, rfl⟩
    go_wp2
    go_ret
    exact ⟨rfl, B5⟩

set_option maxHeartbeats 4000000 in
set_option maxRecDepth 100000 in
theorem rises_walk (a b : Nat) (w : World) (ha : a < 18446744073709551616) (hb : b < 18446744073709551616) (hr : Ready w) :
    Calls Tryd.prog 7 #[.int .u64 a, .int .u64 b] w fun e w' => e = .returned (.bool true) ∧ Below w.heap.size w w' := by
  have HR := Lib.hid hr
  have hL := hexN_less 16 a b ha hb
  have hE := hexN_eq 16 a b ha hb
  have hN := number_yes ⟨(hexN 16 a).toArray⟩ a ha rfl
  have hDa := fun W => digits_any a W ha
  have hDb := fun W => digits_any b W hb
  have hZ := hexN_len 16 a
  have HN := Lib.hid hN
  have HDa := Lib.hid hDa
  have HDb := Lib.hid hDb
  clear hr hN hDa hDb
  generalize hexN 16 a = X at *
  generalize hexN 16 b = Y at *
  have hc : a < b ∨ a = b ∨ b < a := by omega
  rcases hc with h | h | h
  · have g1 : Op.bytesLess X Y = true := by rw [hL]; simp [h]
    have g2 : (X == Y) = false := by rw [hE]; simp; omega
    have g3 : ((a : Int) == (b : Int)) = false := by rw [beq_eq_false_iff_ne]; omega
    clear hL hE
    go_enter Tryd.func7, Tryd.ntmps7
    go_wp2_with fail
    refine (awake_any _ HR.out).mono ?_
    rintro e w1 ⟨rfl, B1⟩
    go_wp2_with fail
    refine (HDa.out _ (HR.out.below B1)).mono ?_
    rintro e w2 ⟨rfl, c2⟩
    have B2 := B1.trans (c2.mono B1.size)
    go_wp2_with fail
    refine (HDb.out _ (HR.out.below B2)).mono ?_
    rintro e w3 ⟨rfl, c3⟩
    have B3 := B2.trans (c3.mono B2.size)
    go_wp2_with fail
    refine (HN.out _ (HR.out.below B3)).mono ?_
    rintro e w4 ⟨rfl, c4⟩
    have B4 := B3.trans (c4.mono B3.size)
    clear B1 B2 B3 c2 c3 c4
    go_wp2
    go_ret
    exact ⟨rfl, B4⟩
  · have g4 : decide (a < b) = false := by simp; omega
    have g1 : Op.bytesLess X Y = false := by rw [hL]; simp; omega
    have g2 : (X == Y) = true := by rw [hE]; simp; omega
    have g3 : ((a : Int) == (b : Int)) = true := by rw [beq_iff_eq]; omega
    have h1 : a ≤ b := by omega
    have h2 : b ≤ a := by omega
    clear hL hE h
    go_enter Tryd.func7, Tryd.ntmps7
    go_wp2_with fail
    refine (awake_any _ HR.out).mono ?_
    rintro e w1 ⟨rfl, B1⟩
    go_wp2_with fail
    refine (HDa.out _ (HR.out.below B1)).mono ?_
    rintro e w2 ⟨rfl, c2⟩
    have B2 := B1.trans (c2.mono B1.size)
    go_wp2_with fail
    refine (HDb.out _ (HR.out.below B2)).mono ?_
    rintro e w3 ⟨rfl, c3⟩
    have B3 := B2.trans (c3.mono B2.size)
    go_wp2_with fail
    refine (HN.out _ (HR.out.below B3)).mono ?_
    rintro e w4 ⟨rfl, c4⟩
    have B4 := B3.trans (c4.mono B3.size)
    clear B1 B2 B3 c2 c3 c4
    go_wp2
    go_ret
    exact ⟨rfl, B4⟩
  · have g4 : decide (a < b) = false := by simp; omega
    have g1 : Op.bytesLess X Y = false := by rw [hL]; simp; omega
    have g2 : (X == Y) = false := by rw [hE]; simp; omega
    have g3 : ((a : Int) == (b : Int)) = false := by rw [beq_eq_false_iff_ne]; omega
    clear hL hE
    go_enter Tryd.func7, Tryd.ntmps7
    go_wp2_with fail
    refine (awake_any _ HR.out).mono ?_
    rintro e w1 ⟨rfl, B1⟩
    go_wp2_with fail
    refine (HDa.out _ (HR.out.below B1)).mono ?_
    rintro e w2 ⟨rfl, c2⟩
    have B2 := B1.trans (c2.mono B1.size)
    go_wp2_with fail
    refine (HDb.out _ (HR.out.below B2)).mono ?_
    rintro e w3 ⟨rfl, c3⟩
    have B3 := B2.trans (c3.mono B2.size)
    go_wp2_with fail
    refine (HN.out _ (HR.out.below B3)).mono ?_
    rintro e w4 ⟨rfl, c4⟩
    have B4 := B3.trans (c4.mono B3.size)
    clear B1 B2 B3 c2 c3 c4
    go_wp2
    go_ret
    exact ⟨rfl, B4⟩
end Go.Proofs.YtghoelgjpljbkaaDoor.Label
