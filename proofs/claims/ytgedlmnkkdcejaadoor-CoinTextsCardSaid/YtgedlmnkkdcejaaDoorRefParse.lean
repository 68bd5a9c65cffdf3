/-
  The contract of the reference's Parse.
-/
import Derived.Test.YtgedlmnkkdcejaaDoorRefText
import Derived.Test.YtgedlmnkkdcejaaDoorBackWalk
namespace Go.Proofs.YtgedlmnkkdcejaaDoor.Coin
open Go.RowKit
open Go.Lib (itoa decDigits)

theorem wrap64_bd (x : Int) : -9223372036854775808 ≤ wrap64 x ∧ wrap64 x ≤ 9223372036854775807 := by unfold wrap64; omega
theorem wrapu_bd (x : Int) : 0 ≤ IntKind.u64.wrap x ∧ IntKind.u64.wrap x ≤ 18446744073709551615 := by rw [wrap_lo]; exact lo_bd x
theorem minus_back (p : Int) (h0 : 0 ≤ p) (h1 : p ≤ 9223372036854775808) : wrap64 (IntKind.u64.wrap (-p)) = -p := by
  rw [wrap_lo]; unfold wrap64 lo; omega

set_option maxHeartbeats 2000000 in
theorem ref_no_minus (s D : ByteArray) (w : World) (hE : s.extract 1 s.size = D) (hs : s.size ≤ 50) (h1 : 0 < s.size) (hc : s[0].toNat = 45) (hd0 : 0 < D.size) (hd1 : D.size ≤ 19)
    (hn : ∀ v, -9223372036854775808 ≤ v → v ≤ 9223372036854775807 → (itoa v == s.toList) = false) :
    Calls Tryd.prog 21 #[.string s] w fun e w' => e = .returned (.tuple #[.int .i64 0, .int .i64 11]) ∧ Below w.heap.size w w' := by
  have HN := Lib.hid hn
  clear hn
  have d0 : ((D.size : Int) == 0) = false := beq_eq_false_iff_ne.2 (by omega)
  have d1 : decide (19 < D.size) = false := by simp; omega
  have d2 : (D.size : Int) ≤ 19 := by omega
  go_enter Tryd.func21, Tryd.ntmps21
  go_wp2
  go_loop [6, 7] (fun n i => ∃ (k : Nat) (m : Int), k ≤ D.size ∧ i = .int .i64 k ∧ n = .int .u64 m ∧ 0 ≤ m ∧ m ≤ 18446744073709551615) (fun _ i => D.size - (intOf i).toNat)
  case atStart => exact ⟨0, 0, Nat.zero_le _, rfl, rfl, by omega, by omega⟩
  case round =>
    obtain ⟨k, m, hk, rfl, rfl, m0, m1⟩ := hrel
    by_cases hlt : k < D.size
    · go_wp2
      all_goals first
        | (go_ret2; exact ⟨rfl, Below.refl _ _⟩)
        | (go_round
           case rel => exact ⟨k + 1, _, by omega, by go_num, rfl, (wrapu_bd _).1, (wrapu_bd _).2⟩
           case measure => simp [intOf]; omega)
    · go_wp2_with fail
      all_goals first
        | (go_ret2; exact ⟨rfl, Below.refl _ _⟩)
        | (have hb := wrap64_bd (IntKind.u64.wrap (-m))
           refine (ref_text (wrap64 (IntKind.u64.wrap (-m))) _ hb.1 hb.2).mono ?_
           rintro e w1 ⟨rfl, B1⟩
           have hne := HN.out _ hb.1 hb.2
           go_wp2
           go_ret2
           exact ⟨rfl, B1⟩)

set_option maxHeartbeats 2000000 in
theorem ref_yes_minus (s D : ByteArray) (w : World) (hE : s.extract 1 s.size = D) (hs : s.size ≤ 50) (h1 : 0 < s.size) (hc : s[0].toNat = 45) (hd0 : 0 < D.size) (hd1 : D.size ≤ 19) (U : Int) (N : Nat → Int) (N0 : N 0 = 0)
    (NS : ∀ k (h : k < D.size), 48 ≤ (D[k].toNat : Int) ∧ (D[k].toNat : Int) ≤ 57 ∧ N (k + 1) = N k * 10 + ((D[k].toNat : Int) - 48)) (NB : ∀ k, 0 ≤ N k ∧ N k ≤ U) (NE : N D.size = U) (hU : U ≤ 9223372036854775808)
    (hn : (itoa (-U) == s.toList) = true) :
    Calls Tryd.prog 21 #[.string s] w fun e w' => e = .returned (.tuple #[.int .i64 (-U), .int .i64 0]) ∧ Below w.heap.size w w' := by
  have HN := Lib.hid hn
  have H0 := Lib.hid N0
  have HS := Lib.hid NS
  have HB := Lib.hid NB
  have HE := Lib.hid NE
  clear hn N0 NS NB NE
  have d0 : ((D.size : Int) == 0) = false := beq_eq_false_iff_ne.2 (by omega)
  have d1 : decide (19 < D.size) = false := by simp; omega
  have d2 : (D.size : Int) ≤ 19 := by omega
  go_enter Tryd.func21, Tryd.ntmps21
  go_wp2
  go_loop [6, 7] (fun n i => ∃ (k : Nat), k ≤ D.size ∧ i = .int .i64 k ∧ n = .int .u64 (N k)) (fun _ i => D.size - (intOf i).toNat)
  case atStart => exact ⟨0, Nat.zero_le _, rfl, by rw [H0.out]⟩
  case round =>
    obtain ⟨k, hk, rfl, rfl⟩ := hrel
    by_cases hlt : k < D.size
    · obtain ⟨q0, q1, q2⟩ := HS.out k hlt
      obtain ⟨q3, q4⟩ := HB.out k
      obtain ⟨q5, q6⟩ := HB.out (k + 1)
      rw [q2] at q5 q6
      have HQ := Lib.hid q2
      clear q2
      generalize N k = m at *
      go_wp2
      go_round
      case rel => exact ⟨k + 1, by omega, by go_num, by rw [HQ.out]⟩
      case measure => simp [intOf]; omega
    · obtain rfl : k = D.size := by omega
      have hm := HE.out
      obtain ⟨q3, q4⟩ := HB.out D.size
      rw [hm] at q3 q4 ⊢
      clear hm q4
      go_wp2_with fail
      rw [minus_back U q3 (by omega)]
      refine (ref_text (-U) _ (by omega) (by omega)).mono ?_
      rintro e w1 ⟨rfl, B1⟩
      have hne := HN.out
      go_wp2
      go_ret2
      exact ⟨rfl, B1⟩

set_option maxHeartbeats 2000000 in
theorem ref_no_plain (D : ByteArray) (w : World) (hc : ∀ h : 0 < D.size, ((D[0].toNat : Int) == 45) = false) (hd0 : 0 < D.size) (hd1 : D.size ≤ 19)
    (hn : ∀ v, -9223372036854775808 ≤ v → v ≤ 9223372036854775807 → (itoa v == D.toList) = false) :
    Calls Tryd.prog 21 #[.string D] w fun e w' => e = .returned (.tuple #[.int .i64 0, .int .i64 11]) ∧ Below w.heap.size w w' := by
  have HN := Lib.hid hn
  clear hn
  have d0 : ((D.size : Int) == 0) = false := beq_eq_false_iff_ne.2 (by omega)
  have d1 : decide (19 < D.size) = false := by simp; omega
  have d2 : (D.size : Int) ≤ 19 := by omega
  have d3 : (0 : Int) < (D.size : Int) := by omega
  have hc0 := hc hd0
  clear hc
  go_enter Tryd.func21, Tryd.ntmps21
  go_wp2
  go_loop [6, 7] (fun n i => ∃ (k : Nat) (m : Int), k ≤ D.size ∧ i = .int .i64 k ∧ n = .int .u64 m ∧ 0 ≤ m ∧ m ≤ 18446744073709551615) (fun _ i => D.size - (intOf i).toNat)
  case atStart => exact ⟨0, 0, Nat.zero_le _, rfl, rfl, by omega, by omega⟩
  case round =>
    obtain ⟨k, m, hk, rfl, rfl, m0, m1⟩ := hrel
    by_cases hlt : k < D.size
    · go_wp2
      all_goals first
        | (go_ret2; exact ⟨rfl, Below.refl _ _⟩)
        | (go_round
           case rel => exact ⟨k + 1, _, by omega, by go_num, rfl, (wrapu_bd _).1, (wrapu_bd _).2⟩
           case measure => simp [intOf]; omega)
    · go_wp2_with fail
      all_goals first
        | (go_ret2; exact ⟨rfl, Below.refl _ _⟩)
        | (have hb : -9223372036854775808 ≤ m ∧ m ≤ 9223372036854775807 := by omega
           refine (ref_text (m) _ hb.1 hb.2).mono ?_
           rintro e w1 ⟨rfl, B1⟩
           have hne := HN.out _ hb.1 hb.2
           go_wp2
           go_ret2
           exact ⟨rfl, B1⟩)

set_option maxHeartbeats 2000000 in
theorem ref_yes_plain (D : ByteArray) (w : World) (hc : ∀ h : 0 < D.size, ((D[0].toNat : Int) == 45) = false) (hd0 : 0 < D.size) (hd1 : D.size ≤ 19) (U : Int) (N : Nat → Int) (N0 : N 0 = 0)
    (NS : ∀ k (h : k < D.size), 48 ≤ (D[k].toNat : Int) ∧ (D[k].toNat : Int) ≤ 57 ∧ N (k + 1) = N k * 10 + ((D[k].toNat : Int) - 48)) (NB : ∀ k, 0 ≤ N k ∧ N k ≤ U) (NE : N D.size = U) (hU : U ≤ 9223372036854775807)
    (hn : (itoa (U) == D.toList) = true) :
    Calls Tryd.prog 21 #[.string D] w fun e w' => e = .returned (.tuple #[.int .i64 (U), .int .i64 0]) ∧ Below w.heap.size w w' := by
  have HN := Lib.hid hn
  have H0 := Lib.hid N0
  have HS := Lib.hid NS
  have HB := Lib.hid NB
  have HE := Lib.hid NE
  clear hn N0 NS NB NE
  have d0 : ((D.size : Int) == 0) = false := beq_eq_false_iff_ne.2 (by omega)
  have d1 : decide (19 < D.size) = false := by simp; omega
  have d2 : (D.size : Int) ≤ 19 := by omega
  have d3 : (0 : Int) < (D.size : Int) := by omega
  have hc0 := hc hd0
  clear hc
  go_enter Tryd.func21, Tryd.ntmps21
  go_wp2
  go_loop [6, 7] (fun n i => ∃ (k : Nat), k ≤ D.size ∧ i = .int .i64 k ∧ n = .int .u64 (N k)) (fun _ i => D.size - (intOf i).toNat)
  case atStart => exact ⟨0, Nat.zero_le _, rfl, by rw [H0.out]⟩
  case round =>
    obtain ⟨k, hk, rfl, rfl⟩ := hrel
    by_cases hlt : k < D.size
    · obtain ⟨q0, q1, q2⟩ := HS.out k hlt
      obtain ⟨q3, q4⟩ := HB.out k
      obtain ⟨q5, q6⟩ := HB.out (k + 1)
      rw [q2] at q5 q6
      have HQ := Lib.hid q2
      clear q2
      generalize N k = m at *
      go_wp2
      go_round
      case rel => exact ⟨k + 1, by omega, by go_num, by rw [HQ.out]⟩
      case measure => simp [intOf]; omega
    · obtain rfl : k = D.size := by omega
      have hm := HE.out
      obtain ⟨q3, q4⟩ := HB.out D.size
      rw [hm] at q3 q4 ⊢
      clear hm q4
      go_wp2_with fail
      refine (ref_text (U) _ (by omega) (by omega)).mono ?_
      rintro e w1 ⟨rfl, B1⟩
      have hne := HN.out
      go_wp2
      go_ret2
      exact ⟨rfl, B1⟩

end Go.Proofs.YtgedlmnkkdcejaaDoor.Coin
