/-
  Contracts of the reference's Sub, size and Mul.
-/
import Derived.Test.YtgedlmnkkdcejaaDoorArith
namespace Go.Proofs.YtgedlmnkkdcejaaDoor.Coin
open Go.RowKit

set_option maxHeartbeats 400000 in
theorem ref_sub (a b : Int) (w : World) (a0 : -9223372036854775808 ≤ a) (a1 : a ≤ 9223372036854775807) (b0 : -9223372036854775808 ≤ b) (b1 : b ≤ 9223372036854775807) :
    Calls Tryd.prog 15 #[.int .i64 a, .int .i64 b] w fun e w' => e = .returned (.tuple #[.int .i64 (val (a - b)), .int .i64 (err (a - b))]) ∧ w = w' := by
  by_cases h0 : b < 0
  · by_cases h1 : 9223372036854775807 + b < a
    · rw [val_out (by omega), err_out (by omega)]
      go_enter Tryd.func15, Tryd.ntmps15
      go_wp2
      go_ret2; exact ⟨rfl, rfl⟩
    · rw [val_in (by omega) (by omega), err_in (by omega) (by omega)]
      have g0 : decide (0 < b) = false := by simp; omega
      go_enter Tryd.func15, Tryd.ntmps15
      go_wp2
      go_ret2; exact ⟨rfl, rfl⟩
  · by_cases h1 : 0 < b
    · by_cases h2 : a < -9223372036854775808 + b
      · rw [val_out (by omega), err_out (by omega)]
        go_enter Tryd.func15, Tryd.ntmps15
        go_wp2
        go_ret2; exact ⟨rfl, rfl⟩
      · rw [val_in (by omega) (by omega), err_in (by omega) (by omega)]
        go_enter Tryd.func15, Tryd.ntmps15
        go_wp2
        go_ret2; exact ⟨rfl, rfl⟩
    · obtain rfl : b = 0 := by omega
      rw [Int.sub_zero, val_in (by omega) (by omega), err_in (by omega) (by omega)]
      go_enter Tryd.func15, Tryd.ntmps15
      go_wp2
      go_ret2; exact ⟨rfl, rfl⟩

theorem ret_int {k : IntKind} {a b : Int} (h : a = b) : Ending.returned (.int k a) = .returned (.int k b) := by rw [h]
/-- How far a number is from 0. -/
def sz (a : Int) : Int := (a.natAbs : Int)
theorem sz_bd (a : Int) (a0 : -9223372036854775808 ≤ a) (a1 : a ≤ 9223372036854775807) : 0 ≤ sz a ∧ sz a ≤ 9223372036854775808 := by unfold sz; omega
theorem sz_neg {a : Int} (h : a < 0) : sz a = -a := by unfold sz; omega
theorem sz_pos {a : Int} (h : 0 ≤ a) : sz a = a := by unfold sz; omega
theorem ref_size (a : Int) (w : World) (a0 : -9223372036854775808 ≤ a) (a1 : a ≤ 9223372036854775807) :
    Calls Tryd.prog 29 #[.int .i64 a] w fun e w' => e = .returned (.int .u64 (sz a)) ∧ w = w' := by
  by_cases h : a < 0
  · rw [sz_neg h]
    go_enter Tryd.func29, Tryd.ntmps29
    go_wp2
    go_ret
    exact ⟨ret_int (by omega), rfl⟩
  · rw [sz_pos (by omega)]
    go_enter Tryd.func29, Tryd.ntmps29
    go_wp2
    go_ret
    exact ⟨rfl, rfl⟩

theorem sz_mul (a b : Int) : sz a * sz b = sz (a * b) := by unfold sz; rw [Int.natAbs_mul]; simp
theorem neg_back (p : Int) (h0 : 0 ≤ p) (h1 : p ≤ 9223372036854775808) : wrap64 (IntKind.u64.wrap (-IntKind.u64.wrap p)) = -p := by
  rw [wrap_lo, wrap_lo]; unfold wrap64 lo; omega
theorem pos_back (p : Int) (h0 : 0 ≤ p) (h1 : p ≤ 9223372036854775807) : wrap64 (IntKind.u64.wrap p) = p := by
  rw [wrap_lo]; unfold wrap64 lo; omega
theorem in_of_div (x y L : Int) (hx : 1 ≤ x) (h : y ≤ L / x) : x * y ≤ L := by
  have := (Int.le_ediv_iff_mul_le (a := y) (b := L) (c := x) (by omega)).1 h
  rw [Int.mul_comm]; exact this
theorem out_of_div (x y L : Int) (hx : 1 ≤ x) (h : L / x < y) : L < x * y := by
  have := (Int.ediv_lt_iff_lt_mul (a := L) (b := y) (c := x) (by omega)).1 h
  rw [Int.mul_comm]; exact this
theorem ret_pair {a b c d : Int} (h : a = b) (g : c = d) : Ending.returned (.tuple #[.int .i64 a, .int .i64 c]) = .returned (.tuple #[.int .i64 b, .int .i64 d]) := by rw [h, g]

/-- Unlike signs. -/
theorem less_in (a b : Int) (h : a < 0 ∧ 0 < b ∨ 0 < a ∧ b < 0) (hp : 1 ≤ sz a) (hq : sz b ≤ 9223372036854775808 / sz a) :
    wrap64 (IntKind.u64.wrap (-IntKind.u64.wrap (sz a * sz b))) = val (a * b) ∧ 0 = err (a * b) := by
  have hm := in_of_div _ _ _ hp hq
  rw [sz_mul] at hm ⊢
  have hn : a * b < 0 := by
    rcases h with ⟨h, g⟩ | ⟨h, g⟩
    · exact Int.mul_neg_of_neg_of_pos h g
    · exact Int.mul_neg_of_pos_of_neg h g
  rw [sz_neg hn] at hm ⊢
  rw [neg_back _ (by omega) hm, val_in (by omega) (by omega), err_in (by omega) (by omega)]
  exact ⟨by omega, rfl⟩
theorem less_out (a b : Int) (h : a < 0 ∧ 0 < b ∨ 0 < a ∧ b < 0) (hp : 1 ≤ sz a) (hq : 9223372036854775808 / sz a < sz b) :
    0 = val (a * b) ∧ 10 = err (a * b) := by
  have hm := out_of_div _ _ _ hp hq
  rw [sz_mul] at hm
  have hn : a * b < 0 := by
    rcases h with ⟨h, g⟩ | ⟨h, g⟩
    · exact Int.mul_neg_of_neg_of_pos h g
    · exact Int.mul_neg_of_pos_of_neg h g
  rw [sz_neg hn] at hm
  rw [val_out (by omega), err_out (by omega)]
  exact ⟨rfl, rfl⟩
/-- Like signs. -/
theorem same_in (a b : Int) (h : a < 0 ∧ b < 0 ∨ 0 < a ∧ 0 < b) (hp : 1 ≤ sz a) (hq : sz b ≤ 9223372036854775807 / sz a) :
    wrap64 (IntKind.u64.wrap (sz a * sz b)) = val (a * b) ∧ 0 = err (a * b) := by
  have hm := in_of_div _ _ _ hp hq
  rw [sz_mul] at hm ⊢
  have hn : 0 < a * b := by
    rcases h with ⟨h, g⟩ | ⟨h, g⟩
    · exact Int.mul_pos_of_neg_of_neg h g
    · exact Int.mul_pos h g
  rw [sz_pos (by omega)] at hm ⊢
  rw [pos_back _ (by omega) hm, val_in (by omega) (by omega), err_in (by omega) (by omega)]
  exact ⟨rfl, rfl⟩
theorem same_out (a b : Int) (h : a < 0 ∧ b < 0 ∨ 0 < a ∧ 0 < b) (hp : 1 ≤ sz a) (hq : 9223372036854775807 / sz a < sz b) :
    0 = val (a * b) ∧ 10 = err (a * b) := by
  have hm := out_of_div _ _ _ hp hq
  rw [sz_mul] at hm
  have hn : 0 < a * b := by
    rcases h with ⟨h, g⟩ | ⟨h, g⟩
    · exact Int.mul_pos_of_neg_of_neg h g
    · exact Int.mul_pos h g
  rw [sz_pos (by omega)] at hm
  rw [val_out (by omega), err_out (by omega)]
  exact ⟨rfl, rfl⟩

set_option maxHeartbeats 1000000 in
theorem ref_mul_less (a b : Int) (w : World) (a0 : -9223372036854775808 ≤ a) (a1 : a ≤ 9223372036854775807) (b0 : -9223372036854775808 ≤ b) (b1 : b ≤ 9223372036854775807)
    (h : a < 0 ∧ 0 < b ∨ 0 < a ∧ b < 0) :
    Calls Tryd.prog 17 #[.int .i64 a, .int .i64 b] w fun e w' => e = .returned (.tuple #[.int .i64 (val (a * b)), .int .i64 (err (a * b))]) ∧ w = w' := by
  have ha := sz_bd a a0 a1
  have hb := sz_bd b b0 b1
  have hp : 1 ≤ sz a := by unfold sz; omega
  have H1 := Lib.hid (less_in a b h hp)
  have H2 := Lib.hid (less_out a b h hp)
  by_cases hq : sz b ≤ 9223372036854775808 / sz a
  all_goals
    rcases h with ⟨h, g⟩ | ⟨h, g⟩
    all_goals
      go_enter Tryd.func17, Tryd.ntmps17
      go_wp2_with fail
      refine (ref_size a _ a0 a1).mono ?_
      rintro e w1 ⟨rfl, rfl⟩
      go_wp2_with fail
      refine (ref_size b _ b0 b1).mono ?_
      rintro e w1 ⟨rfl, rfl⟩
      go_wp2
      go_ret2
      first
      | exact ⟨ret_pair (H1.out hq).1 (H1.out hq).2, rfl⟩
      | exact ⟨ret_pair (H2.out (by omega)).1 (H2.out (by omega)).2, rfl⟩

set_option maxHeartbeats 1000000 in
theorem ref_mul_same (a b : Int) (w : World) (a0 : -9223372036854775808 ≤ a) (a1 : a ≤ 9223372036854775807) (b0 : -9223372036854775808 ≤ b) (b1 : b ≤ 9223372036854775807)
    (h : a < 0 ∧ b < 0 ∨ 0 < a ∧ 0 < b) :
    Calls Tryd.prog 17 #[.int .i64 a, .int .i64 b] w fun e w' => e = .returned (.tuple #[.int .i64 (val (a * b)), .int .i64 (err (a * b))]) ∧ w = w' := by
  have ha := sz_bd a a0 a1
  have hb := sz_bd b b0 b1
  have hp : 1 ≤ sz a := by unfold sz; omega
  have H1 := Lib.hid (same_in a b h hp)
  have H2 := Lib.hid (same_out a b h hp)
  by_cases hq : sz b ≤ 9223372036854775807 / sz a
  all_goals
    rcases h with ⟨h, g⟩ | ⟨h, g⟩
    · have g1 : decide (0 < b) = false := by simp; omega
      have g2 : decide (0 < a) = false := by simp; omega
      go_enter Tryd.func17, Tryd.ntmps17
      go_wp2_with fail
      refine (ref_size a _ a0 a1).mono ?_
      rintro e w1 ⟨rfl, rfl⟩
      go_wp2_with fail
      refine (ref_size b _ b0 b1).mono ?_
      rintro e w1 ⟨rfl, rfl⟩
      go_wp2
      go_ret2
      first
      | exact ⟨ret_pair (H1.out hq).1 (H1.out hq).2, rfl⟩
      | exact ⟨ret_pair (H2.out (by omega)).1 (H2.out (by omega)).2, rfl⟩
    · have g1 : decide (a < 0) = false := by simp; omega
      have g2 : decide (b < 0) = false := by simp; omega
      go_enter Tryd.func17, Tryd.ntmps17
      go_wp2_with fail
      refine (ref_size a _ a0 a1).mono ?_
      rintro e w1 ⟨rfl, rfl⟩
      go_wp2_with fail
      refine (ref_size b _ b0 b1).mono ?_
      rintro e w1 ⟨rfl, rfl⟩
      go_wp2
      go_ret2
      first
      | exact ⟨ret_pair (H1.out hq).1 (H1.out hq).2, rfl⟩
      | exact ⟨ret_pair (H2.out (by omega)).1 (H2.out (by omega)).2, rfl⟩

theorem val0 : val 0 = 0 := rfl
theorem err0 : err 0 = 0 := rfl
set_option maxHeartbeats 1000000 in
theorem ref_mul_zero (b : Int) (w : World) (b0 : -9223372036854775808 ≤ b) (b1 : b ≤ 9223372036854775807) :
    Calls Tryd.prog 17 #[.int .i64 0, .int .i64 b] w fun e w' => e = .returned (.tuple #[.int .i64 0, .int .i64 0]) ∧ w = w' := by
  have hb := sz_bd b b0 b1
  have hs : sz 0 = 0 := rfl
  go_enter Tryd.func17, Tryd.ntmps17
  go_wp2_with fail
  refine (ref_size 0 _ (by omega) (by omega)).mono ?_
  rintro e w1 ⟨rfl, rfl⟩
  go_wp2_with fail
  refine (ref_size b _ b0 b1).mono ?_
  rintro e w1 ⟨rfl, rfl⟩
  go_wp2
  go_ret2
  exact ⟨rfl, rfl⟩
set_option maxHeartbeats 1000000 in
theorem ref_mul_zero' (a : Int) (w : World) (a0 : -9223372036854775808 ≤ a) (a1 : a ≤ 9223372036854775807) (h : a < 0 ∨ 0 < a) :
    Calls Tryd.prog 17 #[.int .i64 a, .int .i64 0] w fun e w' => e = .returned (.tuple #[.int .i64 0, .int .i64 0]) ∧ w = w' := by
  have ha := sz_bd a a0 a1
  have hs : sz 0 = 0 := rfl
  have hp : 1 ≤ sz a := by unfold sz; omega
  have hd : 0 ≤ 9223372036854775807 / sz a := Int.ediv_nonneg (by omega) (by omega)
  rcases h with h | h
  · have g2 : decide (0 < a) = false := by simp; omega
    go_enter Tryd.func17, Tryd.ntmps17
    go_wp2_with fail
    refine (ref_size a _ a0 a1).mono ?_
    rintro e w1 ⟨rfl, rfl⟩
    go_wp2_with fail
    refine (ref_size 0 _ (by omega) (by omega)).mono ?_
    rintro e w1 ⟨rfl, rfl⟩
    go_wp2
    go_ret2
    exact ⟨rfl, rfl⟩
  · have g2 : decide (a < 0) = false := by simp; omega
    go_enter Tryd.func17, Tryd.ntmps17
    go_wp2_with fail
    refine (ref_size a _ a0 a1).mono ?_
    rintro e w1 ⟨rfl, rfl⟩
    go_wp2_with fail
    refine (ref_size 0 _ (by omega) (by omega)).mono ?_
    rintro e w1 ⟨rfl, rfl⟩
    go_wp2
    go_ret2
    exact ⟨rfl, rfl⟩

theorem ref_mul (a b : Int) (w : World) (a0 : -9223372036854775808 ≤ a) (a1 : a ≤ 9223372036854775807) (b0 : -9223372036854775808 ≤ b) (b1 : b ≤ 9223372036854775807) :
    Calls Tryd.prog 17 #[.int .i64 a, .int .i64 b] w fun e w' => e = .returned (.tuple #[.int .i64 (val (a * b)), .int .i64 (err (a * b))]) ∧ w = w' := by
  by_cases ha : a = 0
  · subst ha; rw [Int.zero_mul]; exact ref_mul_zero b w b0 b1
  · by_cases hb : b = 0
    · subst hb; rw [Int.mul_zero]; exact ref_mul_zero' a w a0 a1 (by omega)
    · by_cases h : a < 0 ∧ 0 < b ∨ 0 < a ∧ b < 0
      · exact ref_mul_less a b w a0 a1 b0 b1 h
      · exact ref_mul_same a b w a0 a1 b0 b1 (by omega)
end Go.Proofs.YtgedlmnkkdcejaaDoor.Coin
