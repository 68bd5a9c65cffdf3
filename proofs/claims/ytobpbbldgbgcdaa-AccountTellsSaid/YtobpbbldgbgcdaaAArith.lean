/-
  Contracts of package coin's sums, differences and products, and of the reference's.
-/
import Derived.Test.YtobpbbldgbgcdaaAWide
namespace Go.Proofs.Ytobpbbldgbgcdaa.Coin
open Go.RowKit

/-- What is told of a number: the number itself and 0, or 0 and 10 beyond 64 bits. -/
def val (x : Int) : Int := if -9223372036854775808 ≤ x ∧ x ≤ 9223372036854775807 then x else 0
def err (x : Int) : Int := if -9223372036854775808 ≤ x ∧ x ≤ 9223372036854775807 then 0 else 10
theorem val_in {x : Int} (h0 : -9223372036854775808 ≤ x) (h1 : x ≤ 9223372036854775807) : val x = x := by unfold val; rw [if_pos ⟨h0, h1⟩]
theorem err_in {x : Int} (h0 : -9223372036854775808 ≤ x) (h1 : x ≤ 9223372036854775807) : err x = 0 := by unfold err; rw [if_pos ⟨h0, h1⟩]
theorem val_out {x : Int} (h : x < -9223372036854775808 ∨ 9223372036854775807 < x) : val x = 0 := by unfold val; rw [if_neg (by omega)]
theorem err_out {x : Int} (h : x < -9223372036854775808 ∨ 9223372036854775807 < x) : err x = 10 := by unfold err; rw [if_neg (by omega)]

theorem narrow_any (x : Int) (w : World) (b0 : -170141183460469231731687303715884105728 ≤ x) (b1 : x < 170141183460469231731687303715884105728) :
    Calls Try.prog 49 #[.agg #[.int .u64 (lo x), .int .u64 (hi x)]] w fun e w' => e = .returned (.tuple #[.int .i64 (val x), .int .i64 (err x)]) ∧ Below w.heap.size w w' := by
  by_cases h0 : -9223372036854775808 ≤ x
  · by_cases h1 : x ≤ 9223372036854775807
    · rw [val_in h0 h1, err_in h0 h1]; exact narrow_in x w h0 h1
    · rw [val_out (by omega), err_out (by omega)]; exact narrow_out x w b0 b1 (by omega)
  · rw [val_out (by omega), err_out (by omega)]; exact narrow_out x w b0 b1 (by omega)

theorem add_any (a b : Int) (w : World) (a0 : -9223372036854775808 ≤ a) (a1 : a ≤ 9223372036854775807) (b0 : -9223372036854775808 ≤ b) (b1 : b ≤ 9223372036854775807) :
    Calls Try.prog 60 #[.int .i64 a, .int .i64 b] w fun e w' => e = .returned (.tuple #[.int .i64 (val (a + b)), .int .i64 (err (a + b))]) ∧ Below w.heap.size w w' := by
  go_enter Try.func60, Try.ntmps60
  go_wp2_with fail
  refine (widen_any a _ a0 a1).mono ?_
  rintro e w1 ⟨rfl, c1, rfl⟩
  go_wp2_with fail
  refine (widen_any b _ b0 b1).mono ?_
  rintro e w1 ⟨rfl, c2, rfl⟩
  go_wp2_with fail
  refine (plus_any a b _).mono ?_
  rintro e w1 ⟨rfl, c3, c4, c5, rfl⟩
  go_wp2_with fail
  refine (narrow_any (a + b) _ (by omega) (by omega)).mono ?_
  rintro e w1 ⟨rfl, hb⟩
  go_wp2
  go_ret2
  refine ⟨rfl, Below.trans ?_ (hb.mono (by simp; omega))⟩
  repeat (first | exact Below.refl _ _ | (refine Below.alloc ?_ (by simp <;> omega) _))

set_option maxHeartbeats 400000 in
theorem ref_add (a b : Int) (w : World) (a0 : -9223372036854775808 ≤ a) (a1 : a ≤ 9223372036854775807) (b0 : -9223372036854775808 ≤ b) (b1 : b ≤ 9223372036854775807) :
    Calls Try.prog 41 #[.int .i64 a, .int .i64 b] w fun e w' => e = .returned (.tuple #[.int .i64 (val (a + b)), .int .i64 (err (a + b))]) ∧ w = w' := by
  by_cases h0 : 0 < b
  · by_cases h1 : 9223372036854775807 - b < a
    · rw [val_out (by omega), err_out (by omega)]
      go_enter Try.func41, Try.ntmps41
      go_wp2
      go_ret2; exact ⟨rfl, rfl⟩
    · rw [val_in (by omega) (by omega), err_in (by omega) (by omega)]
      have g0 : decide (b < 0) = false := by simp; omega
      go_enter Try.func41, Try.ntmps41
      go_wp2
      go_ret2; exact ⟨rfl, rfl⟩
  · by_cases h1 : b < 0
    · by_cases h2 : a < -9223372036854775808 - b
      · rw [val_out (by omega), err_out (by omega)]
        go_enter Try.func41, Try.ntmps41
        go_wp2
        go_ret2; exact ⟨rfl, rfl⟩
      · rw [val_in (by omega) (by omega), err_in (by omega) (by omega)]
        go_enter Try.func41, Try.ntmps41
        go_wp2
        go_ret2; exact ⟨rfl, rfl⟩
    · obtain rfl : b = 0 := by omega
      rw [Int.add_zero, val_in (by omega) (by omega), err_in (by omega) (by omega)]
      go_enter Try.func41, Try.ntmps41
      go_wp2
      go_ret2; exact ⟨rfl, rfl⟩
end Go.Proofs.Ytobpbbldgbgcdaa.Coin
