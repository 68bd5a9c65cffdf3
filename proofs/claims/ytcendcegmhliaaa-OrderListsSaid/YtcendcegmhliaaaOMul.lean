/-
  Contract of coin.Mul.
-/
import Derived.Test.YtcendcegmhliaaaOWide
import Derived.Test.YtcendcegmhliaaaShelf
import Derived.Shelf.Bits.Mul64
namespace Go.Proofs.Ytcendcegmhliaaa.Coin
open Go.RowKit
/-- What is told of a number: the number itself and 0, or 0 and 10 beyond 64 bits. -/
def val (x : Int) : Int := if -9223372036854775808 ≤ x ∧ x ≤ 9223372036854775807 then x else 0
def err (x : Int) : Int := if -9223372036854775808 ≤ x ∧ x ≤ 9223372036854775807 then 0 else 10
theorem val_in {x : Int} (h0 : -9223372036854775808 ≤ x) (h1 : x ≤ 9223372036854775807) : val x = x := by unfold val; rw [if_pos ⟨h0, h1⟩]
theorem err_in {x : Int} (h0 : -9223372036854775808 ≤ x) (h1 : x ≤ 9223372036854775807) : err x = 0 := by unfold err; rw [if_pos ⟨h0, h1⟩]
theorem val_out {x : Int} (h : x < -9223372036854775808 ∨ 9223372036854775807 < x) : val x = 0 := by unfold val; rw [if_neg (by omega)]
theorem err_out {x : Int} (h : x < -9223372036854775808 ∨ 9223372036854775807 < x) : err x = 10 := by unfold err; rw [if_neg (by omega)]
theorem narrow_any (x : Int) (w : World) (b0 : -170141183460469231731687303715884105728 ≤ x) (b1 : x < 170141183460469231731687303715884105728) :
    Calls Try.prog 49 #[.agg #[.int .u64 (lo x), .int .u64 (hi x)]] w fun e w' => e = .returned (.tuple #[.int .i64 (val x), .int .i64 (err x)]) ∧ Below w.heap.size w w' := by
  by_cases h0 : -9223372036854775808 ≤ x
  · by_cases h1 : x ≤ 9223372036854775807
    · rw [val_in h0 h1, err_in h0 h1]; exact narrow_in x w h0 h1
    · rw [val_out (by omega), err_out (by omega)]; exact narrow_out x w b0 b1 (by omega)
  · rw [val_out (by omega), err_out (by omega)]; exact narrow_out x w b0 b1 (by omega)
/-- The high half of the product of both low halves. -/
def mh (a b : Int) : Int := lo a * lo b / 18446744073709551616
theorem lo_of (a : Int) (a0 : -9223372036854775808 ≤ a) (a1 : a ≤ 9223372036854775807) : lo a = if a < 0 then a + 18446744073709551616 else a := by
  unfold lo; split <;> omega
theorem mul_bd (a b : Int) (a0 : -9223372036854775808 ≤ a) (a1 : a ≤ 9223372036854775807) (b0 : -9223372036854775808 ≤ b) (b1 : b ≤ 9223372036854775807) :
    -85070591730234615865843651857942052864 ≤ a * b ∧ a * b ≤ 85070591730234615865843651857942052864 := by
  have h : a.natAbs * b.natAbs ≤ 9223372036854775808 * 9223372036854775808 := Nat.mul_le_mul (by omega) (by omega)
  rw [← Int.natAbs_mul] at h
  omega
theorem mul_lo (a b : Int) (a0 : -9223372036854775808 ≤ a) (a1 : a ≤ 9223372036854775807) (b0 : -9223372036854775808 ≤ b) (b1 : b ≤ 9223372036854775807) : lo a * lo b % 18446744073709551616 = lo (a * b) := by
  rw [lo_of a a0 a1, lo_of b b0 b1]; unfold lo
  generalize hp : a * b = p
  split <;> split <;> simp only [Int.add_mul, Int.mul_add, hp] <;> omega
theorem mul_hi (a b : Int) (a0 : -9223372036854775808 ≤ a) (a1 : a ≤ 9223372036854775807) (b0 : -9223372036854775808 ≤ b) (b1 : b ≤ 9223372036854775807) :
    lo (lo (mh a b - if a < 0 then lo b else 0) - if b < 0 then lo a else 0) = hi (a * b) := by
  unfold mh
  rw [lo_of a a0 a1, lo_of b b0 b1]; unfold lo hi
  generalize hp : a * b = p
  split <;> split <;> simp only [Int.add_mul, Int.mul_add, hp] <;> omega
theorem mul_at (a b : Int) (w : World) : Calls Try.prog 61 #[.int .u64 (lo a), .int .u64 (lo b)] w fun e w' => e = .returned (.tuple #[.int .u64 (mh a b), .int .u64 (lo a * lo b % 18446744073709551616)]) ∧ w = w' := by
  obtain ⟨x, hx⟩ := Int.eq_ofNat_of_zero_le (lo_bd a).1
  obtain ⟨y, hy⟩ := Int.eq_ofNat_of_zero_le (lo_bd b).1
  have := lo_bd a; have := lo_bd b
  unfold mh
  rw [hx, hy]
  refine (show Calls Try.prog 61 #[.int .u64 x, .int .u64 y] w _ from Any.bits_Mul64 Try.lays264 x y (by omega) (by omega) w).mono ?_
  rintro e w' ⟨rfl, rfl⟩
  exact ⟨by simp, rfl⟩
theorem mh_bd (a b : Int) : 0 ≤ mh a b ∧ mh a b ≤ 18446744073709551615 := by
  have h1 := lo_bd a; have h2 := lo_bd b
  have h := Int.mul_le_mul h1.2 h2.2 h2.1 (by omega)
  have h' := Int.mul_nonneg h1.1 h2.1
  unfold mh
  generalize lo a * lo b = p at *
  omega
theorem lo_lo (x : Int) : lo (lo x) = lo x := by unfold lo; omega
theorem lo_mh (a b : Int) : lo (mh a b) = mh a b := by
  have := mh_bd a b; unfold lo; omega
set_option maxHeartbeats 400000 in
theorem times_any (a b : Int) (w : World) (a0 : -9223372036854775808 ≤ a) (a1 : a ≤ 9223372036854775807) (b0 : -9223372036854775808 ≤ b) (b1 : b ≤ 9223372036854775807) :
    Calls Try.prog 50 #[.int .i64 a, .int .i64 b] w fun e w' => e = .returned (.agg #[.int .u64 (lo (a * b)), .int .u64 (hi (a * b))]) ∧ ∃ c : Array Value, w' = w.alloc (.cells c 70) := by
  have ha := wrap_lo a
  have hb := wrap_lo b
  have HL := Lib.hid (mul_lo a b a0 a1 b0 b1)
  have HH := Lib.hid (mul_hi a b a0 a1 b0 b1)
  have Hw := Lib.hid wrap_lo
  by_cases ga : a < 0 <;> by_cases gb : b < 0
  all_goals
    go_enter Try.func50, Try.ntmps50
    go_wp2_with (go_at_call 61; refine (mul_at a b _).mono ?_; rintro e w1 ⟨rfl, rfl⟩)
  all_goals
    simp [bodyPost, results, Try.results50, go_sem]
    refine ⟨⟨HL.out, ?_⟩, _, rfl⟩
    rw [← HH.out]
    first | rw [if_pos (show a < 0 by omega)] | rw [if_neg (show ¬ a < 0 by omega)]
    first | rw [if_pos (show b < 0 by omega)] | rw [if_neg (show ¬ b < 0 by omega)]
    try simp only [Hw.out]
    try rw [Int.sub_zero]
    try rw [Int.sub_zero]
    try rw [lo_lo]
    try rw [lo_mh]
theorem mul_any (a b : Int) (w : World) (a0 : -9223372036854775808 ≤ a) (a1 : a ≤ 9223372036854775807) (b0 : -9223372036854775808 ≤ b) (b1 : b ≤ 9223372036854775807) :
    Calls Try.prog 28 #[.int .i64 a, .int .i64 b] w fun e w' => e = .returned (.tuple #[.int .i64 (val (a * b)), .int .i64 (err (a * b))]) ∧ Below w.heap.size w w' := by
  have hbd := mul_bd a b a0 a1 b0 b1
  have HB := Lib.hid hbd
  clear hbd
  go_enter Try.func28, Try.ntmps28
  go_wp2_with fail
  refine (times_any a b _ a0 a1 b0 b1).mono ?_
  rintro e w1 ⟨rfl, c1, rfl⟩
  go_wp2_with fail
  have hbd := HB.out
  refine (narrow_any (a * b) _ (by omega) (by omega)).mono ?_
  rintro e w1 ⟨rfl, hb⟩
  clear hbd
  go_wp2
  go_ret2
  refine ⟨rfl, Below.trans ?_ (hb.mono (by simp))⟩
  exact (Below.refl _ _).alloc (Nat.le_refl _) _
end Go.Proofs.Ytcendcegmhliaaa.Coin
