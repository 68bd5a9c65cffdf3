/-
  Contracts of package coin's sums, differences and products, and of the reference's.
-/
import Derived.Test.YtgedlmnkkdcejaaDoorWide
import Derived.Test.YtgedlmnkkdcejaaDoorShelf
import Derived.Shelf.Bits.Mul64
namespace Go.Proofs.YtgedlmnkkdcejaaDoor.Coin
open Go.RowKit

/-- What is told of a number: the number itself and 0, or 0 and 10 beyond 64 bits. -/
def val (x : Int) : Int := if -9223372036854775808 ≤ x ∧ x ≤ 9223372036854775807 then x else 0
def err (x : Int) : Int := if -9223372036854775808 ≤ x ∧ x ≤ 9223372036854775807 then 0 else 10
theorem val_in {x : Int} (h0 : -9223372036854775808 ≤ x) (h1 : x ≤ 9223372036854775807) : val x = x := by unfold val; rw [if_pos ⟨h0, h1⟩]
theorem err_in {x : Int} (h0 : -9223372036854775808 ≤ x) (h1 : x ≤ 9223372036854775807) : err x = 0 := by unfold err; rw [if_pos ⟨h0, h1⟩]
theorem val_out {x : Int} (h : x < -9223372036854775808 ∨ 9223372036854775807 < x) : val x = 0 := by unfold val; rw [if_neg (by omega)]
theorem err_out {x : Int} (h : x < -9223372036854775808 ∨ 9223372036854775807 < x) : err x = 10 := by unfold err; rw [if_neg (by omega)]

theorem narrow_any (x : Int) (w : World) (b0 : -170141183460469231731687303715884105728 ≤ x) (b1 : x < 170141183460469231731687303715884105728) :
    Calls Tryd.prog 24 #[.agg #[.int .u64 (lo x), .int .u64 (hi x)]] w fun e w' => e = .returned (.tuple #[.int .i64 (val x), .int .i64 (err x)]) ∧ Below w.heap.size w w' := by
  by_cases h0 : -9223372036854775808 ≤ x
  · by_cases h1 : x ≤ 9223372036854775807
    · rw [val_in h0 h1, err_in h0 h1]; exact narrow_in x w h0 h1
    · rw [val_out (by omega), err_out (by omega)]; exact narrow_out x w b0 b1 (by omega)
  · rw [val_out (by omega), err_out (by omega)]; exact narrow_out x w b0 b1 (by omega)

theorem add_any (a b : Int) (w : World) (a0 : -9223372036854775808 ≤ a) (a1 : a ≤ 9223372036854775807) (b0 : -9223372036854775808 ≤ b) (b1 : b ≤ 9223372036854775807) :
    Calls Tryd.prog 12 #[.int .i64 a, .int .i64 b] w fun e w' => e = .returned (.tuple #[.int .i64 (val (a + b)), .int .i64 (err (a + b))]) ∧ Below w.heap.size w w' := by
  go_enter Tryd.func12, Tryd.ntmps12
  go_wp2_with fail
  refine (widen_any a _ a0 a1).mono ?_
  rintro e w1 ⟨rfl, c1, rfl⟩
  go_wp2_with fail
  refine (widen_any b _ b0 b1).mono ?_
  rintro e w1 ⟨rfl, c2, rfl⟩
  go_wp2_with fail
  refine (plus_any a b _).mono ?_
  rintro e w1 ⟨rfl, c3, c4, c5, rfl⟩
  go_wp2_with fail
  refine (narrow_any (a + b) _ (by omega) (by omega)).mono ?_
  rintro e w1 ⟨rfl, hb⟩
  go_wp2
  go_ret2
  refine ⟨rfl, Below.trans ?_ (hb.mono (by simp; omega))⟩
  repeat (first | exact Below.refl _ _ | (refine Below.alloc ?_ (by simp <;> omega) _))

theorem sub_any (a b : Int) (w : World) (a0 : -9223372036854775808 ≤ a) (a1 : a ≤ 9223372036854775807) (b0 : -9223372036854775808 ≤ b) (b1 : b ≤ 9223372036854775807) :
    Calls Tryd.prog 14 #[.int .i64 a, .int .i64 b] w fun e w' => e = .returned (.tuple #[.int .i64 (val (a - b)), .int .i64 (err (a - b))]) ∧ Below w.heap.size w w' := by
  go_enter Tryd.func14, Tryd.ntmps14
  go_wp2_with fail
  refine (widen_any a _ a0 a1).mono ?_
  rintro e w1 ⟨rfl, c1, rfl⟩
  go_wp2_with fail
  refine (widen_any b _ b0 b1).mono ?_
  rintro e w1 ⟨rfl, c2, rfl⟩
  go_wp2_with fail
  refine (minus_any a b _).mono ?_
  rintro e w1 ⟨rfl, c3, c4, c5, rfl⟩
  go_wp2_with fail
  refine (narrow_any (a - b) _ (by omega) (by omega)).mono ?_
  rintro e w1 ⟨rfl, hb⟩
  go_wp2
  go_ret2
  refine ⟨rfl, Below.trans ?_ (hb.mono (by simp; omega))⟩
  repeat (first | exact Below.refl _ _ | (refine Below.alloc ?_ (by simp <;> omega) _))

/-- The high half of the product of both low halves. -/
def mh (a b : Int) : Int := lo a * lo b / 18446744073709551616
theorem lo_of (a : Int) (a0 : -9223372036854775808 ≤ a) (a1 : a ≤ 9223372036854775807) : lo a = if a < 0 then a + 18446744073709551616 else a := by
  unfold lo; split <;> omega
theorem mul_bd (a b : Int) (a0 : -9223372036854775808 ≤ a) (a1 : a ≤ 9223372036854775807) (b0 : -9223372036854775808 ≤ b) (b1 : b ≤ 9223372036854775807) :
    -85070591730234615865843651857942052864 ≤ a * b ∧ a * b ≤ 85070591730234615865843651857942052864 := by
  have h : a.natAbs * b.natAbs ≤ 9223372036854775808 * 9223372036854775808 := Nat.mul_le_mul (by omega) (by omega)
  rw [← Int.natAbs_mul] at h
  omega
theorem mul_lo (a b : Int) (a0 : -9223372036854775808 ≤ a) (a1 : a ≤ 9223372036854775807) (b0 : -9223372036854775808 ≤ b) (b1 : b ≤ 9223372036854775807) : lo a * lo b % 18446744073709551616 = lo (a * b) := by
  rw [lo_of a a0 a1, lo_of b b0 b1]; unfold lo
  generalize hp : a * b = p
  split <;> split <;> simp only [Int.add_mul, Int.mul_add, hp] <;> omega
theorem mul_hi (a b : Int) (a0 : -9223372036854775808 ≤ a) (a1 : a ≤ 9223372036854775807) (b0 : -9223372036854775808 ≤ b) (b1 : b ≤ 9223372036854775807) :
    lo (lo (mh a b - if a < 0 then lo b else 0) - if b < 0 then lo a else 0) = hi (a * b) := by
  unfold mh
  rw [lo_of a a0 a1, lo_of b b0 b1]; unfold lo hi
  generalize hp : a * b = p
  split <;> split <;> simp only [Int.add_mul, Int.mul_add, hp] <;> omega
theorem mul_at (a b : Int) (w : World) : Calls Tryd.prog 34 #[.int .u64 (lo a), .int .u64 (lo b)] w fun e w' => e = .returned (.tuple #[.int .u64 (mh a b), .int .u64 (lo a * lo b % 18446744073709551616)]) ∧ w = w' := by
  obtain ⟨x, hx⟩ := Int.eq_ofNat_of_zero_le (lo_bd a).1
  obtain ⟨y, hy⟩ := Int.eq_ofNat_of_zero_le (lo_bd b).1
  have := lo_bd a; have := lo_bd b
  unfold mh
  rw [hx, hy]
  refine (show Calls Tryd.prog 34 #[.int .u64 x, .int .u64 y] w _ from Any.bits_Mul64 Tryd.lays264 x y (by omega) (by omega) w).mono ?_
  rintro e w' ⟨rfl, rfl⟩
  exact ⟨by simp, rfl⟩
theorem mh_bd (a b : Int) : 0 ≤ mh a b ∧ mh a b ≤ 18446744073709551615 := by
  have h1 := lo_bd a; have h2 := lo_bd b
  have h := Int.mul_le_mul h1.2 h2.2 h2.1 (by omega)
  have h' := Int.mul_nonneg h1.1 h2.1
  unfold mh
  generalize lo a * lo b = p at *
  omega

theorem lo_lo (x : Int) : lo (lo x) = lo x := by unfold lo; omega
theorem lo_mh (a b : Int) : lo (mh a b) = mh a b := by
  have := mh_bd a b; unfold lo; omega

set_option maxHeartbeats 400000 in
theorem times_any (a b : Int) (w : World) (a0 : -9223372036854775808 ≤ a) (a1 : a ≤ 9223372036854775807) (b0 : -9223372036854775808 ≤ b) (b1 : b ≤ 9223372036854775807) :
    Calls Tryd.prog 28 #[.int .i64 a, .int .i64 b] w fun e w' => e = .returned (.agg #[.int .u64 (lo (a * b)), .int .u64 (hi (a * b))]) ∧ ∃ c : Array Value, w' = w.alloc (.cells c 39) := by
  have ha := wrap_lo a
  have hb := wrap_lo b
  have HL := Lib.hid (mul_lo a b a0 a1 b0 b1)
  have HH := Lib.hid (mul_hi a b a0 a1 b0 b1)
  have Hw := Lib.hid wrap_lo
  by_cases ga : a < 0 <;> by_cases gb : b < 0
  all_goals
    go_enter Tryd.func28, Tryd.ntmps28
    go_wp2_with (go_at_call 34; refine (mul_at a b _).mono ?_; rintro e w1 ⟨rfl, rfl⟩)
  all_goals
    simp [bodyPost, results, Tryd.results28, go_sem]
    refine ⟨⟨HL.out, ?_⟩, _, rfl⟩
    rw [← HH.out]
    first | rw [if_pos (show a < 0 by omega)] | rw [if_neg (show ¬ a < 0 by omega)]
    first | rw [if_pos (show b < 0 by omega)] | rw [if_neg (show ¬ b < 0 by omega)]
    try simp only [Hw.out]
    try rw [Int.sub_zero]
    try rw [Int.sub_zero]
    try rw [lo_lo]
    try rw [lo_mh]

theorem mul_any (a b : Int) (w : World) (a0 : -9223372036854775808 ≤ a) (a1 : a ≤ 9223372036854775807) (b0 : -9223372036854775808 ≤ b) (b1 : b ≤ 9223372036854775807) :
    Calls Tryd.prog 16 #[.int .i64 a, .int .i64 b] w fun e w' => e = .returned (.tuple #[.int .i64 (val (a * b)), .int .i64 (err (a * b))]) ∧ Below w.heap.size w w' := by
  have hbd := mul_bd a b a0 a1 b0 b1
  have HB := Lib.hid hbd
  clear hbd
  go_enter Tryd.func16, Tryd.ntmps16
  go_wp2_with fail
  refine (times_any a b _ a0 a1 b0 b1).mono ?_
  rintro e w1 ⟨rfl, c1, rfl⟩
  go_wp2_with fail
  have hbd := HB.out
  refine (narrow_any (a * b) _ (by omega) (by omega)).mono ?_
  rintro e w1 ⟨rfl, hb⟩
  clear hbd
  go_wp2
  go_ret2
  refine ⟨rfl, Below.trans ?_ (hb.mono (by simp))⟩
  exact (Below.refl _ _).alloc (Nat.le_refl _) _

/-! The reference's own. -/
set_option maxHeartbeats 400000 in
theorem ref_add (a b : Int) (w : World) (a0 : -9223372036854775808 ≤ a) (a1 : a ≤ 9223372036854775807) (b0 : -9223372036854775808 ≤ b) (b1 : b ≤ 9223372036854775807) :
    Calls Tryd.prog 13 #[.int .i64 a, .int .i64 b] w fun e w' => e = .returned (.tuple #[.int .i64 (val (a + b)), .int .i64 (err (a + b))]) ∧ w = w' := by
  by_cases h0 : 0 < b
  · by_cases h1 : 9223372036854775807 - b < a
    · rw [val_out (by omega), err_out (by omega)]
      go_enter Tryd.func13, Tryd.ntmps13
      go_wp2
      go_ret2; exact ⟨rfl, rfl⟩
    · rw [val_in (by omega) (by omega), err_in (by omega) (by omega)]
      have g0 : decide (b < 0) = false := by simp; omega
      go_enter Tryd.func13, Tryd.ntmps13
      go_wp2
      go_ret2; exact ⟨rfl, rfl⟩
  · by_cases h1 : b < 0
    · by_cases h2 : a < -9223372036854775808 - b
      · rw [val_out (by omega), err_out (by omega)]
        go_enter Tryd.func13, Tryd.ntmps13
        go_wp2
        go_ret2; exact ⟨rfl, rfl⟩
      · rw [val_in (by omega) (by omega), err_in (by omega) (by omega)]
        go_enter Tryd.func13, Tryd.ntmps13
        go_wp2
        go_ret2; exact ⟨rfl, rfl⟩
    · obtain rfl : b = 0 := by omega
      rw [Int.add_zero, val_in (by omega) (by omega), err_in (by omega) (by omega)]
      go_enter Tryd.func13, Tryd.ntmps13
      go_wp2
      go_ret2; exact ⟨rfl, rfl⟩
end Go.Proofs.YtgedlmnkkdcejaaDoor.Coin
