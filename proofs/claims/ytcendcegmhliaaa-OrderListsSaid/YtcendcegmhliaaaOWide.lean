/-
  Package coin's numbers of 128 bits: widen, narrow.
-/
import Derived.Test.YtcendcegmhliaaaRows
import Derived.WalkKit
import Derived.WalkSpells
import Derived.StillTactics
import Derived.IntWalk
import Derived.Laws.Pointers
import Derived.Laws.Externs
import Derived.Deep.RegionHeld3
import Derived.RowKit3
import Derived.Outline
import Derived.Lib.Hide
namespace Go.Proofs.Ytcendcegmhliaaa.Coin
open Go.RowKit
/-- A wide number's low half, and its high one. -/
def lo (x : Int) : Int := x % 18446744073709551616
def hi (x : Int) : Int := x / 18446744073709551616 % 18446744073709551616
/-- What is carried, and borrowed, out of the low halves; and out of the high ones. -/
def cy (a b : Int) : Int := (lo a + lo b) / 18446744073709551616
def cz (a b : Int) : Int := (hi a + hi b + cy a b) / 18446744073709551616
theorem lo_bd (x : Int) : 0 ≤ lo x ∧ lo x ≤ 18446744073709551615 := by unfold lo; omega
theorem hi_bd (x : Int) : 0 ≤ hi x ∧ hi x ≤ 18446744073709551615 := by unfold hi; omega
theorem cy_bd (a b : Int) : 0 ≤ cy a b ∧ cy a b ≤ 1 := by
  have := lo_bd a; have := lo_bd b; unfold cy; omega
theorem lo_add (a b : Int) : (lo a + lo b) % 18446744073709551616 = lo (a + b) := by unfold lo; omega
theorem hi_add (a b : Int) : (hi a + hi b + cy a b) % 18446744073709551616 = hi (a + b) := by unfold hi cy lo; omega
theorem wrap_lo (n : Int) : IntKind.u64.wrap n = lo n := by
  unfold lo IntKind.wrap
  simp [IntKind.bits, IntKind.signed]
theorem wrap_hi (n : Int) (h0 : -9223372036854775808 ≤ n) (h1 : n ≤ 9223372036854775807) : IntKind.u64.wrap (n / 9223372036854775808) = hi n := by
  rw [wrap_lo]; unfold lo hi; omega
theorem widen_any (n : Int) (w : World) (h0 : -9223372036854775808 ≤ n) (h1 : n ≤ 9223372036854775807) :
    Calls Try.prog 60 #[.int .i64 n] w fun e w' => e = .returned (.agg #[.int .u64 (lo n), .int .u64 (hi n)]) ∧ ∃ c : Array Value, w' = w.alloc (.cells c 70) := by
  go_enter Try.func60, Try.ntmps60
  go_wp2
  simp [bodyPost, results, Try.results60, go_sem]
  rw [wrap_lo, wrap_hi n h0 h1]
  exact ⟨⟨rfl, rfl⟩, _, rfl⟩
/-- The amount that a wide number's low half is. -/
def nar (x : Int) : Int := IntKind.i64.wrap (lo x)
theorem nar_eq (x : Int) : nar x = if 9223372036854775808 ≤ lo x then lo x - 18446744073709551616 else lo x := by
  have := lo_bd x
  unfold nar IntKind.wrap
  have e : lo x % 18446744073709551616 = lo x := by omega
  simp [IntKind.bits, IntKind.signed, e]
theorem nar_bd (x : Int) : -9223372036854775808 ≤ nar x ∧ nar x ≤ 9223372036854775807 := by
  have := lo_bd x; rw [nar_eq]; split <;> omega
theorem lo_nar (x : Int) : lo (nar x) = lo x := by
  have := lo_bd x; rw [nar_eq]; unfold lo at *; split <;> omega
theorem nar_in (x : Int) (h0 : -9223372036854775808 ≤ x) (h1 : x ≤ 9223372036854775807) : nar x = x := by
  rw [nar_eq]; unfold lo; split <;> omega
theorem hi_nar (x : Int) (b0 : -170141183460469231731687303715884105728 ≤ x) (b1 : x < 170141183460469231731687303715884105728) (h : x < -9223372036854775808 ∨ 9223372036854775807 < x) : hi (nar x) ≠ hi x := by
  rw [nar_eq]; unfold hi lo; split <;> omega
/-- Two wide numbers are the same just where both halves are. -/
theorem eqW (a b c d : Int) (w : World) : (Op.equalIn 10000 70 (.agg #[.int .u64 a, .int .u64 b]) (.agg #[.int .u64 c, .int .u64 d])).run Try.prog w = .ok (a == c && b == d) w := by
  have u3 := Try.underlying23
  have a3 := Try.isAgg23
  have z3 := Try.sizeOf23
  rw [show (10000 : Nat) = 9999 + 1 from rfl, Op.equalIn]
  simp only [Sem.run_bind, run_underlying Try.underlying70, Result.andThen_ok]
  simp only [Std.Legacy.Range.forIn_eq_forIn_range', Std.Legacy.Range.size, Nat.sub_zero, Nat.add_sub_cancel, Nat.div_one, List.range'_succ, List.range'_zero, List.forIn_cons, List.forIn_nil]
  go_simp
  by_cases h1 : a = c <;> by_cases h2 : b = d <;> simp [h1, h2]
theorem narrow_in (x : Int) (w : World) (h0 : -9223372036854775808 ≤ x) (h1 : x ≤ 9223372036854775807) :
    Calls Try.prog 49 #[.agg #[.int .u64 (lo x), .int .u64 (hi x)]] w fun e w' => e = .returned (.tuple #[.int .i64 x, .int .i64 0]) ∧ Below w.heap.size w w' := by
  have hn : IntKind.i64.wrap (lo x) = x := nar_in x h0 h1
  have heq : ∀ W : World, (Op.equalIn 10000 70 (.agg #[.int .u64 (lo x), .int .u64 (hi x)]) (.agg #[.int .u64 (lo x), .int .u64 (hi x)])).run Try.prog W = .ok true W := fun W => by rw [eqW]; simp
  go_enter Try.func49, Try.ntmps49
  go_wp2
  go_region_held3 (fun w' => w'.cell? ⟨w.heap.size, 0, none⟩ = some (.int .u64 (lo x)) ∧ w'.cell? ⟨w.heap.size, 1, none⟩ = some (.int .u64 (hi x))) (simp [go_sem, World.cell?_alloc_past])
    ((go_at_call 60; refine (widen_any x _ h0 h1).mono ?_; rintro e w' ⟨rfl, o1, rfl⟩))
  go_wp2
  go_ret2
  exact ⟨rfl, by repeat (first | exact Below.refl _ _ | apply Below.drew | (refine Below.alloc ?_ (by simp) _))⟩
theorem narrow_out (x : Int) (w : World) (b0 : -170141183460469231731687303715884105728 ≤ x) (b1 : x < 170141183460469231731687303715884105728) (h : x < -9223372036854775808 ∨ 9223372036854775807 < x) :
    Calls Try.prog 49 #[.agg #[.int .u64 (lo x), .int .u64 (hi x)]] w fun e w' => e = .returned (.tuple #[.int .i64 0, .int .i64 10]) ∧ Below w.heap.size w w' := by
  obtain ⟨n, hn, h0, h1, hlo, hne⟩ : ∃ n, IntKind.i64.wrap (lo x) = n ∧ -9223372036854775808 ≤ n ∧ n ≤ 9223372036854775807 ∧ lo n = lo x ∧ hi n ≠ hi x := ⟨nar x, rfl, (nar_bd x).1, (nar_bd x).2, lo_nar x, hi_nar x b0 b1 h⟩
  have heq : ∀ W : World, (Op.equalIn 10000 70 (.agg #[.int .u64 (lo x), .int .u64 (hi n)]) (.agg #[.int .u64 (lo x), .int .u64 (hi x)])).run Try.prog W = .ok false W := fun W => by rw [eqW]; simp [hne]
  clear b0 b1 h hne
  go_enter Try.func49, Try.ntmps49
  go_wp2
  go_region_held3 (fun w' => w'.cell? ⟨w.heap.size, 0, none⟩ = some (.int .u64 (lo x)) ∧ w'.cell? ⟨w.heap.size, 1, none⟩ = some (.int .u64 (hi x))) (simp [go_sem, World.cell?_alloc_past])
    ((go_at_call 60; refine (widen_any n _ h0 h1).mono ?_; rintro e w' ⟨rfl, o1, rfl⟩))
  go_wp2
  go_ret2
  exact ⟨rfl, by repeat (first | exact Below.refl _ _ | apply Below.drew | (refine Below.alloc ?_ (by simp) _))⟩
end Go.Proofs.Ytcendcegmhliaaa.Coin
