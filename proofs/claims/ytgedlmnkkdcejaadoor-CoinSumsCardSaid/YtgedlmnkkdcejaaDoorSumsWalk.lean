/-
  The walk of CoinSums.
-/
import Derived.Test.YtgedlmnkkdcejaaDoorAwake
import Derived.Test.YtgedlmnkkdcejaaDoorRefSum
namespace Go.Proofs.YtgedlmnkkdcejaaDoor.Coin
open Go.RowKit

set_option maxHeartbeats 1000000 in
theorem sums_walk (A : Option Addr) (m c : Nat) (zs : List Int) (w : World) (z : zs.length = m) (y : m ≤ c) (x : c ≤ maxLen) (_nl : A = none → c = 0) (rwl : Row w A zs) (am : Amounts zs) (hr : Ready w) :
    Calls Tryd.prog 5 #[.slice A m c] w fun e w' => e = .returned (.bool true) ∧ Below w.heap.size w w' := by
  unfold maxLen at x
  have HZ := Lib.hid z
  clear z
  by_cases hlen : 100 < m
  · have hm : (m : Int) ≤ 9223372036854775807 := by omega
    go_enter Tryd.func5, Tryd.ntmps5
    go_wp2_with fail
    refine (awake_any _ hr).mono ?_
    rintro e w1 ⟨rfl, B1⟩
    go_wp2
    go_ret
    exact ⟨rfl, B1⟩
  · have g1 : decide (100 < m) = false := by simp; omega
    have hm : (m : Int) ≤ 100 := by omega
    have hm' : m ≤ 100 := by omega
    clear hlen
    go_enter Tryd.func5, Tryd.ntmps5
    go_wp2_with fail
    refine (awake_any _ hr).mono ?_
    rintro e w1 ⟨rfl, B1⟩
    go_wp2_with fail
    refine (sum_any A m c zs _ HZ.out (by omega) (rwl.below B1) am).mono ?_
    rintro e w2 ⟨rfl, c2⟩
    have B2 := B1.trans (c2.mono B1.size)
    clear B1 c2
    go_wp2_with fail
    refine (ref_sum A m c zs _ HZ.out hm' (rwl.below B2) am).mono ?_
    rintro e w3 ⟨rfl, c3⟩
    have B3 := B2.trans (c3.mono B2.size)
    clear B2 c3
    go_wp2
    go_ret
    exact ⟨rfl, B3⟩
end Go.Proofs.YtgedlmnkkdcejaaDoor.Coin
