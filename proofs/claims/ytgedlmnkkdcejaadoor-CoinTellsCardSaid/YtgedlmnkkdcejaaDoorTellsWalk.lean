/-
  The walks of CoinTells and CoinUndoes.
-/
import Derived.Test.YtgedlmnkkdcejaaDoorAwake
import Derived.Test.YtgedlmnkkdcejaaDoorRefs
namespace Go.Proofs.YtgedlmnkkdcejaaDoor.Coin
open Go.RowKit

set_option maxHeartbeats 1000000 in
theorem tells_walk (a b : Int) (w : World) (a0 : -9223372036854775808 ≤ a) (a1 : a ≤ 9223372036854775807) (b0 : -9223372036854775808 ≤ b) (b1 : b ≤ 9223372036854775807) (hr : Ready w) :
    Calls Tryd.prog 4 #[.int .i64 a, .int .i64 b] w fun e w' => e = .returned (.bool true) ∧ Below w.heap.size w w' := by
  go_enter Tryd.func4, Tryd.ntmps4
  go_wp2_with fail
  refine (awake_any _ hr).mono ?_
  rintro e w1 ⟨rfl, B1⟩
  clear hr
  go_wp2_with fail
  refine (add_any a b _ a0 a1 b0 b1).mono ?_
  rintro e w2 ⟨rfl, c2⟩
  have B2 := B1.trans (c2.mono B1.size)
  clear B1 c2
  go_wp2_with fail
  refine (ref_add a b _ a0 a1 b0 b1).mono ?_
  rintro e w2' ⟨rfl, rfl⟩
  go_wp2_with fail
  refine (sub_any a b _ a0 a1 b0 b1).mono ?_
  rintro e w3 ⟨rfl, c3⟩
  have B3 := B2.trans (c3.mono B2.size)
  clear B2 c3
  go_wp2_with fail
  refine (ref_sub a b _ a0 a1 b0 b1).mono ?_
  rintro e w3' ⟨rfl, rfl⟩
  go_wp2_with fail
  refine (mul_any a b _ a0 a1 b0 b1).mono ?_
  rintro e w4 ⟨rfl, c4⟩
  have B4 := B3.trans (c4.mono B3.size)
  clear B3 c4
  go_wp2_with fail
  refine (ref_mul a b _ a0 a1 b0 b1).mono ?_
  rintro e w4' ⟨rfl, rfl⟩
  go_wp2
  go_ret
  exact ⟨rfl, B4⟩
end Go.Proofs.YtgedlmnkkdcejaaDoor.Coin
