/-
  OrderNames: the walk.
-/
import Derived.Test.YtcendcegmhliaaaOAwake
namespace Go.Proofs.Ytcendcegmhliaaa.Ord
open Go.RowKit Go.Sort _root_.Go.Proofs.Ytcendcegmhliaaa.Gnd

set_option maxRecDepth 100000 in
theorem names_walk (w : World) : Calls Try.prog 3 #[] w (fun e w' => e = .returned (.bool true) ∧ Below w.heap.size w w') := by
  go_enter Try.func3, Try.ntmps3
  go_wp2_with fail
  refine (awake_any w).mono ?_
  rintro e w' ⟨rfl, b⟩
  go_wp2_with fail
  go_ret
  exact ⟨rfl, b⟩
end Go.Proofs.Ytcendcegmhliaaa.Ord
