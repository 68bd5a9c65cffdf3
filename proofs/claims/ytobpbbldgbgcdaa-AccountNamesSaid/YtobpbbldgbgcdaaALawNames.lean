/-
  AccountNames: the walk.
-/
import Derived.Test.YtobpbbldgbgcdaaAAwake
namespace Go.Proofs.Ytobpbbldgbgcdaa.Acc
open Go.RowKit Go.Sort

set_option maxRecDepth 100000 in
theorem names_walk (w : World) : Calls Try.prog 3 #[] w (fun e w' => e = .returned (.bool true) ∧ Below w.heap.size w w') := by
  go_enter Try.func3, Try.ntmps3
  go_wp2_with fail
  refine (awake_any w).mono ?_
  rintro e w' ⟨rfl, b⟩
  go_wp2_with fail
  go_ret
  exact ⟨rfl, b⟩
end Go.Proofs.Ytobpbbldgbgcdaa.Acc
