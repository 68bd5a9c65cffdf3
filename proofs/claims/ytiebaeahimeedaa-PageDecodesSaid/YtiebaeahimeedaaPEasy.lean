/-
  The walk of PageNames; what the rows of stage 5 share.
-/
import Derived.Test.YtiebaeahimeedaaPAwake
import Derived.ProofKit
import Derived.OpenShut
import Derived.ChangeOld
import Derived.Below
namespace Go.Proofs.Ytiebaeahimeedaa.Page
open Go.RowKit Gen

theorem own : ownKnob Try.prog.godebug = none := by kernel_rfl
theorem names_walk (w : World) : Calls Try.prog 3 #[] w fun e w' => e = .returned (.bool true) ∧ Below w.heap.size w w' := by
  go_enter Try.func3, Try.ntmps3
  go_wp2_with fail
  refine (awake_any w).mono ?_
  rintro e w1 ⟨rfl, b1⟩
  go_wp2_with fail
  go_ret
  exact ⟨rfl, b1⟩
end Go.Proofs.Ytiebaeahimeedaa.Page
