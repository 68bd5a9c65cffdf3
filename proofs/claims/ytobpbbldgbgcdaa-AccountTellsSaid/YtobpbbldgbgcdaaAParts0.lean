/-
  The walk of CoinParts.
-/
import Derived.Test.YtobpbbldgbgcdaaAAppend
namespace Go.Proofs.Ytobpbbldgbgcdaa.Coin
open Go.RowKit

theorem val_bd (x : Int) : -9223372036854775808 ≤ val x ∧ val x ≤ 9223372036854775807 := by unfold val; split <;> omega
theorem own_none (W : World) : Own (W.alloc (.cells #[] 2)) W.heap.size (.slice (some ⟨W.heap.size, 0, none⟩) 0 0) [] :=
  ⟨rfl, .inr ⟨W.heap.size, 0, #[], rfl, Nat.le_refl _, heap_alloc_new _ _, Nat.le_refl _, Nat.zero_le _, rfl, rfl⟩⟩
theorem amounts_append {zs ys : List Int} (h : Amounts zs) (g : Amounts ys) : Amounts (zs ++ ys) := fun z hz => by
  rcases List.mem_append.1 hz with h' | h'
  · exact h z h'
  · exact g z h'

end Go.Proofs.Ytobpbbldgbgcdaa.Coin
