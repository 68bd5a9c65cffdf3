/-
  An owner as a map's key.
-/
import Derived.Test.YtobpbbldgbgcdaaADelete
import Derived.Maps.Keyed
import Derived.DeepKeys4
namespace Go.Proofs.Ytobpbbldgbgcdaa.Acc
open Go.RowKit Go.Sort

theorem ownKeyed : Maps.Keyed Try.prog 56 := Maps.Keyed.of_law (deep_law_laid (P := Try.prog) (by kernel_rfl) (m := 2) (by omega) (of_decide_eq_true (by kernel_rfl)) (by kernel_rfl) (by rw [Try.underlying56]))
theorem lit_str (d : Nat) (s : Bs) (h : s.length ≤ 200000000000000) : Try.prog.keyLits (d + 1) 9 [strV s] = some [.string s] := by
  have hs : (strB s).size ≤ maxLen := by rw [strB_size]; simp only [maxLen]; omega
  unfold Program.keyLits
  simp only [Try.underlying9]
  rw [if_pos hs, strB_data]
/-- An owner as a map knows it. -/
def litO (o : Own) : Lit := .string (keyBytes [.string o.1, .string o.2])
theorem key_own (o : Own) (g1 : o.1.length ≤ 200000000000000) (g2 : o.2.length ≤ 200000000000000) : keyOf Try.prog 56 (.agg (encO o)) = some (litO o) := by
  have h1 : Try.prog.keyType 56 = true := by kernel_rfl
  have h2 : Value.formed Try.prog 56 (.agg (encO o)) = true := by
    unfold encO strV
    generalize strB o.1 = X
    generalize strB o.2 = Y
    kernel_rfl
  have c1 : Try.prog.cellsOf 56 = 2 := by kernel_rfl
  have c2 : Try.prog.cellsOf 9 = 1 := by kernel_rfl
  have hl : ∀ d, Try.prog.keyLits (d + 1 + 1) 56 [strV o.1, strV o.2] = some [.string o.1, .string o.2] := fun d => by
    unfold Program.keyLits
    simp only [Try.underlying56, c1]
    rw [if_pos ⟨rfl, by kernel_rfl⟩]
    have e1 := lit_str d o.1 g1
    have e2 := lit_str d o.2 g2
    simp [c2, e1, e2]
  have hz : ∃ m, Try.prog.types.size = m + 1 := ⟨_, (show Try.prog.types.size = 108 + 1 by kernel_rfl)⟩
  obtain ⟨m, hm⟩ := hz
  unfold keyOf
  rw [Try.underlying56]
  simp only [h1, h2, Bool.and_self, if_true, hm]
  rw [show (Value.agg (encO o)).cells.toList = [strV o.1, strV o.2] from rfl, hl m]
  rfl
end Go.Proofs.Ytobpbbldgbgcdaa.Acc
