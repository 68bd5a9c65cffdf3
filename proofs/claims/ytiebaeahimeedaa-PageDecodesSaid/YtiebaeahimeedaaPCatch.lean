/-
  The deferred closure of page's read: entered in a frame that panics, and in one that returns.
-/
import Derived.Test.YtiebaeahimeedaaPPageR
import Derived.Tactics
import Derived.Tactics2
import Derived.Defers
import Derived.Recover
import Derived.Laws.Pointers
namespace Go.Proofs.Ytiebaeahimeedaa.Page
open Go.RowKit Gen

theorem assert_yes (W : World) (v : Value) : (Instr.typeAssert (.iface 31 v) 20 31 true).run Try.prog W = .ok (.tuple #[v, .bool true]) W := by kernel_rfl
theorem assert_none (W : World) : (Instr.typeAssert .nilIface 20 31 true).run Try.prog W = .ok (.tuple #[.int .i64 0, .bool false]) W := by kernel_rfl
set_option maxRecDepth 100000 in
set_option maxHeartbeats 4000000 in
theorem catch_idle (B C : Nat) (w : World) :
    CallsD Try.prog 64 #[ptr B, ptr C] .returning w fun e u' w' => e = .returned (.tuple #[]) ∧ u' = .returning ∧ w' = w := by
  have h1 := assert_none
  refine callsD_of_wpS Try.func64 rfl fun c₀ cs hu => ?_
  apply wpS_seq
  apply wpS_region
  simp [wpOpsS, go_sem, recoverD, hu, Try.ntmps64, Exit.thenS, h1]
  refine wpS_of_wp ?_
  rw [show #[ptr B, ptr C] ++ (((((((Array.replicate 10 undef).setIfInBounds 3 Value.nilIface).setIfInBounds 4 (.tuple #[.int .i64 0, .bool false])).setIfInBounds 2 (.tuple #[.int .i64 0, .bool false])).setIfInBounds 5 (.int .i64 0)).setIfInBounds 6 (.bool false)).setIfInBounds 0 (.int .i64 0)).setIfInBounds 1 (.bool false) =
    #[ptr B, ptr C, .int .i64 0, .bool false, .tuple #[.int .i64 0, .bool false], .nilIface, .tuple #[.int .i64 0, .bool false], .int .i64 0, .bool false, undef, undef, undef] from rfl]
  go_wp2_with fail
  cases c₀
  simp_all [bodyPostS, results, Try.results64]
theorem catch_panicking (B C : Nat) (w : World) (hz : At w B (pC 0)) (c0 : w.cell? ⟨C, 0, none⟩ = some (.int .i64 0)) (f0 : w.frozen? ⟨C, 0, none⟩ = false) (hne : B ≠ C) :
    CallsD Try.prog 64 #[ptr B, ptr C] (.panicking ({ v := .iface 31 (.int .i64 50), recovered := false } :: [])) w fun e u' w' =>
      e = .returned (.tuple #[]) ∧ u' = .panicking ({ v := .iface 31 (.int .i64 50), recovered := true } :: []) ∧ w' = (set11 w B (.int .i64 0) (.slice none 0 0) (.slice none 0 0) (.slice none 0 0) (.slice none 0 0) (.int .i64 0) (.int .u64 0) (.int .i64 0) (.int .i64 0) (.int .i64 0) (.int .i64 0)).setCell ⟨C, 0, none⟩ (.int .i64 50) := by
  have h1 := assert_yes
  refine callsD_of_wpS Try.func64 rfl fun c₀ cs hu => ?_
  apply wpS_seq
  apply wpS_region
  simp [wpOpsS, go_sem, recoverD, hu, Try.ntmps64, Exit.thenS, h1]
  refine wpS_of_wp ?_
  rw [show #[ptr B, ptr C] ++ (((((((Array.replicate 10 undef).setIfInBounds 3 (Value.iface 31 (.int .i64 50))).setIfInBounds 4 (.tuple #[.int .i64 50, .bool true])).setIfInBounds 2 (.tuple #[.int .i64 50, .bool true])).setIfInBounds 5 (.int .i64 50)).setIfInBounds 6 (.bool true)).setIfInBounds 0 (.int .i64 50)).setIfInBounds 1 (.bool true) =
    #[ptr B, ptr C, .int .i64 50, .bool true, .tuple #[.int .i64 50, .bool true], .iface 31 (.int .i64 50), .tuple #[.int .i64 50, .bool true], .int .i64 50, .bool true, undef, undef, undef] from rfl]
  have r0 : w.cell? ⟨B, 0, none⟩ = some (.int .i64 0) := hz.2.2 0 _ rfl
  have r1 : w.cell? ⟨B, 1, none⟩ = some (.slice none 0 0) := hz.2.2 1 _ rfl
  have r2 : w.cell? ⟨B, 2, none⟩ = some (.slice none 0 0) := hz.2.2 2 _ rfl
  have r3 : w.cell? ⟨B, 3, none⟩ = some (.slice none 0 0) := hz.2.2 3 _ rfl
  have r4 : w.cell? ⟨B, 4, none⟩ = some (.slice none 0 0) := hz.2.2 4 _ rfl
  have r5 : w.cell? ⟨B, 5, none⟩ = some (.int .i64 0) := hz.2.2 5 _ rfl
  have r6 : w.cell? ⟨B, 6, none⟩ = some (.int .u64 0) := hz.2.2 6 _ rfl
  have r7 : w.cell? ⟨B, 7, none⟩ = some (.int .i64 0) := hz.2.2 7 _ rfl
  have r8 : w.cell? ⟨B, 8, none⟩ = some (.int .i64 0) := hz.2.2 8 _ rfl
  have r9 : w.cell? ⟨B, 9, none⟩ = some (.int .i64 0) := hz.2.2 9 _ rfl
  have r10 : w.cell? ⟨B, 10, none⟩ = some (.int .i64 0) := hz.2.2 10 _ rfl
  have fz := hz.2.1
  have hcb : (set11 w B (.int .i64 0) (.slice none 0 0) (.slice none 0 0) (.slice none 0 0) (.slice none 0 0) (.int .i64 0) (.int .u64 0) (.int .i64 0) (.int .i64 0) (.int .i64 0) (.int .i64 0)).cell? ⟨C, 0, none⟩ = some (.int .i64 0) := by
    rw [World.cell?_of_block (w := w) (a := ⟨C, 0, none⟩) ((set11_only w B (.int .i64 0) (.slice none 0 0) (.slice none 0 0) (.slice none 0 0) (.slice none 0 0) (.int .i64 0) (.int .u64 0) (.int .i64 0) (.int .i64 0) (.int .i64 0) (.int .i64 0)).block C (cell_lt c0) (by simp; omega))]; exact c0
  have hfb : (set11 w B (.int .i64 0) (.slice none 0 0) (.slice none 0 0) (.slice none 0 0) (.slice none 0 0) (.int .i64 0) (.int .u64 0) (.int .i64 0) (.int .i64 0) (.int .i64 0) (.int .i64 0)).frozen? ⟨C, 0, none⟩ = false := by
    rw [World.frozen?_of_block (w := w) (a := ⟨C, 0, none⟩) ((set11_only w B (.int .i64 0) (.slice none 0 0) (.slice none 0 0) (.slice none 0 0) (.slice none 0 0) (.int .i64 0) (.int .u64 0) (.int .i64 0) (.int .i64 0) (.int .i64 0) (.int .i64 0)).block C (cell_lt c0) (by simp; omega))]; exact f0
  unfold set11 at hcb hfb ⊢
  clear hz
  go_wp2_with fail
  cases c₀
  simp_all [bodyPostS, results, Try.results64]
end Go.Proofs.Ytiebaeahimeedaa.Page
