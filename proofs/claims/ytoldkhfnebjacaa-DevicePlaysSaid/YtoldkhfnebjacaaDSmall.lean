/-
  The device's small functions: awake, has, act, list, New, Fuse, Sectors, Off.
-/
import Derived.Test.YtoldkhfnebjacaaDState
namespace Go.Proofs.Ytoldkhfnebjacaa.Disk
open Go.RowKit Go.Maps

abbrev ptr (sb : Nat) : Value := .pointer (some ⟨sb, 0, none⟩)
theorem awake_nil (w : World) : Calls Try.prog 39 #[.pointer none] w fun e w' => e = .returned (.int .i64 1) ∧ w = w' := by
  go_enter Try.func39, Try.ntmps39
  go_wp2_with fail
  go_ret
  exact ⟨rfl, rfl⟩
theorem awake_dev (w : World) (sb bl bc : Nat) (s : St) (h : Dev w sb bl bc s) : Calls Try.prog 39 #[ptr sb] w fun e w' => e = .returned (.int .i64 s.awE) ∧ w = w' := by
  obtain ⟨c0, c1, c2, c3, c4, c5⟩ := h.cells
  clear h c0 c1 c2 c4 c5
  unfold St.awE
  cases ho : s.off
  · rw [ho] at c3
    clear ho
    go_enter Try.func39, Try.ntmps39
    go_wp2_with fail
    go_ret
    exact ⟨rfl, rfl⟩
  · rw [ho] at c3
    clear ho
    go_enter Try.func39, Try.ntmps39
    go_wp2_with fail
    go_ret
    exact ⟨rfl, rfl⟩
theorem has_dev (w : World) (sb bl bc : Nat) (s : St) (n : Int) (h : Dev w sb bl bc s) : Calls Try.prog 40 #[ptr sb, .int .i64 n] w fun e w' => e = .returned (.bool (s.has n)) ∧ w = w' := by
  obtain ⟨c0, c1, c2, c3, c4, c5⟩ := h.cells
  clear h c1 c2 c3 c4 c5
  unfold St.has
  by_cases h0 : 0 ≤ n
  · by_cases h1 : n < (s.n : Int)
    · have b0 : decide (0 ≤ n) = true := by simpa using h0
      have b1 : decide (n < (s.n : Int)) = true := by simpa using h1
      go_enter Try.func40, Try.ntmps40
      go_wp2_with fail
      go_ret
      exact ⟨by rw [b0, b1]; rfl, rfl⟩
    · have b0 : decide (0 ≤ n) = true := by simpa using h0
      have b1 : decide (n < (s.n : Int)) = false := by simpa using h1
      go_enter Try.func40, Try.ntmps40
      go_wp2_with fail
      go_ret
      exact ⟨rfl, rfl⟩
  · have b0 : decide (0 ≤ n) = false := by simpa using h0
    go_enter Try.func40, Try.ntmps40
    go_wp2_with fail
    go_ret
    exact ⟨rfl, rfl⟩
/-- An act with a fuse that is out. -/
theorem Dev.gone {w : World} {sb bl bc : Nat} {s : St} (h : Dev w sb bl bc s) : Dev ((w.setCell ⟨sb, 3, none⟩ (.bool true)).setCell ⟨sb, 4, none⟩ (.bool false)) sb bl bc { s with off := true, fused := false } := by
  have h1 := heap_setCell_box (heap_setCell_box h.box 3 (.bool true)) 4 (.bool false)
  refine ⟨h1, h.last.of_block ?_, h.cache.of_block ?_, h.ne, h.nz, h.nle, h.f0, h.f1⟩
  · rw [Below.heap_setCell _ _ _ _ h.sbl.symm, Below.heap_setCell _ _ _ _ h.sbl.symm]
  · rw [Below.heap_setCell _ _ _ _ h.sbc.symm, Below.heap_setCell _ _ _ _ h.sbc.symm]
theorem Dev.less {w : World} {sb bl bc : Nat} {s : St} (h : Dev w sb bl bc s) (h0 : 0 < s.fuse) : Dev (w.setCell ⟨sb, 5, none⟩ (.int .i64 (s.fuse - 1))) sb bl bc { s with fuse := s.fuse - 1 } := by
  have h1 := heap_setCell_box h.box 5 (.int .i64 (s.fuse - 1))
  have := h.f1
  refine ⟨h1, h.last.of_block ?_, h.cache.of_block ?_, h.ne, h.nz, h.nle, by simp; omega, by simp; omega⟩
  · rw [Below.heap_setCell _ _ _ _ h.sbl.symm]
  · rw [Below.heap_setCell _ _ _ _ h.sbc.symm]
theorem act_free (w : World) (sb bl bc : Nat) (s : St) (h : Dev w sb bl bc s) (hf : s.fused = false) : Calls Try.prog 41 #[ptr sb] w fun e w' => e = .returned (.int .i64 0) ∧ w = w' := by
  obtain ⟨c0, c1, c2, c3, c4, c5⟩ := h.cells
  rw [hf] at c4
  clear h c0 c1 c2 c3 c5 hf
  go_enter Try.func41, Try.ntmps41
  go_wp2_with fail
  go_ret
  exact ⟨rfl, rfl⟩
theorem act_out (w : World) (sb bl bc : Nat) (s : St) (h : Dev w sb bl bc s) (hf : s.fused = true) (hz : s.fuse = 0) : Calls Try.prog 41 #[ptr sb] w fun e w' => e = .returned (.int .i64 40) ∧ w' = (w.setCell ⟨sb, 3, none⟩ (.bool true)).setCell ⟨sb, 4, none⟩ (.bool false) := by
  obtain ⟨c0, c1, c2, c3, c4, c5⟩ := h.cells
  have f3 := h.free 3
  have f4 := h.free 4
  rw [hf] at c4
  rw [hz] at c5
  clear h c0 c1 c2 hf hz
  go_enter Try.func41, Try.ntmps41
  go_wp2_with fail
  go_ret
  exact ⟨rfl, rfl⟩
theorem act_less (w : World) (sb bl bc : Nat) (s : St) (h : Dev w sb bl bc s) (hf : s.fused = true) (hz : 0 < s.fuse) : Calls Try.prog 41 #[ptr sb] w fun e w' => e = .returned (.int .i64 0) ∧ w' = w.setCell ⟨sb, 5, none⟩ (.int .i64 (s.fuse - 1)) := by
  obtain ⟨c0, c1, c2, c3, c4, c5⟩ := h.cells
  have f5 := h.free 5
  have h1 := h.f1
  rw [hf] at c4
  have hz' : (s.fuse == 0) = false := by simp; omega
  clear h c0 c1 c2 c3 hf
  generalize s.fuse = k at *
  go_enter Try.func41, Try.ntmps41
  go_wp2_with fail
  go_ret
  exact ⟨rfl, rfl⟩
theorem act_dev (w : World) (sb bl bc : Nat) (s : St) (h : Dev w sb bl bc s) : Calls Try.prog 41 #[ptr sb] w fun e w' => e = .returned (.int .i64 s.actE) ∧ Dev w' sb bl bc s.act ∧ Mod [sb, bl, bc] w w' := by
  have h0 := h.f0
  cases hf : s.fused
  · refine (act_free w sb bl bc s h hf).mono ?_
    rintro e w' ⟨rfl, rfl⟩
    exact ⟨by simp [St.actE, hf], by simpa [St.act, hf] using h, Mod.refl _ _⟩
  · by_cases hz : s.fuse = 0
    · refine (act_out w sb bl bc s h hf hz).mono ?_
      rintro e w' ⟨rfl, rfl⟩
      refine ⟨by simp [St.actE, hf, hz], ?_, ((Mod.refl _ _).setCell _ _ (.inl (by simp))).setCell _ _ (.inl (by simp))⟩
      rw [St.act, hf, if_pos rfl, if_pos hz]
      exact h.gone
    · refine (act_less w sb bl bc s h hf (by omega)).mono ?_
      rintro e w' ⟨rfl, rfl⟩
      refine ⟨by simp [St.actE, hz], ?_, (Mod.refl _ _).setCell _ _ (.inl (by simp))⟩
      rw [St.act, hf, if_pos rfl, if_neg hz, ← hf]
      exact h.less (by omega)
/-- A sector's bytes as a list. -/
theorem list_any (c : Array Value) (w : World) : Calls Try.prog 42 #[.agg c] w fun e w' => e = .returned (.slice (some ⟨w.heap.size, 0, none⟩) 1024 1024) ∧ w' = w.alloc (.cells c 66) := by
  go_enter Try.func42, Try.ntmps42
  go_wp2_with (refine wpList_box_eq rfl _ _ rfl c rfl ?_)
  go_ret
  exact ⟨rfl, rfl⟩
theorem new_bad (n : Int) (w : World) (h : n < 2 ∨ 4096 < n) : Calls Try.prog 11 #[.int .i64 n] w fun e w' => e = .returned (.tuple #[.pointer none, .int .i64 1]) ∧ w = w' := by
  rcases h with h | h
  · have b0 : decide (n < 2) = true := by simpa using h
    go_enter Try.func11, Try.ntmps11
    go_wp2_with fail
    go_ret2
    exact ⟨rfl, rfl⟩
  · have b0 : decide (n < 2) = false := by simp; omega
    have b1 : decide (4096 < n) = true := by simpa using h
    go_enter Try.func11, Try.ntmps11
    go_wp2_with fail
    go_ret2
    exact ⟨rfl, rfl⟩
def St.fresh (n : Nat) : St := { n := n, L := fun _ => none, C := fun _ => none, off := false, fused := false, fuse := 0 }
theorem new_walk (n : Nat) (w : World) (h0 : 2 ≤ n) (h1 : n ≤ 4096) : Calls Try.prog 11 #[.int .i64 (n : Int)] w fun e w' => e = .returned (.tuple #[ptr (w.heap.size + 2), .int .i64 0]) ∧
    w' = ((w.alloc (.map #[] 0)).alloc (.map #[] 0)).alloc (.cells (devC (St.fresh n) w.heap.size (w.heap.size + 1)) 60) := by
  have b0 : decide ((n : Int) < 2) = false := by simp; omega
  have b1 : decide (4096 < (n : Int)) = false := by simp; omega
  have hmm := @run_makeMap Try.prog
  go_enter Try.func11, Try.ntmps11
  go_wp2_with fail
  go_ret2
  exact ⟨rfl, rfl⟩
theorem new_dev (n : Nat) (w : World) (h0 : 2 ≤ n) (h1 : n ≤ 4096) : Calls Try.prog 11 #[.int .i64 (n : Int)] w fun e w' => e = .returned (.tuple #[ptr (w.heap.size + 2), .int .i64 0]) ∧
    Dev w' (w.heap.size + 2) w.heap.size (w.heap.size + 1) (St.fresh n) ∧ Below w.heap.size w w' := by
  refine (new_walk n w h0 h1).mono ?_
  rintro e w' ⟨rfl, rfl⟩
  have m1 : SMap (w.alloc (.map #[] 0)) w.heap.size n (fun _ => none) := SMap.made w n
  have m2 : SMap ((w.alloc (.map #[] 0)).alloc (.map #[] 0)) (w.heap.size + 1) n (fun _ => none) := by simpa using SMap.made (w.alloc (.map #[] 0)) n
  refine ⟨rfl, ⟨by simpa using heap_alloc_last ((w.alloc (.map #[] 0)).alloc (.map #[] 0)) _, ?_, ?_, by simp, (fun x h => by cases h), h1, Int.le_refl _, by simp [St.fresh]⟩, ?_⟩
  · exact (m1.kept (World.grownBy_alloc _ _ none) (by simp)).kept (World.grownBy_alloc _ _ none) (by simp)
  · exact m2.kept (World.grownBy_alloc _ _ none) (by simp)
  · exact (((Below.refl _ _).alloc (Nat.le_refl _) _).alloc (by simp) _).alloc (by simp; omega) _
end Go.Proofs.Ytoldkhfnebjacaa.Disk
