/-
  A row of bytes out of another one's beginning and a third one's end.
-/
import Derived.Test.YtiebaeahimeedaaPBytes
import Derived.Deep.RegionLaw
namespace Go.Proofs.Ytiebaeahimeedaa.Page
open Go.RowKit Gen

theorem elem_bs : Try.prog.underlying 30 = some (.slice (Try.prog.elem 30)) := by kernel_rfl
theorem size_bs (w : World) : (sizeOf (Try.prog.elem 30)).run Try.prog w = .ok 1 w := by kernel_rfl
theorem head_runB (A : Option Addr) (n c k : Nat) (h : k ≤ c) (W : World) : (Instr.slice 30 (.slice A n c) none (some (.int .i64 k)) none).run Try.prog W = .ok (.slice A k c) W := by
  rw [run_slice_h W 30 A n c elem_bs .i64 (k : Int) (by omega) (by omega), size_bs]
  unfold sliced
  rcases A with _ | a
  · simp [Result.andThen]
  · simp [Result.andThen, add_zero]
theorem tail_runB (A : Option Addr) (n c k : Nat) (h : k ≤ n) (W : World) : (Instr.slice 30 (.slice A n c) (some (.int .i64 k)) none none).run Try.prog W = .ok (.slice (if c = k then A else A.map (·.add k)) (n - k) (c - k)) W := by
  rw [run_slice_l W 30 A n c elem_bs .i64 (k : Int) (by omega) (by omega), size_bs]
  unfold sliced
  simp [Result.andThen]
theorem torn_row {w w3 : World} {X Y : Option Addr} {c d : Nat} {la lb : Bs} (k : Nat) (hX : BytesAt w3 X 1024 c la) (hY : BytesAt w3 Y 1024 d lb) (hk : k ≤ 1024) (B3 : Below w.heap.size w w3) :
    ∃ v1 W1 A2 c2 W2, (Builtin.append_ #[30, 30] 30 #[.slice (some ⟨w3.heap.size, 0, none⟩) 0 0, .slice Y k d]).run Try.prog (w3.alloc (.cells #[] 5)).drew = .ok v1 W1 ∧
      (Builtin.append_ #[30, 30] 30 #[v1, .slice (if c = k then X else X.map (·.add k)) (1024 - k) (c - k)]).run Try.prog W1 = .ok (.slice A2 1024 c2) W2 ∧ BytesAt W2 A2 1024 c2 (lb.take k ++ la.drop k) ∧ Below w3.heap.size w3 W2 ∧ Below w.heap.size w W2 := by
  have hb0 : Below w3.heap.size w3 (w3.alloc (.cells #[] 5)).drew := ((Below.refl _ _).alloc (Nat.le_refl _) _).drew
  have hY1 := (hY.head hk).below hb0
  obtain ⟨v1, W1, r1, o1, g1, e1⟩ := append_row bytes_elem (w3.alloc (.cells #[] 5)).drew w3.heap.size (.slice (some ⟨w3.heap.size, 0, none⟩) 0 0) [] (own_none w3) Y k d (lb.take k) hY1.len hY1.nil hY1.row (by simp; omega) (by simp)
  have hb1 : Below w3.heap.size w3 W1 := hb0.grown g1 hb0.size (fun j hj => by simp [Value.ownBlock] at hj; omega)
  rw [List.nil_append] at o1
  have hX1 := (hX.tail (k := k)).below hb1
  obtain ⟨v2, W2, r2, o2, g2, e2⟩ := append_row bytes_elem W1 w3.heap.size v1 (lb.take k) o1 _ (1024 - k) (c - k) (la.drop k) hX1.len hX1.nil hX1.row (by rw [hY1.len]; omega) hb1.size
  have hb2 : Below w3.heap.size w3 W2 := below_grown hb1 o1 g2 hb1.size
  obtain ⟨A2, n2, c2, rfl, h2, _⟩ := own_bytes o2
  obtain rfl : n2 = 1024 := by rw [← h2.len, List.length_append, hY1.len, hX1.len]; omega
  exact ⟨v1, W1, A2, c2, W2, r1, r2, h2, hb2, B3.trans (hb2.mono B3.size)⟩
end Go.Proofs.Ytiebaeahimeedaa.Page
