/-
  Plain: blocks that are sorted, each for itself, and merged two by two.
-/
import Derived.Test.YtcendcegmhliaaaGSym
namespace Go.Proofs.Ytcendcegmhliaaa.Gnd
open Go.Sort
variable {α : Type} [Inhabited α] {lt : α → α → Bool}

theorem mul_next {q r s : Nat} (h : q < r) : q * s + s ≤ r * s := by
  have := Nat.mul_le_mul_right s (show q + 1 ≤ r from h)
  rw [Nat.succ_mul] at this
  exact this
theorem mul_two (q s : Nat) : (2 * q) * s = q * (2 * s) := by rw [Nat.mul_comm 2 q, Nat.mul_assoc]
/-- Blocks, each sorted. -/
def Blks (lt : α → α → Bool) (s n : Nat) (d : Array α) : Prop := ∀ q, SortedIn lt (q * s) (min (q * s + s) n) d
/-- Those ahead of one. -/
def Done (lt : α → α → Bool) (s q0 : Nat) (d : Array α) : Prop := ∀ q, q < q0 → SortedIn lt (q * s) (q * s + s) d
theorem done_none {s : Nat} {d : Array α} : Done lt s 0 d := fun q h => absurd h (Nat.not_lt_zero q)
theorem done_next {s q0 : Nat} {d d' : Array α} (h : Done lt s q0 d) (hp : PermIn (q0 * s) (q0 * s + s) d d') (hs : SortedIn lt (q0 * s) (q0 * s + s) d') : Done lt s (q0 + 1) d' := fun q hq => by
  by_cases e : q = q0
  · subst e; exact hs
  · exact sorted_out (h q (by omega)) hp (.inl (mul_next (by omega)))
theorem done_last {s q0 n : Nat} {d d' : Array α} (h : Done lt s q0 d) (h1 : q0 * s ≤ n) (h2 : n < q0 * s + s) (hp : PermIn (q0 * s) n d d') (hs : SortedIn lt (q0 * s) n d') : Blks lt s n d' := fun q => by
  by_cases c1 : q < q0
  · have := mul_next (s := s) c1
    exact sorted_part (sorted_out (h q c1) hp (.inl this)) (Nat.le_refl _) (by omega)
  by_cases c2 : q = q0
  · subst c2
    exact sorted_part hs (Nat.le_refl _) (by omega)
  · have := mul_next (s := s) (show q0 < q by omega)
    intro i j h3 h4 h5
    omega
/-- Between two merges. -/
structure Mid (lt : α → α → Bool) (s n q0 : Nat) (d : Array α) : Prop where
  done : Done lt (2 * s) q0 d
  rest : ∀ q, 2 * q0 ≤ q → SortedIn lt (q * s) (min (q * s + s) n) d
theorem mid_first {s n : Nat} {d : Array α} (h : Blks lt s n d) : Mid lt s n 0 d := ⟨done_none, fun q _ => h q⟩
theorem Mid.left {s n q0 : Nat} {d : Array α} (h : Mid lt s n q0 d) (hn : q0 * (2 * s) + s ≤ n) : SortedIn lt (q0 * (2 * s)) (q0 * (2 * s) + s) d := by
  have := h.rest (2 * q0) (Nat.le_refl _)
  rw [mul_two] at this
  exact sorted_part this (Nat.le_refl _) (by omega)
theorem Mid.right {s n q0 : Nat} {d : Array α} (h : Mid lt s n q0 d) : SortedIn lt (q0 * (2 * s) + s) (min (q0 * (2 * s) + 2 * s) n) d := by
  have := h.rest (2 * q0 + 1) (by omega)
  rw [Nat.succ_mul, mul_two] at this
  exact sorted_part this (Nat.le_refl _) (by omega)
theorem Mid.alone {s n q0 : Nat} {d : Array α} (h : Mid lt s n q0 d) (hn : n ≤ q0 * (2 * s) + s) : SortedIn lt (q0 * (2 * s)) n d := by
  have := h.rest (2 * q0) (Nat.le_refl _)
  rw [mul_two] at this
  exact sorted_part this (Nat.le_refl _) (by omega)
theorem Mid.next {s n q0 : Nat} {d d' : Array α} (h : Mid lt s n q0 d) (hp : PermIn (q0 * (2 * s)) (q0 * (2 * s) + 2 * s) d d') (hs : SortedIn lt (q0 * (2 * s)) (q0 * (2 * s) + 2 * s) d') : Mid lt s n (q0 + 1) d' :=
  ⟨done_next h.done hp hs, fun q hq => sorted_out (h.rest q (by omega)) hp (.inr (by
    have h1 := Nat.mul_le_mul_right s hq
    rw [mul_two, Nat.succ_mul] at h1
    exact h1))⟩
theorem blks_end {s n : Nat} {d : Array α} (h : Blks lt s n d) (hn : n ≤ s) : SortedIn lt 0 n d := by
  have := h 0
  rw [Nat.zero_mul] at this
  exact sorted_part this (Nat.le_refl _) (by omega)
end Go.Proofs.Ytcendcegmhliaaa.Gnd
