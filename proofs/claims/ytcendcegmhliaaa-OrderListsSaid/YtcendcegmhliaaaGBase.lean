/-
  Texts as plain data; their order.
-/
import Derived.Test.YtcendcegmhliaaaRows
import Derived.WalkKit
import Derived.Sort.Grow
import Derived.Lib.Hide
namespace Go.Proofs.Ytcendcegmhliaaa.Gnd
open Go.RowKit Go.Sort
abbrev Bs := List UInt8
def strB (l : Bs) : ByteArray := ⟨l.toArray⟩
abbrev strV (l : Bs) : Value := .string (strB l)
theorem strB_list (l : Bs) : (strB l).toList = l := by rw [ByteArray.toList_eq]; rfl
theorem strB_data (l : Bs) : (strB l).data.toList = l := rfl
theorem strB_size (l : Bs) : (strB l).size = l.length := rfl
theorem strB_inj {a b : Bs} (h : strB a = strB b) : a = b := by rw [← strB_list a, ← strB_list b, h]
def less (x y : Bs) : Bool := Op.bytesLess x y
theorem less_trans : ∀ {x y z : Bs}, less x y = true → less y z = true → less x z = true
  | [], [], _, h, _ => by simp [less, Op.bytesLess] at h
  | [], _ :: _, [], _, h => by simp [less, Op.bytesLess] at h
  | [], _ :: _, _ :: _, _, _ => by simp [less, Op.bytesLess]
  | _ :: _, [], _, h, _ => by simp [less, Op.bytesLess] at h
  | _ :: _, _ :: _, [], _, h => by simp [less, Op.bytesLess] at h
  | a :: x, b :: y, c :: z, h, k => by
    have ih := @less_trans x y z
    unfold less at h k ih ⊢
    simp only [Op.bytesLess, Bool.or_eq_true, Bool.and_eq_true, decide_eq_true_eq, beq_iff_eq, UInt8.lt_iff_toNat_lt] at h k ⊢
    rcases h with h | ⟨rfl, h⟩
    · rcases k with k | ⟨rfl, k⟩
      · exact .inl (by omega)
      · exact .inl h
    · rcases k with k | ⟨rfl, k⟩
      · exact .inl k
      · exact .inr ⟨rfl, ih h k⟩
theorem less_irrefl : ∀ (x : Bs), less x x = false
  | [] => rfl
  | a :: x => by
    have ih := less_irrefl x
    unfold less at ih ⊢
    simp [Op.bytesLess, ih]
theorem less_tri : ∀ {x y : Bs}, less x y = false → x ≠ y → less y x = true
  | [], [], _, h => absurd rfl h
  | [], _ :: _, h, _ => by simp [less, Op.bytesLess] at h
  | _ :: _, [], _, _ => by simp [less, Op.bytesLess]
  | a :: x, b :: y, h, hn => by
    have ih := @less_tri x y
    unfold less at h ih ⊢
    simp only [Op.bytesLess, Bool.or_eq_false_iff, Bool.and_eq_false_iff, decide_eq_false_iff_not, UInt8.lt_iff_toNat_lt] at h
    simp only [Op.bytesLess, Bool.or_eq_true, Bool.and_eq_true, decide_eq_true_eq, beq_iff_eq, UInt8.lt_iff_toNat_lt]
    by_cases e : a = b
    · subst e
      exact .inr ⟨rfl, ih (h.2.elim (fun e => by simp at e) id) (fun e => hn (by rw [e]))⟩
    · have : a.toNat ≠ b.toNat := fun g => e (UInt8.toNat_inj.1 g)
      exact .inl (by omega)
theorem less_asymm {x y : Bs} (h : less x y = true) : less y x = false := by
  rcases e : less y x with _ | _
  · rfl
  · have := less_trans h e
    rw [less_irrefl] at this; cases this
/-- What two texts are told to be to one another. -/
def cmpS (x y : Bs) : Int := if less x y = true then -1 else if less y x = true then 1 else 0
theorem cmpS_zero {x y : Bs} : cmpS x y = 0 ↔ x = y := by
  unfold cmpS
  rcases e : less x y with _ | _
  · rcases e2 : less y x with _ | _
    · simp only [Bool.false_eq_true, if_false, true_iff]
      exact Classical.byContradiction (fun hn => by have := less_tri e hn; rw [e2] at this; cases this)
    · simp only [Bool.false_eq_true, if_false, if_true]
      exact ⟨fun h => absurd h (by decide), fun h => by rw [h, less_irrefl] at e2; cases e2⟩
  · simp only [if_true]
    exact ⟨fun h => absurd h (by decide), fun h => by rw [h, less_irrefl] at e; cases e⟩
theorem cmpS_neg {x y : Bs} : cmpS x y < 0 ↔ less x y = true := by
  unfold cmpS
  rcases e : less x y with _ | _
  · rcases e2 : less y x with _ | _ <;> simp
  · simp
end Go.Proofs.Ytcendcegmhliaaa.Gnd
