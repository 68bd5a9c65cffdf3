/-
  Accounts as plain data; the order that they rise by.
-/
import Derived.Test.YtobpbbldgbgcdaaABlocks
import Derived.Test.YtobpbbldgbgcdaaAParts0
import Derived.Test.YtobpbbldgbgcdaaAWho
import Derived.Sort.Grow
namespace Go.Proofs.Ytobpbbldgbgcdaa.Acc
open Go.RowKit Go.Sort

abbrev Bs := List UInt8
def strB (l : Bs) : ByteArray := ⟨l.toArray⟩
abbrev strV (l : Bs) : Value := .string (strB l)
theorem strB_list (l : Bs) : (strB l).toList = l := by rw [ByteArray.toList_eq]; rfl
theorem strB_data (l : Bs) : (strB l).data.toList = l := rfl
theorem strB_size (l : Bs) : (strB l).size = l.length := rfl
theorem strB_inj {a b : Bs} (h : strB a = strB b) : a = b := by rw [← strB_list a, ← strB_list b, h]
def less (x y : Bs) : Bool := Op.bytesLess x y
theorem less_trans : ∀ {x y z : Bs}, less x y = true → less y z = true → less x z = true
  | [], [], _, h, _ => by simp [less, Op.bytesLess] at h
  | [], _ :: _, [], _, h => by simp [less, Op.bytesLess] at h
  | [], _ :: _, _ :: _, _, _ => by simp [less, Op.bytesLess]
  | _ :: _, [], _, h, _ => by simp [less, Op.bytesLess] at h
  | _ :: _, _ :: _, [], _, h => by simp [less, Op.bytesLess] at h
  | a :: x, b :: y, c :: z, h, k => by
    have ih := @less_trans x y z
    unfold less at h k ih ⊢
    simp only [Op.bytesLess, Bool.or_eq_true, Bool.and_eq_true, decide_eq_true_eq, beq_iff_eq, UInt8.lt_iff_toNat_lt] at h k ⊢
    rcases h with h | ⟨rfl, h⟩
    · rcases k with k | ⟨rfl, k⟩
      · exact .inl (by omega)
      · exact .inl h
    · rcases k with k | ⟨rfl, k⟩
      · exact .inl k
      · exact .inr ⟨rfl, ih h k⟩
theorem less_irrefl : ∀ (x : Bs), less x x = false
  | [] => rfl
  | a :: x => by
    have ih := less_irrefl x
    unfold less at ih ⊢
    simp [Op.bytesLess, ih]
theorem less_tri : ∀ {x y : Bs}, less x y = false → x ≠ y → less y x = true
  | [], [], _, h => absurd rfl h
  | [], _ :: _, h, _ => by simp [less, Op.bytesLess] at h
  | _ :: _, [], _, _ => by simp [less, Op.bytesLess]
  | a :: x, b :: y, h, hn => by
    have ih := @less_tri x y
    unfold less at h ih ⊢
    simp only [Op.bytesLess, Bool.or_eq_false_iff, Bool.and_eq_false_iff, decide_eq_false_iff_not, UInt8.lt_iff_toNat_lt] at h
    simp only [Op.bytesLess, Bool.or_eq_true, Bool.and_eq_true, decide_eq_true_eq, beq_iff_eq, UInt8.lt_iff_toNat_lt]
    by_cases e : a = b
    · subst e
      exact .inr ⟨rfl, ih (h.2.elim (fun e => by simp at e) id) (fun e => hn (by rw [e]))⟩
    · have : a.toNat ≠ b.toNat := fun g => e (UInt8.toNat_inj.1 g)
      exact .inl (by omega)
theorem less_asymm {x y : Bs} (h : less x y = true) : less y x = false := by
  rcases e : less y x with _ | _
  · rfl
  · have := less_trans h e
    rw [less_irrefl] at this; cases this
/-- What two texts are told to be to one another. -/
def cmpS (x y : Bs) : Int := if less x y = true then -1 else if less y x = true then 1 else 0
theorem cmpS_zero {x y : Bs} : cmpS x y = 0 ↔ x = y := by
  unfold cmpS
  rcases e : less x y with _ | _
  · rcases e2 : less y x with _ | _
    · simp only [Bool.false_eq_true, if_false, true_iff]
      exact Classical.byContradiction (fun hn => by have := less_tri e hn; rw [e2] at this; cases this)
    · simp only [Bool.false_eq_true, if_false, if_true]
      exact ⟨fun h => absurd h (by decide), fun h => by rw [h, less_irrefl] at e2; cases e2⟩
  · simp only [if_true]
    exact ⟨fun h => absurd h (by decide), fun h => by rw [h, less_irrefl] at e; cases e⟩
theorem cmpS_neg {x y : Bs} : cmpS x y < 0 ↔ less x y = true := by
  unfold cmpS
  rcases e : less x y with _ | _
  · rcases e2 : less y x with _ | _ <;> simp
  · simp
/-- An account; whose it is. -/
structure Ac where
  who : Bs
  asset : Bs
  bal : Int
  held : Int
deriving DecidableEq, Inhabited
abbrev Own := Bs × Bs
def Ac.own (a : Ac) : Own := (a.who, a.asset)
/-- One owner stands ahead of another one. -/
def ahead (x y : Own) : Bool := less x.1 y.1 || (x.1 == y.1 && less x.2 y.2)
theorem ahead_irrefl (x : Own) : ahead x x = false := by unfold ahead; rw [less_irrefl, less_irrefl]; simp
theorem ahead_trans {x y z : Own} (h : ahead x y = true) (k : ahead y z = true) : ahead x z = true := by
  unfold ahead at *
  simp only [Bool.or_eq_true, Bool.and_eq_true, beq_iff_eq] at *
  rcases h with h | ⟨h1, h2⟩
  · rcases k with k | ⟨k1, k2⟩
    · exact .inl (less_trans h k)
    · exact .inl (by rw [← k1]; exact h)
  · rcases k with k | ⟨k1, k2⟩
    · exact .inl (by rw [h1]; exact k)
    · exact .inr ⟨h1.trans k1, less_trans h2 k2⟩
theorem ahead_tri {x y : Own} (h : ahead x y = false) (hn : x ≠ y) : ahead y x = true := by
  unfold ahead at *
  simp only [Bool.or_eq_false_iff, Bool.and_eq_false_iff, beq_eq_false_iff_ne] at h
  simp only [Bool.or_eq_true, Bool.and_eq_true, beq_iff_eq]
  by_cases e : x.1 = y.1
  · refine .inr ⟨e.symm, less_tri (h.2.resolve_left (fun g => g e)) (fun g => hn (Prod.ext e g))⟩
  · exact .inl (less_tri h.1 e)
theorem ahead_asymm {x y : Own} (h : ahead x y = true) : ahead y x = false := by
  rcases e : ahead y x with _ | _
  · rfl
  · have := ahead_trans h e
    rw [ahead_irrefl] at this; cases this
def aheadA (x y : Ac) : Bool := ahead x.own y.own
theorem swoA : SWO aheadA where
  irrefl x := ahead_irrefl _
  trans x y z := ahead_trans
  ntrans x y z h k := by
    unfold aheadA at *
    rcases e : ahead x.own z.own with _ | _
    · rfl
    · by_cases h1 : x.own = y.own
      · rw [h1, k] at e; cases e
      · have h2 := ahead_trans (ahead_tri h h1) e
        rw [k] at h2; cases h2
/-- What order tells of two. -/
def ordA (x y : Ac) : Int := if cmpS x.who y.who ≠ 0 then cmpS x.who y.who else cmpS x.asset y.asset
theorem ordA_neg {x y : Ac} : ordA x y < 0 ↔ aheadA x y = true := by
  unfold ordA aheadA ahead Ac.own
  simp only [Bool.or_eq_true, Bool.and_eq_true, beq_iff_eq]
  by_cases h : cmpS x.who y.who = 0
  · rw [if_neg (fun g => g h), cmpS_neg]
    have e := cmpS_zero.1 h
    rw [e, less_irrefl]
    simp
  · rw [if_pos h, cmpS_neg]
    have e : x.who ≠ y.who := fun e => h (cmpS_zero.2 e)
    exact ⟨fun g => .inl g, fun g => g.elim id (fun g => absurd g.1 e)⟩
/-- An account's cells. -/
def encA (a : Ac) : List Value := [strV a.who, strV a.asset, .int .i64 a.bal, .int .i64 a.held]
theorem encA_len (a : Ac) : (encA a).length = 4 := rfl
theorem encA_one (a : Ac) : ∀ v ∈ encA a, v.oneCell' = true := fun v hv => by
  simp only [encA, List.mem_cons, List.not_mem_nil, or_false] at hv
  rcases hv with rfl | rfl | rfl | rfl <;> rfl
end Go.Proofs.Ytobpbbldgbgcdaa.Acc
