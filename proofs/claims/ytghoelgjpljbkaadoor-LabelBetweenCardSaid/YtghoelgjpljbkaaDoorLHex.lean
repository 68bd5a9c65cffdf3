/-
  Plain facts on numbers in sixteens: their signs, with and without zeros ahead; what signs are a number's.
-/
import Derived.Lib.Strings
namespace Go.Proofs.YtghoelgjpljbkaaDoor.Label

/-- A sign of sixteen. -/
def hexd (x : Nat) : UInt8 := if x < 10 then UInt8.ofNat (48 + x) else UInt8.ofNat (87 + x)
theorem hexd_toNat (x : Nat) (h : x < 16) : (hexd x).toNat = if x < 10 then 48 + x else 87 + x := by
  unfold hexd; split <;> (rw [UInt8.toNat_ofNat']; omega)
theorem hexd_inj (x y : Nat) (h : x < 16) (g : y < 16) (e : hexd x = hexd y) : x = y := by
  have := congrArg UInt8.toNat e
  rw [hexd_toNat x h, hexd_toNat y g] at this
  split at this <;> split at this <;> omega
/-- So many signs of a number. -/
def hexN : Nat → Nat → List UInt8
  | 0, _ => []
  | k + 1, u => hexN k (u / 16) ++ [hexd (u % 16)]
theorem hexN_len : ∀ k u, (hexN k u).length = k
  | 0, _ => rfl
  | k + 1, u => by rw [hexN, List.length_append, hexN_len k]; rfl
/-- A number's signs, without zeros ahead. -/
def hexDigits (u : Nat) : List UInt8 := if _h : u < 16 then [hexd u] else hexDigits (u / 16) ++ [hexd (u % 16)]
termination_by u
theorem hexN_zero (k : Nat) : hexN k 0 = List.replicate k 48 := by
  induction k with
  | zero => rfl
  | succ k ih => rw [hexN, show 0 / 16 = 0 from rfl, ih]; rw [List.replicate_succ']; rfl
theorem hexDigits_len (k : Nat) : ∀ u, u < 16 ^ (k + 1) → 1 ≤ (hexDigits u).length ∧ (hexDigits u).length ≤ k + 1 := by
  induction k with
  | zero => intro u h; rw [hexDigits, dif_pos (by simpa using h)]; simp
  | succ k ih =>
    intro u h
    rw [hexDigits]
    by_cases g : u < 16
    · rw [dif_pos g]; simp
    · rw [dif_neg g]
      have := ih (u / 16) (by rw [Nat.pow_succ] at h; omega)
      simp; omega
/-- Zeros ahead of a number's signs. -/
theorem pad (k : Nat) : ∀ u, u < 16 ^ (k + 1) → List.replicate (k + 1 - (hexDigits u).length) 48 ++ hexDigits u = hexN (k + 1) u := by
  induction k with
  | zero =>
    intro u h
    have h : u < 16 := by simpa using h
    rw [hexDigits, dif_pos h, hexN, hexN, show u % 16 = u by omega]; rfl
  | succ k ih =>
    intro u h
    rw [hexN]
    by_cases g : u < 16
    · rw [hexDigits, dif_pos g, show u / 16 = 0 by omega, hexN_zero, show u % 16 = u by omega]; rfl
    · have h' : u / 16 < 16 ^ (k + 1) := by rw [Nat.pow_succ] at h; omega
      have hl := hexDigits_len k (u / 16) h'
      rw [← ih (u / 16) h', hexDigits, dif_neg g, List.length_append, List.append_assoc]
      congr 2
      simp
theorem hexN_inj (k : Nat) : ∀ u v, u < 16 ^ k → v < 16 ^ k → hexN k u = hexN k v → u = v := by
  induction k with
  | zero => intro u v h g _; simp at h g; omega
  | succ k ih =>
    intro u v h g e
    rw [hexN, hexN] at e
    have e1 := List.append_inj' e rfl
    have a := ih (u / 16) (v / 16) (by rw [Nat.pow_succ] at h; omega) (by rw [Nat.pow_succ] at g; omega) e1.1
    have b := hexd_inj _ _ (by omega) (by omega) (List.head_eq_of_cons_eq e1.2)
    omega
end Go.Proofs.YtghoelgjpljbkaaDoor.Label
