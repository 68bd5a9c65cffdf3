/-
  Plain facts on numerals: an amount's numeral is parsed as the amount.
-/
import Derived.Lib.ItoaMem
import Derived.Lib.ParseIntBTie
namespace Go.Proofs.YtgedlmnkkdcejaaDoor.Coin
open Go.Lib

theorem dig_toNat (d : Nat) (h : d < 10) : (UInt8.ofNat (48 + d)).toNat = 48 + d := by
  rw [UInt8.toNat_ofNat']; omega

theorem parseUint_dec (u : Nat) (r : List UInt8) (hu : u ≤ 18446744073709551615) : parseUintM 18446744073709551615 0 (decDigits u ++ r) = parseUintM 18446744073709551615 u r := by
  induction u using Nat.strongRecOn generalizing r with
  | ind u ih =>
    rw [decDigits]
    by_cases h : u < 10
    · rw [dif_pos h]
      simp only [List.cons_append, List.nil_append, parseUintM]
      rw [dig_toNat u h, if_pos (by omega), if_neg (by omega), if_neg (by omega)]
      congr 1; omega
    · rw [dif_neg h, List.append_assoc, ih (u / 10) (by omega) _ (by omega)]
      simp only [List.cons_append, List.nil_append, parseUintM]
      rw [dig_toNat (u % 10) (by omega), if_pos (by omega), if_neg (by omega), if_neg (by omega)]
      congr 1; omega

theorem dec_head (u : Nat) : ∃ c r, decDigits u = c :: r ∧ 48 ≤ c.toNat ∧ c.toNat ≤ 57 := by
  induction u using Nat.strongRecOn with
  | ind u ih =>
    rw [decDigits]
    by_cases h : u < 10
    · rw [dif_pos h]; exact ⟨_, _, rfl, by rw [dig_toNat u h]; omega, by rw [dig_toNat u h]; omega⟩
    · rw [dif_neg h]
      obtain ⟨c, r, e, h1, h2⟩ := ih (u / 10) (by omega)
      rw [e]; exact ⟨c, _, rfl, h1, h2⟩

theorem parseUintB_dec (u : Nat) (hu : u ≤ 18446744073709551615) : parseUintB 64 (decDigits u) = .ok u := by
  unfold parseUintB
  obtain ⟨c, r, e, _, _⟩ := dec_head u
  rw [if_neg (by rw [e]; simp)]
  have := parseUint_dec u [] hu
  rw [List.append_nil] at this
  exact this

theorem dec_len (k : Nat) : ∀ u : Nat, u < 10 ^ (k + 1) → (decDigits u).length ≤ k + 1 := by
  induction k with
  | zero => intro u h; rw [decDigits, dif_pos (by simpa using h)]; simp
  | succ k ih =>
    intro u h
    rw [decDigits]
    by_cases g : u < 10
    · rw [dif_pos g]; simp
    · rw [dif_neg g]
      have := ih (u / 10) (by rw [Nat.pow_succ] at h; omega)
      simp; omega
theorem itoa_len (v : Int) (h0 : -9223372036854775808 ≤ v) (h1 : v ≤ 9223372036854775807) : (itoa v).length ≤ 20 := by
  unfold itoa
  split
  · have := dec_len 18 v.natAbs (by omega)
    simp; omega
  · have := dec_len 18 v.toNat (by omega)
    omega

/-- An amount's numeral is parsed as the amount. -/
theorem parse_itoa (v : Int) (h0 : -9223372036854775808 ≤ v) (h1 : v ≤ 9223372036854775807) : parseIntB 64 (itoa v) = .ok v := by
  unfold itoa
  by_cases h : v < 0
  · rw [if_pos h]
    unfold parseIntB
    simp only []
    rw [if_pos (by simp), parseUintB_dec v.natAbs (by omega)]
    simp only []
    have e : (45 : UInt8).toNat = 45 := rfl
    rw [if_neg (by simp [e]), if_neg (by simp [e]; omega), if_pos e]
    congr 1; omega
  · rw [if_neg h]
    obtain ⟨c, r, e, g1, g2⟩ := dec_head v.toNat
    have hu := parseUintB_dec v.toNat (by omega)
    rw [e] at hu ⊢
    unfold parseIntB
    simp only []
    rw [if_neg (by omega), hu]
    simp only []
    rw [if_neg (by simp; omega), if_neg (by omega), if_neg (by omega)]
    congr 1; omega

theorem parse_bd {l : List UInt8} {v : Int} (h : parseIntB 64 l = .ok v) : -9223372036854775808 ≤ v ∧ v ≤ 9223372036854775807 := by
  have := parseIntB_bounds h
  simp at this
  omega

/-- Two amounts with one numeral are one. -/
theorem itoa_inj (v u : Int) (h0 : -9223372036854775808 ≤ v) (h1 : v ≤ 9223372036854775807) (g0 : -9223372036854775808 ≤ u) (g1 : u ≤ 9223372036854775807) (h : itoa v = itoa u) : v = u := by
  have a := parse_itoa v h0 h1
  rw [h, parse_itoa u g0 g1] at a
  injection a with a; exact a.symm
end Go.Proofs.YtgedlmnkkdcejaaDoor.Coin
