/-
  Contracts of the document's own answer: More and Sum, bit by bit.
-/
import Derived.Test.YtiebaeahimeedaaCMore
namespace Go.Proofs.Ytiebaeahimeedaa.Crc
open Go.RowKit Gen

/-- So many bits' steps. -/
def steps : Nat → Nat → Nat
  | 0, n => n
  | k + 1, n => steps k (sh n)
theorem steps8 (n : Nat) : steps 8 n = sh8 n := rfl
theorem sh_odd {n : Nat} (h : n < 18446744073709551616) (h2 : n % 2 = 1) : bits BinOp.xor IntKind.u64 ((n : Int) / 2) 14514072000185962306 = ((sh n : Nat) : Int) := by
  unfold sh; rw [if_pos h2]
  exact xor_nat _ _ _ _ (by omega) poly_lt (by omega) rfl
theorem sh_not {n : Nat} (h2 : ¬ n % 2 = 1) : (n : Int) / 2 = ((sh n : Nat) : Int) := by unfold sh; rw [if_neg h2]; omega

set_option maxRecDepth 100000 in
/-- The document's More. -/
theorem refMore_any (s : Nat) (A : Option Addr) (n c : Nat) (l : List UInt8) (w : World) (hs : s < 18446744073709551616) (hl : l.length = n) (hn : n ≤ 9223372036854775807) (hR : BRow w A l) :
    Calls Try.prog 56 #[.int .u64 s, .slice A n c] w fun e w' => e = .returned (.int .u64 (more s l : Nat)) ∧ w = w' := by
  have hsg : IntKind.u64.signed = false := rfl
  have h1 := bits_inv s hs
  have hi := inv_lt hs
  have HR := Lib.hid hR
  clear hR
  go_enter Try.func56, Try.ntmps56
  go_wp2
  clear h1
  go_loop [5, 6] (fun x i => ∃ k m : Nat, i = .int .i64 k ∧ x = .int .u64 m ∧ k ≤ n ∧ m < 18446744073709551616 ∧ Hid (raw m (l.drop k) = raw (inv s) l)) (fun _ i => n - (intOf i).toNat)
  case atStart => exact ⟨0, inv s, rfl, rfl, Nat.zero_le _, hi, Lib.hid rfl⟩
  case round =>
    obtain ⟨k, m, rfl, rfl, hk, hm, hQ⟩ := hrel
    by_cases hlt : k < n
    · obtain ⟨b, off, rfl, hb, hc⟩ := HR.out (by intro e; subst e; simp at hl; omega)
      have hck := hc k (by omega)
      clear hc
      obtain ⟨y, m1, hy, hxy, hm1, hx, he⟩ : ∃ y m1 : Nat, y < 256 ∧ byteV l[k] = .int .u8 (y : Int) ∧ m1 < 18446744073709551616 ∧ bits BinOp.xor IntKind.u64 (m : Int) (y : Int) = (m1 : Int) ∧ m1 = m ^^^ l[k].toNat :=
        ⟨l[k].toNat, _, l[k].toNat_lt, rfl, xor_lt hm (byte_lt _), xor_nat m _ _ _ hm (byte_lt _) rfl rfl, rfl⟩
      have HQ := Lib.hid (raw_drop (by omega) hQ.out)
      rw [← he] at HQ
      rw [hxy] at hck
      clear he hxy hQ
      go_wp2
      go_loop [5, 7] (fun x i => ∃ j m : Nat, i = .int .i64 j ∧ x = .int .u64 m ∧ j ≤ 8 ∧ m < 18446744073709551616 ∧ Hid (steps (8 - j) m = sh8 m1)) (fun _ i => 8 - (intOf i).toNat)
      case atStart => exact ⟨0, m1, rfl, rfl, Nat.zero_le _, hm1, Lib.hid rfl⟩
      case round =>
        obtain ⟨j, p, rfl, rfl, hj, hp, hS⟩ := hrel
        by_cases hj8 : j < 8
        · have HS : Hid (steps (8 - (j + 1)) (sh p) = sh8 m1) := Lib.hid (by
            have h2 := hS.out
            rw [show 8 - j = 8 - (j + 1) + 1 by omega] at h2
            exact h2)
          have hp2 := sh_lt hp
          clear hS
          by_cases h2 : p % 2 = 1
          · have e := sh_odd hp h2
            go_wp2
            go_round
            case rel => exact ⟨j + 1, sh p, by go_num, rfl, by omega, hp2, HS⟩
            case measure => simp [intOf]; omega
          · have e := sh_not h2
            go_wp2
            go_round
            case rel => exact ⟨j + 1, sh p, by go_num, rfl, by omega, hp2, HS⟩
            case measure => simp [intOf]; omega
        · obtain rfl : j = 8 := by omega
          have HP : Hid (raw p (l.drop (k + 1)) = raw (inv s) l) := Lib.hid (by
            have h2 : p = sh8 m1 := hS.out
            rw [h2]; exact HQ.out)
          clear hS HQ
          go_wp2
          go_round
          case rel => exact ⟨k + 1, p, by go_num, rfl, by omega, hp, HP⟩
          case measure => simp [intOf]; omega
    · have e : m = raw (inv s) l := by
        have h2 := hQ.out
        rw [List.drop_eq_nil_of_le (by omega)] at h2
        exact h2
      have e2 : bits BinOp.xor IntKind.u64 IntKind.u64.max (m : Int) = ((more s l : Nat) : Int) := by
        rw [bits_inv m hm, e]; rfl
      clear e
      go_wp2
      go_ret
      exact ⟨rfl, rfl⟩

/-- The document's Sum. -/
theorem refSum_any (A : Option Addr) (n c : Nat) (l : List UInt8) (w : World) (hl : l.length = n) (hn : n ≤ 9223372036854775807) (hR : BRow w A l) :
    Calls Try.prog 29 #[.slice A n c] w fun e w' => e = .returned (.int .u64 (more 0 l : Nat)) ∧ w = w' := by
  have h := refMore_any 0 A n c l w (by omega) hl hn hR
  clear hR hl
  go_enter Try.func29, Try.ntmps29
  go_wp2_with fail
  refine h.mono ?_
  rintro e w1 ⟨rfl, rfl⟩
  go_wp2
  go_ret
  exact ⟨rfl, rfl⟩
end Go.Proofs.Ytiebaeahimeedaa.Crc
