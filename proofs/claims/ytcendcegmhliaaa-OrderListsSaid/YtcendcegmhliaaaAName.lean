/-
  Contracts of package label's names and words: Who, Asset, Word.
-/
import Derived.Test.YtcendcegmhliaaaProg
import Derived.WalkKit
import Derived.BigCall
import Derived.BigGuard
import Derived.Lib.Hide
import Derived.Shelf.Abstract
import Derived.Laws.IdiomStrings
import Derived.BigQuiet
import Derived.Deep.QuietTactic
import Derived.Outline
namespace Go.Proofs.Ytcendcegmhliaaa.Label
open Go.RowKit

theorem ret_bool {a b : Bool} (h : a = b) : Ending.returned (.bool a) = .returned (.bool b) := by rw [h]

def smallB (c : UInt8) : Bool := decide (97 ≤ c.toNat ∧ c.toNat ≤ 122)
def capB (c : UInt8) : Bool := decide (65 ≤ c.toNat ∧ c.toNat ≤ 90)
def digB (c : UInt8) : Bool := decide (48 ≤ c.toNat ∧ c.toNat ≤ 57)
def whoB (c : UInt8) : Bool := smallB c || digB c
theorem small_any (c : UInt8) (w : World) : Calls Try.prog 52 #[.int .u8 (c.toNat : Int)] w fun e w' => e = .returned (.bool (smallB c)) ∧ w = w' := by
  have hv : smallB c = decide (97 ≤ c.toNat ∧ c.toNat ≤ 122) := rfl
  generalize smallB c = b at *
  generalize c.toNat = x at *
  have hc : (97 ≤ x ∧ x ≤ 122) ∨ x < 97 ∨ 122 < x := by omega
  have HV := Lib.hid hv
  clear hv
  rcases hc with ⟨h1, h2⟩ | h1 | h1
  all_goals
    go_enter Try.func52, Try.ntmps52
    go_wp2
    go_ret
    exact ⟨ret_bool (by rw [HV.out, Bool.eq_iff_iff]; simp; omega), rfl⟩
theorem cap_any (c : UInt8) (w : World) : Calls Try.prog 47 #[.int .u8 (c.toNat : Int)] w fun e w' => e = .returned (.bool (capB c)) ∧ w = w' := by
  have hv : capB c = decide (65 ≤ c.toNat ∧ c.toNat ≤ 90) := rfl
  generalize capB c = b at *
  generalize c.toNat = x at *
  have hc : (65 ≤ x ∧ x ≤ 90) ∨ x < 65 ∨ 90 < x := by omega
  have HV := Lib.hid hv
  clear hv
  rcases hc with ⟨h1, h2⟩ | h1 | h1
  all_goals
    go_enter Try.func47, Try.ntmps47
    go_wp2
    go_ret
    exact ⟨ret_bool (by rw [HV.out, Bool.eq_iff_iff]; simp; omega), rfl⟩
theorem dig_any (c : UInt8) (w : World) : Calls Try.prog 53 #[.int .u8 (c.toNat : Int)] w fun e w' => e = .returned (.bool (digB c)) ∧ w = w' := by
  have hv : digB c = decide (48 ≤ c.toNat ∧ c.toNat ≤ 57) := rfl
  generalize digB c = b at *
  generalize c.toNat = x at *
  have hc : (48 ≤ x ∧ x ≤ 57) ∨ x < 48 ∨ 57 < x := by omega
  have HV := Lib.hid hv
  clear hv
  rcases hc with ⟨h1, h2⟩ | h1 | h1
  all_goals
    go_enter Try.func53, Try.ntmps53
    go_wp2
    go_ret
    exact ⟨ret_bool (by rw [HV.out, Bool.eq_iff_iff]; simp; omega), rfl⟩
theorem who1_any (c : UInt8) (w : World) : Calls Try.prog 51 #[.int .u8 (c.toNat : Int)] w fun e w' => e = .returned (.bool (whoB c)) ∧ w = w' := by
  unfold whoB
  cases h1 : smallB c
  all_goals
    go_enter Try.func51, Try.ntmps51
    go_wp2_with (first
      | (go_at_call 52; refine (small_any _ _).mono ?_; rintro e w' ⟨rfl, rfl⟩)
      | (go_at_call 53; refine (dig_any _ _).mono ?_; rintro e w' ⟨rfl, rfl⟩))
    go_ret
    exact ⟨by first | rfl | simp [h1], rfl⟩
/-- Has a text 1 to so many bytes, each of which may be? -/
def madeB (p : UInt8 → Bool) (most : Nat) (l : List UInt8) : Bool := decide (1 ≤ l.length ∧ l.length ≤ most) && l.all p

theorem all_step (p : UInt8 → Bool) (s : ByteArray) (k : Nat) (h : k < s.size) : (s.data.toList.take (k + 1)).all p = ((s.data.toList.take k).all p && p s[k]) := by
  rw [List.take_succ_eq_append_getElem (by simpa using h)]
  simp [List.all_append]; rfl
theorem all_break (p : UInt8 → Bool) (s : ByteArray) (k : Nat) (h : k < s.size) (hp : p s[k] = false) : s.data.toList.all p = false := by
  rw [List.all_eq_false]
  exact ⟨s[k], by show s.data[k] ∈ s.data.toList; exact Array.getElem_mem_toList .., by simp [hp]⟩

set_option maxHeartbeats 400000 in
theorem made_any (f : FuncId) (p : UInt8 → Bool) (hen : Enters Try.prog f) (hf : ∀ c W, Calls Try.prog f #[.int .u8 ((c : UInt8).toNat : Int)] W fun e w' => e = .returned (.bool (p c)) ∧ W = w')
    (s : ByteArray) (most : Nat) (hm : most ≤ 100) (w : World) (hs : s.size ≤ 9223372036854775807) :
    Calls Try.prog 46 #[.string s, .int .i64 most, .func (.func f) #[] #[]] w fun e w' => e = .returned (.bool (madeB p most s.data.toList)) ∧ w = w' := by
  have HF := Lib.hid hf
  unfold Enters at hen
  have hB : madeB p most s.data.toList = (decide (1 ≤ s.size ∧ s.size ≤ most) && s.data.toList.all p) := rfl
  have HB := Lib.hid hB
  clear hB hf
  generalize madeB p most s.data.toList = b at *
  by_cases h1 : 1 ≤ s.size
  · by_cases h2 : s.size ≤ most
    · have g1 : decide ((s.size : Int) < 1) = false := by simp; omega
      have g2 : decide (most < s.size) = false := by simp; omega
      go_enter Try.func46, Try.ntmps46
      go_wp2
      go_loop [7, 19] (fun _ i => ∃ k : Nat, k ≤ s.size ∧ i = .int .i64 k ∧ Hid ((s.data.toList.take k).all p = true)) (fun _ i => s.size - (intOf i).toNat)
      case atStart => exact ⟨0, Nat.zero_le _, rfl, Lib.hid (by simp)⟩
      case round =>
        obtain ⟨k, hk, rfl, hA⟩ := hrel
        by_cases hlt : k < s.size
        · cases hp : p s[k]
          · go_wp2_with (with_reducible refine (HF.out _ _).mono ?_; rintro e w' ⟨rfl, rfl⟩)
            go_ret
            exact ⟨by rw [HB.out, all_break p s k hlt hp]; simp, rfl⟩
          · have hA' := all_step p s k hlt
            rw [hA.out, hp] at hA'
            have hA' : (s.data.toList.take (k + 1)).all p = true := hA'
            have HA' := Lib.hid hA'
            clear hA'
            go_wp2_with (with_reducible refine (HF.out _ _).mono ?_; rintro e w' ⟨rfl, rfl⟩)
            go_round
            case rel => exact ⟨k + 1, by omega, by go_num, HA'⟩
            case measure => simp [intOf]; omega
        · go_wp2
          go_ret
          have hA := hA.out
          rw [List.take_of_length_le (by simp; omega)] at hA
          exact ⟨by rw [HB.out, hA]; simp; omega, rfl⟩
    · go_enter Try.func46, Try.ntmps46
      go_wp2
      go_ret
      exact ⟨ret_bool (by rw [HB.out, decide_eq_false (p := 1 ≤ s.size ∧ s.size ≤ most) (by omega)]; rfl), rfl⟩
  · go_enter Try.func46, Try.ntmps46
    go_wp2
    go_ret
    exact ⟨ret_bool (by rw [HB.out, decide_eq_false (p := 1 ≤ s.size ∧ s.size ≤ most) (by omega)]; rfl), rfl⟩
end Go.Proofs.Ytcendcegmhliaaa.Label
