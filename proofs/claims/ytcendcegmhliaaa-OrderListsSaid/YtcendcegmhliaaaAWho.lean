/-
  Contracts of package label's Who, Asset, Word and End, and of the reference's.
-/
import Derived.Test.YtcendcegmhliaaaAName
namespace Go.Proofs.Ytcendcegmhliaaa.Label
open Go.RowKit

theorem ent_who1 : Enters Try.prog 51 := enters_of Try.func51 (by kernel_rfl) rfl
theorem ent_cap : Enters Try.prog 47 := enters_of Try.func47 (by kernel_rfl) rfl

theorem asset_any (s : ByteArray) (w : World) (hs : s.size ≤ 9223372036854775807) :
    Calls Try.prog 26 #[.string s] w fun e w' => e = .returned (.bool (madeB capB 6 s.data.toList)) ∧ w = w' := by
  have hM : Calls Try.prog 46 #[.string s, .int .i64 6, .func (.func 47) #[] #[]] w fun e w' => e = .returned (.bool (madeB capB 6 s.data.toList)) ∧ w = w' := made_any 47 capB ent_cap cap_any s 6 (by omega) w hs
  go_enter Try.func26, Try.ntmps26
  go_wp2_with fail
  refine hM.mono ?_
  rintro e w' ⟨rfl, rfl⟩
  go_wp2
  go_ret
  exact ⟨rfl, rfl⟩

/-- Is a text a participant's name? -/
def whoS (l : List UInt8) : Bool := madeB whoB 8 l && (match l with | c :: _ => smallB c | [] => false)
theorem made_len {p : UInt8 → Bool} {m : Nat} {l : List UInt8} (h : madeB p m l = true) : 1 ≤ l.length ∧ l.length ≤ m := by
  unfold madeB at h
  rw [Bool.and_eq_true, decide_eq_true_eq] at h
  exact h.1
theorem head_at (s : ByteArray) (h : 0 < s.size) : (match s.data.toList with | c :: _ => smallB c | [] => false) = smallB s[0] := by
  obtain ⟨⟨l⟩⟩ := s
  cases l with
  | nil => exact absurd h (Nat.lt_irrefl 0)
  | cons c r => rfl
theorem who_any (s : ByteArray) (w : World) (hs : s.size ≤ 9223372036854775807) :
    Calls Try.prog 29 #[.string s] w fun e w' => e = .returned (.bool (whoS s.data.toList)) ∧ w = w' := by
  have hM : Calls Try.prog 46 #[.string s, .int .i64 8, .func (.func 51) #[] #[]] w fun e w' => e = .returned (.bool (madeB whoB 8 s.data.toList)) ∧ w = w' := made_any 51 whoB ent_who1 who1_any s 8 (by omega) w hs
  cases h : madeB whoB 8 s.data.toList
  · rw [h] at hM
    have hF : whoS s.data.toList = false := by unfold whoS; rw [h]; rfl
    have HF := Lib.hid hF
    clear hF h
    go_enter Try.func29, Try.ntmps29
    go_wp2_with fail
    refine hM.mono ?_
    rintro e w' ⟨rfl, rfl⟩
    go_wp2
    go_ret
    exact ⟨ret_bool HF.out.symm, rfl⟩
  · rw [h] at hM
    have hl : 0 < s.size := (made_len h).1
    have hF : whoS s.data.toList = smallB s[0] := by unfold whoS; rw [h, head_at s hl]; rfl
    have HF := Lib.hid hF
    clear hF h
    go_enter Try.func29, Try.ntmps29
    go_wp2_with fail
    refine hM.mono ?_
    rintro e w' ⟨rfl, rfl⟩
    go_wp2_with fail
    refine (small_any _ _).mono ?_
    rintro e w' ⟨rfl, rfl⟩
    go_wp2
    go_ret
    exact ⟨ret_bool HF.out.symm, rfl⟩

/-- Between two signs. -/
def inB (a b : Int) (c : UInt8) : Bool := decide (a ≤ c.toNat) && decide ((c.toNat : Int) ≤ b)
theorem small_in (c : UInt8) : smallB c = inB 97 122 c := by unfold smallB inB; rw [Bool.eq_iff_iff]; simp; omega
theorem cap_in (c : UInt8) : capB c = inB 65 90 c := by unfold capB inB; rw [Bool.eq_iff_iff]; simp; omega
theorem dig_in (c : UInt8) : digB c = inB 48 57 c := by unfold digB inB; rw [Bool.eq_iff_iff]; simp; omega
theorem within_any (c : UInt8) (a b : Int) (w : World) :
    Calls Try.prog 48 #[.int .u8 (c.toNat : Int), .int .u8 a, .int .u8 b] w fun e w' => e = .returned (.bool (inB a b c)) ∧ w = w' := by
  have hv : inB a b c = (decide (a ≤ c.toNat) && decide ((c.toNat : Int) ≤ b)) := rfl
  have HV := Lib.hid hv
  clear hv
  generalize inB a b c = r at *
  generalize (c.toNat : Int) = x at *
  by_cases h : a ≤ x
  all_goals
    go_enter Try.func48, Try.ntmps48
    go_wp2
    go_ret
    exact ⟨ret_bool (by rw [HV.out]; simp; try omega), rfl⟩
end Go.Proofs.Ytcendcegmhliaaa.Label
