/-
  Contracts of the reference's Who, Asset, part, Word.
-/
import Derived.Test.YtcendcegmhliaaaAWho
namespace Go.Proofs.Ytcendcegmhliaaa.Label
open Go.RowKit

set_option maxHeartbeats 1000000 in
theorem ref_asset (s : ByteArray) (w : World) (hs : s.size ≤ 1000) :
    Calls Try.prog 27 #[.string s] w fun e w' => e = .returned (.bool (madeB capB 6 s.data.toList)) ∧ w = w' := by
  have hB : madeB capB 6 s.data.toList = (decide (1 ≤ s.size ∧ s.size ≤ 6) && s.data.toList.all capB) := rfl
  have HB := Lib.hid hB
  clear hB
  generalize madeB capB 6 s.data.toList = b at *
  go_enter Try.func27, Try.ntmps27
  go_wp2
  go_loop [3, 4] (fun i _ => ∃ k : Nat, k ≤ s.size ∧ i = .int .i64 k ∧ Hid ((s.data.toList.take k).all capB = true)) (fun i _ => s.size - (intOf i).toNat)
  case atStart => exact ⟨0, Nat.zero_le _, rfl, Lib.hid (by simp)⟩
  case round =>
    obtain ⟨k, hk, rfl, hA⟩ := hrel
    by_cases hlt : k < s.size
    · cases hp : capB s[k]
      · have h1 : inB 65 90 s[k] = false := by rw [← cap_in]; exact hp
        have HP := Lib.hid hp
        clear hp
        go_wp2_with (go_at_call 48; refine (within_any _ _ _ _).mono ?_; rintro e w' ⟨rfl, rfl⟩)
        go_ret
        exact ⟨ret_bool (by rw [HB.out, all_break capB s k hlt HP.out]; simp), rfl⟩
      · have hA' := all_step capB s k hlt
        rw [hA.out, hp] at hA'
        have hA' : (s.data.toList.take (k + 1)).all capB = true := hA'
        have HA' := Lib.hid hA'
        have h1 : inB 65 90 s[k] = true := by rw [← cap_in]; exact hp
        clear hA' hp
        go_wp2_with (go_at_call 48; refine (within_any _ _ _ _).mono ?_; rintro e w' ⟨rfl, rfl⟩)
        go_round
        case rel => exact ⟨k + 1, by omega, by go_num, HA'⟩
        case measure => simp [intOf]; omega
    · have hA := hA.out
      rw [List.take_of_length_le (by simp; omega)] at hA
      have HA := Lib.hid hA
      clear hA
      by_cases h1 : 1 ≤ s.size
      all_goals
        go_wp2
        go_ret
        exact ⟨ret_bool (by rw [HB.out, HA.out, Bool.eq_iff_iff]; simp; try omega), rfl⟩

/-- What the reference's Who asks of the byte at a place. -/
def whoAt (k : Nat) (c : UInt8) : Bool := inB 97 122 c || (!(k == 0) && inB 48 57 c)
theorem who_no (s : ByteArray) (k : Nat) (h : k < s.size) (hp : whoAt k s[k] = false) : whoS s.data.toList = false := by
  unfold whoAt at hp
  rw [← small_in, ← dig_in] at hp
  unfold whoS
  cases hs : smallB s[k] with
  | true => rw [hs] at hp; simp at hp
  | false =>
    rw [hs] at hp
    by_cases k0 : k = 0
    · subst k0
      rw [head_at s h, hs]; simp
    · have hd : digB s[k] = false := by simpa [k0] using hp
      have : s.data.toList.all whoB = false := all_break whoB s k h (by unfold whoB; rw [hs, hd]; rfl)
      unfold madeB
      rw [this]; simp
theorem who_yes (s : ByteArray) (h1 : 1 ≤ s.size) (h2 : s.size ≤ 8) (h : ∀ k (hk : k < s.size), whoAt k s[k] = true) : whoS s.data.toList = true := by
  unfold whoS
  rw [head_at s h1]
  have h0 := h 0 h1
  unfold whoAt at h0
  rw [← small_in] at h0
  have h0 : smallB s[0] = true := by simpa using h0
  rw [h0, Bool.and_true]
  unfold madeB
  rw [Bool.and_eq_true, decide_eq_true_eq]
  refine ⟨⟨h1, h2⟩, ?_⟩
  rw [List.all_eq_true]
  intro c hc
  obtain ⟨k, hk, rfl⟩ := List.getElem_of_mem hc
  have := h k hk
  unfold whoAt at this
  rw [← small_in, ← dig_in] at this
  show whoB s[k] = true
  unfold whoB
  cases hs : smallB s[k] with
  | true => rfl
  | false => rw [hs] at this; simp at this; rw [this.2]; rfl

set_option maxHeartbeats 2000000 in
theorem ref_who (s : ByteArray) (w : World) (hs : s.size ≤ 9223372036854775807) :
    Calls Try.prog 31 #[.string s] w fun e w' => e = .returned (.bool (whoS s.data.toList)) ∧ w = w' := by
  by_cases hl : 1 ≤ s.size
  · by_cases hl2 : s.size ≤ 8
    · have hY := who_yes s hl hl2
      have HY := Lib.hid hY
      have hN := who_no s
      have HN := Lib.hid hN
      clear hY hN
      have g1 : decide ((s.size : Int) < 1) = false := by simp; omega
      have g2 : decide (8 < (s.size : Int)) = false := by simp; omega
      go_enter Try.func31, Try.ntmps31
      go_wp2
      go_loop [3, 4, 5] (fun i _ _ => ∃ k : Nat, k ≤ s.size ∧ i = .int .i64 k ∧ Hid (∀ j (hj : j < s.size), j < k → whoAt j s[j] = true)) (fun i _ _ => s.size - (intOf i).toNat)
      case atStart => exact ⟨0, Nat.zero_le _, rfl, Lib.hid (fun j _ h => absurd h (Nat.not_lt_zero _))⟩
      case round =>
        obtain ⟨k, hk, rfl, hA⟩ := hrel
        by_cases hlt : k < s.size
        · have hW : whoAt k s[k] = (inB 97 122 s[k] || (!(k == 0) && inB 48 57 s[k])) := rfl
          have hz : ((k : Int) == 0) = (k == 0) := by rw [Bool.eq_iff_iff]; simp
          have hZ : whoAt k s[k] = true → Hid (∀ j (hj : j < s.size), j < k + 1 → whoAt j s[j] = true) := fun e => Lib.hid (fun j hj hjk => by
            by_cases q : j = k
            · subst q; exact e
            · exact hA.out j hj (by omega))
          have HZ := Lib.hid hZ
          have HW := Lib.hid hW
          clear hW hZ
          cases h1 : inB 97 122 s[k] <;> cases h2 : inB 48 57 s[k] <;> cases h3 : (k == 0)
          all_goals
            rw [h3] at hz
            have hq := HW.out
            rw [h1, h2, h3] at hq
            have HQ := Lib.hid hq
            clear hq h3
            go_wp2_with (go_at_call 48; refine (within_any _ _ _ _).mono ?_; rintro e w' ⟨rfl, rfl⟩)
          all_goals
            first
            | (go_ret; exact ⟨ret_bool (HN.out k hlt HQ.out).symm, rfl⟩)
            | (go_round
               case rel => exact ⟨k + 1, by omega, by go_num, HZ.out HQ.out⟩
               case measure => simp [intOf]; omega)
        · have hA' := HY.out (fun j hj => hA.out j hj (by omega))
          have HA := Lib.hid hA'
          clear hA'
          go_wp2
          go_ret
          exact ⟨ret_bool HA.out.symm, rfl⟩
    · have hF : whoS s.data.toList = false := by unfold whoS madeB; rw [decide_eq_false (by show ¬ (1 ≤ s.size ∧ s.size ≤ 8); omega)]; rfl
      have HF := Lib.hid hF
      clear hF
      go_enter Try.func31, Try.ntmps31
      go_wp2
      go_ret
      exact ⟨ret_bool HF.out.symm, rfl⟩
  · have hF : whoS s.data.toList = false := by unfold whoS madeB; rw [decide_eq_false (by show ¬ (1 ≤ s.size ∧ s.size ≤ 8); omega)]; rfl
    have HF := Lib.hid hF
    clear hF
    go_enter Try.func31, Try.ntmps31
    go_wp2
    go_ret
    exact ⟨ret_bool HF.out.symm, rfl⟩
end Go.Proofs.Ytcendcegmhliaaa.Label
