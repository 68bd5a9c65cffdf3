/-
  The walk of CoinBack.
-/
import Derived.Test.YtgedlmnkkdcejaaDoorAwake
namespace Go.Proofs.YtgedlmnkkdcejaaDoor.Coin
open Go.RowKit Go.Lib

theorem ret_true {b : Bool} (h : b = true) : Ending.returned (.bool b) = .returned (.bool true) := by rw [h]
theorem bytes_of {s : ByteArray} {l : List UInt8} (h : s.data.toList = l) : s = ⟨l.toArray⟩ := by cases s; simp at h; rw [← h]

set_option maxHeartbeats 1000000 in
theorem back_walk (n : Int) (s : ByteArray) (w : World) (h0 : -9223372036854775808 ≤ n) (h1 : n ≤ 9223372036854775807) (hs : s.size ≤ maxLen) (hr : Ready w) :
    Calls Tryd.prog 7 #[.int .i64 n, .string s] w fun e w' => e = .returned (.bool true) ∧ Below w.heap.size w w' := by
  unfold maxLen at hs
  by_cases hlen : 50 < s.size
  · go_enter Tryd.func7, Tryd.ntmps7
    go_wp2_with fail
    refine (awake_any _ hr).mono ?_
    rintro e w1 ⟨rfl, B1⟩
    go_wp2
    go_ret
    exact ⟨rfl, B1⟩
  · have hl := itoa_len n h0 h1
    by_cases hv : ∃ v, (-9223372036854775808 ≤ v ∧ v ≤ 9223372036854775807) ∧ s.data.toList = itoa v
    · obtain ⟨v, ⟨v0, v1⟩, hv⟩ := hv
      obtain rfl := bytes_of hv
      have hsl : (itoa v).length ≤ 50 := by simpa [ByteArray.size] using hlen
      clear hlen hs hv
      go_enter Tryd.func7, Tryd.ntmps7
      go_wp2_with fail
      refine (awake_any _ hr).mono ?_
      rintro e w1 ⟨rfl, B1⟩
      go_wp2_with fail
      refine (text_any n _ h0 h1 (hr.below B1)).mono ?_
      rintro e w2 ⟨rfl, c2⟩
      have B2 := B1.trans (c2.mono B1.size)
      clear B1 c2
      go_wp2_with fail
      refine (parse_yes _ n _ h0 h1 (by simp) (hr.below B2)).mono ?_
      rintro e w3 ⟨rfl, c3⟩
      have B3 := B2.trans (c3.mono B2.size)
      clear B2 c3
      go_wp2_with fail
      refine (parse_yes _ v _ v0 v1 (by simp) (hr.below B3)).mono ?_
      rintro e w4 ⟨rfl, c4⟩
      have B4 := B3.trans (c4.mono B3.size)
      clear B3 c4
      go_wp2_with fail
      refine (text_any v _ v0 v1 (hr.below B4)).mono ?_
      rintro e w5 ⟨rfl, c5⟩
      have B5 := B4.trans (c5.mono B4.size)
      clear B4 c5
      go_wp2_with fail
      refine (text_any n _ h0 h1 (hr.below B5)).mono ?_
      rintro e w6 ⟨rfl, c6⟩
      have B6 := B5.trans (c6.mono B5.size)
      clear B5 c6
      go_wp2
      go_ret
      exact ⟨ret_true (by rw [decide_eq_true_eq]; omega), B6⟩
    · have hn : ∀ v, -9223372036854775808 ≤ v → v ≤ 9223372036854775807 → s.data.toList ≠ itoa v := fun v a b h => hv ⟨v, ⟨a, b⟩, h⟩
      have HN := Lib.hid hn
      clear hv hn
      go_enter Tryd.func7, Tryd.ntmps7
      go_wp2_with fail
      refine (awake_any _ hr).mono ?_
      rintro e w1 ⟨rfl, B1⟩
      go_wp2_with fail
      refine (text_any n _ h0 h1 (hr.below B1)).mono ?_
      rintro e w2 ⟨rfl, c2⟩
      have B2 := B1.trans (c2.mono B1.size)
      clear B1 c2
      go_wp2_with fail
      refine (parse_yes _ n _ h0 h1 (by simp) (hr.below B2)).mono ?_
      rintro e w3 ⟨rfl, c3⟩
      have B3 := B2.trans (c3.mono B2.size)
      clear B2 c3
      go_wp2_with fail
      refine (parse_no s _ (by omega) HN.out (hr.below B3)).mono ?_
      rintro e w4 ⟨rfl, c4⟩
      have B4 := B3.trans (c4.mono B3.size)
      clear B3 c4
      go_wp2_with fail
      refine (text_any n _ h0 h1 (hr.below B4)).mono ?_
      rintro e w5 ⟨rfl, c5⟩
      have B5 := B4.trans (c5.mono B4.size)
      clear B4 c5
      go_wp2
      go_ret
      exact ⟨ret_true (by rw [decide_eq_true_eq]; omega), B5⟩
end Go.Proofs.YtgedlmnkkdcejaaDoor.Coin
