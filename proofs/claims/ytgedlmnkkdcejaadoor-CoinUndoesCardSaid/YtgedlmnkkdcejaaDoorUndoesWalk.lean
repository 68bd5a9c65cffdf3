/-
  The walk of CoinUndoes.
-/
import Derived.Test.YtgedlmnkkdcejaaDoorAwake
namespace Go.Proofs.YtgedlmnkkdcejaaDoor.Coin
open Go.RowKit

/-- A call of two amounts that tells two numbers, and leaves all that was there. -/
def Tells (f : Nat) (x y u v : Int) : Prop := ∀ w : World, Calls Tryd.prog f #[.int .i64 x, .int .i64 y] w fun e w' => e = .returned (.tuple #[.int .i64 u, .int .i64 v]) ∧ Below w.heap.size w w'

theorem in_or (x : Int) : (-9223372036854775808 ≤ x ∧ x ≤ 9223372036854775807) ∨ (x < -9223372036854775808 ∨ 9223372036854775807 < x) := by omega

set_option maxHeartbeats 4000000 in
theorem undoes_core (a b s e d g p h : Int) (w : World) (a0 : -9223372036854775808 ≤ a) (a1 : a ≤ 9223372036854775807) (b0 : -9223372036854775808 ≤ b) (b1 : b ≤ 9223372036854775807) (hr : Ready w)
    (hA : Tells 12 a b s e) (hA' : Tells 12 b a s e) (hD : Tells 14 a b d g) (hM : Tells 16 a b p h) (hM' : Tells 16 b a p h)
    (he : e = 0 ∧ Tells 14 s b a 0 ∨ (e == 0) = false) (hg : g = 0 ∧ Tells 12 d b a 0 ∨ (g == 0) = false)
    (hh : (h != 0) = true ∨ h = 0 ∧ b = 0 ∨ h = 0 ∧ b = -1 ∨ h = 0 ∧ ¬ b = 0 ∧ (b == 0) = false ∧ (b == -1) = false ∧ p.tdiv b = a) :
    Calls Tryd.prog 8 #[.int .i64 a, .int .i64 b] w fun e w' => e = .returned (.bool true) ∧ Below w.heap.size w w' := by
  rcases hh with hh | ⟨rfl, rfl⟩ | ⟨rfl, rfl⟩ | ⟨rfl, q0, q1, q2, q3⟩
  all_goals
    rcases he with ⟨rfl, hS⟩ | he
    all_goals
      rcases hg with ⟨rfl, hT⟩ | hg
      all_goals
        go_enter Tryd.func8, Tryd.ntmps8
        go_wp2_with fail
        refine (awake_any _ hr).mono ?_
        rintro e w1 ⟨rfl, B1⟩
        go_wp2_with fail
        refine (hA _).mono ?_
        rintro e w2 ⟨rfl, c2⟩
        have B2 := B1.trans (c2.mono B1.size)
        clear B1 c2
        go_wp2_with fail
        refine (hA' _).mono ?_
        rintro e w3 ⟨rfl, c3⟩
        have B3 := B2.trans (c3.mono B2.size)
        clear B2 c3
        go_wp2_with fail
        refine (hD _).mono ?_
        rintro e w4 ⟨rfl, c4⟩
        have B4 := B3.trans (c4.mono B3.size)
        clear B3 c4
        go_wp2_with fail
        refine (hM _).mono ?_
        rintro e w5 ⟨rfl, c5⟩
        have B5 := B4.trans (c5.mono B4.size)
        clear B4 c5
        go_wp2_with fail
        refine (hM' _).mono ?_
        rintro e w6 ⟨rfl, c6⟩
        have B6 := B5.trans (c6.mono B5.size)
        clear B5 c6
        go_wp2_with fail
        try (refine (hS _).mono ?_; rintro e w7 ⟨rfl, c7⟩; replace B6 := B6.trans (c7.mono B6.size); clear c7; go_wp2_with fail)
        try (refine (hT _).mono ?_; rintro e w8 ⟨rfl, c8⟩; replace B6 := B6.trans (c8.mono B6.size); clear c8; go_wp2_with fail)
        go_ret
        exact ⟨rfl, B6⟩

theorem undoes_walk (a b : Int) (w : World) (a0 : -9223372036854775808 ≤ a) (a1 : a ≤ 9223372036854775807) (b0 : -9223372036854775808 ≤ b) (b1 : b ≤ 9223372036854775807) (hr : Ready w) :
    Calls Tryd.prog 8 #[.int .i64 a, .int .i64 b] w fun e w' => e = .returned (.bool true) ∧ Below w.heap.size w w' := by
  refine undoes_core a b (val (a + b)) (err (a + b)) (val (a - b)) (err (a - b)) (val (a * b)) (err (a * b)) w a0 a1 b0 b1 hr (fun w => add_any a b w a0 a1 b0 b1) (fun w => ?_) (fun w => sub_any a b w a0 a1 b0 b1)
    (fun w => mul_any a b w a0 a1 b0 b1) (fun w => ?_) ?_ ?_ ?_
  · rw [Int.add_comm a b]; exact add_any b a w b0 b1 a0 a1
  · rw [Int.mul_comm a b]; exact mul_any b a w b0 b1 a0 a1
  · rcases in_or (a + b) with ⟨h0, h1⟩ | h
    · refine .inl ⟨err_in h0 h1, fun w => ?_⟩
      have h := sub_any (a + b) b w h0 h1 b0 b1
      rw [show a + b - b = a by omega, val_in a0 a1, err_in a0 a1] at h
      rw [val_in h0 h1]; exact h
    · exact .inr (by rw [err_out h]; rfl)
  · rcases in_or (a - b) with ⟨h0, h1⟩ | h
    · refine .inl ⟨err_in h0 h1, fun w => ?_⟩
      have h := add_any (a - b) b w h0 h1 b0 b1
      rw [show a - b + b = a by omega, val_in a0 a1, err_in a0 a1] at h
      rw [val_in h0 h1]; exact h
    · exact .inr (by rw [err_out h]; rfl)
  · rcases in_or (a * b) with ⟨h0, h1⟩ | h
    · refine .inr ?_
      rw [err_in h0 h1, val_in h0 h1]
      by_cases g0 : b = 0
      · exact .inl ⟨rfl, g0⟩
      · by_cases g1 : b = -1
        · exact .inr (.inl ⟨rfl, g1⟩)
        · exact .inr (.inr ⟨rfl, g0, by simpa using g0, by simpa using g1, Int.mul_tdiv_cancel a g0⟩)
    · exact .inl (by rw [err_out h]; rfl)
end Go.Proofs.YtgedlmnkkdcejaaDoor.Coin
