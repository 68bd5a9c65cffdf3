/-
  The head of all of stage 1's statements: the calls whose answers the document fixes.
-/
import Derived.Test.YtgedlmnkkdcejaaDoorSum
import Derived.Test.YtgedlmnkkdcejaaDoorText
namespace Go.Proofs.YtgedlmnkkdcejaaDoor.Coin
open Go.RowKit Go.Lib

theorem aw_add (w : World) : Calls Tryd.prog 12 #[.int .i64 9223372036854775807, .int .i64 1] w fun e w' => e = .returned (.tuple #[.int .i64 0, .int .i64 10]) ∧ Below w.heap.size w w' := by
  have h := add_any 9223372036854775807 1 w (by omega) (by omega) (by omega) (by omega)
  rw [val_out (by omega), err_out (by omega)] at h
  exact h
theorem aw_sub (w : World) : Calls Tryd.prog 14 #[.int .i64 3, .int .i64 5] w fun e w' => e = .returned (.tuple #[.int .i64 (-2), .int .i64 0]) ∧ Below w.heap.size w w' := by
  have h := sub_any 3 5 w (by omega) (by omega) (by omega) (by omega)
  rw [val_in (by omega) (by omega), err_in (by omega) (by omega)] at h
  exact h
theorem aw_mul (w : World) : Calls Tryd.prog 16 #[.int .i64 4294967296, .int .i64 2147483648] w fun e w' => e = .returned (.tuple #[.int .i64 0, .int .i64 10]) ∧ Below w.heap.size w w' := by
  have h := mul_any 4294967296 2147483648 w (by omega) (by omega) (by omega) (by omega)
  rw [val_out (by omega), err_out (by omega)] at h
  exact h
theorem aw_sum (b : Nat) (w : World) (c0 : w.cell? ⟨b, 0, none⟩ = some (.int .i64 9223372036854775807)) (c1 : w.cell? ⟨b, 1, none⟩ = some (.int .i64 5)) (c2 : w.cell? ⟨b, 2, none⟩ = some (.int .i64 (-5))) (hb : b < w.heap.size) :
    Calls Tryd.prog 18 #[.slice (some ⟨b, 0, none⟩) 3 3] w fun e w' => e = .returned (.tuple #[.int .i64 9223372036854775807, .int .i64 0]) ∧ Below w.heap.size w w' := by
  have h := sum_any (some ⟨b, 0, none⟩) 3 3 [9223372036854775807, 5, -5] w rfl (by omega) (fun _ => ⟨b, 0, rfl, hb, fun k hk => by
    have : k = 0 ∨ k = 1 ∨ k = 2 := by simp at hk; omega
    rcases this with rfl | rfl | rfl
    · exact c0
    · exact c1
    · exact c2⟩) (by intro z hz; simp at hz; omega)
  have e : ([9223372036854775807, 5, -5] : List Int).sum = 9223372036854775807 := by simp
  rw [e, val_in (by omega) (by omega), err_in (by omega) (by omega)] at h
  exact h
theorem aw_neg (w : World) (hr : Ready w) : Calls Tryd.prog 20 #[.string ⟨#[45, 49, 50, 48]⟩] w fun e w' => e = .returned (.tuple #[.int .i64 (-120), .int .i64 0]) ∧ Below w.heap.size w w' :=
  parse_yes ⟨#[45, 49, 50, 48]⟩ (-120) w (by omega) (by omega) (by decide +kernel) hr
theorem itoa_head (v : Int) (h0 : -9223372036854775808 ≤ v) (h1 : v ≤ 9223372036854775807) (h : [45, 48] = itoa v) : False := by
  have := parse_itoa v h0 h1
  rw [← h] at this
  have e : parseIntB 64 [45, 48] = .ok 0 := by decide +kernel
  rw [e] at this
  injection this with this
  subst this
  revert h; decide +kernel
theorem aw_zero (w : World) (hr : Ready w) : Calls Tryd.prog 20 #[.string ⟨#[45, 48]⟩] w fun e w' => e = .returned (.tuple #[.int .i64 0, .int .i64 11]) ∧ Below w.heap.size w w' :=
  parse_no ⟨#[45, 48]⟩ w (by decide) (fun v h0 h1 h => itoa_head v h0 h1 h) hr
theorem aw_text (w : World) (hr : Ready w) : Calls Tryd.prog 22 #[.int .i64 (-120)] w fun e w' => e = .returned (.string ⟨#[45, 49, 50, 48]⟩) ∧ Below w.heap.size w w' := by
  have h := text_any (-120) w (by omega) (by omega) hr
  have e : (itoa (-120)).toArray = #[45, 49, 50, 48] := by decide +kernel
  rw [e] at h
  exact h

set_option maxHeartbeats 1000000 in
theorem awake_any (w : World) (hr : Ready w) : Calls Tryd.prog 11 #[] w fun e w' => e = .returned (.bool true) ∧ Below w.heap.size w w' := by
  go_enter Tryd.func11, Tryd.ntmps11
  go_wp2_with fail
  refine (aw_add _).mono ?_
  rintro e w1 ⟨rfl, b1⟩
  go_wp2_with fail
  refine (aw_sub _).mono ?_
  rintro e w2 ⟨rfl, b2⟩
  have B2 := b1.trans (b2.mono b1.size)
  clear b1 b2
  go_wp2_with fail
  refine (aw_mul _).mono ?_
  rintro e w3 ⟨rfl, b3⟩
  have B3 := B2.trans (b3.mono B2.size)
  clear B2 b3
  go_wp2_with fail
  refine (aw_sum w3.heap.size _ (by simp [go_sem]) (by simp [go_sem]) (by simp [go_sem]) (by simp)).mono ?_
  rintro e w4 ⟨rfl, b4⟩
  have B4 := (B3.alloc B3.size _).trans (b4.mono (by have := B3.size; simp; omega))
  clear B3 b4
  go_wp2_with fail
  refine (aw_zero _ (hr.below B4)).mono ?_
  rintro e w5 ⟨rfl, b5⟩
  have B5 := B4.trans (b5.mono B4.size)
  clear B4 b5
  go_wp2_with fail
  refine (aw_neg _ (hr.below B5)).mono ?_
  rintro e w6 ⟨rfl, b6⟩
  have B6 := B5.trans (b6.mono B5.size)
  clear B5 b6
  go_wp2_with fail
  refine (aw_text _ (hr.below B6)).mono ?_
  rintro e w7 ⟨rfl, b7⟩
  have B7 := B6.trans (b7.mono B6.size)
  clear B6 b7
  go_wp2
  go_ret
  exact ⟨rfl, B7⟩

/-- CoinNames. -/
theorem names_walk (w : World) (hr : Ready w) : Calls Tryd.prog 3 #[] w fun e w' => e = .returned (.bool true) ∧ Below w.heap.size w w' := by
  go_enter Tryd.func3, Tryd.ntmps3
  go_wp2_with fail
  refine (awake_any _ hr).mono ?_
  rintro e w1 ⟨rfl, b1⟩
  go_wp2
  go_ret
  exact ⟨rfl, b1⟩
end Go.Proofs.YtgedlmnkkdcejaaDoor.Coin
