/-
  The head of all of stage 2's statements: the calls whose answers the document fixes.
-/
import Derived.Test.YtghoelgjpljbkaaDoorLRefSplit
import Derived.Test.YtghoelgjpljbkaaDoorLNumber
namespace Go.Proofs.YtghoelgjpljbkaaDoor.Label
open Go.RowKit Gen

theorem aw_key (b : Nat) (w : World) (c0 : w.cell? ⟨b, 0, none⟩ = some (.string ⟨#[97, 110, 110]⟩)) (c1 : w.cell? ⟨b, 1, none⟩ = some (.string ⟨#[85, 83, 68]⟩)) (hb : b < w.heap.size) :
    Calls Tryd.prog 22 #[.int .u8 98, .slice (some ⟨b, 0, none⟩) 2 2] w fun e w' => e = .returned (.tuple #[.string ⟨#[98, 124, 97, 110, 110, 124, 85, 83, 68]⟩, .int .i64 0]) ∧ Below w.heap.size w w' := by
  have h := key_any 98 (some ⟨b, 0, none⟩) 2 2 [⟨#[97, 110, 110]⟩, ⟨#[85, 83, 68]⟩] w rfl (by omega) (by intro p hp; simp at hp; rcases hp with rfl | rfl <;> decide) (fun _ => ⟨b, 0, rfl, hb, fun k hk => by
    have : k = 0 ∨ k = 1 := by simp at hk; omega
    rcases this with rfl | rfl
    · exact c0
    · exact c1⟩)
  have e1 : kR 98 (txt [⟨#[97, 110, 110]⟩, ⟨#[85, 83, 68]⟩]) = [98, 124, 97, 110, 110, 124, 85, 83, 68] := by decide +kernel
  have e2 : kE 98 (txt [⟨#[97, 110, 110]⟩, ⟨#[85, 83, 68]⟩]) = 0 := by decide +kernel
  rw [e1, e2] at h
  exact h
theorem aw_split (w : World) (hr : Ready w) :
    Calls Tryd.prog 24 #[.string ⟨#[98, 124, 97, 110, 110, 124, 85, 83, 68]⟩] w fun e w' => ∃ (A : Option Addr) (c : Nat), e = .returned (.tuple #[.int .u8 98, .slice A 2 c, .int .i64 0]) ∧ Below w.heap.size w w' ∧ SRow w' A [⟨#[97, 110, 110]⟩, ⟨#[85, 83, 68]⟩] := by
  refine (split_any ⟨#[98, 124, 97, 110, 110, 124, 85, 83, 68]⟩ w (by decide) hr).mono ?_
  rintro e w' ⟨hb, ⟨sp, A, c, bs, hk, he, rfl, hl, hR⟩ | ⟨hn, _⟩⟩
  · have h1 : keyOk 98 (txt [⟨#[97, 110, 110]⟩, ⟨#[85, 83, 68]⟩]) = true := by decide +kernel
    obtain ⟨rfl, hb2⟩ := key_inj hk h1 (he.symm.trans (by decide +kernel))
    obtain rfl := txt_eq.1 hb2
    exact ⟨A, c, rfl, hb, hR⟩
  · exact absurd (by decide +kernel) (hn 98 (txt [⟨#[97, 110, 110]⟩, ⟨#[85, 83, 68]⟩]) (by decide +kernel))
theorem aw_split0 (w : World) (hr : Ready w) :
    Calls Tryd.prog 24 #[.string ⟨#[98, 124]⟩] w fun e w' => e = .returned (.tuple #[.int .u8 0, .slice none 0 0, .int .i64 20]) ∧ Below w.heap.size w w' := by
  refine (split_any ⟨#[98, 124]⟩ w (by decide) hr).mono ?_
  rintro e w' ⟨hb, ⟨sp, A, c, bs, hk, he, rfl, hl, hR⟩ | ⟨hn, rfl⟩⟩
  · have := key_three hk
    rw [← he] at this
    exact absurd this (by decide)
  · exact ⟨rfl, hb⟩
theorem aw_digits (w : World) (hr : Ready w) : Calls Tryd.prog 18 #[.int .u64 255] w fun e w' => e = .returned (.string ⟨(hexN 16 255).toArray⟩) ∧ Below w.heap.size w w' := digits_any 255 w (by omega) hr
theorem aw_number (w : World) (hr : Ready w) : Calls Tryd.prog 10 #[.string ⟨(hexN 16 255).toArray⟩] w fun e w' => e = .returned (.tuple #[.int .u64 255, .int .i64 0]) ∧ Below w.heap.size w w' := number_yes _ 255 (by omega) rfl w hr
theorem aw_number0 (w : World) (hr : Ready w) : Calls Tryd.prog 10 #[.string ⟨#[102, 102]⟩] w fun e w' => e = .returned (.tuple #[.int .u64 0, .int .i64 20]) ∧ Below w.heap.size w w' :=
  number_no ⟨#[102, 102]⟩ (fun n _ e => by have := congrArg List.length e; rw [hexN_len] at this; exact absurd this (by decide)) w hr
theorem aw_same (A : Option Addr) (c b : Nat) (w : World) (hR : SRow w A [⟨#[97, 110, 110]⟩, ⟨#[85, 83, 68]⟩]) (c0 : w.cell? ⟨b, 0, none⟩ = some (.string ⟨#[97, 110, 110]⟩)) (c1 : w.cell? ⟨b, 1, none⟩ = some (.string ⟨#[85, 83, 68]⟩)) (hb : b < w.heap.size) :
    Calls Tryd.prog 26 #[.slice A 2 c, .slice (some ⟨b, 0, none⟩) 2 2] w fun e w' => e = .returned (.bool true) ∧ Below w.heap.size w w' := by
  have h := same_any A (some ⟨b, 0, none⟩) 2 2 c 2 [⟨#[97, 110, 110]⟩, ⟨#[85, 83, 68]⟩] [⟨#[97, 110, 110]⟩, ⟨#[85, 83, 68]⟩] w rfl rfl (by omega) (by omega) hR (fun _ => ⟨b, 0, rfl, hb, fun k hk => by
    have : k = 0 ∨ k = 1 := by simp at hk; omega
    rcases this with rfl | rfl
    · exact c0
    · exact c1⟩)
  rw [decide_eq_true rfl] at h
  exact h
theorem aw_who1 (w : World) : Calls Tryd.prog 12 #[.string ⟨#[97, 110, 110, 55]⟩] w fun e w' => e = .returned (.bool true) ∧ w = w' := by
  have h := who_any ⟨#[97, 110, 110, 55]⟩ w (by decide)
  rw [show whoS (⟨#[97, 110, 110, 55]⟩ : ByteArray).data.toList = true by decide +kernel] at h
  exact h
theorem aw_who2 (w : World) : Calls Tryd.prog 12 #[.string ⟨#[55, 97, 110, 110]⟩] w fun e w' => e = .returned (.bool false) ∧ w = w' := by
  have h := who_any ⟨#[55, 97, 110, 110]⟩ w (by decide)
  rw [show whoS (⟨#[55, 97, 110, 110]⟩ : ByteArray).data.toList = false by decide +kernel] at h
  exact h
theorem aw_asset (w : World) : Calls Tryd.prog 14 #[.string ⟨#[85, 83, 68]⟩] w fun e w' => e = .returned (.bool true) ∧ w = w' := by
  have h := asset_any ⟨#[85, 83, 68]⟩ w (by decide)
  rw [show madeB capB 6 (⟨#[85, 83, 68]⟩ : ByteArray).data.toList = true by decide +kernel] at h
  exact h
theorem aw_word (w : World) : Calls Tryd.prog 16 #[.string ⟨#[82, 45, 49]⟩] w fun e w' => e = .returned (.bool true) ∧ w = w' := by
  have h := word_any ⟨#[82, 45, 49]⟩ w (by decide)
  rw [show madeB wordB 12 (⟨#[82, 45, 49]⟩ : ByteArray).data.toList = true by decide +kernel] at h
  exact h
theorem aw_end (w : World) : Calls Tryd.prog 20 #[.string ⟨#[98]⟩] w fun e w' => e = .returned (.string ⟨#[98, 125]⟩) ∧ w = w' := by
  have h := end_any ⟨#[98]⟩ w (by decide)
  rw [show (⟨#[98]⟩ : ByteArray) ++ ⟨#[125]⟩ = ⟨#[98, 125]⟩ by decide +kernel] at h
  exact h

set_option maxHeartbeats 4000000 in
set_option maxRecDepth 100000 in
theorem awake_any (w : World) (hr : Ready w) : Calls Tryd.prog 9 #[] w fun e w' => e = .returned (.bool true) ∧ Below w.heap.size w w' := by
  have HR := Lib.hid hr
  clear hr
  go_enter Tryd.func9, Tryd.ntmps9
  go_wp2_with fail
  refine (aw_key w.heap.size _ (by simp [go_sem]) (by simp [go_sem]) (by simp)).mono ?_
  rintro e w1 ⟨rfl, b1⟩
  have B1 := ((Below.refl w.heap.size w).alloc (Nat.le_refl _) _).trans (b1.mono (by simp))
  clear b1
  go_wp2_with fail
  refine (aw_split _ (HR.out.below B1)).mono ?_
  rintro e w2 ⟨A, c, rfl, b2, hRow⟩
  have B2 := B1.trans (b2.mono B1.size)
  clear B1 b2
  go_wp2_with fail
  refine (aw_split0 _ (HR.out.below B2)).mono ?_
  rintro e w3 ⟨rfl, b3⟩
  have B3 := B2.trans (b3.mono B2.size)
  have hRow := SRow.below hRow b3
  clear B2 b3
  go_wp2_with fail
  refine (aw_digits _ (HR.out.below B3)).mono ?_
  rintro e w4 ⟨rfl, b4⟩
  have B4 := B3.trans (b4.mono B3.size)
  have hRow := SRow.below hRow b4
  clear B3 b4
  go_wp2_with fail
  refine (aw_number _ (HR.out.below B4)).mono ?_
  rintro e w5 ⟨rfl, b5⟩
  have B5 := B4.trans (b5.mono B4.size)
  have hRow := SRow.below hRow b5
  clear B4 b5
  go_wp2_with fail
  refine (aw_number0 _ (HR.out.below B5)).mono ?_
  rintro e w6 ⟨rfl, b6⟩
  have B6 := B5.trans (b6.mono B5.size)
  have hRow := SRow.below hRow b6
  clear B5 b6
  go_wp2_with fail
  refine (aw_same A c w6.heap.size _ (SRow.below hRow ((Below.refl _ _).alloc (Nat.le_refl _) _)) (by simp [go_sem]) (by simp [go_sem]) (by simp)).mono ?_
  rintro e w7 ⟨rfl, b7⟩
  have B7 := (B6.alloc B6.size _).trans (b7.mono (by have := B6.size; simp; omega))
  clear B6 b7 hRow
  go_wp2_with fail
  refine (aw_who1 _).mono ?_
  rintro e w' ⟨rfl, rfl⟩
  go_wp2_with fail
  refine (aw_who2 _).mono ?_
  rintro e w' ⟨rfl, rfl⟩
  go_wp2_with fail
  refine (aw_asset _).mono ?_
  rintro e w' ⟨rfl, rfl⟩
  go_wp2_with fail
  refine (aw_word _).mono ?_
  rintro e w' ⟨rfl, rfl⟩
  go_wp2_with fail
  refine (aw_end _).mono ?_
  rintro e w' ⟨rfl, rfl⟩
  go_wp2
  go_ret
  exact ⟨rfl, B7⟩

/-- LabelNames. -/
theorem names_walk (w : World) (hr : Ready w) : Calls Tryd.prog 3 #[] w fun e w' => e = .returned (.bool true) ∧ Below w.heap.size w w' := by
  go_enter Tryd.func3, Tryd.ntmps3
  go_wp2_with fail
  refine (awake_any _ hr).mono ?_
  rintro e w1 ⟨rfl, b1⟩
  go_wp2
  go_ret
  exact ⟨rfl, b1⟩
end Go.Proofs.YtghoelgjpljbkaaDoor.Label
