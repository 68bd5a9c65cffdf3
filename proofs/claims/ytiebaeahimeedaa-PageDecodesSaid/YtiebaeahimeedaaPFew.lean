/-
  Few tells of any page.
-/
import Derived.Test.YtiebaeahimeedaaPSame
namespace Go.Proofs.Ytiebaeahimeedaa.Page
open Go.RowKit Gen

/-- An answer, whichever. -/
def Answers (w : World) (e : Ending) (w' : World) : Prop := (∃ r : Bool, e = .returned (.bool r)) ∧ Below w.heap.size w w'
set_option maxRecDepth 100000 in
theorem few_any (p : Pg) (a : Lay) (w : World) (hok : PgOk p) (hR : PgRows w p a) : Calls Try.prog 11 #[pgV p a] w (Answers w) := by
  have b1 : Below w.heap.size w (w.alloc (.cells (pgC p a) 28)) := (Below.refl _ _).alloc (Nat.le_refl _) _
  have B1 := Lib.hid b1
  have AT := Lib.hid (pg_box w p a)
  have HP := Lib.hid (hR.below b1).r1
  have HK := Lib.hid (hR.below b1).r2
  have hkl := hok.keys
  have hpl := hok.pairs
  clear hR hok b1
  obtain ⟨W0, hW0⟩ : ∃ W0, w.alloc (.cells (pgC p a) 28) = W0 := ⟨_, rfl⟩
  unfold pgV
  unfold pgC at *
  rw [hW0] at AT HP HK B1
  have x1 : W0.cell? ⟨w.heap.size, 1, none⟩ = some (.slice a.A1 p.pairs.length a.c1) := AT.out.2.2 1 _ rfl
  have x2 : W0.cell? ⟨w.heap.size, 2, none⟩ = some (.slice a.A2 p.keys.length a.c2) := AT.out.2.2 2 _ rfl
  have x3 : W0.cell? ⟨w.heap.size, 3, none⟩ = some (.slice a.A3 p.kids.length a.c3) := AT.out.2.2 3 _ rfl
  have x4 : W0.cell? ⟨w.heap.size, 4, none⟩ = some (.slice a.A4 p.pages.length a.c4) := AT.out.2.2 4 _ rfl
  obtain ⟨n, hn⟩ : ∃ n, p.pairs.length = n := ⟨_, rfl⟩
  obtain ⟨m, hm⟩ : ∃ m, p.keys.length = m := ⟨_, rfl⟩
  rw [hn] at x1 AT hW0 hpl ⊢
  rw [hm] at x2 AT hW0 hkl ⊢
  have HN := Lib.hid hn
  have HM := Lib.hid hm
  clear hn hm
  generalize a.A1 = Ak at *
  generalize a.A2 = Ad at *
  by_cases hbig : decide (300 < (n : Int)) = true ∨ decide (300 < (m : Int)) = true ∨ decide (300 < (p.kids.length : Int)) = true ∨ decide (300 < (p.pages.length : Int)) = true
  · rcases e1 : decide (300 < (n : Int)) with _ | _ <;> rcases e2 : decide (300 < (m : Int)) with _ | _ <;> rcases e3 : decide (300 < (p.kids.length : Int)) with _ | _ <;> rcases e4 : decide (300 < (p.pages.length : Int)) with _ | _
    · exact absurd hbig (by rw [e1, e2, e3, e4]; decide)
    all_goals
      clear hbig
      go_enter Try.func11, Try.ntmps11
      go_wp2_with fail
      go_ret
      exact ⟨⟨_, rfl⟩, B1.out⟩
  have e1 : decide (300 < (n : Int)) = false := by rw [← Bool.not_eq_true]; exact fun h => hbig (.inl h)
  have e2 : decide (300 < (m : Int)) = false := by rw [← Bool.not_eq_true]; exact fun h => hbig (.inr (.inl h))
  have e3 : decide (300 < (p.kids.length : Int)) = false := by rw [← Bool.not_eq_true]; exact fun h => hbig (.inr (.inr (.inl h)))
  have e4 : decide (300 < (p.pages.length : Int)) = false := by rw [← Bool.not_eq_true]; exact fun h => hbig (.inr (.inr (.inr h)))
  clear hbig
  go_enter Try.func11, Try.ntmps11
  go_wp2_with fail
  clear hW0 x1 x2 x3 x4
  have hn3 : n ≤ 300 := by simp at e1; omega
  have hm3 : m ≤ 300 := by simp at e2; omega
  clear e1 e2 e3 e4 hkl hpl
  go_loopw [3] (fun i wr => ∃ k : Nat, i = .int .i64 (k : Int) ∧ k ≤ n ∧ Drew W0 wr) (fun i _ => n - (intOf i).toNat)
  case atStart => exact ⟨0, rfl, Nat.zero_le _, Drew.refl _⟩
  case round =>
    obtain ⟨k, rfl, hk, hD⟩ := hrel
    have HD := Lib.hid hD
    have x1 := (AT.out.below (hD.below _) AT.out.1).2.2 1 _ rfl
    have x2 := (AT.out.below (hD.below _) AT.out.1).2.2 2 _ rfl
    clear hD
    by_cases hlt : k < n
    · have hka : k < p.pairs.length := by have := HN.out; omega
      obtain ⟨b, o, rfl, -, hc⟩ := HP.out (by intro e; rw [e] at hka; simp at hka)
      obtain ⟨h1, h2⟩ := hc k hka
      rw [← HD.out.cell] at h1 h2
      have t1 : (k : Int) < (n : Int) := by omega
      have t3 : (0 : Int) ≤ (k : Int) := by omega
      obtain ⟨X, hX⟩ : ∃ X, strB p.pairs[k].1 = X := ⟨_, rfl⟩
      obtain ⟨Y, hY⟩ : ∃ X, strB p.pairs[k].2 = X := ⟨_, rfl⟩
      rw [show strV p.pairs[k].1 = .string X by rw [← hX]] at h1
      rw [show strV p.pairs[k].2 = .string Y by rw [← hY]] at h2
      clear hc x2 hX hY
      rcases g1 : decide (200 < (X.size : Int)) with _ | _
      rotate_left
      · go_wp2_with fail
        go_ret
        exact ⟨⟨_, rfl⟩, B1.out.trans (HD.out.below _)⟩
      rcases g2 : decide (200 < (Y.size : Int)) with _ | _
      rotate_left
      · go_wp2_with fail
        go_ret
        exact ⟨⟨_, rfl⟩, B1.out.trans (HD.out.below _)⟩
      go_wp2_with fail
      go_roundw
      case rel => exact ⟨k + 1, by go_num, by omega, HD.out⟩
      case measure => simp [intOf]; omega
    · go_wp2_with fail
      clear x1 x2
      obtain ⟨W1, rfl⟩ : ∃ W1 : World, W1 = wr := ⟨_, rfl⟩
      go_loop [4] (fun i => ∃ k : Nat, i = .int .i64 (k : Int) ∧ k ≤ m) (fun i => m - (intOf i).toNat)
      case atStart => exact ⟨0, rfl, Nat.zero_le _⟩
      case round =>
        obtain ⟨k2, rfl, hk2⟩ := hrel
        have x2 := (AT.out.below (HD.out.below _) AT.out.1).2.2 2 _ rfl
        by_cases hlt2 : k2 < m
        · have hka : k2 < p.keys.length := by have := HM.out; omega
          obtain ⟨b, o, rfl, -, hc⟩ := HK.out (by intro e; rw [e] at hka; simp at hka)
          have h1 := hc k2 hka
          rw [← HD.out.cell] at h1
          have t1 : (k2 : Int) < (m : Int) := by omega
          have t3 : (0 : Int) ≤ (k2 : Int) := by omega
          obtain ⟨X, hX⟩ : ∃ X, strB p.keys[k2] = X := ⟨_, rfl⟩
          rw [show strV p.keys[k2] = .string X by rw [← hX]] at h1
          clear hc hX
          rcases g1 : decide (200 < (X.size : Int)) with _ | _
          rotate_left
          · go_wp2_with fail
            go_ret
            exact ⟨⟨_, rfl⟩, B1.out.trans (HD.out.below _)⟩
          go_wp2_with fail
          go_round
          case rel => exact ⟨k2 + 1, by go_num, by omega⟩
          case measure => simp [intOf]; omega
        · go_wp2_with fail
          go_ret
          exact ⟨⟨_, rfl⟩, B1.out.trans (HD.out.below _)⟩
end Go.Proofs.Ytiebaeahimeedaa.Page
