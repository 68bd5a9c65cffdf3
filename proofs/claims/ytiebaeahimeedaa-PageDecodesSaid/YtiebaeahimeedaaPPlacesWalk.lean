/-
  The walk of PagePlaces.
-/
import Derived.Test.YtiebaeahimeedaaPFew
import Derived.Test.YtiebaeahimeedaaPTwin
import Derived.Test.YtiebaeahimeedaaPRow
namespace Go.Proofs.Ytiebaeahimeedaa.Page
open Go.RowKit Gen

/-- A page that may be, at a sector that is its kind's. -/
def Here (s : Int) (p : Pg) : Prop := p.kind = 4 ∧ (s = 0 ∨ s = 1) ∨ p.kind ≠ 4 ∧ Place s
theorem enc_here {s : Int} {p : Pg} {l : Bs} (h : Enc s p l) : Fine p ∧ Here s p ∧ l.length = 1024 := ⟨h.1, h.2.elim (fun g => .inl ⟨g.1, g.2.1⟩) (fun g => .inr ⟨g.1, g.2.1⟩), enc_len h⟩
theorem here_enc {s : Int} {p : Pg} (h : Fine p) (g : Here s p) : ∃ l, Enc s p l := by
  rcases g with ⟨g1, g2⟩ | ⟨g1, g2⟩
  · exact ⟨_, h, .inl ⟨g1, g2, rfl⟩⟩
  · exact ⟨_, h, .inr ⟨g1, g2, rfl⟩⟩
set_option maxRecDepth 100000 in
set_option maxHeartbeats 8000000 in
theorem places_walk (s : Int) (p : Pg) (a : Lay) (w : World) (hok : PgOk p) (hR : PgRows w p a) : Calls Try.prog 9 #[.int .i64 s, pgV p a] w fun e w' => e = .returned (.bool true) ∧ Below w.heap.size w w' := by
  have b1 : Below w.heap.size w (w.alloc (.cells (pgC p a) 28)) := (Below.refl _ _).alloc (Nat.le_refl _) _
  have B1 := Lib.hid b1
  have AT := Lib.hid (pg_box w p a)
  have R1 := Lib.hid (hR.below b1)
  have OK := Lib.hid hok
  clear hR hok b1
  obtain ⟨W0, hW0⟩ : ∃ W0, w.alloc (.cells (pgC p a) 28) = W0 := ⟨_, rfl⟩
  unfold pgV
  unfold pgC at *
  rw [hW0] at AT R1 B1
  go_enter Try.func9, Try.ntmps9
  go_wp2_with fail
  clear hW0
  refine (awake_any W0).mono ?_
  rintro e w1 ⟨rfl, bb⟩
  have B2 := Lib.hid (B1.out.trans (bb.mono B1.out.size))
  have A2 := Lib.hid (AT.out.below bb AT.out.1)
  have R2 := Lib.hid (R1.out.below bb)
  obtain ⟨x0, x1, x2, x3, x4, x5, x6, x7, x8, x9, x10⟩ := pg_keep w1 p a A2.out w1 (Below.refl _ _)
  have cF := few_any p a w1 OK.out R2.out
  clear bb AT R1 B1
  go_wp2_with fail
  refine cF.mono ?_
  rintro e w2 ⟨⟨r, rfl⟩, bb⟩
  have B3 := Lib.hid (B2.out.trans (bb.mono B2.out.size))
  have A3 := Lib.hid (A2.out.below bb A2.out.1)
  have R3 := Lib.hid (R2.out.below bb)
  clear x0 x1 x2 x3 x4 x5 x6 x7 x8 x9 x10
  obtain ⟨x0, x1, x2, x3, x4, x5, x6, x7, x8, x9, x10⟩ := pg_keep w2 p a A3.out w2 (Below.refl _ _)
  have cE := encode_any s p a w2 OK.out R3.out
  clear bb A2 R2 B2 cF
  rcases r with _ | _
  · go_wp2_with fail
    go_ret
    exact ⟨rfl, B3.out⟩
  go_wp2_with fail
  refine cE.mono ?_
  rintro e w3 (⟨A, n, c, l, rfl, hby, henc, hb⟩ | ⟨rfl, hno, hb⟩)
  · obtain ⟨hf, hh, hlen⟩ := enc_here henc
    obtain rfl : n = 1024 := by rw [← hby.len]; exact hlen
    have B4 := Lib.hid (B3.out.trans (hb.mono B3.out.size))
    have A4 := Lib.hid (A3.out.below hb A3.out.1)
    have R4 := Lib.hid (R3.out.below hb)
    clear x0 x1 x2 x3 x4 x5 x6 x7 x8 x9 x10
    obtain ⟨x0, x1, x2, x3, x4, x5, x6, x7, x8, x9, x10⟩ := pg_keep w3 p a A4.out w3 (Below.refl _ _)
    have cC := check_any p a w3 OK.out R4.out
    clear hb A3 R3 B3 cE R4
    have HF := Lib.hid hf
    clear henc hlen hby hf
    rcases hh with ⟨hk, rfl | rfl⟩ | ⟨hk, hp⟩
    · have k4 : (p.kind == 4) = true := by simp [hk]
      clear hk
      go_wp2_with fail
      refine cC.mono ?_
      rintro e w4 ⟨y, rfl, hy, hb⟩
      obtain rfl : y = 0 := hy.elim (fun h => h.1) (fun h => absurd HF.out h.2)
      have B5 := Lib.hid (B4.out.trans (hb.mono B4.out.size))
      clear hy hb cC x0 x1 x2 x3 x4 x5 x6 x7 x8 x9 x10 B4 A4
      go_wp2_with fail
      go_ret
      exact ⟨rfl, B5.out⟩
    · have k4 : (p.kind == 4) = true := by simp [hk]
      clear hk
      go_wp2_with fail
      refine cC.mono ?_
      rintro e w4 ⟨y, rfl, hy, hb⟩
      obtain rfl : y = 0 := hy.elim (fun h => h.1) (fun h => absurd HF.out h.2)
      have B5 := Lib.hid (B4.out.trans (hb.mono B4.out.size))
      clear hy hb cC x0 x1 x2 x3 x4 x5 x6 x7 x8 x9 x10 B4 A4
      go_wp2_with fail
      go_ret
      exact ⟨rfl, B5.out⟩
    · have k4 : (p.kind == 4) = false := by simp [hk]
      have d1 : decide (2 ≤ s) = true := by unfold Place at hp; simp; omega
      have d2 : decide (s ≤ 4095) = true := by unfold Place at hp; simp; omega
      clear hk hp
      go_wp2_with fail
      refine cC.mono ?_
      rintro e w4 ⟨y, rfl, hy, hb⟩
      obtain rfl : y = 0 := hy.elim (fun h => h.1) (fun h => absurd HF.out h.2)
      have B5 := Lib.hid (B4.out.trans (hb.mono B4.out.size))
      clear hy hb cC x0 x1 x2 x3 x4 x5 x6 x7 x8 x9 x10 B4 A4
      go_wp2_with fail
      go_ret
      exact ⟨rfl, B5.out⟩
  · have hnot : ¬ (Fine p ∧ Here s p) := fun h => by
      obtain ⟨l, hl⟩ := here_enc h.1 h.2
      exact hno l hl
    have B4 := Lib.hid (B3.out.trans (hb.mono B3.out.size))
    have A4 := Lib.hid (A3.out.below hb A3.out.1)
    have R4 := Lib.hid (R3.out.below hb)
    clear x0 x1 x2 x3 x4 x5 x6 x7 x8 x9 x10
    obtain ⟨x0, x1, x2, x3, x4, x5, x6, x7, x8, x9, x10⟩ := pg_keep w3 p a A4.out w3 (Below.refl _ _)
    have cC := check_any p a w3 OK.out R4.out
    clear hb A3 R3 B3 cE R4
    clear hno
    by_cases hk : p.kind = 4
    · have k4 : (p.kind == 4) = true := by simp [hk]
      have k5 : p.kind ≠ 4 → False := fun h => h hk
      by_cases h0 : s = 0
      · have HF : Hid (¬ Fine p) := Lib.hid (fun h => hnot ⟨h, .inl ⟨hk, .inl h0⟩⟩)
        subst h0
        clear hnot hk k5
        go_wp2_with fail
        refine cC.mono ?_
        rintro e w4 ⟨y, rfl, hy, hb⟩
        obtain rfl : y = 50 := hy.elim (fun h => absurd h.2 HF.out) (fun h => h.1)
        have B5 := Lib.hid (B4.out.trans (hb.mono B4.out.size))
        clear hy hb cC x0 x1 x2 x3 x4 x5 x6 x7 x8 x9 x10 B4 A4
        go_wp2_with fail
        go_ret
        exact ⟨rfl, B5.out⟩
      by_cases h1 : s = 1
      · have HF : Hid (¬ Fine p) := Lib.hid (fun h => hnot ⟨h, .inl ⟨hk, .inr h1⟩⟩)
        subst h1
        clear hnot hk k5
        go_wp2_with fail
        refine cC.mono ?_
        rintro e w4 ⟨y, rfl, hy, hb⟩
        obtain rfl : y = 50 := hy.elim (fun h => absurd h.2 HF.out) (fun h => h.1)
        have B5 := Lib.hid (B4.out.trans (hb.mono B4.out.size))
        clear hy hb cC x0 x1 x2 x3 x4 x5 x6 x7 x8 x9 x10 B4 A4
        go_wp2_with fail
        go_ret
        exact ⟨rfl, B5.out⟩
      have d3 : (s == 0) = false := by simp [h0]
      have d4 : (s == 1) = false := by simp [h1]
      clear hnot hk k5 h0 h1
      rcases d1 : decide (2 ≤ s) with _ | _
      · go_wp2_with fail
        refine cC.mono ?_
        rintro e w4 ⟨y, rfl, hy, hb⟩
        have B5 := Lib.hid (B4.out.trans (hb.mono B4.out.size))
        clear hb cC x0 x1 x2 x3 x4 x5 x6 x7 x8 x9 x10 B4 A4
        rcases hy with ⟨rfl, -⟩ | ⟨rfl, -⟩
        all_goals
          go_wp2_with fail
          go_ret
          exact ⟨rfl, B5.out⟩
      · rcases d2 : decide (s ≤ 4095) with _ | _
        · go_wp2_with fail
          refine cC.mono ?_
          rintro e w4 ⟨y, rfl, hy, hb⟩
          have B5 := Lib.hid (B4.out.trans (hb.mono B4.out.size))
          clear hb cC x0 x1 x2 x3 x4 x5 x6 x7 x8 x9 x10 B4 A4
          rcases hy with ⟨rfl, -⟩ | ⟨rfl, -⟩
          all_goals
            go_wp2_with fail
            go_ret
            exact ⟨rfl, B5.out⟩
        · go_wp2_with fail
          refine cC.mono ?_
          rintro e w4 ⟨y, rfl, hy, hb⟩
          have B5 := Lib.hid (B4.out.trans (hb.mono B4.out.size))
          clear hb cC x0 x1 x2 x3 x4 x5 x6 x7 x8 x9 x10 B4 A4
          rcases hy with ⟨rfl, -⟩ | ⟨rfl, -⟩
          all_goals
            go_wp2_with fail
            go_ret
            exact ⟨rfl, B5.out⟩
    · have k4 : (p.kind == 4) = false := by simp [hk]
      by_cases hp : Place s
      · have HF : Hid (¬ Fine p) := Lib.hid (fun h => hnot ⟨h, .inr ⟨hk, hp⟩⟩)
        have d1 : decide (2 ≤ s) = true := by unfold Place at hp; simp; omega
        have d2 : decide (s ≤ 4095) = true := by unfold Place at hp; simp; omega
        clear hnot hk hp
        go_wp2_with fail
        refine cC.mono ?_
        rintro e w4 ⟨y, rfl, hy, hb⟩
        obtain rfl : y = 50 := hy.elim (fun h => absurd h.2 HF.out) (fun h => h.1)
        have B5 := Lib.hid (B4.out.trans (hb.mono B4.out.size))
        clear hy hb cC x0 x1 x2 x3 x4 x5 x6 x7 x8 x9 x10 B4 A4
        go_wp2_with fail
        go_ret
        exact ⟨rfl, B5.out⟩
      clear hnot hk
      by_cases h2 : 2 ≤ s
      · have d1 : decide (2 ≤ s) = true := by simp [h2]
        have d2 : decide (s ≤ 4095) = false := by unfold Place at hp; simp; omega
        clear hp h2
        go_wp2_with fail
        refine cC.mono ?_
        rintro e w4 ⟨y, rfl, hy, hb⟩
        have B5 := Lib.hid (B4.out.trans (hb.mono B4.out.size))
        clear hb cC x0 x1 x2 x3 x4 x5 x6 x7 x8 x9 x10 B4 A4
        rcases hy with ⟨rfl, -⟩ | ⟨rfl, -⟩
        all_goals
          go_wp2_with fail
          go_ret
          exact ⟨rfl, B5.out⟩
      · have d1 : decide (2 ≤ s) = false := by simp [h2]
        clear hp h2
        go_wp2_with fail
        refine cC.mono ?_
        rintro e w4 ⟨y, rfl, hy, hb⟩
        have B5 := Lib.hid (B4.out.trans (hb.mono B4.out.size))
        clear hb cC x0 x1 x2 x3 x4 x5 x6 x7 x8 x9 x10 B4 A4
        rcases hy with ⟨rfl, -⟩ | ⟨rfl, -⟩
        all_goals
          go_wp2_with fail
          go_ret
          exact ⟨rfl, B5.out⟩
end Go.Proofs.Ytiebaeahimeedaa.Page
