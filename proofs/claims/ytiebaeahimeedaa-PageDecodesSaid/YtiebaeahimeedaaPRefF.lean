/-
  Contract of the document's own Check.
-/
import Derived.Test.YtiebaeahimeedaaPRefE
import Derived.Test.YtiebaeahimeedaaPEncode
namespace Go.Proofs.Ytiebaeahimeedaa.Page
open Go.RowKit Gen

theorem len_zero (n : Nat) : (((n : Int) == 0) = true) ↔ n = 0 := by simp
set_option maxRecDepth 100000 in
set_option maxHeartbeats 8000000 in
theorem rCheck_any (p : Pg) (a : Lay) (w : World) (hok : PgOk p) (hR : PgRows w p a) : Calls Try.prog 15 #[pgV p a] w (Checks p w) := by
  have b1 : Below w.heap.size w (w.alloc (.cells (pgC p a) 28)) := (Below.refl _ _).alloc (Nat.le_refl _) _
  have B1 := Lib.hid b1
  have AT := Lib.hid (pg_box w p a)
  have R1 := Lib.hid (hR.below b1)
  have OK := Lib.hid hok
  clear hR hok b1
  obtain ⟨W0, hW0⟩ : ∃ W0, w.alloc (.cells (pgC p a) 28) = W0 := ⟨_, rfl⟩
  unfold pgV
  unfold pgC at *
  rw [hW0] at AT R1 B1
  obtain ⟨x0, x1, x2, x3, x4, x5, x6, x7, x8, x9, x10⟩ := pg_keep W0 p a AT.out W0 (Below.refl _ _)
  go_enter Try.func15, Try.ntmps15
  go_upto_region 2 with fail
  clear hW0
  generalize Value.agg #[.int .i64 p.kind, .slice a.A1 p.pairs.length a.c1, .slice a.A2 p.keys.length a.c2, .slice a.A3 p.kids.length a.c3, .slice a.A4 p.pages.length a.c4, .int .i64 p.next, .int .u64 (p.epoch : Int), .int .i64 p.root, .int .i64 p.depth, .int .i64 p.count, .int .i64 p.high] = V
  go_cut [4] from 8 (fun s4 wx => wx = W0 ∧ ∃ r : Bool, s4 = .bool r ∧ (r = true ↔ p.keys.length = 0 ∧ p.kids.length = 0))
  case first =>
    rcases d1 : ((p.keys.length : Int) == 0) with _ | _
    · have HO : Hid (¬ p.keys.length = 0) := Lib.hid (fun h => by rw [(len_zero _).2 h] at d1; cases d1)
      go_wp2_with fail
      go_meet
      case rel => exact ⟨rfl, _, rfl, ⟨fun h => (by cases h), fun h => absurd h.1 HO.out⟩⟩
    have H1 := Lib.hid ((len_zero _).1 d1)
    rcases d2 : ((p.kids.length : Int) == 0) with _ | _
    · have HO : Hid (¬ p.kids.length = 0) := Lib.hid (fun h => by rw [(len_zero _).2 h] at d2; cases d2)
      go_wp2_with fail
      go_meet
      case rel => exact ⟨rfl, _, rfl, ⟨fun h => (by cases h), fun h => absurd h.2 HO.out⟩⟩
    have H2 := Lib.hid ((len_zero _).1 d2)
    go_wp2_with fail
    go_meet
    case rel => exact ⟨rfl, _, rfl, ⟨fun _ => ⟨H1.out, H2.out⟩, fun _ => rfl⟩⟩
  case rest =>
  obtain ⟨rfl, r4, rfl, h4⟩ := hcut
  have H4 := Lib.hid h4
  clear h4
  go_upto_region 4 with fail
  go_cut [6] from 8 (fun s6 wx => wx = wc ∧ ∃ r : Bool, s6 = .bool r ∧ (r = true ↔ NoHead p))
  case first =>
    rcases d0 : ((p.epoch : Int) == 0) with _ | _
    · have HO : Hid (¬ p.epoch = 0) := Lib.hid (fun h => by simp [h] at d0)
      go_wp2_with fail
      go_meet
      case rel => exact ⟨rfl, _, rfl, ⟨fun h => (by cases h), fun h => absurd h.1 HO.out⟩⟩
    have H0 : Hid (p.epoch = 0) := Lib.hid (by simpa using d0)
    rcases d1 : (p.root == 0) with _ | _
    · have HO : Hid (¬ p.root = 0) := Lib.hid (fun h => by simp [h] at d1)
      go_wp2_with fail
      go_meet
      case rel => exact ⟨rfl, _, rfl, ⟨fun h => (by cases h), fun h => absurd h.2.1 HO.out⟩⟩
    have H1 : Hid (p.root = 0) := Lib.hid (by simpa using d1)
    rcases d2 : (p.depth == 0) with _ | _
    · have HO : Hid (¬ p.depth = 0) := Lib.hid (fun h => by simp [h] at d2)
      go_wp2_with fail
      go_meet
      case rel => exact ⟨rfl, _, rfl, ⟨fun h => (by cases h), fun h => absurd h.2.2.1 HO.out⟩⟩
    have H2 : Hid (p.depth = 0) := Lib.hid (by simpa using d2)
    rcases d3 : (p.count == 0) with _ | _
    · have HO : Hid (¬ p.count = 0) := Lib.hid (fun h => by simp [h] at d3)
      go_wp2_with fail
      go_meet
      case rel => exact ⟨rfl, _, rfl, ⟨fun h => (by cases h), fun h => absurd h.2.2.2.1 HO.out⟩⟩
    have H3 : Hid (p.count = 0) := Lib.hid (by simpa using d3)
    rcases d4 : (p.high == 0) with _ | _
    · have HO : Hid (¬ p.high = 0) := Lib.hid (fun h => by simp [h] at d4)
      go_wp2_with fail
      go_meet
      case rel => exact ⟨rfl, _, rfl, ⟨fun h => (by cases h), fun h => absurd h.2.2.2.2 HO.out⟩⟩
    have H9 : Hid (p.high = 0) := Lib.hid (by simpa using d4)
    go_wp2_with fail
    go_meet
    case rel => exact ⟨rfl, _, rfl, ⟨fun _ => ⟨H0.out, H1.out, H2.out, H3.out, H9.out⟩, fun _ => rfl⟩⟩
  case rest =>
  obtain ⟨rfl, r6, rfl, h6⟩ := hcut
  have H6 := Lib.hid h6
  clear h6
  by_cases hk1 : p.kind = 1
  · have HF := Lib.hid (fine1 hk1)
    have k1 : (p.kind == 1) = true := by rw [hk1]; rfl
    have cL := rLeaf_any p a _ R1.out.r1
    clear hk1
    go_wp2_with fail
    refine cL.mono ?_
    rintro e w2 ⟨r, rfl, hr, hb⟩
    have B2 := Lib.hid (B1.out.trans (hb.mono B1.out.size))
    have y5 : w2.cell? ⟨w.heap.size, 5, none⟩ = some (.int .i64 p.next) := (AT.out.below hb AT.out.1).2.2 5 _ rfl
    rcases r with _ | _
    · have HP : Hid (¬ Fine p) := Lib.hid (fun g => by cases (hr.2 (HF.out.1 g).1))
      clear hr hb cL
      go_wp2_with fail
      go_ret
      exact ⟨_, rfl, .inr ⟨rfl, HP.out⟩, B2.out⟩
    have HP := Lib.hid (hr.1 rfl)
    clear hr hb cL
    rcases r4 with _ | _
    · have HQ : Hid (¬ Fine p) := Lib.hid (fun g0 => by have g := HF.out.1 g0; exact absurd (H4.out.2 ⟨g.2.1, g.2.2.1⟩) (by decide))
      go_wp2_with fail
      go_ret
      exact ⟨_, rfl, .inr ⟨rfl, HQ.out⟩, B2.out⟩
    rcases d5 : ((p.pages.length : Int) == 0) with _ | _
    · have HQ : Hid (¬ Fine p) := Lib.hid (fun g0 => by have g := HF.out.1 g0; simp [show p.pages.length = 0 from g.2.2.2.1] at d5)
      go_wp2_with fail
      go_ret
      exact ⟨_, rfl, .inr ⟨rfl, HQ.out⟩, B2.out⟩
    have E5 : Hid (p.pages.length = 0) := Lib.hid (by simpa using d5)
    rcases r6 with _ | _
    · have HQ : Hid (¬ Fine p) := Lib.hid (fun g0 => by have g := HF.out.1 g0; exact absurd (H6.out.2 g.2.2.2.2.2) (by decide))
      go_wp2_with fail
      go_ret
      exact ⟨_, rfl, .inr ⟨rfl, HQ.out⟩, B2.out⟩
    rcases dn : (p.next == 0) with _ | _
    · have HQ : Hid (¬ Fine p) := Lib.hid (fun g0 => by have g := HF.out.1 g0; simp [show p.next = 0 from g.2.2.2.2.1] at dn)
      go_wp2_with fail
      go_ret
      exact ⟨_, rfl, .inr ⟨rfl, HQ.out⟩, B2.out⟩
    have En : Hid (p.next = 0) := Lib.hid (by simpa using dn)
    go_wp2_with fail
    go_ret
    exact ⟨_, rfl, .inl ⟨rfl, HF.out.2 ⟨HP.out, (H4.out.1 (by trivial)).1, (H4.out.1 (by trivial)).2, E5.out, En.out, H6.out.1 (by trivial)⟩⟩, B2.out⟩
  by_cases hk2 : p.kind = 2
  · have HF := Lib.hid (fine2 hk2)
    have k1 : (p.kind == 1) = false := by rw [hk2]; rfl
    have k2 : (p.kind == 2) = true := by rw [hk2]; rfl
    have cL := rBranch_any p a _ OK.out R1.out.r2 R1.out.r3
    clear hk1 hk2
    go_wp2_with fail
    refine cL.mono ?_
    rintro e w2 ⟨r, rfl, hr, hb⟩
    have B2 := Lib.hid (B1.out.trans (hb.mono B1.out.size))
    have y5 : w2.cell? ⟨w.heap.size, 5, none⟩ = some (.int .i64 p.next) := (AT.out.below hb AT.out.1).2.2 5 _ rfl
    rcases r with _ | _
    · have HP : Hid (¬ Fine p) := Lib.hid (fun g => by cases (hr.2 (HF.out.1 g).1))
      clear hr hb cL
      go_wp2_with fail
      go_ret
      exact ⟨_, rfl, .inr ⟨rfl, HP.out⟩, B2.out⟩
    have HP := Lib.hid (hr.1 rfl)
    clear hr hb cL
    rcases d3 : ((p.pairs.length : Int) == 0) with _ | _
    · have HQ : Hid (¬ Fine p) := Lib.hid (fun g0 => by have g := HF.out.1 g0; simp [show p.pairs.length = 0 from g.2.1] at d3)
      go_wp2_with fail
      go_ret
      exact ⟨_, rfl, .inr ⟨rfl, HQ.out⟩, B2.out⟩
    have E3 : Hid (p.pairs.length = 0) := Lib.hid (by simpa using d3)
    rcases d5 : ((p.pages.length : Int) == 0) with _ | _
    · have HQ : Hid (¬ Fine p) := Lib.hid (fun g0 => by have g := HF.out.1 g0; simp [show p.pages.length = 0 from g.2.2.1] at d5)
      go_wp2_with fail
      go_ret
      exact ⟨_, rfl, .inr ⟨rfl, HQ.out⟩, B2.out⟩
    have E5 : Hid (p.pages.length = 0) := Lib.hid (by simpa using d5)
    rcases r6 with _ | _
    · have HQ : Hid (¬ Fine p) := Lib.hid (fun g0 => by have g := HF.out.1 g0; exact absurd (H6.out.2 g.2.2.2.2) (by decide))
      go_wp2_with fail
      go_ret
      exact ⟨_, rfl, .inr ⟨rfl, HQ.out⟩, B2.out⟩
    rcases dn : (p.next == 0) with _ | _
    · have HQ : Hid (¬ Fine p) := Lib.hid (fun g0 => by have g := HF.out.1 g0; simp [show p.next = 0 from g.2.2.2.1] at dn)
      go_wp2_with fail
      go_ret
      exact ⟨_, rfl, .inr ⟨rfl, HQ.out⟩, B2.out⟩
    have En : Hid (p.next = 0) := Lib.hid (by simpa using dn)
    go_wp2_with fail
    go_ret
    exact ⟨_, rfl, .inl ⟨rfl, HF.out.2 ⟨HP.out, E3.out, E5.out, En.out, H6.out.1 (by trivial)⟩⟩, B2.out⟩
  by_cases hk3 : p.kind = 3
  · have HF := Lib.hid (fine3 hk3)
    have k1 : (p.kind == 1) = false := by rw [hk3]; rfl
    have k2 : (p.kind == 2) = false := by rw [hk3]; rfl
    have k3 : (p.kind == 3) = true := by rw [hk3]; rfl
    have cL := rList_any p a _ R1.out.r4
    clear hk1 hk2 hk3
    go_wp2_with fail
    refine cL.mono ?_
    rintro e w2 ⟨r, rfl, hr, hb⟩
    have B2 := Lib.hid (B1.out.trans (hb.mono B1.out.size))
    have y5 : w2.cell? ⟨w.heap.size, 5, none⟩ = some (.int .i64 p.next) := (AT.out.below hb AT.out.1).2.2 5 _ rfl
    rcases r with _ | _
    · have HP : Hid (¬ Fine p) := Lib.hid (fun g => by cases (hr.2 (HF.out.1 g).1))
      clear hr hb cL
      go_wp2_with fail
      go_ret
      exact ⟨_, rfl, .inr ⟨rfl, HP.out⟩, B2.out⟩
    have HP := Lib.hid (hr.1 rfl)
    clear hr hb cL
    rcases d3 : ((p.pairs.length : Int) == 0) with _ | _
    · have HQ : Hid (¬ Fine p) := Lib.hid (fun g0 => by have g := HF.out.1 g0; simp [show p.pairs.length = 0 from g.2.1] at d3)
      go_wp2_with fail
      go_ret
      exact ⟨_, rfl, .inr ⟨rfl, HQ.out⟩, B2.out⟩
    have E3 : Hid (p.pairs.length = 0) := Lib.hid (by simpa using d3)
    rcases r4 with _ | _
    · have HQ : Hid (¬ Fine p) := Lib.hid (fun g0 => by have g := HF.out.1 g0; exact absurd (H4.out.2 ⟨g.2.2.1, g.2.2.2.1⟩) (by decide))
      go_wp2_with fail
      go_ret
      exact ⟨_, rfl, .inr ⟨rfl, HQ.out⟩, B2.out⟩
    rcases r6 with _ | _
    · have HQ : Hid (¬ Fine p) := Lib.hid (fun g0 => by have g := HF.out.1 g0; exact absurd (H6.out.2 g.2.2.2.2) (by decide))
      go_wp2_with fail
      go_ret
      exact ⟨_, rfl, .inr ⟨rfl, HQ.out⟩, B2.out⟩
    go_wp2_with fail
    go_ret
    exact ⟨_, rfl, .inl ⟨rfl, HF.out.2 ⟨HP.out, E3.out, (H4.out.1 (by trivial)).1, (H4.out.1 (by trivial)).2, H6.out.1 (by trivial)⟩⟩, B2.out⟩
  by_cases hk4 : p.kind = 4
  · have HF := Lib.hid (fine4 hk4)
    have k1 : (p.kind == 1) = false := by rw [hk4]; rfl
    have k2 : (p.kind == 2) = false := by rw [hk4]; rfl
    have k3 : (p.kind == 3) = false := by rw [hk4]; rfl
    have k4 : (p.kind == 4) = true := by rw [hk4]; rfl
    have cL := rSuper_any p a wc
    clear hk1 hk2 hk3 hk4
    go_wp2_with fail
    refine cL.mono ?_
    rintro e w2 ⟨r, rfl, hr, hb⟩
    have B2 := Lib.hid (B1.out.trans (hb.mono B1.out.size))
    have y5 : w2.cell? ⟨w.heap.size, 5, none⟩ = some (.int .i64 p.next) := (AT.out.below hb AT.out.1).2.2 5 _ rfl
    rcases r with _ | _
    · have HP : Hid (¬ Fine p) := Lib.hid (fun g => by cases (hr.2 (HF.out.1 g).1))
      clear hr hb cL
      go_wp2_with fail
      go_ret
      exact ⟨_, rfl, .inr ⟨rfl, HP.out⟩, B2.out⟩
    have HP := Lib.hid (hr.1 rfl)
    clear hr hb cL
    rcases d3 : ((p.pairs.length : Int) == 0) with _ | _
    · have HQ : Hid (¬ Fine p) := Lib.hid (fun g0 => by have g := HF.out.1 g0; simp [show p.pairs.length = 0 from g.2.1] at d3)
      go_wp2_with fail
      go_ret
      exact ⟨_, rfl, .inr ⟨rfl, HQ.out⟩, B2.out⟩
    have E3 : Hid (p.pairs.length = 0) := Lib.hid (by simpa using d3)
    rcases r4 with _ | _
    · have HQ : Hid (¬ Fine p) := Lib.hid (fun g0 => by have g := HF.out.1 g0; exact absurd (H4.out.2 ⟨g.2.2.1, g.2.2.2.1⟩) (by decide))
      go_wp2_with fail
      go_ret
      exact ⟨_, rfl, .inr ⟨rfl, HQ.out⟩, B2.out⟩
    rcases d5 : ((p.pages.length : Int) == 0) with _ | _
    · have HQ : Hid (¬ Fine p) := Lib.hid (fun g0 => by have g := HF.out.1 g0; simp [show p.pages.length = 0 from g.2.2.2.2] at d5)
      go_wp2_with fail
      go_ret
      exact ⟨_, rfl, .inr ⟨rfl, HQ.out⟩, B2.out⟩
    have E5 : Hid (p.pages.length = 0) := Lib.hid (by simpa using d5)
    go_wp2_with fail
    go_ret
    exact ⟨_, rfl, .inl ⟨rfl, HF.out.2 ⟨HP.out, E3.out, (H4.out.1 (by trivial)).1, (H4.out.1 (by trivial)).2, E5.out⟩⟩, B2.out⟩
  have HF : Hid (¬ Fine p) := Lib.hid (by unfold Fine; simp [hk1, hk2, hk3, hk4])
  have k1 : (p.kind == 1) = false := beq_eq_false_iff_ne.2 hk1
  have k2 : (p.kind == 2) = false := beq_eq_false_iff_ne.2 hk2
  have k3 : (p.kind == 3) = false := beq_eq_false_iff_ne.2 hk3
  have k4 : (p.kind == 4) = false := beq_eq_false_iff_ne.2 hk4
  clear hk1 hk2 hk3 hk4
  go_wp2_with fail
  go_ret
  exact ⟨_, rfl, .inr ⟨rfl, HF.out⟩, B1.out⟩
end Go.Proofs.Ytiebaeahimeedaa.Page
