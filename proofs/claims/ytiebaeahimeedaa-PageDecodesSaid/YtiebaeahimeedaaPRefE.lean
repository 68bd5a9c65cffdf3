/-
  Contract of the document's own Check.
-/
import Derived.Test.YtiebaeahimeedaaPRefD
import Derived.Deep.Cut
namespace Go.Proofs.Ytiebaeahimeedaa.Page
open Go.RowKit Gen

/-- What the document asks of a superblock. -/
def RootOk (p : Pg) : Prop := p.root = 0 ∧ p.depth = 0 ∧ p.count = 0 ∨ Place p.root ∧ 1 ≤ p.depth ∧ p.depth ≤ 20 ∧ 1 ≤ p.count ∧ p.count ≤ 2147483647
theorem superOk_iff (p : Pg) : SuperOk p ↔ RootOk p ∧ (p.next = 0 ∨ Place p.next) ∧ 2 ≤ p.high ∧ p.high ≤ 4096 := by
  constructor
  · rintro ⟨h1, h2, h3, h4, h5, h6, h7⟩
    refine ⟨?_, h2, h3⟩
    unfold RootOk
    rcases h1 with h1 | h1
    · exact .inl ⟨h1, h5.2 h1, h7.2 h1⟩
    · have : p.root ≠ 0 := by unfold Place at h1; omega
      have a1 : p.depth ≠ 0 := fun e => this (h5.1 e)
      have a2 : p.count ≠ 0 := fun e => this (h7.1 e)
      exact .inr ⟨h1, by omega, by omega, by omega, by omega⟩
  · rintro ⟨h1, h2, h3⟩
    unfold RootOk at h1
    rcases h1 with ⟨a, b, c⟩ | ⟨a, b, c, d, e⟩
    · exact ⟨.inl a, h2, h3, by omega, by omega, by omega, by omega⟩
    · have : p.root ≠ 0 := by unfold Place at a; omega
      exact ⟨.inr a, h2, h3, by omega, by omega, by omega, by omega⟩
/-- place's answer, where it is known. -/
theorem rPlace_yes {n : Int} (h : Place n) (w : World) : Calls Try.prog 24 #[.int .i64 n] w fun e w' => e = .returned (.bool true) ∧ w = w' :=
  (rPlace_any n w).mono fun _ _ ⟨_, e, hr, hw⟩ => ⟨by rw [e, hr.2 h], hw⟩
theorem rPlace_no {n : Int} (h : ¬ Place n) (w : World) : Calls Try.prog 24 #[.int .i64 n] w fun e w' => e = .returned (.bool false) ∧ w = w' :=
  (rPlace_any n w).mono fun _ _ ⟨r, e, hr, hw⟩ => ⟨by
    rcases r with _ | _
    · exact e
    · exact absurd (hr.1 rfl) h, hw⟩
theorem not_place0 : ¬ Place 0 := by unfold Place; omega
theorem root_cases (p : Pg) :
    ((p.root == 0) = true ∧ (p.depth == 0) = true ∧ (p.count == 0) = true ∧ RootOk p) ∨
    ((p.root == 0) = true ∧ (p.depth == 0) = true ∧ (p.count == 0) = false ∧ ¬ RootOk p) ∨
    ((p.root == 0) = true ∧ (p.depth == 0) = false ∧ ¬ RootOk p) ∨
    ((p.root == 0) = false ∧ ¬ Place p.root ∧ ¬ RootOk p) ∨
    ((p.root == 0) = false ∧ Place p.root ∧ decide (1 ≤ p.depth) = false ∧ ¬ RootOk p) ∨
    ((p.root == 0) = false ∧ Place p.root ∧ decide (1 ≤ p.depth) = true ∧ decide (p.depth ≤ 20) = false ∧ ¬ RootOk p) ∨
    ((p.root == 0) = false ∧ Place p.root ∧ decide (1 ≤ p.depth) = true ∧ decide (p.depth ≤ 20) = true ∧ decide (1 ≤ p.count) = false ∧ ¬ RootOk p) ∨
    ((p.root == 0) = false ∧ Place p.root ∧ decide (1 ≤ p.depth) = true ∧ decide (p.depth ≤ 20) = true ∧ decide (1 ≤ p.count) = true ∧ decide (p.count ≤ 2147483647) = false ∧ ¬ RootOk p) ∨
    ((p.root == 0) = false ∧ Place p.root ∧ decide (1 ≤ p.depth) = true ∧ decide (p.depth ≤ 20) = true ∧ decide (1 ≤ p.count) = true ∧ decide (p.count ≤ 2147483647) = true ∧ RootOk p) := by
  by_cases h1 : p.root = 0
  · have d1 : (p.root == 0) = true := by simp [h1]
    by_cases h2 : p.depth = 0
    · have d2 : (p.depth == 0) = true := by simp [h2]
      by_cases h3 : p.count = 0
      · exact .inl ⟨d1, d2, by simp [h3], .inl ⟨h1, h2, h3⟩⟩
      · exact .inr (.inl ⟨d1, d2, by simp [h3], fun h => by unfold RootOk Place at h; omega⟩)
    · exact .inr (.inr (.inl ⟨d1, by simp [h2], fun h => by unfold RootOk Place at h; omega⟩))
  have d1 : (p.root == 0) = false := by simp [h1]
  by_cases h2 : Place p.root
  rotate_left
  · exact .inr (.inr (.inr (.inl ⟨d1, h2, fun h => by unfold RootOk at h; rcases h with h | h; exact h1 h.1; exact h2 h.1⟩)))
  by_cases h3 : 1 ≤ p.depth
  rotate_left
  · exact .inr (.inr (.inr (.inr (.inl ⟨d1, h2, by simp [h3], fun h => by unfold RootOk Place at h; omega⟩))))
  by_cases h4 : p.depth ≤ 20
  rotate_left
  · exact .inr (.inr (.inr (.inr (.inr (.inl ⟨d1, h2, by simp [h3], by simp [h4], fun h => by unfold RootOk Place at h; omega⟩)))))
  by_cases h5 : 1 ≤ p.count
  rotate_left
  · exact .inr (.inr (.inr (.inr (.inr (.inr (.inl ⟨d1, h2, by simp [h3], by simp [h4], by simp [h5], fun h => by unfold RootOk Place at h; omega⟩))))))
  by_cases h6 : p.count ≤ 2147483647
  rotate_left
  · exact .inr (.inr (.inr (.inr (.inr (.inr (.inr (.inl ⟨d1, h2, by simp [h3], by simp [h4], by simp [h5], by simp [h6], fun h => by unfold RootOk Place at h; omega⟩)))))))
  exact .inr (.inr (.inr (.inr (.inr (.inr (.inr (.inr ⟨d1, h2, by simp [h3], by simp [h4], by simp [h5], by simp [h6], .inr ⟨h2, h3, h4, h5, h6⟩⟩)))))))
set_option maxRecDepth 100000 in
set_option maxHeartbeats 4000000 in
theorem rSuper_any (p : Pg) (a : Lay) (w : World) : Calls Try.prog 38 #[pgV p a] w (Tells (SuperOk p) w) := by
  have b1 : Below w.heap.size w (w.alloc (.cells (pgC p a) 28)) := (Below.refl _ _).alloc (Nat.le_refl _) _
  have B1 := Lib.hid b1
  have AT := Lib.hid (show At (w.alloc (.cells (pgC p a) 28)) w.heap.size (pgC p a) from At.of_block (heap_alloc_last w _))
  have HS := Lib.hid (superOk_iff p)
  clear b1
  obtain ⟨W0, hW0⟩ : ∃ W0, w.alloc (.cells (pgC p a) 28) = W0 := ⟨_, rfl⟩
  unfold pgV
  unfold pgC at *
  rw [hW0] at AT B1
  have x5 : W0.cell? ⟨w.heap.size, 5, none⟩ = some (.int .i64 p.next) := AT.out.2.2 5 _ rfl
  have x7 : W0.cell? ⟨w.heap.size, 7, none⟩ = some (.int .i64 p.root) := AT.out.2.2 7 _ rfl
  have x8 : W0.cell? ⟨w.heap.size, 8, none⟩ = some (.int .i64 p.depth) := AT.out.2.2 8 _ rfl
  have x9 : W0.cell? ⟨w.heap.size, 9, none⟩ = some (.int .i64 p.count) := AT.out.2.2 9 _ rfl
  have x10 : W0.cell? ⟨w.heap.size, 10, none⟩ = some (.int .i64 p.high) := AT.out.2.2 10 _ rfl
  go_enter Try.func38, Try.ntmps38
  go_upto_region 1 with fail
  clear hW0
  generalize Value.agg #[.int .i64 p.kind, .slice a.A1 p.pairs.length a.c1, .slice a.A2 p.keys.length a.c2, .slice a.A3 p.kids.length a.c3, .slice a.A4 p.pages.length a.c4, .int .i64 p.next, .int .u64 (p.epoch : Int), .int .i64 p.root, .int .i64 p.depth, .int .i64 p.count, .int .i64 p.high] = V
  go_cut [3] from 5 (fun s3 wx => wx = W0 ∧ ∃ r : Bool, s3 = .bool r ∧ (r = true ↔ RootOk p))
  case first =>
    rcases root_cases p with ⟨e1, e2, e3, ho⟩ | ⟨e1, e2, e3, ho⟩ | ⟨e1, e2, ho⟩ | ⟨e1, hp, ho⟩ | ⟨e1, hp, e2, ho⟩ | ⟨e1, hp, e2, e3, ho⟩ | ⟨e1, hp, e2, e3, e4, ho⟩ | ⟨e1, hp, e2, e3, e4, e5, ho⟩ | ⟨e1, hp, e2, e3, e4, e5, ho⟩
    · have HO := Lib.hid ho
      clear ho
      go_wp2_with fail
      go_meet
      case rel => exact ⟨rfl, _, rfl, ⟨fun _ => HO.out, fun _ => rfl⟩⟩
    · have HO := Lib.hid ho
      have cR := rPlace_no (show ¬ Place p.root from fun h => by have e0 : p.root = 0 := (by simpa using e1); unfold Place at h; omega) W0
      clear ho
      go_wp2_with (go_at_call 24; refine cR.mono ?_; rintro e w' ⟨rfl, rfl⟩)
      go_meet
      case rel => exact ⟨rfl, _, rfl, ⟨fun h => (by cases h), fun h => absurd h HO.out⟩⟩
    · have HO := Lib.hid ho
      have cR := rPlace_no (show ¬ Place p.root from fun h => by have e0 : p.root = 0 := (by simpa using e1); unfold Place at h; omega) W0
      clear ho
      go_wp2_with (go_at_call 24; refine cR.mono ?_; rintro e w' ⟨rfl, rfl⟩)
      go_meet
      case rel => exact ⟨rfl, _, rfl, ⟨fun h => (by cases h), fun h => absurd h HO.out⟩⟩
    · have HO := Lib.hid ho
      have cR := rPlace_no hp W0
      clear ho hp
      go_wp2_with (go_at_call 24; refine cR.mono ?_; rintro e w' ⟨rfl, rfl⟩)
      go_meet
      case rel => exact ⟨rfl, _, rfl, ⟨fun h => (by cases h), fun h => absurd h HO.out⟩⟩
    · have HO := Lib.hid ho
      have cR := rPlace_yes hp W0
      clear ho hp
      go_wp2_with (go_at_call 24; refine cR.mono ?_; rintro e w' ⟨rfl, rfl⟩)
      go_meet
      case rel => exact ⟨rfl, _, rfl, ⟨fun h => (by cases h), fun h => absurd h HO.out⟩⟩
    · have HO := Lib.hid ho
      have cR := rPlace_yes hp W0
      clear ho hp
      go_wp2_with (go_at_call 24; refine cR.mono ?_; rintro e w' ⟨rfl, rfl⟩)
      go_meet
      case rel => exact ⟨rfl, _, rfl, ⟨fun h => (by cases h), fun h => absurd h HO.out⟩⟩
    · have HO := Lib.hid ho
      have cR := rPlace_yes hp W0
      clear ho hp
      go_wp2_with (go_at_call 24; refine cR.mono ?_; rintro e w' ⟨rfl, rfl⟩)
      go_meet
      case rel => exact ⟨rfl, _, rfl, ⟨fun h => (by cases h), fun h => absurd h HO.out⟩⟩
    · have HO := Lib.hid ho
      have cR := rPlace_yes hp W0
      clear ho hp
      go_wp2_with (go_at_call 24; refine cR.mono ?_; rintro e w' ⟨rfl, rfl⟩)
      go_meet
      case rel => exact ⟨rfl, _, rfl, ⟨fun h => (by cases h), fun h => absurd h HO.out⟩⟩
    · have HO := Lib.hid ho
      have cR := rPlace_yes hp W0
      clear ho hp
      go_wp2_with (go_at_call 24; refine cR.mono ?_; rintro e w' ⟨rfl, rfl⟩)
      go_meet
      case rel => exact ⟨rfl, _, rfl, ⟨fun _ => HO.out, fun _ => rfl⟩⟩
  case rest =>
    obtain ⟨rfl, r, rfl, hr⟩ := hcut
    have HR := Lib.hid hr
    clear hr
    go_upto_region 2 with fail
    go_cut [4] from 5 (fun s4 wx => wx = wc ∧ ∃ n : Bool, s4 = .bool n ∧ (n = true ↔ (p.next = 0 ∨ Place p.next)))
    case first =>
      by_cases hn : p.next = 0
      · have f1 : (p.next == 0) = true := by simp [hn]
        have HN : Hid (p.next = 0 ∨ Place p.next) := Lib.hid (.inl hn)
        clear hn
        go_wp2_with fail
        go_meet
        case rel => exact ⟨rfl, _, rfl, ⟨fun _ => HN.out, fun _ => rfl⟩⟩
      · have f1 : (p.next == 0) = false := by simp [hn]
        by_cases hq : Place p.next
        · have HN : Hid (p.next = 0 ∨ Place p.next) := Lib.hid (.inr hq)
          have cN := rPlace_yes hq wc
          clear hn hq
          go_wp2_with (go_at_call 24; refine cN.mono ?_; rintro e w' ⟨rfl, rfl⟩)
          go_meet
          case rel => exact ⟨rfl, _, rfl, ⟨fun _ => HN.out, fun _ => rfl⟩⟩
        · have HN : Hid (¬ (p.next = 0 ∨ Place p.next)) := Lib.hid (fun h => h.elim hn hq)
          have cN := rPlace_no hq wc
          clear hn hq
          go_wp2_with (go_at_call 24; refine cN.mono ?_; rintro e w' ⟨rfl, rfl⟩)
          go_meet
          case rel => exact ⟨rfl, _, rfl, ⟨fun h => (by cases h), fun h => absurd h HN.out⟩⟩
    case rest =>
      obtain ⟨rfl, n, rfl, hn⟩ := hcut
      have HN := Lib.hid hn
      clear hn
      rcases r with _ | _
      · go_wp2_with fail
        go_ret
        exact ⟨_, rfl, by rw [HS.out]; exact ⟨fun h => (by cases h), fun h => by cases (HR.out.2 h.1)⟩, B1.out⟩
      rcases n with _ | _
      · go_wp2_with fail
        go_ret
        exact ⟨_, rfl, by rw [HS.out]; exact ⟨fun h => (by cases h), fun h => by cases (HN.out.2 h.2.1)⟩, B1.out⟩
      by_cases hh : 2 ≤ p.high
      · have f2 : decide (2 ≤ p.high) = true := by simp [hh]
        have HH := Lib.hid hh
        clear hh
        go_wp2_with fail
        go_ret
        exact ⟨_, rfl, by rw [HS.out]; exact ⟨fun h => ⟨HR.out.1 (by trivial), HN.out.1 (by trivial), HH.out, by simpa using h⟩, fun h => by simpa using h.2.2.2⟩, B1.out⟩
      · have f2 : decide (2 ≤ p.high) = false := by simp [hh]
        have HH := Lib.hid hh
        clear hh
        go_wp2_with fail
        go_ret
        exact ⟨_, rfl, by rw [HS.out]; exact ⟨fun h => (by cases h), fun h => by have := HH.out; have := h.2.2.1; omega⟩, B1.out⟩
end Go.Proofs.Ytiebaeahimeedaa.Page
