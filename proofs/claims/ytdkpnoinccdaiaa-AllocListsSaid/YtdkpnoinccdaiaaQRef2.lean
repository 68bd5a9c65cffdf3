/-
  Contracts of the document's own in, Known, fine, may.
-/
import Derived.Test.YtdkpnoinccdaiaaQRef1
import Derived.Test.YtdkpnoinccdaiaaQLent
namespace Go.Proofs.Ytdkpnoinccdaiaa.Pool
open Go.RowKit Gen

set_option maxRecDepth 100000 in
theorem rIn_any (A : Option Addr) (n c : Nat) (l : List Int) (x : Int) (w : World) (h : NAt w A n c l) : Calls Try.prog 40 #[.slice A n c, .int .i64 x] w (Tells (x ∈ l) w) := by
  have HR := Lib.hid h.row
  have HL := Lib.hid h.len
  have hn : n ≤ 9223372036854775807 := by have h1 := h.cap; have h2 := h.max; unfold maxLen at h2; omega
  clear h
  go_enter Try.func40, Try.ntmps40
  go_wp2_with fail
  go_loop [5] (fun i => ∃ k : Nat, i = .int .i64 (k : Int) ∧ k ≤ n ∧ Hid (∀ j (h : j < l.length), j < k → l[j] ≠ x)) (fun i => n - (intOf i).toNat)
  case atStart => exact ⟨0, rfl, Nat.zero_le _, Lib.hid (fun j h hj => absurd hj (Nat.not_lt_zero j))⟩
  case round =>
    obtain ⟨k, rfl, hk, hQ⟩ := hrel
    by_cases hlt : k < n
    · have hkl : k < l.length := by have := HL.out; omega
      obtain ⟨b, off, rfl, hb, hc⟩ := HR.out (by intro e; subst e; simp at hkl)
      have hc1 := hc k hkl
      have HM := Lib.hid (List.getElem_mem hkl)
      have HQ : Hid (l[k] ≠ x → ∀ j (h : j < l.length), j < k + 1 → l[j] ≠ x) := Lib.hid (fun e j hj hjk => by
        by_cases g : j = k
        · subst g; exact e
        · exact hQ.out j hj (by omega))
      generalize l[k] = y at hc1 HM HQ
      clear hc hQ
      by_cases hxy : y = x
      · have d : (y == x) = true := by simp [hxy]
        have HX := Lib.hid hxy
        clear hxy
        go_wp2_with fail
        go_ret
        exact ⟨_, rfl, ⟨fun _ => by rw [← HX.out]; exact HM.out, fun _ => rfl⟩, Below.refl _ _⟩
      · have d : (y == x) = false := by simp [hxy]
        have HN := Lib.hid (HQ.out hxy)
        clear hxy HQ
        go_wp2_with fail
        go_round
        case rel => exact ⟨k + 1, by go_num, by omega, HN⟩
        case measure => simp [intOf]; omega
    · have HN : Hid (x ∉ l) := Lib.hid (fun hm => by
        obtain ⟨j, hj, e⟩ := List.getElem_of_mem hm
        exact hQ.out j hj (by have := HL.out; omega) e)
      clear hQ
      go_wp2_with fail
      go_ret
      exact ⟨_, rfl, ⟨fun h => (by cases h), fun h => absurd h HN.out⟩, Below.refl _ _⟩
set_option maxRecDepth 100000 in
theorem rKnown_any (p : Po) (a : La) (n : Int) (w : World) (h : PoAt w p a) : Calls Try.prog 46 #[poV p a, .int .i64 n] w (Tells (n ∈ p.free ∨ n ∈ p.limbo) w) := by
  have hb := below_box w (.cells (poC p a) 25)
  have hat := po_box w p a
  have HP := Lib.hid (h.below hb)
  have HB := Lib.hid hb
  have AT := Lib.hid hat
  obtain ⟨c0, c1, c2⟩ := po_cells hat
  clear h hb hat
  obtain ⟨W0, hW0⟩ : ∃ W0, w.alloc (.cells (poC p a) 25) = W0 := ⟨_, rfl⟩
  rw [hW0] at HP HB AT c0 c1 c2
  have cF := rIn_any a.A1 _ a.c1 p.free n W0 HP.out.f
  unfold poV
  go_enter Try.func46, Try.ntmps46
  go_wp2_with fail
  refine cF.mono ?_
  rintro e w1 ⟨r1, rfl, h1, hb⟩
  clear hW0 c0 c1 c2 cF
  obtain ⟨c0, c1, c2⟩ := po_cells (AT.out.below hb AT.out.1)
  have HB1 := Lib.hid (HB.out.trans (hb.mono HB.out.size))
  have cL := rIn_any a.A2 _ a.c2 p.limbo n w1 (HP.out.below hb).l
  have H1 := Lib.hid h1
  clear h1 hb HP AT HB
  go_wp2_with fail
  refine cL.mono ?_
  rintro e w2 ⟨r2, rfl, h2, hb⟩
  clear c0 c1 c2 cL
  have HB2 := Lib.hid (HB1.out.trans (hb.mono HB1.out.size))
  have H2 := Lib.hid h2
  clear h2 hb HB1
  rcases r1 with _ | _
  · have HR : Hid (r2 = true ↔ n ∈ p.free ∨ n ∈ p.limbo) := Lib.hid ⟨fun e => .inr (H2.out.1 e), fun g => g.elim (fun g => by cases H1.out.2 g) H2.out.2⟩
    clear H1 H2
    go_wp2_with fail
    go_ret
    exact ⟨_, rfl, HR.out, HB2.out⟩
  · have HR : Hid (n ∈ p.free ∨ n ∈ p.limbo) := Lib.hid (.inl (H1.out.1 rfl))
    clear H1 H2
    go_wp2_with fail
    go_ret
    exact ⟨_, rfl, ⟨fun _ => HR.out, fun _ => rfl⟩, HB2.out⟩
set_option maxRecDepth 100000 in
theorem rMay_any (p : Po) (a : La) (n : Int) (w : World) (h : PoAt w p a) : Calls Try.prog 32 #[poV p a, .int .i64 n] w (Tells (May p n) w) := by
  have hb := below_box w (.cells (poC p a) 25)
  have hat := po_box w p a
  have HP := Lib.hid (h.below hb)
  have HB := Lib.hid hb
  have AT := Lib.hid hat
  obtain ⟨c0, c1, c2⟩ := po_cells hat
  clear h hb hat
  obtain ⟨W0, hW0⟩ : ∃ W0, w.alloc (.cells (poC p a) 25) = W0 := ⟨_, rfl⟩
  rw [hW0] at HP HB AT c0 c1 c2
  have cF := rKnown_any p a n W0 HP.out
  unfold poV at cF
  unfold poV
  go_enter Try.func32, Try.ntmps32
  go_wp2_with fail
  refine cF.mono ?_
  rintro e w1 ⟨r1, rfl, h1, hb⟩
  clear hW0 c0 c1 c2 cF
  obtain ⟨c0, c1, c2⟩ := po_cells (AT.out.below hb AT.out.1)
  have HB1 := Lib.hid (HB.out.trans (hb.mono HB.out.size))
  have H1 := Lib.hid h1
  clear h1 hb HP AT HB
  by_cases g1 : 2 ≤ n
  rotate_left
  · have d1 : decide (2 ≤ n) = false := by simp; omega
    have HN : Hid (¬ May p n) := Lib.hid (fun g => g1 g.1.1)
    clear g1
    go_wp2_with fail
    go_ret
    exact ⟨_, rfl, ⟨fun h => (by cases h), fun h => absurd h HN.out⟩, HB1.out⟩
  have d1 : decide (2 ≤ n) = true := by simp; omega
  by_cases g2 : n < p.high
  rotate_left
  · have d2 : decide (n < p.high) = false := by simp; omega
    have HN : Hid (¬ May p n) := Lib.hid (fun g => g2 g.1.2)
    clear g1 g2
    go_wp2_with fail
    go_ret
    exact ⟨_, rfl, ⟨fun h => (by cases h), fun h => absurd h HN.out⟩, HB1.out⟩
  have d2 : decide (n < p.high) = true := by simp; omega
  have HR : Hid ((!r1) = true ↔ May p n) := Lib.hid ⟨fun e => ⟨⟨g1, g2⟩, fun g => (by rw [H1.out.2 (.inl g)] at e; cases e), fun g => (by rw [H1.out.2 (.inr g)] at e; cases e)⟩, fun g => by
    rcases r1 with _ | _
    · rfl
    · exact absurd (H1.out.1 rfl) (fun o => o.elim g.2.1 g.2.2)⟩
  clear g1 g2 H1
  go_wp2_with fail
  go_ret
  exact ⟨_, rfl, HR.out, HB1.out⟩
/-- Pages that rise, each below a number. -/
def Fine (l : List Int) (high : Int) : Prop := Rise l ∧ ∀ x ∈ l, 2 ≤ x ∧ x < high
def fineAt (l : List Int) (high : Int) (j : Nat) (h : j < l.length) : Prop := 2 ≤ l[j] ∧ l[j] < high ∧ ∀ i (g : i + 1 = j), l[i]'(by omega) < l[j]
theorem fine_step {l : List Int} {high : Int} {k : Nat} (hk : k < l.length) (hQ : ∀ j (h : j < l.length), j < k → fineAt l high j h) :
    (fineAt l high k hk → ∀ j (h : j < l.length), j < k + 1 → fineAt l high j h) ∧ (¬ fineAt l high k hk → ¬ Fine l high) :=
  ⟨fun h j hj hjk => by
    by_cases e : j = k
    · subst e; exact h
    · exact hQ j hj (by omega), fun h g => h ⟨(g.2 _ (List.getElem_mem hk)).1, (g.2 _ (List.getElem_mem hk)).2, fun i e => by subst e; exact (rise_iff l).1 g.1 i hk⟩⟩
theorem fine_all {l : List Int} {high : Int} (hQ : ∀ j (h : j < l.length), fineAt l high j h) : Fine l high :=
  ⟨(rise_iff l).2 (fun j hj => (hQ (j + 1) hj).2.2 j rfl), fun x hx => by
    obtain ⟨j, hj, rfl⟩ := List.getElem_of_mem hx
    exact ⟨(hQ j hj).1, (hQ j hj).2.1⟩⟩
set_option maxRecDepth 100000 in
set_option maxHeartbeats 4000000 in
theorem rFine_any (A : Option Addr) (n c : Nat) (l : List Int) (high : Int) (w : World) (h : NAt w A n c l) : Calls Try.prog 39 #[.slice A n c, .int .i64 high] w (Tells (Fine l high) w) := by
  have HR := Lib.hid h.row
  have HL := Lib.hid h.len
  have hn : n ≤ 9223372036854775807 := by have h1 := h.cap; have h2 := h.max; unfold maxLen at h2; omega
  clear h
  go_enter Try.func39, Try.ntmps39
  go_wp2_with fail
  go_loopw [5] (fun i wr => ∃ k : Nat, i = .int .i64 (k : Int) ∧ k ≤ n ∧ Hid (∀ j (h : j < l.length), j < k → fineAt l high j h) ∧ Drew w wr) (fun i _ => n - (intOf i).toNat)
  case atStart => exact ⟨0, rfl, Nat.zero_le _, Lib.hid (fun j h hj => absurd hj (Nat.not_lt_zero j)), Drew.refl _⟩
  case round =>
    obtain ⟨k, rfl, hk, hQ, hD⟩ := hrel
    have HD := Lib.hid hD
    clear hD
    by_cases hlt : k < n
    rotate_left
    · have HN : Hid (Fine l high) := Lib.hid (fine_all (fun j hj => hQ.out j hj (by have := HL.out; omega)))
      clear hQ
      go_wp2_with fail
      go_ret
      exact ⟨_, rfl, ⟨fun _ => HN.out, fun _ => rfl⟩, HD.out.below _⟩
    have hkl : k < l.length := by have := HL.out; omega
    obtain ⟨b, off, rfl, hb, hc⟩ := HR.out (by intro e; subst e; simp at hkl)
    have hc1 := hc k hkl
    rw [← HD.out.cell] at hc1
    obtain ⟨h1, h2⟩ := fine_step hkl hQ.out
    have HY : Hid (∀ i (g : i + 1 = k), wr.cell? ⟨b, off + i, none⟩ = some (.int .i64 (l[i]'(by omega)))) := Lib.hid (fun i g => by rw [HD.out.cell]; exact hc i (by omega))
    clear hc hQ
    by_cases g1 : l[k] < 2
    · have HN := Lib.hid (h2 (fun g => by have := g.1; omega))
      clear h1 h2 HY
      generalize l[k] = x at *
      have d1 : decide (x < 2) = true := by simp; omega
      clear g1
      go_wp2_with fail
      go_quiet (fail)
      go_wp2_with fail
      go_ret
      exact ⟨_, rfl, ⟨fun h => (by cases h), fun h => absurd h HN.out⟩, (HD.out.drewN _).below _⟩
    by_cases g2 : high ≤ l[k]
    · have HN := Lib.hid (h2 (fun g => by have := g.2.1; omega))
      clear h1 h2 HY
      generalize l[k] = x at *
      have d1 : decide (x < 2) = false := by simp; omega
      have d2 : decide (high ≤ x) = true := by simp; omega
      clear g1 g2
      go_wp2_with fail
      go_quiet (fail)
      go_wp2_with fail
      go_ret
      exact ⟨_, rfl, ⟨fun h => (by cases h), fun h => absurd h HN.out⟩, (HD.out.drewN _).below _⟩
    rcases k with _ | i
    · have HN := Lib.hid (h1 ⟨by omega, by omega, fun i g => by omega⟩)
      clear h1 h2 HY
      generalize l[0] = x at *
      have hc1' : wr.cell? ⟨b, off, none⟩ = some (.int .i64 x) := hc1
      have d1 : decide (x < 2) = false := by simp; omega
      have d2 : decide (high ≤ x) = false := by simp; omega
      clear g1 g2
      go_wp2_with fail
      go_quiet (fail)
      go_wp2_with fail
      go_roundw
      case rel => exact ⟨1, by go_num, by omega, HN, HD.out.drewN _⟩
      case measure => simp [intOf] <;> omega
    have hc2 := HY.out i rfl
    have e1 : ((i + 1 : Nat) : Int) - 1 = (i : Int) := by omega
    have d3 : decide (0 < ((i + 1 : Nat) : Int)) = true := by simp <;> omega
    by_cases g3 : l[i + 1] ≤ l[i]'(by omega)
    · have HN := Lib.hid (h2 (fun g => by have := g.2.2 i rfl; omega))
      clear h1 h2 HY
      generalize l[i + 1] = x at *
      generalize l[i] = y at *
      have d1 : decide (x < 2) = false := by simp; omega
      have d2 : decide (high ≤ x) = false := by simp; omega
      have d4 : decide (x ≤ y) = true := by simp; omega
      clear g1 g2 g3
      go_wp2_with fail
      go_quiet (fail)
      go_wp2_with fail
      go_ret
      exact ⟨_, rfl, ⟨fun h => (by cases h), fun h => absurd h HN.out⟩, (HD.out.drewN _).below _⟩
    · have HN := Lib.hid (h1 ⟨by omega, by omega, fun j g => (by
        obtain rfl : j = i := by omega
        omega)⟩)
      clear h1 h2 HY
      generalize l[i + 1] = x at *
      generalize l[i] = y at *
      have d1 : decide (x < 2) = false := by simp; omega
      have d2 : decide (high ≤ x) = false := by simp; omega
      have d4 : decide (x ≤ y) = false := by simp; omega
      clear g1 g2 g3
      go_wp2_with fail
      go_quiet (fail)
      go_wp2_with fail
      go_roundw
      case rel => exact ⟨i + 1 + 1, by go_num, by omega, HN, HD.out.drewN _⟩
      case measure => simp [intOf]; omega
end Go.Proofs.Ytdkpnoinccdaiaa.Pool
