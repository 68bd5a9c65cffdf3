/-
  Texts of one family, one behind the other: QRef1, QRef2.
-/
import Derived.Test.YthnodkhcenmnfaaGreatKQ2
import Derived.Deep.RegionHeld3
namespace Go.Proofs.YthnodkhcenmnfaaGreat.Pool
open Go.RowKit Gen

theorem ints_step {l m : List Int} (hlm : l.length = m.length) {k : Nat} (hk : k < l.length) (hQ : ∀ j (h : j < l.length), j < k → l[j] = m[j]'(by omega)) :
    (l[k] = m[k]'(by omega) → ∀ j (h : j < l.length), j < k + 1 → l[j] = m[j]'(by omega)) ∧ (l[k] ≠ m[k]'(by omega) → l ≠ m) :=
  ⟨fun h j hj hjk => by
    by_cases e : j = k
    · subst e; exact h
    · exact hQ j hj (by omega), fun h e => h (by subst e; rfl)⟩
set_option maxRecDepth 100000 in
theorem rInts_any (A B : Option Addr) (n c n2 d : Nat) (l m : List Int) (w : World) (h : NAt w A n c l) (g : NAt w B n2 d m) : Calls Tryz.prog 26 #[.slice A n c, .slice B n2 d] w (Tells (l = m) w) := by
  have HR := Lib.hid h.row
  have HL := Lib.hid h.len
  have GR := Lib.hid g.row
  have GL := Lib.hid g.len
  have hn : n ≤ 9223372036854775807 := by have h1 := h.cap; have h2 := h.max; unfold maxLen at h2; omega
  clear h g
  by_cases hnn : n = n2
  rotate_left
  · have d1 : ((n : Int) != (n2 : Int)) = true := by simp [bne]; omega
    have HN : Hid (¬ l = m) := Lib.hid (fun e => hnn (by rw [← HL.out, ← GL.out, e]))
    clear hnn
    go_enter Tryz.func26, Tryz.ntmps26
    go_wp2_with fail
    go_ret
    exact ⟨_, rfl, ⟨fun h => (by cases h), fun h => absurd h HN.out⟩, Below.refl _ _⟩
  subst hnn
  have HLM := Lib.hid (show l.length = m.length by rw [HL.out, GL.out])
  have d1 : ((n : Int) != (n : Int)) = false := by simp
  go_enter Tryz.func26, Tryz.ntmps26
  go_wp2_with fail
  clear d1
  go_loopw [5] (fun i wr => ∃ k : Nat, i = .int .i64 (k : Int) ∧ k ≤ n ∧ Hid (∀ j (h : j < l.length), j < k → l[j] = m[j]'(by rw [← HLM.out]; exact h)) ∧ Drew w wr) (fun i _ => n - (intOf i).toNat)
  case atStart => exact ⟨0, rfl, Nat.zero_le _, Lib.hid (fun j h hj => absurd hj (Nat.not_lt_zero j)), Drew.refl _⟩
  case round =>
    obtain ⟨k, rfl, hk, hQ, hD⟩ := hrel
    have HD := Lib.hid hD
    clear hD
    by_cases hlt : k < n
    · have hkl : k < l.length := by have := HL.out; omega
      have hkm : k < m.length := by have := GL.out; omega
      obtain ⟨b, off, rfl, hb, hc⟩ := HR.out (by intro e; subst e; simp at hkl)
      obtain ⟨b', off', rfl, hb', hc'⟩ := GR.out (by intro e; subst e; simp at hkm)
      have hc1 := hc k hkl
      have hc2 := hc' k hkm
      obtain ⟨h1, h2⟩ := ints_step HLM.out hkl hQ.out
      have H1 := Lib.hid h1
      have H2 := Lib.hid h2
      generalize hx : l[k] = x at hc1 H1 H2
      generalize hy : m[k] = y at hc2 H1 H2
      rw [← HD.out.cell] at hc1 hc2
      clear hx hy hc hc' h1 h2 hQ
      by_cases hxy : x = y
      · have dd : (x != y) = false := by simp [hxy]
        have HN := Lib.hid (H1.out hxy)
        clear H1 H2 hxy
        go_wp2_with fail
        go_quiet (fail)
        go_wp2_with fail
        go_roundw
        case rel => exact ⟨k + 1, by go_num, by omega, HN, HD.out.drewN _⟩
        case measure => simp [intOf]; omega
      · have dd : (x != y) = true := by simp [hxy]
        have HN := Lib.hid (H2.out hxy)
        clear H1 H2 hxy
        go_wp2_with fail
        go_quiet (fail)
        go_wp2_with fail
        go_ret
        exact ⟨_, rfl, ⟨fun h => (by cases h), fun h => absurd h HN.out⟩, (HD.out.drewN _).below _⟩
    · have HN : Hid (l = m) := Lib.hid (List.ext_getElem HLM.out (fun j hj _ => hQ.out j hj (by have := HL.out; omega)))
      clear hQ
      go_wp2_with fail
      go_ret
      exact ⟨_, rfl, ⟨fun _ => HN.out, fun _ => rfl⟩, HD.out.below _⟩
theorem po_ext {p q : Po} (h1 : p.high = q.high) (h2 : p.free = q.free) (h3 : p.limbo = q.limbo) : p = q := by
  cases p; cases q; simp_all
set_option maxRecDepth 100000 in
theorem rSame_any (p q : Po) (a b : La) (w : World) (h : PoAt w p a) (g : PoAt w q b) : Calls Tryz.prog 25 #[poV p a, poV q b] w (Tells (p = q) w) := by
  have b1 := below_box w (.cells (poC p a) 40)
  have b2 := b1.alloc b1.size (.cells (poC q b) 40)
  have hp := (po_box w p a).below (n := w.heap.size + 1) (show Below (w.heap.size + 1) _ ((w.alloc (.cells (poC p a) 40)).alloc (.cells (poC q b) 40)) from (Below.refl _ _).alloc (by simp) _) (by omega)
  have hq := po_box (w.alloc (.cells (poC p a) 40)) q b
  rw [World.size_alloc] at hq
  obtain ⟨W0, hW0⟩ : ∃ W0, (w.alloc (.cells (poC p a) 40)).alloc (.cells (poC q b) 40) = W0 := ⟨_, rfl⟩
  rw [hW0] at b2 hp hq
  obtain ⟨c0, c1, c2⟩ := po_cells hp
  obtain ⟨e0, e1, e2⟩ := po_cells hq
  have HP := Lib.hid (h.below b2)
  have HQ := Lib.hid (g.below b2)
  have AP := Lib.hid hp
  have AQ := Lib.hid hq
  have BB := Lib.hid b2
  have cF := rInts_any a.A1 b.A1 _ a.c1 _ b.c1 p.free q.free W0 HP.out.f HQ.out.f
  clear h g b1 b2 hp hq
  unfold poV
  go_enter Tryz.func25, Tryz.ntmps25
  go_wp2_with fail
  refine cF.mono ?_
  rintro e w1 ⟨r1, rfl, h1, hb⟩
  clear hW0 c0 c1 c2 e0 e1 e2 cF
  obtain ⟨c0, c1, c2⟩ := po_cells (AP.out.below hb AP.out.1)
  obtain ⟨e0, e1, e2⟩ := po_cells (AQ.out.below hb AQ.out.1)
  have HB1 := Lib.hid (BB.out.trans (hb.mono BB.out.size))
  have cL := rInts_any a.A2 b.A2 _ a.c2 _ b.c2 p.limbo q.limbo w1 (HP.out.below hb).l (HQ.out.below hb).l
  have H1 := Lib.hid h1
  have AP1 := Lib.hid (AP.out.below hb AP.out.1)
  have AQ1 := Lib.hid (AQ.out.below hb AQ.out.1)
  clear h1 hb HP HQ AP AQ BB
  go_wp2_with fail
  refine cL.mono ?_
  rintro e w2 ⟨r2, rfl, h2, hb⟩
  clear c0 c1 c2 e0 e1 e2 cL
  obtain ⟨c0, c1, c2⟩ := po_cells (AP1.out.below hb AP1.out.1)
  obtain ⟨e0, e1, e2⟩ := po_cells (AQ1.out.below hb AQ1.out.1)
  have HB2 := Lib.hid (HB1.out.trans (hb.mono HB1.out.size))
  have H2 := Lib.hid h2
  clear h2 hb AP1 AQ1 HB1
  rcases r1 with _ | _
  · have HN : Hid (¬ p = q) := Lib.hid (fun e => by cases H1.out.2 (by rw [e]))
    go_wp2_with fail
    go_ret
    exact ⟨_, rfl, ⟨fun h => (by cases h), fun h => absurd h HN.out⟩, HB2.out⟩
  rcases r2 with _ | _
  · have HN : Hid (¬ p = q) := Lib.hid (fun e => by cases H2.out.2 (by rw [e]))
    go_wp2_with fail
    go_ret
    exact ⟨_, rfl, ⟨fun h => (by cases h), fun h => absurd h HN.out⟩, HB2.out⟩
  have HR : Hid ((p.high == q.high) = true ↔ p = q) := Lib.hid ⟨fun e => po_ext (by simpa using e) (H1.out.1 rfl) (H2.out.1 rfl), fun e => by rw [e]; simp⟩
  go_wp2_with fail
  go_ret
  exact ⟨_, rfl, HR.out, HB2.out⟩
end Go.Proofs.YthnodkhcenmnfaaGreat.Pool
namespace Go.Proofs.YthnodkhcenmnfaaGreat.Pool
open Go.RowKit Gen

set_option maxRecDepth 100000 in
theorem rIn_any (A : Option Addr) (n c : Nat) (l : List Int) (x : Int) (w : World) (h : NAt w A n c l) : Calls Tryz.prog 46 #[.slice A n c, .int .i64 x] w (Tells (x ∈ l) w) := by
  have HR := Lib.hid h.row
  have HL := Lib.hid h.len
  have hn : n ≤ 9223372036854775807 := by have h1 := h.cap; have h2 := h.max; unfold maxLen at h2; omega
  clear h
  go_enter Tryz.func46, Tryz.ntmps46
  go_wp2_with fail
  go_loop [5] (fun i => ∃ k : Nat, i = .int .i64 (k : Int) ∧ k ≤ n ∧ Hid (∀ j (h : j < l.length), j < k → l[j] ≠ x)) (fun i => n - (intOf i).toNat)
  case atStart => exact ⟨0, rfl, Nat.zero_le _, Lib.hid (fun j h hj => absurd hj (Nat.not_lt_zero j))⟩
  case round =>
    obtain ⟨k, rfl, hk, hQ⟩ := hrel
    by_cases hlt : k < n
    · have hkl : k < l.length := by have := HL.out; omega
      obtain ⟨b, off, rfl, hb, hc⟩ := HR.out (by intro e; subst e; simp at hkl)
      have hc1 := hc k hkl
      have HM := Lib.hid (List.getElem_mem hkl)
      have HQ : Hid (l[k] ≠ x → ∀ j (h : j < l.length), j < k + 1 → l[j] ≠ x) := Lib.hid (fun e j hj hjk => by
        by_cases g : j = k
        · subst g; exact e
        · exact hQ.out j hj (by omega))
      generalize l[k] = y at hc1 HM HQ
      clear hc hQ
      by_cases hxy : y = x
      · have d : (y == x) = true := by simp [hxy]
        have HX := Lib.hid hxy
        clear hxy
        go_wp2_with fail
        go_ret
        exact ⟨_, rfl, ⟨fun _ => by rw [← HX.out]; exact HM.out, fun _ => rfl⟩, Below.refl _ _⟩
      · have d : (y == x) = false := by simp [hxy]
        have HN := Lib.hid (HQ.out hxy)
        clear hxy HQ
        go_wp2_with fail
        go_round
        case rel => exact ⟨k + 1, by go_num, by omega, HN⟩
        case measure => simp [intOf]; omega
    · have HN : Hid (x ∉ l) := Lib.hid (fun hm => by
        obtain ⟨j, hj, e⟩ := List.getElem_of_mem hm
        exact hQ.out j hj (by have := HL.out; omega) e)
      clear hQ
      go_wp2_with fail
      go_ret
      exact ⟨_, rfl, ⟨fun h => (by cases h), fun h => absurd h HN.out⟩, Below.refl _ _⟩
set_option maxRecDepth 100000 in
theorem rKnown_any (p : Po) (a : La) (n : Int) (w : World) (h : PoAt w p a) : Calls Tryz.prog 21 #[poV p a, .int .i64 n] w (Tells (n ∈ p.free ∨ n ∈ p.limbo) w) := by
  have hb := below_box w (.cells (poC p a) 40)
  have hat := po_box w p a
  have HP := Lib.hid (h.below hb)
  have HB := Lib.hid hb
  have AT := Lib.hid hat
  obtain ⟨c0, c1, c2⟩ := po_cells hat
  clear h hb hat
  obtain ⟨W0, hW0⟩ : ∃ W0, w.alloc (.cells (poC p a) 40) = W0 := ⟨_, rfl⟩
  rw [hW0] at HP HB AT c0 c1 c2
  have cF := rIn_any a.A1 _ a.c1 p.free n W0 HP.out.f
  unfold poV
  go_enter Tryz.func21, Tryz.ntmps21
  go_wp2_with fail
  refine cF.mono ?_
  rintro e w1 ⟨r1, rfl, h1, hb⟩
  clear hW0 c0 c1 c2 cF
  obtain ⟨c0, c1, c2⟩ := po_cells (AT.out.below hb AT.out.1)
  have HB1 := Lib.hid (HB.out.trans (hb.mono HB.out.size))
  have cL := rIn_any a.A2 _ a.c2 p.limbo n w1 (HP.out.below hb).l
  have H1 := Lib.hid h1
  clear h1 hb HP AT HB
  go_wp2_with fail
  refine cL.mono ?_
  rintro e w2 ⟨r2, rfl, h2, hb⟩
  clear c0 c1 c2 cL
  have HB2 := Lib.hid (HB1.out.trans (hb.mono HB1.out.size))
  have H2 := Lib.hid h2
  clear h2 hb HB1
  rcases r1 with _ | _
  · have HR : Hid (r2 = true ↔ n ∈ p.free ∨ n ∈ p.limbo) := Lib.hid ⟨fun e => .inr (H2.out.1 e), fun g => g.elim (fun g => by cases H1.out.2 g) H2.out.2⟩
    clear H1 H2
    go_wp2_with fail
    go_ret
    exact ⟨_, rfl, HR.out, HB2.out⟩
  · have HR : Hid (n ∈ p.free ∨ n ∈ p.limbo) := Lib.hid (.inl (H1.out.1 rfl))
    clear H1 H2
    go_wp2_with fail
    go_ret
    exact ⟨_, rfl, ⟨fun _ => HR.out, fun _ => rfl⟩, HB2.out⟩
end Go.Proofs.YthnodkhcenmnfaaGreat.Pool
