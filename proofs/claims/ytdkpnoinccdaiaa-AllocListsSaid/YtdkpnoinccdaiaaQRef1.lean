/-
  Contracts of the document's own Ints, Same, SameLists.
-/
import Derived.Test.YtdkpnoinccdaiaaQTurn
import Derived.Deep.RegionHeld3
namespace Go.Proofs.Ytdkpnoinccdaiaa.Pool
open Go.RowKit Gen

theorem ints_step {l m : List Int} (hlm : l.length = m.length) {k : Nat} (hk : k < l.length) (hQ : ∀ j (h : j < l.length), j < k → l[j] = m[j]'(by omega)) :
    (l[k] = m[k]'(by omega) → ∀ j (h : j < l.length), j < k + 1 → l[j] = m[j]'(by omega)) ∧ (l[k] ≠ m[k]'(by omega) → l ≠ m) :=
  ⟨fun h j hj hjk => by
    by_cases e : j = k
    · subst e; exact h
    · exact hQ j hj (by omega), fun h e => h (by subst e; rfl)⟩
set_option maxRecDepth 100000 in
theorem rInts_any (A B : Option Addr) (n c n2 d : Nat) (l m : List Int) (w : World) (h : NAt w A n c l) (g : NAt w B n2 d m) : Calls Try.prog 34 #[.slice A n c, .slice B n2 d] w (Tells (l = m) w) := by
  have HR := Lib.hid h.row
  have HL := Lib.hid h.len
  have GR := Lib.hid g.row
  have GL := Lib.hid g.len
  have hn : n ≤ 9223372036854775807 := by have h1 := h.cap; have h2 := h.max; unfold maxLen at h2; omega
  clear h g
  by_cases hnn : n = n2
  rotate_left
  · have d1 : ((n : Int) != (n2 : Int)) = true := by simp [bne]; omega
    have HN : Hid (¬ l = m) := Lib.hid (fun e => hnn (by rw [← HL.out, ← GL.out, e]))
    clear hnn
    go_enter Try.func34, Try.ntmps34
    go_wp2_with fail
    go_ret
    exact ⟨_, rfl, ⟨fun h => (by cases h), fun h => absurd h HN.out⟩, Below.refl _ _⟩
  subst hnn
  have HLM := Lib.hid (show l.length = m.length by rw [HL.out, GL.out])
  have d1 : ((n : Int) != (n : Int)) = false := by simp
  go_enter Try.func34, Try.ntmps34
  go_wp2_with fail
  clear d1
  go_loopw [5] (fun i wr => ∃ k : Nat, i = .int .i64 (k : Int) ∧ k ≤ n ∧ Hid (∀ j (h : j < l.length), j < k → l[j] = m[j]'(by rw [← HLM.out]; exact h)) ∧ Drew w wr) (fun i _ => n - (intOf i).toNat)
  case atStart => exact ⟨0, rfl, Nat.zero_le _, Lib.hid (fun j h hj => absurd hj (Nat.not_lt_zero j)), Drew.refl _⟩
  case round =>
    obtain ⟨k, rfl, hk, hQ, hD⟩ := hrel
    have HD := Lib.hid hD
    clear hD
    by_cases hlt : k < n
    · have hkl : k < l.length := by have := HL.out; omega
      have hkm : k < m.length := by have := GL.out; omega
      obtain ⟨b, off, rfl, hb, hc⟩ := HR.out (by intro e; subst e; simp at hkl)
      obtain ⟨b', off', rfl, hb', hc'⟩ := GR.out (by intro e; subst e; simp at hkm)
      have hc1 := hc k hkl
      have hc2 := hc' k hkm
      obtain ⟨h1, h2⟩ := ints_step HLM.out hkl hQ.out
      have H1 := Lib.hid h1
      have H2 := Lib.hid h2
      generalize hx : l[k] = x at hc1 H1 H2
      generalize hy : m[k] = y at hc2 H1 H2
      rw [← HD.out.cell] at hc1 hc2
      clear hx hy hc hc' h1 h2 hQ
      by_cases hxy : x = y
      · have dd : (x != y) = false := by simp [hxy]
        have HN := Lib.hid (H1.out hxy)
        clear H1 H2 hxy
        go_wp2_with fail
        go_quiet (fail)
        go_wp2_with fail
        go_roundw
        case rel => exact ⟨k + 1, by go_num, by omega, HN, HD.out.drewN _⟩
        case measure => simp [intOf]; omega
      · have dd : (x != y) = true := by simp [hxy]
        have HN := Lib.hid (H2.out hxy)
        clear H1 H2 hxy
        go_wp2_with fail
        go_quiet (fail)
        go_wp2_with fail
        go_ret
        exact ⟨_, rfl, ⟨fun h => (by cases h), fun h => absurd h HN.out⟩, (HD.out.drewN _).below _⟩
    · have HN : Hid (l = m) := Lib.hid (List.ext_getElem HLM.out (fun j hj _ => hQ.out j hj (by have := HL.out; omega)))
      clear hQ
      go_wp2_with fail
      go_ret
      exact ⟨_, rfl, ⟨fun _ => HN.out, fun _ => rfl⟩, HD.out.below _⟩
theorem po_ext {p q : Po} (h1 : p.high = q.high) (h2 : p.free = q.free) (h3 : p.limbo = q.limbo) : p = q := by
  cases p; cases q; simp_all
set_option maxRecDepth 100000 in
theorem rSame_any (p q : Po) (a b : La) (w : World) (h : PoAt w p a) (g : PoAt w q b) : Calls Try.prog 18 #[poV p a, poV q b] w (Tells (p = q) w) := by
  have b1 := below_box w (.cells (poC p a) 25)
  have b2 := b1.alloc b1.size (.cells (poC q b) 25)
  have hp := (po_box w p a).below (n := w.heap.size + 1) (show Below (w.heap.size + 1) _ ((w.alloc (.cells (poC p a) 25)).alloc (.cells (poC q b) 25)) from (Below.refl _ _).alloc (by simp) _) (by omega)
  have hq := po_box (w.alloc (.cells (poC p a) 25)) q b
  rw [World.size_alloc] at hq
  obtain ⟨W0, hW0⟩ : ∃ W0, (w.alloc (.cells (poC p a) 25)).alloc (.cells (poC q b) 25) = W0 := ⟨_, rfl⟩
  rw [hW0] at b2 hp hq
  obtain ⟨c0, c1, c2⟩ := po_cells hp
  obtain ⟨e0, e1, e2⟩ := po_cells hq
  have HP := Lib.hid (h.below b2)
  have HQ := Lib.hid (g.below b2)
  have AP := Lib.hid hp
  have AQ := Lib.hid hq
  have BB := Lib.hid b2
  have cF := rInts_any a.A1 b.A1 _ a.c1 _ b.c1 p.free q.free W0 HP.out.f HQ.out.f
  clear h g b1 b2 hp hq
  unfold poV
  go_enter Try.func18, Try.ntmps18
  go_wp2_with fail
  refine cF.mono ?_
  rintro e w1 ⟨r1, rfl, h1, hb⟩
  clear hW0 c0 c1 c2 e0 e1 e2 cF
  obtain ⟨c0, c1, c2⟩ := po_cells (AP.out.below hb AP.out.1)
  obtain ⟨e0, e1, e2⟩ := po_cells (AQ.out.below hb AQ.out.1)
  have HB1 := Lib.hid (BB.out.trans (hb.mono BB.out.size))
  have cL := rInts_any a.A2 b.A2 _ a.c2 _ b.c2 p.limbo q.limbo w1 (HP.out.below hb).l (HQ.out.below hb).l
  have H1 := Lib.hid h1
  have AP1 := Lib.hid (AP.out.below hb AP.out.1)
  have AQ1 := Lib.hid (AQ.out.below hb AQ.out.1)
  clear h1 hb HP HQ AP AQ BB
  go_wp2_with fail
  refine cL.mono ?_
  rintro e w2 ⟨r2, rfl, h2, hb⟩
  clear c0 c1 c2 e0 e1 e2 cL
  obtain ⟨c0, c1, c2⟩ := po_cells (AP1.out.below hb AP1.out.1)
  obtain ⟨e0, e1, e2⟩ := po_cells (AQ1.out.below hb AQ1.out.1)
  have HB2 := Lib.hid (HB1.out.trans (hb.mono HB1.out.size))
  have H2 := Lib.hid h2
  clear h2 hb AP1 AQ1 HB1
  rcases r1 with _ | _
  · have HN : Hid (¬ p = q) := Lib.hid (fun e => by cases H1.out.2 (by rw [e]))
    go_wp2_with fail
    go_ret
    exact ⟨_, rfl, ⟨fun h => (by cases h), fun h => absurd h HN.out⟩, HB2.out⟩
  rcases r2 with _ | _
  · have HN : Hid (¬ p = q) := Lib.hid (fun e => by cases H2.out.2 (by rw [e]))
    go_wp2_with fail
    go_ret
    exact ⟨_, rfl, ⟨fun h => (by cases h), fun h => absurd h HN.out⟩, HB2.out⟩
  have HR : Hid ((p.high == q.high) = true ↔ p = q) := Lib.hid ⟨fun e => po_ext (by simpa using e) (H1.out.1 rfl) (H2.out.1 rfl), fun e => by rw [e]; simp⟩
  go_wp2_with fail
  go_ret
  exact ⟨_, rfl, HR.out, HB2.out⟩
/-- Two lists of lists. -/
def numsOf (xs : List Part) : List (List Int) := xs.map (·.2.2)
theorem nums_step {l m : List Part} (hlm : l.length = m.length) {k : Nat} (hk : k < l.length) (hQ : ∀ j (h : j < l.length), j < k → l[j].2.2 = (m[j]'(by omega)).2.2) :
    (l[k].2.2 = (m[k]'(by omega)).2.2 → ∀ j (h : j < l.length), j < k + 1 → l[j].2.2 = (m[j]'(by omega)).2.2) ∧ (l[k].2.2 ≠ (m[k]'(by omega)).2.2 → numsOf l ≠ numsOf m) :=
  ⟨fun h j hj hjk => by
    by_cases e : j = k
    · subst e; exact h
    · exact hQ j hj (by omega), fun h e => h (by
      have h1 : (numsOf l)[k]'(by rw [numsOf, List.length_map]; exact hk) = (numsOf m)[k]'(by rw [numsOf, List.length_map]; omega) := by simp only [e]
      simpa [numsOf] using h1)⟩
set_option maxRecDepth 100000 in
set_option maxHeartbeats 4000000 in
theorem rSameLists_any (A B : Option Addr) (n c n2 d : Nat) (l m : List Part) (w : World) (hl : l.length = n) (hm : m.length = n2) (hn : n ≤ 1000000) (hR : RowG w encS A l) (hS : RowG w encS B m) (hP : PartsIn w l) (hQ : PartsIn w m) :
    Calls Try.prog 25 #[.slice A n c, .slice B n2 d] w (Tells (numsOf l = numsOf m) w) := by
  have HR := Lib.hid hR
  have HL := Lib.hid hl
  have GR := Lib.hid hS
  have GL := Lib.hid hm
  have HP := Lib.hid hP
  have HQ := Lib.hid hQ
  clear hR hS hl hm hP hQ
  by_cases hnn : n = n2
  rotate_left
  · have d1 : ((n : Int) != (n2 : Int)) = true := by simp [bne]; omega
    have HN : Hid (¬ numsOf l = numsOf m) := Lib.hid (fun e => hnn (by
      have := congrArg List.length e
      rw [numsOf, numsOf, List.length_map, List.length_map, HL.out, GL.out] at this
      exact this))
    clear hnn
    go_enter Try.func25, Try.ntmps25
    go_wp2_with fail
    go_ret
    exact ⟨_, rfl, ⟨fun h => (by cases h), fun h => absurd h HN.out⟩, Below.refl _ _⟩
  subst hnn
  have HLM := Lib.hid (show l.length = m.length by rw [HL.out, GL.out])
  have d1 : ((n : Int) != (n : Int)) = false := by simp
  go_enter Try.func25, Try.ntmps25
  go_wp2_with fail
  clear d1
  go_loopw [5] (fun i wr => ∃ k : Nat, i = .int .i64 (k : Int) ∧ k ≤ n ∧ Hid (∀ j (h : j < l.length), j < k → l[j].2.2 = (m[j]'(by rw [← HLM.out]; exact h)).2.2) ∧ Below w.heap.size w wr) (fun i _ => n - (intOf i).toNat)
  case atStart => exact ⟨0, rfl, Nat.zero_le _, Lib.hid (fun j h hj => absurd hj (Nat.not_lt_zero j)), Below.refl _ _⟩
  case round =>
    obtain ⟨k, rfl, hk, hQ, hD⟩ := hrel
    have HD := Lib.hid hD
    by_cases hlt : k < n
    · have hkl : k < l.length := by have := HL.out; omega
      have hkm : k < m.length := by have := GL.out; omega
      obtain ⟨b, off, rfl, hb, hc⟩ := HR.out (by intro e; subst e; simp at hkl)
      obtain ⟨b', off', rfl, hb', hc'⟩ := GR.out (by intro e; subst e; simp at hkm)
      have hc1 := (hD.cell (p := ⟨b, off + k, none⟩) hb).trans (hc k hkl)
      have hc2 := (hD.cell (p := ⟨b', off' + k, none⟩) hb').trans (hc' k hkm)
      obtain ⟨h1, h2⟩ := nums_step HLM.out hkl hQ.out
      have H1 := Lib.hid h1
      have H2 := Lib.hid h2
      have hx := (HP.out _ (List.getElem_mem hkl)).below (hD.drew)
      have hy := (HQ.out _ (List.getElem_mem hkm)).below (hD.drew)
      generalize l[k] = x at hc1 H1 H2 hx
      generalize m[k] = y at hc2 H1 H2 hy
      obtain ⟨X1, X2, X3⟩ := x
      obtain ⟨Y1, Y2, Y3⟩ := y
      have cI := rInts_any X1 Y1 _ X2 _ Y2 X3 Y3 wr.drew hx hy
      have K0 := Lib.hid (show wr.drew.cell? ⟨b, off + k, none⟩ = some (.slice X1 X3.length X2) ∧ wr.drew.cell? ⟨b', off' + k, none⟩ = some (.slice Y1 Y3.length Y2) from ⟨hc1, hc2⟩)
      have hkk := Lib.hid hb
      have hkk' := Lib.hid hb'
      clear hc hc' h1 h2 hQ hD hx hy hc1 hc2 hb hb'
      dsimp only at H1 H2
      generalize X3.length = nx at *
      generalize Y3.length = ny at *
      have t1 : (0 : Int) ≤ (k : Int) := by omega
      have t2 : (k : Int) < (n : Int) := by omega
      go_wp2_with fail
      go_region_held3 (fun w' => w'.cell? ⟨b, off + k, none⟩ = some (.slice X1 nx X2) ∧ w'.cell? ⟨b', off' + k, none⟩ = some (.slice Y1 ny Y2)) (with_reducible (first | exact K0.out | exact K1.out))
        ((go_at_call 34; (with_reducible refine cI.mono ?_); rintro e w1 ⟨r, rfl, hr, hb⟩
          have K1 := Lib.hid (show w1.cell? ⟨b, off + k, none⟩ = some (.slice X1 nx X2) ∧ w1.cell? ⟨b', off' + k, none⟩ = some (.slice Y1 ny Y2) from ⟨(hb.cell (p := ⟨b, off + k, none⟩) (Nat.lt_of_lt_of_le hkk.out HD.out.size)).trans K0.out.1, (hb.cell (p := ⟨b', off' + k, none⟩) (Nat.lt_of_lt_of_le hkk'.out HD.out.size)).trans K0.out.2⟩)
          have HB := Lib.hid (HD.out.trans (((Below.refl _ wr).drew.trans hb).mono HD.out.size))
          clear hb cI))
      rcases r with _ | _
      · have HN := Lib.hid (H2.out (fun e => by cases hr.2 e))
        clear hr H1 H2
        go_wp2_with fail
        go_ret
        exact ⟨_, rfl, ⟨fun h => (by cases h), fun h => absurd h HN.out⟩, HB.out⟩
      · have HN := Lib.hid (H1.out (hr.1 rfl))
        clear hr H1 H2
        go_wp2_with fail
        go_roundw
        case rel => exact ⟨k + 1, by go_num, by omega, HN, HB.out⟩
        case measure => simp [intOf]; omega
    · have HN : Hid (numsOf l = numsOf m) := Lib.hid (List.ext_getElem (by rw [numsOf, numsOf, List.length_map, List.length_map]; exact HLM.out) (fun j hj _ => by
        rw [numsOf, List.length_map] at hj
        have := hQ.out j hj (by have := HL.out; omega)
        simpa [numsOf] using this))
      clear hQ
      go_wp2_with fail
      go_ret
      exact ⟨_, rfl, ⟨fun _ => HN.out, fun _ => rfl⟩, HD.out⟩
end Go.Proofs.Ytdkpnoinccdaiaa.Pool
