/-
  The document's device: Spoil.
-/
import Derived.Test.YtoldkhfnebjacaaDRefRestart
namespace Go.Proofs.Ytoldkhfnebjacaa.Disk
open Go.RowKit Go.Maps Gen

/-- A copy of a sector, in a row of the call's own. -/
theorem copy_row (W : World) (A : Option Addr) (c : Nat) (l : Bs) (hl : l.length = 1024) (hA : BRow W A l) :
    ∃ g cap W2, (Builtin.append_ #[32, 32] 32 #[.slice (some ⟨W.heap.size, 0, none⟩) 0 0, .slice A 1024 c]).run Try.prog (W.alloc (.cells #[] 5)) = .ok (.slice (some ⟨g, 0, none⟩) 1024 cap) W2 ∧ 1024 ≤ cap ∧ cap ≤ maxLen ∧ W.heap.size ≤ g ∧ g < W2.heap.size ∧
      (∀ j (h : j < l.length), W2.cell? ⟨g, j, none⟩ = some (byteV l[j])) ∧ (∀ j, W2.frozen? ⟨g, j, none⟩ = false) ∧ Below W.heap.size W W2 := by
  obtain ⟨b1, o1, rfl, _, _⟩ := hA (len_ne hl)
  have hb0 : Below W.heap.size W (W.alloc (.cells #[] 5)) := (Below.refl _ _).alloc (Nat.le_refl _) _
  obtain ⟨v1, W2, r1, q1, g1, _⟩ := append_row bytes_elem (W.alloc (.cells #[] 5)) W.heap.size (.slice (some ⟨W.heap.size, 0, none⟩) 0 0) [] (own_none W) (some ⟨b1, o1, none⟩) 1024 c l hl (fun h => by cases h) (RowG.below hA hb0) (by simp) (by simp)
  have hb1 : Below W.heap.size W W2 := hb0.grown g1 hb0.size (fun j hj => by simp [Value.ownBlock] at hj; omega)
  rw [List.nil_append] at q1
  obtain ⟨hlq, ⟨_, hz⟩ | ⟨g, cap, cur, rfl, hg, hh, hnc, hcm, _, ht⟩⟩ := q1
  · rw [hl] at hz; omega
  · rw [hl] at r1 hnc
    refine ⟨g, cap, W2, r1, hnc, hcm, hg, (Array.getElem?_eq_some_iff.1 hh).1, fun j hj => ?_, fun j => frozen_of_row _ _ _ _ _ hh, hb1⟩
    rw [cell_of_row W2 g j cur _ _ hh, ← Array.getElem?_toList]
    have e : (cur.toList.take (l.length * 1))[j]? = (l.map byteV)[j]? := by rw [ht]
    rw [List.getElem?_take_of_lt (by omega)] at e
    rw [e, List.getElem?_map, List.getElem?_eq_getElem hj]
    rfl
/-- A byte of a row is another one. -/
theorem set_row {W : World} {g k : Nat} {l : Bs} {z : UInt8} (hk : k < l.length) (hlt : g < W.heap.size) (hc : ∀ j (h : j < l.length), W.cell? ⟨g, j, none⟩ = some (byteV l[j])) : BRow (W.setCell ⟨g, k, none⟩ (byteV z)) (some ⟨g, 0, none⟩) (l.set k z) := fun _ => by
  refine ⟨g, 0, rfl, by simpa using hlt, fun j hj => ?_⟩
  rw [List.length_set] at hj
  rw [Nat.zero_add]
  by_cases e : k = j
  · subst e
    rw [World.cell?_setCell_same _ _ _ (hc k hk)]
    simp
  · rw [World.cell?_setCell_other _ _ _ _ (by intro h; injection h; contradiction), hc j hj, List.getElem_set_ne e]
theorem SlRow.turn {w w' : World} {b n : Nat} {f : Nat → Option Bs} (h : SlRow w b n f) {i : Nat} {A : Option Addr} {c : Nat} {l : Bs} (m : Mod [b] w w') (hb : ∀ cur, w.heap[b]? = some (.cells cur 32 (0, 0)) → w'.heap[b]? = some (.cells (cur.setIfInBounds i (.slice A 1024 c)) 32 (0, 0))) (hl : l.length = 1024) (hc0 : 1024 ≤ c) (hc1 : c ≤ maxLen) (hR : BRow w' A l) :
    SlRow w' b n (fun j => if j = i then some l else f j) := by
  have hnb := h.noByte
  obtain ⟨cur, hh, hs, hc⟩ := h
  refine ⟨_, hb cur hh, by simp [hs], fun j hj => ?_⟩
  by_cases e : j = i
  · subst e
    refine ⟨A, 1024, c, by simp [hs, hj], fun l' hl' => ?_⟩
    simp only [if_true, Option.some.injEq] at hl'
    subst hl'
    exact ⟨hl, rfl, hc0, hc1, hR⟩
  · obtain ⟨A', k', c', h1, h2⟩ := hc j hj
    refine ⟨A', k', c', by rw [Array.getElem?_setIfInBounds_ne (Ne.symm e)]; exact h1, fun l' hl' => ?_⟩
    simp only [if_neg e] at hl'
    obtain ⟨g1, g2, g3, g4, g5⟩ := h2 l' hl'
    exact ⟨g1, g2, g3, g4, g5.mod m (fun hne a e => by simp; exact hnb.ne g5 hne a e)⟩
theorem Ref.cache_turn {w w' : World} {rb lb cb ib : Nat} {s : St} (h : Ref w rb lb cb ib s) {i : Nat} {A : Option Addr} {c : Nat} {l l0 : Bs} (m : Mod [cb] w w') (hb : ∀ cur, w.heap[cb]? = some (.cells cur 32 (0, 0)) → w'.heap[cb]? = some (.cells (cur.setIfInBounds i (.slice A 1024 c)) 32 (0, 0))) (hl : l.length = 1024) (hc0 : 1024 ≤ c) (hc1 : c ≤ maxLen) (hR : BRow w' A l) (hC : s.C (i : Int) = some l0) :
    Ref w' rb lb cb ib { s with C := upd s.C (i : Int) (some l) } := by
  obtain ⟨n1, n2, n3, n4, n5⟩ := h.nes
  obtain ⟨left, hbx, hf⟩ := h.box
  refine ⟨⟨left, (m.block rb h.lt (by simp; exact n2)).trans hbx, hf⟩, h.last.kept m (by simp; exact h.ne) (h.ha (by simp)), (h.cache.turn m hb hl hc0 hc1 hR).congr (fun j _ l' e => ?_), (h.is.kept m (by simp; exact n5.symm)).congr (fun j _ => ?_), h.ne, h.nle, h.nz⟩
  · simp only at e ⊢
    by_cases ej : j = i
    · subst ej; rw [upd_same] at e; simpa using e
    · rw [upd_other _ _ (by omega)] at e; simp only [if_neg ej]; exact e
  · simp only
    by_cases ej : j = i
    · subst ej; rw [upd_same, hC]; rfl
    · rw [upd_other _ _ (by omega)]
theorem Ref.last_turn {w w' : World} {rb lb cb ib : Nat} {s : St} (h : Ref w rb lb cb ib s) {i : Nat} {A : Option Addr} {c : Nat} {l : Bs} (m : Mod [lb] w w') (hb : ∀ cur, w.heap[lb]? = some (.cells cur 32 (0, 0)) → w'.heap[lb]? = some (.cells (cur.setIfInBounds i (.slice A 1024 c)) 32 (0, 0))) (hl : l.length = 1024) (hc0 : 1024 ≤ c) (hc1 : c ≤ maxLen) (hR : BRow w' A l) :
    Ref w' rb lb cb ib (s.lay (i : Int) l) := by
  obtain ⟨n1, n2, n3, n4, n5⟩ := h.nes
  obtain ⟨left, hbx, hf⟩ := h.box
  refine ⟨⟨left, (m.block rb h.lt (by simp; exact n1)).trans hbx, hf⟩, (h.last.turn m hb hl hc0 hc1 hR).congr (fun j _ l' e => ?_), h.cache.kept m (by simp; exact h.ne.symm) (h.ha (by simp)), h.is.kept m (by simp; exact n4.symm), h.ne, h.nle, h.nz⟩
  simp only [St.lay] at e ⊢
  by_cases ej : j = i
  · subst ej
    rw [upd_same, show (if l = zeros then none else some l) = laid l from rfl, laid_getD] at e
    simpa using e
  · rw [upd_other _ _ (by omega)] at e; simp only [if_neg ej]; exact e
theorem two_keep {w1 : World} {rb o1 cb k : Nat} {u x : Value} (h1 : w1.cell? ⟨rb, o1, none⟩ = some u) (h3 : w1.cell? ⟨cb, k, none⟩ = some x) (hr : rb < w1.heap.size) (hc : cb < w1.heap.size) :
    ∀ W, Below w1.heap.size w1 W → W.cell? ⟨rb, o1, none⟩ = some u ∧ W.cell? ⟨cb, k, none⟩ = some x :=
  fun _ m => ⟨(m.cell (p := ⟨rb, o1, none⟩) hr).trans h1, (m.cell (p := ⟨cb, k, none⟩) hc).trans h3⟩
theorem turn_eq (l : Bs) (k : Nat) (y : UInt8) (h : k < l.length) : turn l k y = l.set k (l[k] ^^^ y) := by simp [turn, h]
set_option maxRecDepth 100000 in
theorem rspoil_bad (w : World) (rb lb cb ib : Nat) (s : St) (n at0 : Int) (y : UInt8) (h : Ref w rb lb cb ib s) (hh : s.has n = false) : Calls Try.prog 33 #[ptr rb, .int .i64 n, .int .i64 at0, byteV y] w fun e w' => e = .returned (.int .i64 41) ∧ w = w' := by
  obtain ⟨left, c0, c1, c2, c3, c4, c5, hf⟩ := h.cells
  by_cases h0 : n < 0
  · have b0 : decide (n < 0) = true := by simpa using h0
    clear h hf hh h0 c1 c2 c3 c4 c5
    go_enter Try.func33, Try.ntmps33
    go_wp2_with fail
    go_ret
    exact ⟨rfl, rfl⟩
  · have b0 : decide (n < 0) = false := by simp; omega
    have b1 : decide ((s.n : Int) ≤ n) = true := by simp [St.has] at hh; simp; omega
    clear h hf hh h0 c1 c2 c3 c4 c5
    go_enter Try.func33, Try.ntmps33
    go_wp2_with fail
    go_ret
    exact ⟨rfl, rfl⟩
set_option maxRecDepth 100000 in
theorem rspoil_at (w : World) (rb lb cb ib : Nat) (s : St) (i : Nat) (at0 : Int) (y : UInt8) (h : Ref w rb lb cb ib s) (hi : i < s.n) (hm : ¬ (0 ≤ at0 ∧ at0 < 1024)) : Calls Try.prog 33 #[ptr rb, .int .i64 (i : Int), .int .i64 at0, byteV y] w fun e w' => e = .returned (.int .i64 1) ∧ w = w' := by
  obtain ⟨left, c0, c1, c2, c3, c4, c5, hf⟩ := h.cells
  have b0 : decide ((i : Int) < 0) = false := by simp
  have b1 : decide ((s.n : Int) ≤ (i : Int)) = false := by simp; omega
  by_cases h0 : at0 < 0
  · have d0 : decide (at0 < 0) = true := by simpa using h0
    clear h hf hm h0 c1 c2 c3 c4 c5
    go_enter Try.func33, Try.ntmps33
    go_wp2_with fail
    go_ret
    exact ⟨rfl, rfl⟩
  · have d0 : decide (at0 < 0) = false := by simp; omega
    have d1 : decide (1024 ≤ at0) = true := by simp; omega
    clear h hf hm h0 c1 c2 c3 c4 c5
    go_enter Try.func33, Try.ntmps33
    go_wp2_with fail
    go_ret
    exact ⟨rfl, rfl⟩
set_option maxRecDepth 100000 in
set_option maxHeartbeats 8000000 in
theorem rspoil_cache (w : World) (rb lb cb ib : Nat) (s : St) (i k : Nat) (y : UInt8) (l : Bs) (h : Ref w rb lb cb ib s) (hi : i < s.n) (hk : k < 1024) (hC : s.C (i : Int) = some l) : Calls Try.prog 33 #[ptr rb, .int .i64 (i : Int), .int .i64 (k : Int), byteV y] w fun e w' => e = .returned (.int .i64 0) ∧ Ref w' rb lb cb ib ({ s with C := upd s.C (i : Int) (some (turn l k y)) }) ∧ Mod [rb, lb, cb, ib] w w' := by
  obtain ⟨left, c0, c1, c2, c3, c4, c5, hf⟩ := h.cells
  have b0 : decide ((i : Int) < 0) = false := by simp
  have b1 : decide ((s.n : Int) ≤ (i : Int)) = false := by simp; omega
  have d0 : decide ((k : Int) < 0) = false := by simp
  have d1 : decide (1024 ≤ (k : Int)) = false := by simp; omega
  obtain ⟨hI, hIf⟩ := h.is.at_ hi
  rw [show (s.C (i : Int)).isSome = true by simp [hC]] at hI
  obtain ⟨wd, hwd⟩ : ∃ wd, wd = w.drew := ⟨_, rfl⟩
  have rd : Ref wd rb lb cb ib s := by rw [hwd]; exact h.kept (Mod.refl [] _).drew (fun _ _ => by simp) (fun _ _ _ _ _ _ => by simp)
  obtain ⟨A, c, hA, _, hl, _, _, hR⟩ := rd.cache.at_ hi hC
  obtain ⟨left', e0, e1, e2, _, _, _, _⟩ := rd.cells
  obtain ⟨g, cap, W2, q1, q3, q4, q5, q6, q7, q8, q9⟩ := copy_row wd A c l hl hR
  have hkl : k < l.length := by omega
  obtain ⟨x, hx⟩ : ∃ x, l[k] = x := ⟨_, rfl⟩
  have hcx := q7 k hkl
  rw [hx] at hcx
  have hx8 := xor8 x y
  have n2 := h.nes.2.1
  have hgb : g ≠ cb := by have := rd.cache.lt; omega
  have hgr : g ≠ rb := by have := rd.lt; omega
  have HTURN : Hid (turn l k y = l.set k (x ^^^ y)) := Lib.hid (by rw [turn_eq l k y hkl, hx])
  -- the copy in its place
  have m3 := mod_set W2 cb i (.slice (some ⟨g, 0, none⟩) 1024 cap)
  have rd2 := rd.below q9
  obtain ⟨left2, f0, f1, f2, _, _, _, _⟩ := rd2.cells
  obtain ⟨v0, hv0, hv1⟩ := rd2.cache.any hi
  have E1 : Hid ((W2.setCell ⟨cb, i, none⟩ (.slice (some ⟨g, 0, none⟩) 1024 cap)).drew.cell? ⟨rb, 1, none⟩ = some (hdr cb s.n)) := Lib.hid ((m3.cell (p := ⟨rb, 1, none⟩) rd2.lt (by simp; exact n2)).trans f1)
  have EC : Hid ((W2.setCell ⟨cb, i, none⟩ (.slice (some ⟨g, 0, none⟩) 1024 cap)).drew.cell? ⟨cb, i, none⟩ = some (.slice (some ⟨g, 0, none⟩) 1024 cap)) := Lib.hid (World.cell?_setCell_same _ _ _ hv0)
  have EX : Hid ((W2.setCell ⟨cb, i, none⟩ (.slice (some ⟨g, 0, none⟩) 1024 cap)).drew.cell? ⟨g, k, none⟩ = some (byteV x)) := Lib.hid ((m3.cell (p := ⟨g, k, none⟩) q6 (by simp; exact hgb)).trans hcx)
  have EF : Hid ((W2.setCell ⟨cb, i, none⟩ (.slice (some ⟨g, 0, none⟩) 1024 cap)).drew.frozen? ⟨g, k, none⟩ = false) := Lib.hid ((World.frozen?_of_block (m3.block g q6 (by simp; exact hgb))).trans (q8 k))
  -- what is left
  have hc3 : ∀ j (hj : j < l.length), (W2.setCell ⟨cb, i, none⟩ (.slice (some ⟨g, 0, none⟩) 1024 cap)).cell? ⟨g, j, none⟩ = some (byteV l[j]) := fun j hj => (m3.cell (p := ⟨g, j, none⟩) q6 (by simp; exact hgb)).trans (q7 j hj)
  have hrow : BRow ((W2.setCell ⟨cb, i, none⟩ (.slice (some ⟨g, 0, none⟩) 1024 cap)).setCell ⟨g, k, none⟩ (byteV (x ^^^ y))) (some ⟨g, 0, none⟩) (l.set k (x ^^^ y)) := set_row hkl (by simpa using q6) hc3
  have m4 : Mod [cb] wd ((W2.setCell ⟨cb, i, none⟩ (.slice (some ⟨g, 0, none⟩) 1024 cap)).setCell ⟨g, k, none⟩ (byteV (x ^^^ y))) := ((Mod.of_below [cb] q9).setCell _ _ (.inl (by simp))).setCell _ _ (.inr q5)
  have hblk : ∀ cur, wd.heap[cb]? = some (.cells cur 32 (0, 0)) → ((W2.setCell ⟨cb, i, none⟩ (.slice (some ⟨g, 0, none⟩) 1024 cap)).setCell ⟨g, k, none⟩ (byteV (x ^^^ y))).heap[cb]? = some (.cells (cur.setIfInBounds i (.slice (some ⟨g, 0, none⟩) 1024 cap)) 32 (0, 0)) := fun cur hcur => by
    rw [Below.heap_setCell _ _ _ _ hgb.symm]
    exact heap_setCell_same W2 cb i cur 32 _ ((q9.block cb rd.cache.lt).trans hcur)
  have RR := rd.cache_turn (i := i) (l := l.set k (x ^^^ y)) m4 hblk (by simp [hl]) q3 q4 hrow hC
  have R4 := Lib.hid (RR.kept (Mod.refl [] _).drew (fun _ _ => by simp) (fun _ _ _ _ _ _ => by simp))
  have mw : Mod [rb, lb, cb, ib] w wd := by rw [hwd]; exact (Mod.refl _ _).drew
  have M4 := Lib.hid (mw.trans (m4.mono (by simp))).drew
  have KS := Lib.hid (two_keep e1 hA rd.lt rd.cache.lt)
  have b0' := (Below.refl wd.heap.size wd).alloc (Nat.le_refl _) (.cells #[] 5)
  have B0 := Lib.hid b0'
  have Q1 := Lib.hid q1
  have Q9 := Lib.hid q9
  have hi0 : (0 : Int) ≤ (i : Int) := by omega
  have hi1 : (i : Int) < (s.n : Int) := by omega
  have hk0 : (0 : Int) ≤ (k : Int) := by omega
  have hk1 : (k : Int) < 1024 := by omega
  subst hwd
  clear h hf c3 c4 c5 rd rd2 q1 q3 q4 q5 q6 q7 q8 q9 e0 e1 e2 f0 f1 f2 hA hl hR hrow m3 m4 hblk RR mw b0' hx hcx hc3 n2 hgb hgr hkl hC
  go_enter Try.func33, Try.ntmps33
  go_wp2_with fail
  refine region_last (S := fun w' => w'.cell? ⟨rb, 1, none⟩ = some (hdr cb s.n) ∧ w'.cell? ⟨cb, i, none⟩ = some (.slice A 1024 c)) 15 (by kernel_rfl) rfl rfl rfl rfl (by kernel_rfl) (by kernel_rfl) ?_
  intro w3 hw3
  subst hw3
  have hSR := KS.out _ (Below.refl _ _)
  simp only [List.set_cons_zero, List.set_cons_succ]
  refine wpAnyH_take (i := 0) (v := ?_) rfl (by kernel_rfl) (by kernel_rfl) (by kernel_rfl) (fun _ _ _ h => h) (Or.inl ⟨by rfl, ?_⟩) hSR ?_
  rotate_left
  · (intro w' hSw; (try dsimp only at hSw); go_simp; (try with_reducible rfl))
  simp only [Act.put]
  refine wpAnyH_take (i := 1) (v := ?_) rfl (by kernel_rfl) (by kernel_rfl) (by kernel_rfl) (fun _ _ _ h => h) (Or.inl ⟨by rfl, ?_⟩) hSR ?_
  rotate_left
  · (intro w' hSw; (try dsimp only at hSw); go_simp; (try with_reducible rfl))
  simp only [Act.put]
  refine wpAnyH_take (i := 2) (v := ?_) rfl (by kernel_rfl) (by kernel_rfl) (by kernel_rfl) (fun _ _ _ h => h) (Or.inl ⟨by rfl, ?_⟩) hSR ?_
  rotate_left
  · (intro w' hSw; (try dsimp only at hSw); go_simp; (try with_reducible rfl))
  simp only [Act.put]
  refine wpAnyH_take (i := 3) (v := ?_) rfl (by kernel_rfl) (by kernel_rfl) (by kernel_rfl) (fun _ _ _ h => h) (Or.inl ⟨by rfl, ?_⟩) hSR ?_
  rotate_left
  · (intro w' hSw; (try dsimp only at hSw); go_simp; (try with_reducible rfl))
  simp only [Act.put]
  refine wpAnyH_take (i := 4) (v := ?_) rfl (by kernel_rfl) (by kernel_rfl) (by kernel_rfl) (fun _ _ _ h => h) (Or.inl ⟨by rfl, ?_⟩) hSR ?_
  rotate_left
  · (intro w' hSw; (try dsimp only at hSw); go_simp; (try with_reducible rfl))
  simp only [Act.put]
  refine wpAnyH_take (i := 6) (v := ?_) rfl (by kernel_rfl) (by kernel_rfl) (by kernel_rfl) (fun _ _ _ h => h) (Or.inl ⟨by rfl, ?_⟩) hSR ?_
  rotate_left
  · (intro w' hSw; (try dsimp only at hSw); go_simp; (try with_reducible rfl))
  simp only [Act.put]
  refine wpAnyH_take (i := 7) (v := ?_) rfl (by kernel_rfl) (by kernel_rfl) (by kernel_rfl) (fun _ _ _ h => h) (Or.inl ⟨by rfl, ?_⟩) hSR ?_
  rotate_left
  · (intro w' hSw; (try dsimp only at hSw); go_simp; (try with_reducible rfl))
  simp only [Act.put]
  refine wpAnyH_take (i := 8) (v := ?_) rfl (by kernel_rfl) (by kernel_rfl) (by kernel_rfl) (fun _ _ _ h => h) (Or.inl ⟨by rfl, ?_⟩) hSR ?_
  rotate_left
  · (intro w' hSw; (try dsimp only at hSw); go_simp; (try with_reducible rfl))
  simp only [Act.put]
  refine wpAnyH_take (i := 9) (v := ?_) rfl (by kernel_rfl) (by kernel_rfl) (by kernel_rfl) (fun _ _ _ h => h) (Or.inl ⟨by rfl, ?_⟩) hSR ?_
  rotate_left
  · (intro w' hSw; (try dsimp only at hSw); go_simp; (try with_reducible rfl))
  simp only [Act.put]
  refine wpAnyH_take (i := 10) (v := ?_) rfl (by kernel_rfl) (by kernel_rfl) (by kernel_rfl) (fun _ _ _ h => h) (Or.inl ⟨by rfl, ?_⟩) hSR ?_
  rotate_left
  · (intro w' hSw; (try dsimp only at hSw); go_simp; (try with_reducible rfl))
  simp only [Act.put]
  refine wpAnyH_take (i := 11) (v := ?_) rfl (by kernel_rfl) (by kernel_rfl) (by kernel_rfl) (fun _ _ _ h => h) (Or.inl ⟨by rfl, ?_⟩) hSR ?_
  rotate_left
  · (intro w' hSw; (try dsimp only at hSw); go_simp; (try with_reducible rfl))
  simp only [Act.put]
  refine wpAnyH_take (i := 12) (v := ?_) rfl (by kernel_rfl) (by kernel_rfl) (by kernel_rfl) (fun _ _ _ h => h) (Or.inl ⟨by rfl, ?_⟩) hSR ?_
  rotate_left
  · (intro w' hSw; (try dsimp only at hSw); go_simp; (try with_reducible rfl))
  simp only [Act.put]
  refine wpAnyH_ready (rs := [5]) (by kernel_rfl) (by simp) (AllReadyH.cons rfl (fun K hK => ?_) AllReadyH.nil)
  go_simp
  refine hK.out _ _ (KS.out _ B0.out) (fun hSR => ?_)
  clear hK K
  refine wpAnyH_ready (rs := [13]) (by kernel_rfl) (by simp) (AllReadyH.cons rfl (fun K hK => ?_) AllReadyH.nil)
  refine step_append2_eq (by rfl) (.tmp 38) (.tmp 45) _ _ (by rfl) (by rfl) (by rfl) Q1.out ?_
  refine hK.out _ _ (KS.out _ Q9.out) (fun hSR => ?_)
  clear hK K
  simp only [Act.put]
  refine wpAnyH_take (i := 14) (v := ?_) rfl (by kernel_rfl) (by kernel_rfl) (by kernel_rfl) (fun _ _ _ h => h) (Or.inl ⟨by rfl, ?_⟩) hSR ?_
  rotate_left
  · (intro w' hSw; (try dsimp only at hSw); go_simp; (try with_reducible rfl))
  simp only [Act.put]
  refine wpAnyH_take (i := 15) (v := ?_) rfl (by kernel_rfl) (by kernel_rfl) (by kernel_rfl) (fun _ _ _ h => h) (Or.inl ⟨by rfl, ?_⟩) hSR ?_
  rotate_left
  · (intro w' hSw; (try dsimp only at hSw); go_simp; (try with_reducible rfl))
  simp only [Act.put]
  refine wpAnyH_done (by kernel_rfl) ?_ _
  show Oper.wp _ _ _ _ _ _
  unfold Oper.wp
  go_simp
  clear hv0 hv1 hSR
  go_wp2_with fail
  refine region_tail 21 (by kernel_rfl) (by kernel_rfl) ?_
  intro w3 hw3
  obtain rfl : w3 = (W2.setCell ⟨cb, i, none⟩ (.slice (some ⟨g, 0, none⟩) 1024 cap)).drew := hw3
  simp only [List.take_succ_cons, List.take_zero, List.drop_succ_cons, List.drop_zero]
  clear c0 c1 c2 hI
  have g1 := E1.out
  have g2 := EC.out
  have g3 := EX.out
  have g4 := EF.out
  clear E1 EC EX EF
  repeat still_step
  refine wpStill_nil ?_
  go_wp2_with fail
  go_ret
  exact ⟨rfl, by rw [HTURN.out]; exact R4.out, M4.out⟩
set_option maxRecDepth 100000 in
set_option maxHeartbeats 8000000 in
theorem rspoil_last (w : World) (rb lb cb ib : Nat) (s : St) (i k : Nat) (y : UInt8) (l : Bs) (h : Ref w rb lb cb ib s) (hi : i < s.n) (hk : k < 1024) (hC : s.C (i : Int) = none) (hl0 : (s.L (i : Int)).getD zeros = l) : Calls Try.prog 33 #[ptr rb, .int .i64 (i : Int), .int .i64 (k : Int), byteV y] w fun e w' => e = .returned (.int .i64 0) ∧ Ref w' rb lb cb ib (s.lay (i : Int) (turn l k y)) ∧ Mod [rb, lb, cb, ib] w w' := by
  obtain ⟨left, c0, c1, c2, c3, c4, c5, hf⟩ := h.cells
  have b0 : decide ((i : Int) < 0) = false := by simp
  have b1 : decide ((s.n : Int) ≤ (i : Int)) = false := by simp; omega
  have d0 : decide ((k : Int) < 0) = false := by simp
  have d1 : decide (1024 ≤ (k : Int)) = false := by simp; omega
  obtain ⟨hI, hIf⟩ := h.is.at_ hi
  rw [show (s.C (i : Int)).isSome = false by simp [hC]] at hI
  obtain ⟨wd, hwd⟩ : ∃ wd, wd = w.drew := ⟨_, rfl⟩
  have rd : Ref wd rb lb cb ib s := by rw [hwd]; exact h.kept (Mod.refl [] _).drew (fun _ _ => by simp) (fun _ _ _ _ _ _ => by simp)
  obtain ⟨A, c, hA, _, hl, _, _, hR⟩ := rd.last.at_ hi (congrArg some hl0)
  obtain ⟨left', e0, e1, e2, _, _, _, _⟩ := rd.cells
  obtain ⟨g, cap, W2, q1, q3, q4, q5, q6, q7, q8, q9⟩ := copy_row wd A c l hl hR
  have hkl : k < l.length := by omega
  obtain ⟨x, hx⟩ : ∃ x, l[k] = x := ⟨_, rfl⟩
  have hcx := q7 k hkl
  rw [hx] at hcx
  have hx8 := xor8 x y
  have n2 := h.nes.1
  have hgb : g ≠ lb := by have := rd.last.lt; omega
  have hgr : g ≠ rb := by have := rd.lt; omega
  have HTURN : Hid (turn l k y = l.set k (x ^^^ y)) := Lib.hid (by rw [turn_eq l k y hkl, hx])
  -- the copy in its place
  have m3 := mod_set W2 lb i (.slice (some ⟨g, 0, none⟩) 1024 cap)
  have rd2 := rd.below q9
  obtain ⟨left2, f0, f1, f2, _, _, _, _⟩ := rd2.cells
  obtain ⟨v0, hv0, hv1⟩ := rd2.last.any hi
  have E1 : Hid ((W2.setCell ⟨lb, i, none⟩ (.slice (some ⟨g, 0, none⟩) 1024 cap)).drew.cell? ⟨rb, 0, none⟩ = some (hdr lb s.n)) := Lib.hid ((m3.cell (p := ⟨rb, 0, none⟩) rd2.lt (by simp; exact n2)).trans f0)
  have EC : Hid ((W2.setCell ⟨lb, i, none⟩ (.slice (some ⟨g, 0, none⟩) 1024 cap)).drew.cell? ⟨lb, i, none⟩ = some (.slice (some ⟨g, 0, none⟩) 1024 cap)) := Lib.hid (World.cell?_setCell_same _ _ _ hv0)
  have EX : Hid ((W2.setCell ⟨lb, i, none⟩ (.slice (some ⟨g, 0, none⟩) 1024 cap)).drew.cell? ⟨g, k, none⟩ = some (byteV x)) := Lib.hid ((m3.cell (p := ⟨g, k, none⟩) q6 (by simp; exact hgb)).trans hcx)
  have EF : Hid ((W2.setCell ⟨lb, i, none⟩ (.slice (some ⟨g, 0, none⟩) 1024 cap)).drew.frozen? ⟨g, k, none⟩ = false) := Lib.hid ((World.frozen?_of_block (m3.block g q6 (by simp; exact hgb))).trans (q8 k))
  -- what is left
  have hc3 : ∀ j (hj : j < l.length), (W2.setCell ⟨lb, i, none⟩ (.slice (some ⟨g, 0, none⟩) 1024 cap)).cell? ⟨g, j, none⟩ = some (byteV l[j]) := fun j hj => (m3.cell (p := ⟨g, j, none⟩) q6 (by simp; exact hgb)).trans (q7 j hj)
  have hrow : BRow ((W2.setCell ⟨lb, i, none⟩ (.slice (some ⟨g, 0, none⟩) 1024 cap)).setCell ⟨g, k, none⟩ (byteV (x ^^^ y))) (some ⟨g, 0, none⟩) (l.set k (x ^^^ y)) := set_row hkl (by simpa using q6) hc3
  have m4 : Mod [lb] wd ((W2.setCell ⟨lb, i, none⟩ (.slice (some ⟨g, 0, none⟩) 1024 cap)).setCell ⟨g, k, none⟩ (byteV (x ^^^ y))) := ((Mod.of_below [lb] q9).setCell _ _ (.inl (by simp))).setCell _ _ (.inr q5)
  have hblk : ∀ cur, wd.heap[lb]? = some (.cells cur 32 (0, 0)) → ((W2.setCell ⟨lb, i, none⟩ (.slice (some ⟨g, 0, none⟩) 1024 cap)).setCell ⟨g, k, none⟩ (byteV (x ^^^ y))).heap[lb]? = some (.cells (cur.setIfInBounds i (.slice (some ⟨g, 0, none⟩) 1024 cap)) 32 (0, 0)) := fun cur hcur => by
    rw [Below.heap_setCell _ _ _ _ hgb.symm]
    exact heap_setCell_same W2 lb i cur 32 _ ((q9.block lb rd.last.lt).trans hcur)
  have RR := rd.last_turn (i := i) (l := l.set k (x ^^^ y)) m4 hblk (by simp [hl]) q3 q4 hrow 
  have R4 := Lib.hid (RR.kept (Mod.refl [] _).drew (fun _ _ => by simp) (fun _ _ _ _ _ _ => by simp))
  have mw : Mod [rb, lb, cb, ib] w wd := by rw [hwd]; exact (Mod.refl _ _).drew
  have M4 := Lib.hid (mw.trans (m4.mono (by simp))).drew
  have KS := Lib.hid (two_keep e0 hA rd.lt rd.last.lt)
  have b0' := (Below.refl wd.heap.size wd).alloc (Nat.le_refl _) (.cells #[] 5)
  have B0 := Lib.hid b0'
  have Q1 := Lib.hid q1
  have Q9 := Lib.hid q9
  have hi0 : (0 : Int) ≤ (i : Int) := by omega
  have hi1 : (i : Int) < (s.n : Int) := by omega
  have hk0 : (0 : Int) ≤ (k : Int) := by omega
  have hk1 : (k : Int) < 1024 := by omega
  subst hwd
  clear h hf c3 c4 c5 rd rd2 q1 q3 q4 q5 q6 q7 q8 q9 e0 e1 e2 f0 f1 f2 hA hl hR hrow m3 m4 hblk RR mw b0' hx hcx hc3 n2 hgb hgr hkl hC hl0
  go_enter Try.func33, Try.ntmps33
  go_wp2_with fail
  refine region_last (S := fun w' => w'.cell? ⟨rb, 0, none⟩ = some (hdr lb s.n) ∧ w'.cell? ⟨lb, i, none⟩ = some (.slice A 1024 c)) 15 (by kernel_rfl) rfl rfl rfl rfl (by kernel_rfl) (by kernel_rfl) ?_
  intro w3 hw3
  subst hw3
  have hSR := KS.out _ (Below.refl _ _)
  simp only [List.set_cons_zero, List.set_cons_succ]
  refine wpAnyH_take (i := 0) (v := ?_) rfl (by kernel_rfl) (by kernel_rfl) (by kernel_rfl) (fun _ _ _ h => h) (Or.inl ⟨by rfl, ?_⟩) hSR ?_
  rotate_left
  · (intro w' hSw; (try dsimp only at hSw); go_simp; (try with_reducible rfl))
  simp only [Act.put]
  refine wpAnyH_take (i := 1) (v := ?_) rfl (by kernel_rfl) (by kernel_rfl) (by kernel_rfl) (fun _ _ _ h => h) (Or.inl ⟨by rfl, ?_⟩) hSR ?_
  rotate_left
  · (intro w' hSw; (try dsimp only at hSw); go_simp; (try with_reducible rfl))
  simp only [Act.put]
  refine wpAnyH_take (i := 2) (v := ?_) rfl (by kernel_rfl) (by kernel_rfl) (by kernel_rfl) (fun _ _ _ h => h) (Or.inl ⟨by rfl, ?_⟩) hSR ?_
  rotate_left
  · (intro w' hSw; (try dsimp only at hSw); go_simp; (try with_reducible rfl))
  simp only [Act.put]
  refine wpAnyH_take (i := 3) (v := ?_) rfl (by kernel_rfl) (by kernel_rfl) (by kernel_rfl) (fun _ _ _ h => h) (Or.inl ⟨by rfl, ?_⟩) hSR ?_
  rotate_left
  · (intro w' hSw; (try dsimp only at hSw); go_simp; (try with_reducible rfl))
  simp only [Act.put]
  refine wpAnyH_take (i := 4) (v := ?_) rfl (by kernel_rfl) (by kernel_rfl) (by kernel_rfl) (fun _ _ _ h => h) (Or.inl ⟨by rfl, ?_⟩) hSR ?_
  rotate_left
  · (intro w' hSw; (try dsimp only at hSw); go_simp; (try with_reducible rfl))
  simp only [Act.put]
  refine wpAnyH_take (i := 6) (v := ?_) rfl (by kernel_rfl) (by kernel_rfl) (by kernel_rfl) (fun _ _ _ h => h) (Or.inl ⟨by rfl, ?_⟩) hSR ?_
  rotate_left
  · (intro w' hSw; (try dsimp only at hSw); go_simp; (try with_reducible rfl))
  simp only [Act.put]
  refine wpAnyH_take (i := 7) (v := ?_) rfl (by kernel_rfl) (by kernel_rfl) (by kernel_rfl) (fun _ _ _ h => h) (Or.inl ⟨by rfl, ?_⟩) hSR ?_
  rotate_left
  · (intro w' hSw; (try dsimp only at hSw); go_simp; (try with_reducible rfl))
  simp only [Act.put]
  refine wpAnyH_take (i := 8) (v := ?_) rfl (by kernel_rfl) (by kernel_rfl) (by kernel_rfl) (fun _ _ _ h => h) (Or.inl ⟨by rfl, ?_⟩) hSR ?_
  rotate_left
  · (intro w' hSw; (try dsimp only at hSw); go_simp; (try with_reducible rfl))
  simp only [Act.put]
  refine wpAnyH_take (i := 9) (v := ?_) rfl (by kernel_rfl) (by kernel_rfl) (by kernel_rfl) (fun _ _ _ h => h) (Or.inl ⟨by rfl, ?_⟩) hSR ?_
  rotate_left
  · (intro w' hSw; (try dsimp only at hSw); go_simp; (try with_reducible rfl))
  simp only [Act.put]
  refine wpAnyH_take (i := 10) (v := ?_) rfl (by kernel_rfl) (by kernel_rfl) (by kernel_rfl) (fun _ _ _ h => h) (Or.inl ⟨by rfl, ?_⟩) hSR ?_
  rotate_left
  · (intro w' hSw; (try dsimp only at hSw); go_simp; (try with_reducible rfl))
  simp only [Act.put]
  refine wpAnyH_take (i := 11) (v := ?_) rfl (by kernel_rfl) (by kernel_rfl) (by kernel_rfl) (fun _ _ _ h => h) (Or.inl ⟨by rfl, ?_⟩) hSR ?_
  rotate_left
  · (intro w' hSw; (try dsimp only at hSw); go_simp; (try with_reducible rfl))
  simp only [Act.put]
  refine wpAnyH_take (i := 12) (v := ?_) rfl (by kernel_rfl) (by kernel_rfl) (by kernel_rfl) (fun _ _ _ h => h) (Or.inl ⟨by rfl, ?_⟩) hSR ?_
  rotate_left
  · (intro w' hSw; (try dsimp only at hSw); go_simp; (try with_reducible rfl))
  simp only [Act.put]
  refine wpAnyH_ready (rs := [5]) (by kernel_rfl) (by simp) (AllReadyH.cons rfl (fun K hK => ?_) AllReadyH.nil)
  go_simp
  refine hK.out _ _ (KS.out _ B0.out) (fun hSR => ?_)
  clear hK K
  refine wpAnyH_ready (rs := [13]) (by kernel_rfl) (by simp) (AllReadyH.cons rfl (fun K hK => ?_) AllReadyH.nil)
  refine step_append2_eq (by rfl) (.tmp 74) (.tmp 81) _ _ (by rfl) (by rfl) (by rfl) Q1.out ?_
  refine hK.out _ _ (KS.out _ Q9.out) (fun hSR => ?_)
  clear hK K
  simp only [Act.put]
  refine wpAnyH_take (i := 14) (v := ?_) rfl (by kernel_rfl) (by kernel_rfl) (by kernel_rfl) (fun _ _ _ h => h) (Or.inl ⟨by rfl, ?_⟩) hSR ?_
  rotate_left
  · (intro w' hSw; (try dsimp only at hSw); go_simp; (try with_reducible rfl))
  simp only [Act.put]
  refine wpAnyH_take (i := 15) (v := ?_) rfl (by kernel_rfl) (by kernel_rfl) (by kernel_rfl) (fun _ _ _ h => h) (Or.inl ⟨by rfl, ?_⟩) hSR ?_
  rotate_left
  · (intro w' hSw; (try dsimp only at hSw); go_simp; (try with_reducible rfl))
  simp only [Act.put]
  refine wpAnyH_done (by kernel_rfl) ?_ _
  show Oper.wp _ _ _ _ _ _
  unfold Oper.wp
  go_simp
  clear hv0 hv1 hSR
  go_wp2_with fail
  refine region_tail 21 (by kernel_rfl) (by kernel_rfl) ?_
  intro w3 hw3
  obtain rfl : w3 = (W2.setCell ⟨lb, i, none⟩ (.slice (some ⟨g, 0, none⟩) 1024 cap)).drew := hw3
  simp only [List.take_succ_cons, List.take_zero, List.drop_succ_cons, List.drop_zero]
  clear c0 c1 c2 hI
  have g1 := E1.out
  have g2 := EC.out
  have g3 := EX.out
  have g4 := EF.out
  clear E1 EC EX EF
  repeat still_step
  refine wpStill_nil ?_
  go_wp2_with fail
  go_ret
  exact ⟨rfl, by rw [HTURN.out]; exact R4.out, M4.out⟩
theorem rspoil_ref (w : World) (rb lb cb ib : Nat) (s : St) (n at0 : Int) (y : UInt8) (h : Ref w rb lb cb ib s) :
    Calls Try.prog 33 #[ptr rb, .int .i64 n, .int .i64 at0, byteV y] w fun e w' => e = .returned (.int .i64 (s.spoilE n at0)) ∧ Ref w' rb lb cb ib (s.spoil n at0 y) ∧ Mod [rb, lb, cb, ib] w w' := by
  cases hh : s.has n
  · have e : s.spoilE n at0 = 41 := by simp [St.spoilE, hh]
    rw [e, show s.spoil n at0 y = s by simp [St.spoil, e]]
    refine (rspoil_bad w rb lb cb ib s n at0 y h hh).mono ?_
    rintro e w' ⟨rfl, rfl⟩
    exact ⟨rfl, h, Mod.refl _ _⟩
  · have hb := has_bounds hh
    obtain ⟨i, rfl⟩ : ∃ i : Nat, n = i := ⟨n.toNat, by omega⟩
    by_cases hm : 0 ≤ at0 ∧ at0 < 1024
    · obtain ⟨k, rfl⟩ : ∃ k : Nat, at0 = k := ⟨at0.toNat, by omega⟩
      have e : s.spoilE (i : Int) (k : Int) = 0 := by simp [St.spoilE, hh]; omega
      rw [e]
      cases hC : s.C (i : Int) with
      | none =>
        rw [show s.spoil (i : Int) (k : Int) y = s.lay (i : Int) (turn ((s.L (i : Int)).getD zeros) k y) by simp [St.spoil, e, hC]]
        exact rspoil_last w rb lb cb ib s i k y _ h (by omega) (by omega) hC rfl
      | some l =>
        rw [show s.spoil (i : Int) (k : Int) y = { s with C := upd s.C (i : Int) (some (turn l k y)) } by simp [St.spoil, e, hC]]
        exact rspoil_cache w rb lb cb ib s i k y l h (by omega) (by omega) hC
    · have e : s.spoilE (i : Int) at0 = 1 := by simp only [St.spoilE, hh, if_true]; rw [if_neg hm]
      rw [e, show s.spoil (i : Int) at0 y = s by simp [St.spoil, e]]
      refine (rspoil_at w rb lb cb ib s i at0 y h (by omega) hm).mono ?_
      rintro e w' ⟨rfl, rfl⟩
      exact ⟨rfl, h, Mod.refl _ _⟩
end Go.Proofs.Ytoldkhfnebjacaa.Disk
