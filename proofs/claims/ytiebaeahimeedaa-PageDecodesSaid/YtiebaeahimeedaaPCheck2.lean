/-
  Contract of page's Check.
-/
import Derived.Test.YtiebaeahimeedaaPLeaf
namespace Go.Proofs.Ytiebaeahimeedaa.Page
open Go.RowKit Gen

/-- A block's cells. -/
def At (w : World) (b : Nat) (C : Array Value) : Prop := b < w.heap.size ∧ (∀ j, w.frozen? ⟨b, j, none⟩ = false) ∧ ∀ j v, C[j]? = some v → w.cell? ⟨b, j, none⟩ = some v
theorem At.of_block {w : World} {b : Nat} {C : Array Value} {t : TypeId} (h : w.heap[b]? = some (.cells C t (0, 0))) : At w b C :=
  ⟨(Array.getElem?_eq_some_iff.1 h).1, fun j => frozen_of_row w b j C t h, fun j v hv => by rw [cell_of_row w b j C _ _ h]; exact hv⟩
theorem At.below {w w' : World} {b : Nat} {C : Array Value} {n : Nat} (h : At w b C) (hb : Below n w w') (hn : b < n) : At w' b C :=
  ⟨Nat.lt_of_lt_of_le h.1 hb.size, fun j => (hb.frozen (p := ⟨b, j, none⟩) hn).trans (h.2.1 j), fun j v hv => (hb.cell (p := ⟨b, j, none⟩) hn).trans (h.2.2 j v hv)⟩
theorem At.set {w : World} {b : Nat} {C : Array Value} (h : At w b C) (i : Nat) (v : Value) (hi : i < C.size) : At (w.setCell ⟨b, i, none⟩ v) b (C.setIfInBounds i v) := by
  have hc := h.2.2 i _ (Array.getElem?_eq_getElem hi)
  refine ⟨by simpa using h.1, fun j => ?_, fun j u hu => ?_⟩
  · rw [World.frozen?_setCell]; exact h.2.1 j
  · rw [Array.getElem?_setIfInBounds] at hu
    by_cases e : i = j
    · subst e
      rw [if_pos rfl, if_pos hi] at hu
      cases hu
      exact World.cell?_setCell_same _ _ _ hc
    · rw [if_neg e] at hu
      rw [World.cell?_setCell_other _ _ _ _ (by intro h; injection h; contradiction)]
      exact h.2.2 j u hu
theorem At.set_other {w : World} {b b' i : Nat} {C : Array Value} {v : Value} (h : At w b C) (hne : b' ≠ b) : At (w.setCell ⟨b', i, none⟩ v) b C :=
  ⟨by simpa using h.1, fun j => by rw [World.frozen?_setCell]; exact h.2.1 j, fun j u hu => by
    rw [World.cell?_setCell_other _ _ _ _ (by intro h; injection h; contradiction)]; exact h.2.2 j u hu⟩

def NoHead (p : Pg) : Prop := p.epoch = 0 ∧ p.root = 0 ∧ p.depth = 0 ∧ p.count = 0 ∧ p.high = 0
/-- A page that may be. -/
def Fine (p : Pg) : Prop :=
  (p.kind = 1 ∧ LeafOk p ∧ p.keys.length = 0 ∧ p.kids.length = 0 ∧ p.pages.length = 0 ∧ p.next = 0 ∧ NoHead p) ∨
  (p.kind = 2 ∧ BranchOk p ∧ p.pairs.length = 0 ∧ p.pages.length = 0 ∧ p.next = 0 ∧ NoHead p) ∨
  (p.kind = 3 ∧ FreeOk p ∧ p.pairs.length = 0 ∧ p.keys.length = 0 ∧ p.kids.length = 0 ∧ NoHead p) ∨
  (p.kind = 4 ∧ SuperOk p ∧ p.pairs.length = 0 ∧ p.keys.length = 0 ∧ p.kids.length = 0 ∧ p.pages.length = 0)
/-- Its answer. -/
def Checks (p : Pg) (w : World) (e : Ending) (w' : World) : Prop := ∃ x : Int, e = .returned (numV x) ∧ (x = 0 ∧ Fine p ∨ x = 50 ∧ ¬ Fine p) ∧ Below w.heap.size w w'
theorem fine1 {p : Pg} (h : p.kind = 1) : Fine p ↔ LeafOk p ∧ p.keys.length = 0 ∧ p.kids.length = 0 ∧ p.pages.length = 0 ∧ p.next = 0 ∧ NoHead p := by unfold Fine; rw [h]; simp
theorem fine2 {p : Pg} (h : p.kind = 2) : Fine p ↔ BranchOk p ∧ p.pairs.length = 0 ∧ p.pages.length = 0 ∧ p.next = 0 ∧ NoHead p := by unfold Fine; rw [h]; simp
theorem fine3 {p : Pg} (h : p.kind = 3) : Fine p ↔ FreeOk p ∧ p.pairs.length = 0 ∧ p.keys.length = 0 ∧ p.kids.length = 0 ∧ NoHead p := by unfold Fine; rw [h]; simp
theorem fine4 {p : Pg} (h : p.kind = 4) : Fine p ↔ SuperOk p ∧ p.pairs.length = 0 ∧ p.keys.length = 0 ∧ p.kids.length = 0 ∧ p.pages.length = 0 := by unfold Fine; rw [h]; simp


set_option maxRecDepth 100000 in
theorem check1 (p : Pg) (a : Lay) (w : World) (hk : p.kind = 1) (hR : PgRows w p a) : Calls Try.prog 14 #[pgV p a] w (Checks p w) := by
  have k1 : (p.kind == 1) = true := by rw [hk]; rfl
  have k2 : (p.kind == 2) = false := by rw [hk]; rfl
  have k3 : (p.kind == 3) = false := by rw [hk]; rfl
  have k4 : (p.kind == 4) = false := by rw [hk]; rfl
  have HF := Lib.hid (fine1 hk)
  have B1 : Below w.heap.size w (w.alloc (.cells (pgC p a) 28)) := (Below.refl _ _).alloc (Nat.le_refl _) _
  have B2 : Below w.heap.size w ((w.alloc (.cells (pgC p a) 28)).alloc (.cells (pgC p a) 28)) := B1.alloc B1.size _
  have HRR := hR.below B2
  have hat : At ((w.alloc (.cells (pgC p a) 28)).alloc (.cells (pgC p a) 28)) (w.heap.size + 1) (pgC p a) := At.of_block (by
    have := heap_alloc_last (w.alloc (.cells (pgC p a) 28)) (.cells (pgC p a) 28)
    rw [show (w.alloc (.cells (pgC p a) 28)).heap.size = w.heap.size + 1 by simp] at this
    exact this)
  have hsz : w.heap.size + 1 < ((w.alloc (.cells (pgC p a) 28)).alloc (.cells (pgC p a) 28)).heap.size := by simp
  have cL := leaf_any p a _ HRR.r1
  clear hk hR B1 HRR
  have HAT := Lib.hid hat
  have HB2 := Lib.hid B2
  have HSZ := Lib.hid hsz
  clear hat B2 hsz
  unfold pgV pgC at *
  go_enter Try.func14, Try.ntmps14
  go_wp2_with fail
  refine cL.mono ?_
  rintro e w1 ⟨r, rfl, h1, b1⟩
  have B3 := HB2.out.trans (b1.mono HB2.out.size)
  have a0 := HAT.out.below b1 HSZ.out
  have a1 := a0.set 1 (.slice none 0 0) (by simp)
  have s0 := a0.2.2 1 _ rfl
  have f0 := a0.2.1 1
  have c0 := a1.2.2 0 _ rfl
  have c1 := a1.2.2 1 _ rfl
  have c2 := a1.2.2 2 _ rfl
  have c3 := a1.2.2 3 _ rfl
  have c4 := a1.2.2 4 _ rfl
  have c5 := a1.2.2 5 _ rfl
  have c6 := a1.2.2 6 _ rfl
  have c7 := a1.2.2 7 _ rfl
  have c8 := a1.2.2 8 _ rfl
  have c9 := a1.2.2 9 _ rfl
  have c10 := a1.2.2 10 _ rfl
  have H1 := Lib.hid h1
  have HB3 := Lib.hid B3
  clear a0 a1 b1 B3 h1 cL HAT HB2 HSZ
  have HB4 : Hid (Below w.heap.size w ((w1.setCell ⟨w.heap.size + 1, 1, none⟩ (.slice none 0 0)))) := Lib.hid ((HB3.out.setCell (p := ⟨w.heap.size + 1, 1, none⟩) (Nat.le_succ _) (.slice none 0 0)))
  rcases r with _ | _
  · go_wp2_with fail
    go_ret
    exact ⟨_, rfl, .inr ⟨rfl, fun h => by cases (H1.out.2 (HF.out.1 h).1)⟩, HB4.out⟩
  go_wp2_with fail
  refine (bare_raw _ _ _ _ _ _ _ _ _ _ _ _ _ _ _ _ _ _ _ _).mono ?_
  rintro e w2 ⟨r, rfl, h2, b2⟩
  have HB5 := Lib.hid (HB4.out.trans (b2.mono HB4.out.size))
  have H2 := Lib.hid h2
  clear h2 b2 c0 c1 c2 c3 c4 c5 c6 c7 c8 c9 c10
  rcases r with _ | _
  · go_wp2_with fail
    go_ret
    exact ⟨_, rfl, .inr ⟨rfl, fun h => by
      have g := (HF.out.1 h).2
      cases (H2.out.2 (by simpa [NoHead] using g))⟩, HB5.out⟩
  go_wp2_with fail
  go_ret
  exact ⟨_, rfl, .inl ⟨rfl, HF.out.2 ⟨H1.out.1 trivial, by simpa [NoHead] using H2.out.1 trivial⟩⟩, HB5.out⟩

set_option maxRecDepth 100000 in
theorem check2 (p : Pg) (a : Lay) (w : World) (hk : p.kind = 2) (hok : PgOk p) (hR : PgRows w p a) : Calls Try.prog 14 #[pgV p a] w (Checks p w) := by
  have k1 : (p.kind == 1) = false := by rw [hk]; rfl
  have k2 : (p.kind == 2) = true := by rw [hk]; rfl
  have k3 : (p.kind == 3) = false := by rw [hk]; rfl
  have k4 : (p.kind == 4) = false := by rw [hk]; rfl
  have HF := Lib.hid (fine2 hk)
  have B1 : Below w.heap.size w (w.alloc (.cells (pgC p a) 28)) := (Below.refl _ _).alloc (Nat.le_refl _) _
  have B2 : Below w.heap.size w ((w.alloc (.cells (pgC p a) 28)).alloc (.cells (pgC p a) 28)) := B1.alloc B1.size _
  have HRR := hR.below B2
  have hat : At ((w.alloc (.cells (pgC p a) 28)).alloc (.cells (pgC p a) 28)) (w.heap.size + 1) (pgC p a) := At.of_block (by
    have := heap_alloc_last (w.alloc (.cells (pgC p a) 28)) (.cells (pgC p a) 28)
    rw [show (w.alloc (.cells (pgC p a) 28)).heap.size = w.heap.size + 1 by simp] at this
    exact this)
  have hsz : w.heap.size + 1 < ((w.alloc (.cells (pgC p a) 28)).alloc (.cells (pgC p a) 28)).heap.size := by simp
  have cL := branch_any p a _ hok HRR.r2 HRR.r3
  clear hk hR hok B1 HRR
  have HAT := Lib.hid hat
  have HB2 := Lib.hid B2
  have HSZ := Lib.hid hsz
  clear hat B2 hsz
  unfold pgV pgC at *
  go_enter Try.func14, Try.ntmps14
  go_wp2_with fail
  refine cL.mono ?_
  rintro e w1 ⟨r, rfl, h1, b1⟩
  have B3 := HB2.out.trans (b1.mono HB2.out.size)
  have a0 := HAT.out.below b1 HSZ.out
  have a1 := a0.set 2 (.slice none 0 0) (by simp)
  have a2 := a1.set 3 (.slice none 0 0) (by simp)
  have s0 := a0.2.2 2 _ rfl
  have f0 := a0.2.1 2
  have s1 := a1.2.2 3 _ rfl
  have f1 := a1.2.1 3
  have c0 := a2.2.2 0 _ rfl
  have c1 := a2.2.2 1 _ rfl
  have c2 := a2.2.2 2 _ rfl
  have c3 := a2.2.2 3 _ rfl
  have c4 := a2.2.2 4 _ rfl
  have c5 := a2.2.2 5 _ rfl
  have c6 := a2.2.2 6 _ rfl
  have c7 := a2.2.2 7 _ rfl
  have c8 := a2.2.2 8 _ rfl
  have c9 := a2.2.2 9 _ rfl
  have c10 := a2.2.2 10 _ rfl
  have H1 := Lib.hid h1
  have HB3 := Lib.hid B3
  clear a0 a1 a2 b1 B3 h1 cL HAT HB2 HSZ
  have HB4 : Hid (Below w.heap.size w (((w1.setCell ⟨w.heap.size + 1, 2, none⟩ (.slice none 0 0)).setCell ⟨w.heap.size + 1, 3, none⟩ (.slice none 0 0)))) := Lib.hid (((HB3.out.setCell (p := ⟨w.heap.size + 1, 2, none⟩) (Nat.le_succ _) (.slice none 0 0)).setCell (p := ⟨w.heap.size + 1, 3, none⟩) (Nat.le_succ _) (.slice none 0 0)))
  rcases r with _ | _
  · go_wp2_with fail
    go_ret
    exact ⟨_, rfl, .inr ⟨rfl, fun h => by cases (H1.out.2 (HF.out.1 h).1)⟩, HB4.out⟩
  go_wp2_with fail
  refine (bare_raw _ _ _ _ _ _ _ _ _ _ _ _ _ _ _ _ _ _ _ _).mono ?_
  rintro e w2 ⟨r, rfl, h2, b2⟩
  have HB5 := Lib.hid (HB4.out.trans (b2.mono HB4.out.size))
  have H2 := Lib.hid h2
  clear h2 b2 c0 c1 c2 c3 c4 c5 c6 c7 c8 c9 c10
  rcases r with _ | _
  · go_wp2_with fail
    go_ret
    exact ⟨_, rfl, .inr ⟨rfl, fun h => by
      have g := (HF.out.1 h).2
      cases (H2.out.2 (by simpa [NoHead] using g))⟩, HB5.out⟩
  go_wp2_with fail
  go_ret
  exact ⟨_, rfl, .inl ⟨rfl, HF.out.2 ⟨H1.out.1 trivial, by simpa [NoHead] using H2.out.1 trivial⟩⟩, HB5.out⟩

set_option maxRecDepth 100000 in
theorem check3 (p : Pg) (a : Lay) (w : World) (hk : p.kind = 3) (hok : PgOk p) (hR : PgRows w p a) : Calls Try.prog 14 #[pgV p a] w (Checks p w) := by
  have k1 : (p.kind == 1) = false := by rw [hk]; rfl
  have k2 : (p.kind == 2) = false := by rw [hk]; rfl
  have k3 : (p.kind == 3) = true := by rw [hk]; rfl
  have k4 : (p.kind == 4) = false := by rw [hk]; rfl
  have HF := Lib.hid (fine3 hk)
  have B1 : Below w.heap.size w (w.alloc (.cells (pgC p a) 28)) := (Below.refl _ _).alloc (Nat.le_refl _) _
  have B2 : Below w.heap.size w ((w.alloc (.cells (pgC p a) 28)).alloc (.cells (pgC p a) 28)) := B1.alloc B1.size _
  have HRR := hR.below B2
  have hat : At ((w.alloc (.cells (pgC p a) 28)).alloc (.cells (pgC p a) 28)) (w.heap.size + 1) (pgC p a) := At.of_block (by
    have := heap_alloc_last (w.alloc (.cells (pgC p a) 28)) (.cells (pgC p a) 28)
    rw [show (w.alloc (.cells (pgC p a) 28)).heap.size = w.heap.size + 1 by simp] at this
    exact this)
  have hsz : w.heap.size + 1 < ((w.alloc (.cells (pgC p a) 28)).alloc (.cells (pgC p a) 28)).heap.size := by simp
  have cL := free_any p a _ hok HRR.r4
  clear hk hR hok B1 HRR
  have HAT := Lib.hid hat
  have HB2 := Lib.hid B2
  have HSZ := Lib.hid hsz
  clear hat B2 hsz
  unfold pgV pgC at *
  go_enter Try.func14, Try.ntmps14
  go_wp2_with fail
  refine cL.mono ?_
  rintro e w1 ⟨r, rfl, h1, b1⟩
  have B3 := HB2.out.trans (b1.mono HB2.out.size)
  have a0 := HAT.out.below b1 HSZ.out
  have a1 := a0.set 4 (.slice none 0 0) (by simp)
  have a2 := a1.set 5 (.int .i64 0) (by simp)
  have s0 := a0.2.2 4 _ rfl
  have f0 := a0.2.1 4
  have s1 := a1.2.2 5 _ rfl
  have f1 := a1.2.1 5
  have c0 := a2.2.2 0 _ rfl
  have c1 := a2.2.2 1 _ rfl
  have c2 := a2.2.2 2 _ rfl
  have c3 := a2.2.2 3 _ rfl
  have c4 := a2.2.2 4 _ rfl
  have c5 := a2.2.2 5 _ rfl
  have c6 := a2.2.2 6 _ rfl
  have c7 := a2.2.2 7 _ rfl
  have c8 := a2.2.2 8 _ rfl
  have c9 := a2.2.2 9 _ rfl
  have c10 := a2.2.2 10 _ rfl
  have H1 := Lib.hid h1
  have HB3 := Lib.hid B3
  clear a0 a1 a2 b1 B3 h1 cL HAT HB2 HSZ
  have HB4 : Hid (Below w.heap.size w (((w1.setCell ⟨w.heap.size + 1, 4, none⟩ (.slice none 0 0)).setCell ⟨w.heap.size + 1, 5, none⟩ (.int .i64 0)))) := Lib.hid (((HB3.out.setCell (p := ⟨w.heap.size + 1, 4, none⟩) (Nat.le_succ _) (.slice none 0 0)).setCell (p := ⟨w.heap.size + 1, 5, none⟩) (Nat.le_succ _) (.int .i64 0)))
  rcases r with _ | _
  · go_wp2_with fail
    go_ret
    exact ⟨_, rfl, .inr ⟨rfl, fun h => by cases (H1.out.2 (HF.out.1 h).1)⟩, HB4.out⟩
  go_wp2_with fail
  refine (bare_raw _ _ _ _ _ _ _ _ _ _ _ _ _ _ _ _ _ _ _ _).mono ?_
  rintro e w2 ⟨r, rfl, h2, b2⟩
  have HB5 := Lib.hid (HB4.out.trans (b2.mono HB4.out.size))
  have H2 := Lib.hid h2
  clear h2 b2 c0 c1 c2 c3 c4 c5 c6 c7 c8 c9 c10
  rcases r with _ | _
  · go_wp2_with fail
    go_ret
    exact ⟨_, rfl, .inr ⟨rfl, fun h => by
      have g := (HF.out.1 h).2
      cases (H2.out.2 (by simpa [NoHead] using g))⟩, HB5.out⟩
  go_wp2_with fail
  go_ret
  exact ⟨_, rfl, .inl ⟨rfl, HF.out.2 ⟨H1.out.1 trivial, by simpa [NoHead] using H2.out.1 trivial⟩⟩, HB5.out⟩

set_option maxRecDepth 100000 in
theorem check4 (p : Pg) (a : Lay) (w : World) (hk : p.kind = 4) : Calls Try.prog 14 #[pgV p a] w (Checks p w) := by
  have k1 : (p.kind == 1) = false := by rw [hk]; rfl
  have k2 : (p.kind == 2) = false := by rw [hk]; rfl
  have k3 : (p.kind == 3) = false := by rw [hk]; rfl
  have k4 : (p.kind == 4) = true := by rw [hk]; rfl
  have HF := Lib.hid (fine4 hk)
  obtain ⟨C, hC⟩ : ∃ C, rawC p.kind a.A1 p.pairs.length a.c1 a.A2 p.keys.length a.c2 a.A3 p.kids.length a.c3 a.A4 p.pages.length a.c4 0 0 0 0 0 0 = C := ⟨_, rfl⟩
  have B1 : Below w.heap.size w (w.alloc (.cells (pgC p a) 28)) := (Below.refl _ _).alloc (Nat.le_refl _) _
  have B2 : Below w.heap.size w ((w.alloc (.cells (pgC p a) 28)).alloc (.cells C 28)) := B1.alloc B1.size _
  have hat : At ((w.alloc (.cells (pgC p a) 28)).alloc (.cells C 28)) (w.heap.size + 1) C := At.of_block (by
    have := heap_alloc_last (w.alloc (.cells (pgC p a) 28)) (.cells C 28)
    rw [show (w.alloc (.cells (pgC p a) 28)).heap.size = w.heap.size + 1 by simp] at this
    exact this)
  have hsz : w.heap.size + 1 < ((w.alloc (.cells (pgC p a) 28)).alloc (.cells C 28)).heap.size := by simp
  subst hC
  have cL := super_any p a
  clear hk B1
  have HAT := Lib.hid hat
  have HB2 := Lib.hid B2
  have HSZ := Lib.hid hsz
  clear hat B2 hsz
  unfold pgV pgC at *
  go_enter Try.func14, Try.ntmps14
  go_wp2_with fail
  refine (cL _).mono ?_
  rintro e w1 ⟨r, rfl, h1, b1⟩
  have B3 := HB2.out.trans (b1.mono HB2.out.size)
  have a0 := HAT.out.below b1 HSZ.out
  have c0 := a0.2.2 0 _ rfl
  have c1 := a0.2.2 1 _ rfl
  have c2 := a0.2.2 2 _ rfl
  have c3 := a0.2.2 3 _ rfl
  have c4 := a0.2.2 4 _ rfl
  have c5 := a0.2.2 5 _ rfl
  have c6 := a0.2.2 6 _ rfl
  have c7 := a0.2.2 7 _ rfl
  have c8 := a0.2.2 8 _ rfl
  have c9 := a0.2.2 9 _ rfl
  have c10 := a0.2.2 10 _ rfl
  have H1 := Lib.hid h1
  have HB4 := Lib.hid B3
  clear a0 b1 B3 h1 cL HAT HB2 HSZ
  rcases r with _ | _
  · go_wp2_with fail
    go_ret
    exact ⟨_, rfl, .inr ⟨rfl, fun h => by cases (H1.out.2 (HF.out.1 h).1)⟩, HB4.out⟩
  go_wp2_with fail
  refine (bare_raw p.kind _ _ _ _ _ _ _ _ _ _ _ _ 0 0 0 0 0 0 _).mono ?_
  rintro e w2 ⟨r, rfl, h2, b2⟩
  have HB5 := Lib.hid (HB4.out.trans (b2.mono HB4.out.size))
  have H2 := Lib.hid h2
  clear h2 b2 c0 c1 c2 c3 c4 c5 c6 c7 c8 c9 c10
  rcases r with _ | _
  · go_wp2_with fail
    go_ret
    exact ⟨_, rfl, .inr ⟨rfl, fun h => by
      have g := (HF.out.1 h).2
      cases (H2.out.2 (by simpa using g))⟩, HB5.out⟩
  go_wp2_with fail
  go_ret
  exact ⟨_, rfl, .inl ⟨rfl, HF.out.2 ⟨H1.out.1 trivial, by simpa using H2.out.1 trivial⟩⟩, HB5.out⟩
theorem check0 (p : Pg) (a : Lay) (w : World) (h1 : p.kind ≠ 1) (h2 : p.kind ≠ 2) (h3 : p.kind ≠ 3) (h4 : p.kind ≠ 4) : Calls Try.prog 14 #[pgV p a] w (Checks p w) := by
  have k1 : (p.kind == 1) = false := beq_eq_false_iff_ne.2 h1
  have k2 : (p.kind == 2) = false := beq_eq_false_iff_ne.2 h2
  have k3 : (p.kind == 3) = false := beq_eq_false_iff_ne.2 h3
  have k4 : (p.kind == 4) = false := beq_eq_false_iff_ne.2 h4
  have HF : Hid (¬ Fine p) := Lib.hid (by unfold Fine; simp [h1, h2, h3, h4])
  have B1 : Below w.heap.size w (w.alloc (.cells (pgC p a) 28)) := (Below.refl _ _).alloc (Nat.le_refl _) _
  have HB := Lib.hid (B1.alloc B1.size (.cells (pgC p a) 28))
  clear h1 h2 h3 h4 B1
  unfold pgV pgC at *
  go_enter Try.func14, Try.ntmps14
  go_wp2_with fail
  go_ret
  exact ⟨_, rfl, .inr ⟨rfl, HF.out⟩, HB.out⟩

theorem check_any (p : Pg) (a : Lay) (w : World) (hok : PgOk p) (hR : PgRows w p a) : Calls Try.prog 14 #[pgV p a] w (Checks p w) := by
  by_cases h1 : p.kind = 1
  · exact check1 p a w h1 hR
  by_cases h2 : p.kind = 2
  · exact check2 p a w h2 hok hR
  by_cases h3 : p.kind = 3
  · exact check3 p a w h3 hok hR
  by_cases h4 : p.kind = 4
  · exact check4 p a w h4
  exact check0 p a w h1 h2 h3 h4
end Go.Proofs.Ytiebaeahimeedaa.Page
