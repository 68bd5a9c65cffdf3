/-
  The document's own device, as it lies in memory.
-/
import Derived.Test.YtoldkhfnebjacaaDLastsFacts
import Derived.Test.YtoldkhfnebjacaaDZeros
import Derived.Deep.OwnRows
namespace Go.Proofs.Ytoldkhfnebjacaa.Disk
open Go.RowKit Go.Maps Gen

abbrev hdr (b n : Nat) : Value := .slice (some ⟨b, 0, none⟩) n n
abbrev refC (lb cb ib n : Nat) (off fused : Bool) (left : Int) : Array Value := #[hdr lb n, hdr cb n, hdr ib n, .bool off, .bool fused, .int .i64 left]
/-- A row of rows of bytes. -/
def SlRow (w : World) (b n : Nat) (f : Nat → Option Bs) : Prop :=
  ∃ cur, w.heap[b]? = some (.cells cur 32 (0, 0)) ∧ cur.size = n ∧ ∀ i, i < n → ∃ A k c, cur[i]? = some (.slice A k c) ∧ ∀ l, f i = some l → l.length = 1024 ∧ k = 1024 ∧ 1024 ≤ c ∧ c ≤ maxLen ∧ BRow w A l
/-- A row of bools. -/
def IsRow (w : World) (b n : Nat) (g : Nat → Bool) : Prop := ∃ cur, w.heap[b]? = some (.cells cur 4 (0, 0)) ∧ cur.size = n ∧ ∀ i, i < n → cur[i]? = some (.bool (g i))
/-- No byte lies in block b. -/
def NoByte (w : World) (b : Nat) : Prop := ∀ off v, w.cell? ⟨b, off, none⟩ = some v → ∀ n, v ≠ .int .u8 n
theorem NoByte.ne {w : World} {b : Nat} (h : NoByte w b) {A : Option Addr} {l : Bs} (hR : BRow w A l) (hne : l ≠ []) : ∀ a, A = some a → a.block ≠ b := fun a ha e => by
  obtain ⟨b', off, e', _, hc⟩ := hR hne
  rw [ha] at e'
  cases e'
  subst e
  exact h _ _ (hc 0 (List.length_pos_iff.2 hne)) _ rfl
theorem len_ne {l : Bs} (h : l.length = 1024) : l ≠ [] := fun e => by rw [e] at h; simp at h
theorem SlRow.lt {w : World} {b n : Nat} {f : Nat → Option Bs} (h : SlRow w b n f) : b < w.heap.size := by
  obtain ⟨cur, hh, _⟩ := h
  exact (Array.getElem?_eq_some_iff.1 hh).1
theorem IsRow.lt {w : World} {b n : Nat} {g : Nat → Bool} (h : IsRow w b n g) : b < w.heap.size := by
  obtain ⟨cur, hh, _⟩ := h
  exact (Array.getElem?_eq_some_iff.1 hh).1
theorem SlRow.noByte {w : World} {b n : Nat} {f : Nat → Option Bs} (h : SlRow w b n f) : NoByte w b := fun off v hv m e => by
  obtain ⟨cur, hh, hs, hc⟩ := h
  rw [cell_of_row w b off _ _ _ hh] at hv
  have : off < cur.size := (Array.getElem?_eq_some_iff.1 hv).1
  obtain ⟨A, k, c, h1, _⟩ := hc off (by omega)
  rw [hv, e] at h1
  cases h1
theorem IsRow.noByte {w : World} {b n : Nat} {g : Nat → Bool} (h : IsRow w b n g) : NoByte w b := fun off v hv m e => by
  obtain ⟨cur, hh, hs, hc⟩ := h
  rw [cell_of_row w b off _ _ _ hh] at hv
  have : off < cur.size := (Array.getElem?_eq_some_iff.1 hv).1
  have h1 := hc off (by omega)
  rw [hv, e] at h1
  cases h1
theorem SlRow.kept {w w' : World} {b n : Nat} {f : Nat → Option Bs} {S : List Nat} (h : SlRow w b n f) (m : Mod S w w') (hb : b ∉ S) (ha : ∀ A l, BRow w A l → l ≠ [] → ∀ a, A = some a → a.block ∉ S) : SlRow w' b n f := by
  have hlt := h.lt
  obtain ⟨cur, hh, hs, hc⟩ := h
  refine ⟨cur, (m.block b hlt hb).trans hh, hs, fun i hi => ?_⟩
  obtain ⟨A, k, c, h1, h2⟩ := hc i hi
  refine ⟨A, k, c, h1, fun l hl => ?_⟩
  obtain ⟨g1, g2, g3, g4, g5⟩ := h2 l hl
  exact ⟨g1, g2, g3, g4, g5.mod m (fun hne a e => ha A l g5 hne a e)⟩
theorem SlRow.below {w w' : World} {b n : Nat} {f : Nat → Option Bs} (h : SlRow w b n f) (m : Below w.heap.size w w') : SlRow w' b n f := h.kept (Mod.of_below [] m) (by simp) (fun _ _ _ _ _ _ => by simp)
theorem IsRow.kept {w w' : World} {b n : Nat} {g : Nat → Bool} {S : List Nat} (h : IsRow w b n g) (m : Mod S w w') (hb : b ∉ S) : IsRow w' b n g := by
  have hlt := h.lt
  obtain ⟨cur, hh, hs, hc⟩ := h
  exact ⟨cur, (m.block b hlt hb).trans hh, hs, hc⟩
theorem SlRow.congr {w : World} {b n : Nat} {f g : Nat → Option Bs} (h : SlRow w b n f) (e : ∀ i, i < n → ∀ l, g i = some l → f i = some l) : SlRow w b n g := by
  obtain ⟨cur, hh, hs, hc⟩ := h
  refine ⟨cur, hh, hs, fun i hi => ?_⟩
  obtain ⟨A, k, c, h1, h2⟩ := hc i hi
  exact ⟨A, k, c, h1, fun l hl => h2 l (e i hi l hl)⟩
theorem IsRow.congr {w : World} {b n : Nat} {f g : Nat → Bool} (h : IsRow w b n f) (e : ∀ i, i < n → f i = g i) : IsRow w b n g := by
  obtain ⟨cur, hh, hs, hc⟩ := h
  exact ⟨cur, hh, hs, fun i hi => by rw [← e i hi]; exact hc i hi⟩
theorem SlRow.at_ {w : World} {b n : Nat} {f : Nat → Option Bs} (h : SlRow w b n f) {i : Nat} (hi : i < n) {l : Bs} (hl : f i = some l) : ∃ A c, w.cell? ⟨b, i, none⟩ = some (.slice A 1024 c) ∧ w.frozen? ⟨b, i, none⟩ = false ∧ l.length = 1024 ∧ 1024 ≤ c ∧ c ≤ maxLen ∧ BRow w A l := by
  obtain ⟨cur, hh, hs, hc⟩ := h
  obtain ⟨A, k, c, h1, h2⟩ := hc i hi
  obtain ⟨g1, rfl, g3, g4, g5⟩ := h2 l hl
  exact ⟨A, c, (cell_of_row w b i _ _ _ hh).trans h1, frozen_of_row _ _ _ _ _ hh, g1, g3, g4, g5⟩
theorem SlRow.any {w : World} {b n : Nat} {f : Nat → Option Bs} (h : SlRow w b n f) {i : Nat} (hi : i < n) : ∃ v, w.cell? ⟨b, i, none⟩ = some v ∧ w.frozen? ⟨b, i, none⟩ = false := by
  obtain ⟨cur, hh, hs, hc⟩ := h
  obtain ⟨A, k, c, h1, h2⟩ := hc i hi
  exact ⟨_, (cell_of_row w b i _ _ _ hh).trans h1, frozen_of_row _ _ _ _ _ hh⟩
theorem IsRow.at_ {w : World} {b n : Nat} {g : Nat → Bool} (h : IsRow w b n g) {i : Nat} (hi : i < n) : w.cell? ⟨b, i, none⟩ = some (.bool (g i)) ∧ w.frozen? ⟨b, i, none⟩ = false := by
  obtain ⟨cur, hh, hs, hc⟩ := h
  exact ⟨(cell_of_row w b i _ _ _ hh).trans (hc i hi), frozen_of_row _ _ _ _ _ hh⟩
theorem mod_set (w : World) (b i : Nat) (v : Value) : Mod [b] w (w.setCell ⟨b, i, none⟩ v) := (Mod.refl _ w).setCell _ _ (.inl (by simp))
/-- A row is laid into it. -/
theorem SlRow.set {w : World} {b n : Nat} {f : Nat → Option Bs} (h : SlRow w b n f) {i : Nat} (hi : i < n) {A : Option Addr} {c : Nat} {l : Bs} (hl : l.length = 1024) (hc0 : 1024 ≤ c) (hc1 : c ≤ maxLen) (hR : BRow w A l) :
    SlRow (w.setCell ⟨b, i, none⟩ (.slice A 1024 c)) b n (fun j => if j = i then some l else f j) := by
  have hnb := h.noByte
  obtain ⟨cur, hh, hs, hc⟩ := h
  refine ⟨cur.setIfInBounds i (.slice A 1024 c), ?_, by simp [hs], fun j hj => ?_⟩
  · rw [heap_setCell_same w b i cur 32 _ hh]
  · have hk : ∀ A' l', BRow w A' l' → l' ≠ [] → BRow (w.setCell ⟨b, i, none⟩ (.slice A 1024 c)) A' l' := fun A' l' hR' hne' => hR'.mod (mod_set w b i _) (fun hne a e => by simp; exact hnb.ne hR' hne a e)
    by_cases e : j = i
    · subst e
      refine ⟨A, 1024, c, by simp [hs, hj], fun l' hl' => ?_⟩
      simp only [if_true, Option.some.injEq] at hl'
      subst hl'
      exact ⟨hl, rfl, hc0, hc1, hk _ _ hR (len_ne hl)⟩
    · obtain ⟨A', k', c', h1, h2⟩ := hc j hj
      refine ⟨A', k', c', by rw [Array.getElem?_setIfInBounds_ne (Ne.symm e)]; exact h1, fun l' hl' => ?_⟩
      simp only [if_neg e] at hl'
      obtain ⟨g1, g2, g3, g4, g5⟩ := h2 l' hl'
      exact ⟨g1, g2, g3, g4, hk _ _ g5 (len_ne g1)⟩
theorem IsRow.set {w : World} {b n : Nat} {g : Nat → Bool} (h : IsRow w b n g) (i : Nat) (x : Bool) : IsRow (w.setCell ⟨b, i, none⟩ (.bool x)) b n (fun j => if j = i then x else g j) := by
  obtain ⟨cur, hh, hs, hc⟩ := h
  refine ⟨cur.setIfInBounds i (.bool x), ?_, by simp [hs], fun j hj => ?_⟩
  · rw [heap_setCell_same w b i cur 4 _ hh]
  · by_cases e : j = i
    · subst e; simp [hs, hj]
    · rw [Array.getElem?_setIfInBounds_ne (Ne.symm e)]; simp only [if_neg e]; exact hc j hj
/-- The document's device lies in block rb, its rows in lb, cb and ib. -/
structure Ref (w : World) (rb lb cb ib : Nat) (s : St) : Prop where
  box : ∃ left, w.heap[rb]? = some (.cells (refC lb cb ib s.n s.off s.fused left) 64 (0, 0)) ∧ (s.fused = true → left = s.fuse)
  last : SlRow w lb s.n (fun i => some ((s.L (i : Int)).getD zeros))
  cache : SlRow w cb s.n (fun i => s.C (i : Int))
  is : IsRow w ib s.n (fun i => (s.C (i : Int)).isSome)
  ne : lb ≠ cb
  nle : s.n ≤ 4096
  nz : 0 < s.n
theorem Ref.cells {w : World} {rb lb cb ib : Nat} {s : St} (h : Ref w rb lb cb ib s) : ∃ left, w.cell? ⟨rb, 0, none⟩ = some (hdr lb s.n) ∧ w.cell? ⟨rb, 1, none⟩ = some (hdr cb s.n) ∧ w.cell? ⟨rb, 2, none⟩ = some (hdr ib s.n) ∧
    w.cell? ⟨rb, 3, none⟩ = some (.bool s.off) ∧ w.cell? ⟨rb, 4, none⟩ = some (.bool s.fused) ∧ w.cell? ⟨rb, 5, none⟩ = some (.int .i64 left) ∧ (s.fused = true → left = s.fuse) := by
  obtain ⟨left, hb, hf⟩ := h.box
  have hc := fun j => cell_of_row w rb j _ _ _ hb
  exact ⟨left, hc 0, hc 1, hc 2, hc 3, hc 4, hc 5, hf⟩
theorem Ref.free {w : World} {rb lb cb ib : Nat} {s : St} (h : Ref w rb lb cb ib s) (j : Nat) : w.frozen? ⟨rb, j, none⟩ = false := by
  obtain ⟨left, hb, _⟩ := h.box
  exact frozen_of_row _ _ _ _ _ hb
theorem Ref.lt {w : World} {rb lb cb ib : Nat} {s : St} (h : Ref w rb lb cb ib s) : rb < w.heap.size := by
  obtain ⟨left, hb, _⟩ := h.box
  exact (Array.getElem?_eq_some_iff.1 hb).1
theorem Ref.nes {w : World} {rb lb cb ib : Nat} {s : St} (h : Ref w rb lb cb ib s) : rb ≠ lb ∧ rb ≠ cb ∧ rb ≠ ib ∧ lb ≠ ib ∧ cb ≠ ib := by
  obtain ⟨left, hb, _⟩ := h.box
  obtain ⟨c1, h1, _⟩ := h.last
  obtain ⟨c2, h2, _⟩ := h.cache
  obtain ⟨c3, h3, _⟩ := h.is
  refine ⟨fun e => ?_, fun e => ?_, fun e => ?_, fun e => ?_, fun e => ?_⟩
  · rw [e, h1] at hb; cases hb
  · rw [e, h2] at hb; cases hb
  · rw [e, h3] at hb; cases hb
  · rw [e, h3] at h1; cases h1
  · rw [e, h3] at h2; cases h2
theorem Ref.noByte {w : World} {rb lb cb ib : Nat} {s : St} (h : Ref w rb lb cb ib s) : NoByte w rb := fun off v hv n e => by
  obtain ⟨left, hb, _⟩ := h.box
  rw [cell_of_row w rb off _ _ _ hb] at hv
  subst e
  match off, hv with
  | 0, hv => cases hv
  | 1, hv => cases hv
  | 2, hv => cases hv
  | 3, hv => cases hv
  | 4, hv => cases hv
  | 5, hv => cases hv
  | k + 6, hv => simp at hv
/-- Bytes lie apart from it. -/
theorem Ref.apart {w : World} {rb lb cb ib : Nat} {s : St} (h : Ref w rb lb cb ib s) {A : Option Addr} {l : Bs} (hR : BRow w A l) (hne : l ≠ []) : ∀ a, A = some a → a.block ∉ [rb, lb, cb, ib] := fun a ha => by
  have h1 := h.noByte.ne hR hne a ha
  have h2 := h.last.noByte.ne hR hne a ha
  have h3 := h.cache.noByte.ne hR hne a ha
  have h4 := h.is.noByte.ne hR hne a ha
  simp [h1, h2, h3, h4]
/-- It stays what it is while other blocks change. -/
theorem Ref.kept {w w' : World} {rb lb cb ib : Nat} {s : St} {S : List Nat} (h : Ref w rb lb cb ib s) (m : Mod S w w') (hS : ∀ k ∈ [rb, lb, cb, ib], k ∉ S) (ha : ∀ A l, BRow w A l → l ≠ [] → ∀ a, A = some a → a.block ∉ S) : Ref w' rb lb cb ib s := by
  have hlt := h.lt
  obtain ⟨left, hb, hf⟩ := h.box
  exact ⟨⟨left, (m.block rb hlt (hS _ (by simp))).trans hb, hf⟩, h.last.kept m (hS _ (by simp)) ha, h.cache.kept m (hS _ (by simp)) ha, h.is.kept m (hS _ (by simp)), h.ne, h.nle, h.nz⟩
theorem Ref.below {w w' : World} {rb lb cb ib : Nat} {s : St} (h : Ref w rb lb cb ib s) (m : Below w.heap.size w w') : Ref w' rb lb cb ib s := h.kept (Mod.of_below [] m) (fun _ _ => by simp) (fun _ _ _ _ _ _ => by simp)
/-- The same in other words. -/
theorem Ref.congr {w : World} {rb lb cb ib : Nat} {s s' : St} (h : Ref w rb lb cb ib s) (hn : s'.n = s.n) (ho : s'.off = s.off) (hf : s'.fused = s.fused) (hu : s'.fused = true → s'.fuse = s.fuse) (hL : ∀ i : Nat, i < s.n → (s'.L (i : Int)).getD zeros = (s.L (i : Int)).getD zeros) (hC : ∀ i : Nat, i < s.n → s'.C (i : Int) = s.C (i : Int)) : Ref w rb lb cb ib s' := by
  obtain ⟨left, hb, he⟩ := h.box
  refine ⟨⟨left, by rw [hn, ho, hf]; exact hb, fun e => (he (by rw [← hf]; exact e)).trans (hu e).symm⟩, ?_, ?_, ?_, h.ne, by rw [hn]; exact h.nle, by rw [hn]; exact h.nz⟩
  · rw [hn]; exact h.last.congr (fun i hi l e => by rw [← hL i hi]; exact e)
  · rw [hn]; exact h.cache.congr (fun i hi l e => by rw [← hC i hi]; exact e)
  · rw [hn]; exact h.is.congr (fun i hi => by rw [hC i hi])
/-- One of its own cells is written. -/
theorem Ref.box_set {w : World} {rb lb cb ib : Nat} {s s' : St} (h : Ref w rb lb cb ib s) (i : Nat) (v : Value) (left : Int) (hn : s'.n = s.n) (hL : s'.L = s.L) (hC : s'.C = s.C)
    (hb : ∀ left0, w.heap[rb]? = some (.cells (refC lb cb ib s.n s.off s.fused left0) 64 (0, 0)) → (s.fused = true → left0 = s.fuse) → (refC lb cb ib s.n s.off s.fused left0).setIfInBounds i v = refC lb cb ib s'.n s'.off s'.fused left) (hf : s'.fused = true → left = s'.fuse) : Ref (w.setCell ⟨rb, i, none⟩ v) rb lb cb ib s' := by
  obtain ⟨left0, hbx, he⟩ := h.box
  obtain ⟨n1, n2, n3, n4, n5⟩ := h.nes
  have m := mod_set w rb i v
  have ha : ∀ A l, BRow w A l → l ≠ [] → ∀ a, A = some a → a.block ∉ [rb] := fun A l hR hne a e => by simp; exact h.noByte.ne hR hne a e
  refine ⟨⟨left, ?_, hf⟩, ?_, ?_, ?_, h.ne, by rw [hn]; exact h.nle, by rw [hn]; exact h.nz⟩
  · rw [heap_setCell_box hbx i v, hb left0 hbx he]
  · rw [hn, hL]; exact h.last.kept m (by simp; exact n1.symm) ha
  · rw [hn, hC]; exact h.cache.kept m (by simp; exact n2.symm) ha
  · rw [hn, hC]; exact h.is.kept m (by simp; exact n3.symm)
/-- A device that a call has made. -/
structure RefOn (w0 w : World) (rb lb cb ib : Nat) (s : St) : Prop where
  ref : Ref w rb lb cb ib s
  below : Below w0.heap.size w0 w
  b1 : w0.heap.size ≤ rb
  b2 : w0.heap.size ≤ lb
  b3 : w0.heap.size ≤ cb
  b4 : w0.heap.size ≤ ib
theorem RefOn.step {w0 w w' : World} {rb lb cb ib : Nat} {s s' : St} (h : RefOn w0 w rb lb cb ib s) (d : Ref w' rb lb cb ib s') (m : Mod [rb, lb, cb, ib] w w') : RefOn w0 w' rb lb cb ib s' :=
  ⟨d, h.below.trans (m.below h.below.size (fun k hk => by simp at hk; have := h.b1; have := h.b2; have := h.b3; have := h.b4; omega)), h.b1, h.b2, h.b3, h.b4⟩
theorem RefOn.grow {w0 w w' : World} {rb lb cb ib : Nat} {s : St} (h : RefOn w0 w rb lb cb ib s) (b : Below w.heap.size w w') : RefOn w0 w' rb lb cb ib s := ⟨h.ref.below b, h.below.trans (b.mono h.below.size), h.b1, h.b2, h.b3, h.b4⟩
theorem RefOn.new {w0 w : World} {rb lb cb ib : Nat} {s : St} (h : RefOn w0 w rb lb cb ib s) {k : Nat} (hk : w.heap.size ≤ k) : k ∉ [rb, lb, cb, ib] := by
  have h1 := h.ref.lt
  have h2 := h.ref.last.lt
  have h3 := h.ref.cache.lt
  have h4 := h.ref.is.lt
  simp
  omega
end Go.Proofs.Ytoldkhfnebjacaa.Disk
