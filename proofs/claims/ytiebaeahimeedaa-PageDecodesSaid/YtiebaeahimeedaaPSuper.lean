/-
  Contract of the reader's super.
-/
import Derived.Test.YtiebaeahimeedaaPRead2
namespace Go.Proofs.Ytiebaeahimeedaa.Page
open Go.RowKit Gen

/-- Its lists lie in blocks from n on. -/
structure New (a : Lay) (n : Nat) : Prop where
  n1 : ∀ x, a.A1 = some x → n ≤ x.block
  n2 : ∀ x, a.A2 = some x → n ≤ x.block
  n3 : ∀ x, a.A3 = some x → n ≤ x.block
  n4 : ∀ x, a.A4 = some x → n ≤ x.block
/-- A page that is read, or that reading is given up. -/
def PReads (r : Option (Pg × Bs)) (rb : Nat) (w : World) (e : Ending) (w' : World) : Prop :=
  w.grownBy w' (some rb) ∧ match r with
  | none => e = gaveUp
  | some (p, u) => ∃ a, e = .returned (pgV p a) ∧ PgRows w' p a ∧ PgOk p ∧ Rd w' rb u ∧ New a w.heap.size
theorem At.grown {w w' : World} {b rb : Nat} {C : Array Value} (h : At w b C) (g : w.grownBy w' (some rb)) (hne : b ≠ rb) : At w' b C :=
  ⟨Nat.lt_of_lt_of_le h.1 g.size, fun j => (World.frozen?_of_block (a := ⟨b, j, none⟩) (g.block b h.1 (by simpa using hne))).trans (h.2.1 j), fun j v hv => (World.cell?_of_block (a := ⟨b, j, none⟩) (g.block b h.1 (by simpa using hne))).trans (h.2.2 j v hv)⟩
theorem Rd.below {w w' : World} {rb : Nat} {u : Bs} (h : Rd w rb u) (hb : Below w.heap.size w w') : Rd w' rb u := by
  have hlt := h.lt
  obtain ⟨A, n, c, h1, h2, h3, h4⟩ := h
  exact ⟨A, n, c, (hb.cell (p := ⟨rb, 0, none⟩) hlt).trans h1, (hb.frozen (p := ⟨rb, 0, none⟩) hlt).trans h2, h3.below hb, h4⟩
theorem Rd.set_other {w : World} {rb b o : Nat} {u : Bs} {v : Value} (h : Rd w rb u) (hb : rb < b) : Rd (w.setCell ⟨b, o, none⟩ v) rb u := by
  obtain ⟨A, n, c, h1, h2, h3, h4⟩ := h
  exact ⟨A, n, c, by rw [World.cell?_setCell_other _ _ _ _ (by intro h; injection h; omega)]; exact h1, by rw [World.frozen?_setCell]; exact h2, h3.grown (grown_set _ _ _ _) (fun hne a e => by have := h4 a e hne; omega), h4⟩
theorem grown_new {w w' : World} {rb b o : Nat} {v : Value} (h : w.grownBy w' (some rb)) (hb : w.heap.size ≤ b) : w.grownBy (w'.setCell ⟨b, o, none⟩ v) (some rb) :=
  ⟨h.os, h.tape, h.output, by simpa using h.size, fun k hk hne => (Below.heap_setCell _ _ _ _ (by show k ≠ b; omega)).trans (h.block k hk hne)⟩
theorem grown_alloc {w w' : World} {rb : Nat} (h : w.grownBy w' (some rb)) (o : Obj) : w.grownBy (w'.alloc o) (some rb) := h.trans (World.grownBy_alloc _ _ _)
theorem preads_none {r : Option (Pg × Bs)} {rb : Nat} {w w' : World} (hr : r = none) (g : w.grownBy w' (some rb)) : PReads r rb w gaveUp w' := by
  subst hr; exact ⟨g, rfl⟩
theorem preads_some {r : Option (Pg × Bs)} {rb : Nat} {w w' : World} {p : Pg} {u : Bs} (a : Lay) (hr : r = some (p, u)) (g : w.grownBy w' (some rb)) (h1 : PgRows w' p a) (h2 : PgOk p) (h3 : Rd w' rb u) (h4 : New a w.heap.size) : PReads r rb w (.returned (pgV p a)) w' := by
  subst hr; exact ⟨g, a, rfl, h1, h2, h3, h4⟩
def rSuper (u : Bs) : Option (Pg × Bs) :=
  (rNum u).bind fun a => (rNum a.2).bind fun b => (rWide 4 b.2).bind fun c => (rNum c.2).bind fun d => (rNum d.2).map fun e =>
    ({ kind := 4, root := a.1, depth := b.1, count := (c.1 : Int), high := d.1, next := e.1 }, e.2)
theorem num_range {u v : Bs} {x : Int} (h : rNum u = some (x, v)) : 0 ≤ x ∧ x < 65536 := by
  unfold rNum at h
  rcases hr : rWide 2 u with _ | ⟨n, u2⟩
  · rw [hr] at h; cases h
  · rw [hr] at h
    have := (wide_lt hr (by omega)).1
    simp at h
    omega
abbrev pC (k : Int) : Array Value := pgC { kind := k } {}
/-- Once more, one by one: what a store into each of eleven cells leaves. -/
theorem made_two (w : World) (k : Int) : At ((w.alloc (.cells (pC 0) 28)).alloc (.cells (pC k) 28)) (w.heap.size + 1) (pC k) ∧ At ((w.alloc (.cells (pC 0) 28)).alloc (.cells (pC k) 28)) w.heap.size (pC 0) := by
  constructor
  · exact At.of_block (by
      have := heap_alloc_last (w.alloc (.cells (pC 0) 28)) (.cells (pC k) 28)
      rw [show (w.alloc (.cells (pC 0) 28)).heap.size = w.heap.size + 1 by simp] at this
      exact this)
  · exact (At.of_block (heap_alloc_last w _)).below ((Below.refl _ _).alloc (Nat.le_refl _) _) (by simp)

/-- Eleven cells, laid one by one. -/
def set11 (w : World) (b : Nat) (v0 v1 v2 v3 v4 v5 v6 v7 v8 v9 v10 : Value) : World := (((((((((((w.setCell ⟨b, 0, none⟩ v0).setCell ⟨b, 1, none⟩ v1).setCell ⟨b, 2, none⟩ v2).setCell ⟨b, 3, none⟩ v3).setCell ⟨b, 4, none⟩ v4).setCell ⟨b, 5, none⟩ v5).setCell ⟨b, 6, none⟩ v6).setCell ⟨b, 7, none⟩ v7).setCell ⟨b, 8, none⟩ v8).setCell ⟨b, 9, none⟩ v9).setCell ⟨b, 10, none⟩ v10)
set_option maxHeartbeats 2000000 in
theorem set11_at {w : World} {b : Nat} (h : At w b (pC 0)) (v0 v1 v2 v3 v4 v5 v6 v7 v8 v9 v10 : Value) : At (set11 w b v0 v1 v2 v3 v4 v5 v6 v7 v8 v9 v10) b #[v0, v1, v2, v3, v4, v5, v6, v7, v8, v9, v10] := by
  have h : At w b #[.int .i64 0, .slice none 0 0, .slice none 0 0, .slice none 0 0, .slice none 0 0, .int .i64 0, .int .u64 0, .int .i64 0, .int .i64 0, .int .i64 0, .int .i64 0] := h
  have h0 : At (w.setCell ⟨b, 0, none⟩ v0) b #[v0, .slice none 0 0, .slice none 0 0, .slice none 0 0, .slice none 0 0, .int .i64 0, .int .u64 0, .int .i64 0, .int .i64 0, .int .i64 0, .int .i64 0] := by
    have e := h.set 0 v0 (by simp)
    rw [show (#[.int .i64 0, .slice none 0 0, .slice none 0 0, .slice none 0 0, .slice none 0 0, .int .i64 0, .int .u64 0, .int .i64 0, .int .i64 0, .int .i64 0, .int .i64 0] : Array Value).setIfInBounds 0 v0 = #[v0, .slice none 0 0, .slice none 0 0, .slice none 0 0, .slice none 0 0, .int .i64 0, .int .u64 0, .int .i64 0, .int .i64 0, .int .i64 0, .int .i64 0] from rfl] at e
    exact e
  have h1 : At ((w.setCell ⟨b, 0, none⟩ v0).setCell ⟨b, 1, none⟩ v1) b #[v0, v1, .slice none 0 0, .slice none 0 0, .slice none 0 0, .int .i64 0, .int .u64 0, .int .i64 0, .int .i64 0, .int .i64 0, .int .i64 0] := by
    have e := h0.set 1 v1 (by simp)
    rw [show (#[v0, .slice none 0 0, .slice none 0 0, .slice none 0 0, .slice none 0 0, .int .i64 0, .int .u64 0, .int .i64 0, .int .i64 0, .int .i64 0, .int .i64 0] : Array Value).setIfInBounds 1 v1 = #[v0, v1, .slice none 0 0, .slice none 0 0, .slice none 0 0, .int .i64 0, .int .u64 0, .int .i64 0, .int .i64 0, .int .i64 0, .int .i64 0] from rfl] at e
    exact e
  have h2 : At (((w.setCell ⟨b, 0, none⟩ v0).setCell ⟨b, 1, none⟩ v1).setCell ⟨b, 2, none⟩ v2) b #[v0, v1, v2, .slice none 0 0, .slice none 0 0, .int .i64 0, .int .u64 0, .int .i64 0, .int .i64 0, .int .i64 0, .int .i64 0] := by
    have e := h1.set 2 v2 (by simp)
    rw [show (#[v0, v1, .slice none 0 0, .slice none 0 0, .slice none 0 0, .int .i64 0, .int .u64 0, .int .i64 0, .int .i64 0, .int .i64 0, .int .i64 0] : Array Value).setIfInBounds 2 v2 = #[v0, v1, v2, .slice none 0 0, .slice none 0 0, .int .i64 0, .int .u64 0, .int .i64 0, .int .i64 0, .int .i64 0, .int .i64 0] from rfl] at e
    exact e
  have h3 : At ((((w.setCell ⟨b, 0, none⟩ v0).setCell ⟨b, 1, none⟩ v1).setCell ⟨b, 2, none⟩ v2).setCell ⟨b, 3, none⟩ v3) b #[v0, v1, v2, v3, .slice none 0 0, .int .i64 0, .int .u64 0, .int .i64 0, .int .i64 0, .int .i64 0, .int .i64 0] := by
    have e := h2.set 3 v3 (by simp)
    rw [show (#[v0, v1, v2, .slice none 0 0, .slice none 0 0, .int .i64 0, .int .u64 0, .int .i64 0, .int .i64 0, .int .i64 0, .int .i64 0] : Array Value).setIfInBounds 3 v3 = #[v0, v1, v2, v3, .slice none 0 0, .int .i64 0, .int .u64 0, .int .i64 0, .int .i64 0, .int .i64 0, .int .i64 0] from rfl] at e
    exact e
  have h4 : At (((((w.setCell ⟨b, 0, none⟩ v0).setCell ⟨b, 1, none⟩ v1).setCell ⟨b, 2, none⟩ v2).setCell ⟨b, 3, none⟩ v3).setCell ⟨b, 4, none⟩ v4) b #[v0, v1, v2, v3, v4, .int .i64 0, .int .u64 0, .int .i64 0, .int .i64 0, .int .i64 0, .int .i64 0] := by
    have e := h3.set 4 v4 (by simp)
    rw [show (#[v0, v1, v2, v3, .slice none 0 0, .int .i64 0, .int .u64 0, .int .i64 0, .int .i64 0, .int .i64 0, .int .i64 0] : Array Value).setIfInBounds 4 v4 = #[v0, v1, v2, v3, v4, .int .i64 0, .int .u64 0, .int .i64 0, .int .i64 0, .int .i64 0, .int .i64 0] from rfl] at e
    exact e
  have h5 : At ((((((w.setCell ⟨b, 0, none⟩ v0).setCell ⟨b, 1, none⟩ v1).setCell ⟨b, 2, none⟩ v2).setCell ⟨b, 3, none⟩ v3).setCell ⟨b, 4, none⟩ v4).setCell ⟨b, 5, none⟩ v5) b #[v0, v1, v2, v3, v4, v5, .int .u64 0, .int .i64 0, .int .i64 0, .int .i64 0, .int .i64 0] := by
    have e := h4.set 5 v5 (by simp)
    rw [show (#[v0, v1, v2, v3, v4, .int .i64 0, .int .u64 0, .int .i64 0, .int .i64 0, .int .i64 0, .int .i64 0] : Array Value).setIfInBounds 5 v5 = #[v0, v1, v2, v3, v4, v5, .int .u64 0, .int .i64 0, .int .i64 0, .int .i64 0, .int .i64 0] from rfl] at e
    exact e
  have h6 : At (((((((w.setCell ⟨b, 0, none⟩ v0).setCell ⟨b, 1, none⟩ v1).setCell ⟨b, 2, none⟩ v2).setCell ⟨b, 3, none⟩ v3).setCell ⟨b, 4, none⟩ v4).setCell ⟨b, 5, none⟩ v5).setCell ⟨b, 6, none⟩ v6) b #[v0, v1, v2, v3, v4, v5, v6, .int .i64 0, .int .i64 0, .int .i64 0, .int .i64 0] := by
    have e := h5.set 6 v6 (by simp)
    rw [show (#[v0, v1, v2, v3, v4, v5, .int .u64 0, .int .i64 0, .int .i64 0, .int .i64 0, .int .i64 0] : Array Value).setIfInBounds 6 v6 = #[v0, v1, v2, v3, v4, v5, v6, .int .i64 0, .int .i64 0, .int .i64 0, .int .i64 0] from rfl] at e
    exact e
  have h7 : At ((((((((w.setCell ⟨b, 0, none⟩ v0).setCell ⟨b, 1, none⟩ v1).setCell ⟨b, 2, none⟩ v2).setCell ⟨b, 3, none⟩ v3).setCell ⟨b, 4, none⟩ v4).setCell ⟨b, 5, none⟩ v5).setCell ⟨b, 6, none⟩ v6).setCell ⟨b, 7, none⟩ v7) b #[v0, v1, v2, v3, v4, v5, v6, v7, .int .i64 0, .int .i64 0, .int .i64 0] := by
    have e := h6.set 7 v7 (by simp)
    rw [show (#[v0, v1, v2, v3, v4, v5, v6, .int .i64 0, .int .i64 0, .int .i64 0, .int .i64 0] : Array Value).setIfInBounds 7 v7 = #[v0, v1, v2, v3, v4, v5, v6, v7, .int .i64 0, .int .i64 0, .int .i64 0] from rfl] at e
    exact e
  have h8 : At (((((((((w.setCell ⟨b, 0, none⟩ v0).setCell ⟨b, 1, none⟩ v1).setCell ⟨b, 2, none⟩ v2).setCell ⟨b, 3, none⟩ v3).setCell ⟨b, 4, none⟩ v4).setCell ⟨b, 5, none⟩ v5).setCell ⟨b, 6, none⟩ v6).setCell ⟨b, 7, none⟩ v7).setCell ⟨b, 8, none⟩ v8) b #[v0, v1, v2, v3, v4, v5, v6, v7, v8, .int .i64 0, .int .i64 0] := by
    have e := h7.set 8 v8 (by simp)
    rw [show (#[v0, v1, v2, v3, v4, v5, v6, v7, .int .i64 0, .int .i64 0, .int .i64 0] : Array Value).setIfInBounds 8 v8 = #[v0, v1, v2, v3, v4, v5, v6, v7, v8, .int .i64 0, .int .i64 0] from rfl] at e
    exact e
  have h9 : At ((((((((((w.setCell ⟨b, 0, none⟩ v0).setCell ⟨b, 1, none⟩ v1).setCell ⟨b, 2, none⟩ v2).setCell ⟨b, 3, none⟩ v3).setCell ⟨b, 4, none⟩ v4).setCell ⟨b, 5, none⟩ v5).setCell ⟨b, 6, none⟩ v6).setCell ⟨b, 7, none⟩ v7).setCell ⟨b, 8, none⟩ v8).setCell ⟨b, 9, none⟩ v9) b #[v0, v1, v2, v3, v4, v5, v6, v7, v8, v9, .int .i64 0] := by
    have e := h8.set 9 v9 (by simp)
    rw [show (#[v0, v1, v2, v3, v4, v5, v6, v7, v8, .int .i64 0, .int .i64 0] : Array Value).setIfInBounds 9 v9 = #[v0, v1, v2, v3, v4, v5, v6, v7, v8, v9, .int .i64 0] from rfl] at e
    exact e
  have h10 : At (((((((((((w.setCell ⟨b, 0, none⟩ v0).setCell ⟨b, 1, none⟩ v1).setCell ⟨b, 2, none⟩ v2).setCell ⟨b, 3, none⟩ v3).setCell ⟨b, 4, none⟩ v4).setCell ⟨b, 5, none⟩ v5).setCell ⟨b, 6, none⟩ v6).setCell ⟨b, 7, none⟩ v7).setCell ⟨b, 8, none⟩ v8).setCell ⟨b, 9, none⟩ v9).setCell ⟨b, 10, none⟩ v10) b #[v0, v1, v2, v3, v4, v5, v6, v7, v8, v9, v10] := by
    have e := h9.set 10 v10 (by simp)
    rw [show (#[v0, v1, v2, v3, v4, v5, v6, v7, v8, v9, .int .i64 0] : Array Value).setIfInBounds 10 v10 = #[v0, v1, v2, v3, v4, v5, v6, v7, v8, v9, v10] from rfl] at e
    exact e
  exact h10
theorem set11_grown {w0 w : World} {b rb : Nat} (h : w0.grownBy w (some rb)) (hb : w0.heap.size ≤ b) (v0 v1 v2 v3 v4 v5 v6 v7 v8 v9 v10 : Value) : w0.grownBy (set11 w b v0 v1 v2 v3 v4 v5 v6 v7 v8 v9 v10) (some rb) := (grown_new (grown_new (grown_new (grown_new (grown_new (grown_new (grown_new (grown_new (grown_new (grown_new (grown_new h hb) hb) hb) hb) hb) hb) hb) hb) hb) hb) hb)
theorem set11_only (w : World) (b : Nat) (v0 v1 v2 v3 v4 v5 v6 v7 v8 v9 v10 : Value) : w.grownBy (set11 w b v0 v1 v2 v3 v4 v5 v6 v7 v8 v9 v10) (some b) := (World.grownBy.refl w (some b)) |>.trans (grown_set _ b 0 v0) |>.trans (grown_set _ b 1 v1) |>.trans (grown_set _ b 2 v2) |>.trans (grown_set _ b 3 v3) |>.trans (grown_set _ b 4 v4) |>.trans (grown_set _ b 5 v5) |>.trans (grown_set _ b 6 v6) |>.trans (grown_set _ b 7 v7) |>.trans (grown_set _ b 8 v8) |>.trans (grown_set _ b 9 v9) |>.trans (grown_set _ b 10 v10)
theorem set11_rd {w : World} {b rb : Nat} {u : Bs} (h : Rd w rb u) (hb : rb < b) (v0 v1 v2 v3 v4 v5 v6 v7 v8 v9 v10 : Value) : Rd (set11 w b v0 v1 v2 v3 v4 v5 v6 v7 v8 v9 v10) rb u := h |>.set_other (o := 0) (v := v0) hb |>.set_other (o := 1) (v := v1) hb |>.set_other (o := 2) (v := v2) hb |>.set_other (o := 3) (v := v3) hb |>.set_other (o := 4) (v := v4) hb |>.set_other (o := 5) (v := v5) hb |>.set_other (o := 6) (v := v6) hb |>.set_other (o := 7) (v := v7) hb |>.set_other (o := 8) (v := v8) hb |>.set_other (o := 9) (v := v9) hb |>.set_other (o := 10) (v := v10) hb
theorem rows_none (w : World) (p : Pg) (a : Lay) (h1 : p.pairs = []) (h2 : p.keys = []) (h3 : p.kids = []) (h4 : p.pages = []) : PgRows w p a :=
  ⟨fun h => absurd h1 h, fun h => absurd h2 h, fun h => absurd h3 h, fun h => absurd h4 h⟩
theorem wide4_any (rb : Nat) (u : Bs) (w : World) (h : Rd w rb u) : Calls Try.prog 66 #[ptr rb, .int .i64 4] w (Reads (rWide 4 u) (fun n : Nat => .int .u64 (n : Int)) rb w) := wide_any rb 4 u w h (by omega)
set_option maxRecDepth 100000 in
set_option maxHeartbeats 4000000 in
theorem super_read (rb : Nat) (u0 : Bs) (w : World) (h : Rd w rb u0) : Calls Try.prog 74 #[ptr rb] w (PReads (rSuper u0) rb w) := by
  have hlt := h.lt
  obtain ⟨hat, har⟩ := made_two w 4
  have b0 : Below w.heap.size w ((w.alloc (.cells (pC 0) 28)).alloc (.cells (pC 4) 28)) := ((Below.refl _ _).alloc (Nat.le_refl _) _).alloc (by simp) _
  have R0 := Lib.hid (h.below b0)
  have G0 := Lib.hid (grown_alloc (rb := rb) (grown_alloc (World.grownBy.refl w (some rb)) (.cells (pC 0) 28)) (.cells (pC 4) 28))
  have AP0 := Lib.hid hat
  have AR0 := Lib.hid har
  have NE := Lib.hid (show w.heap.size + 1 ≠ rb ∧ w.heap.size ≠ rb by omega)
  have LT := Lib.hid hlt
  have cF := number_any rb u0 _ (h.below b0)
  clear hat har b0 h hlt
  unfold pC pgC at *
  rcases hr0 : rNum u0 with _ | ⟨x0, u1⟩
  · rw [hr0] at cF
    have Z0 := Lib.hid hr0
    clear hr0
    go_enter Try.func74, Try.ntmps74
    go_wp2_with fail
    refine cF.mono ?_
    rintro e w1 ⟨hg, rfl⟩
    exact ⟨rfl, preads_none (by simp [rSuper, Z0.out]) (G0.out.trans hg)⟩
  rw [hr0] at cF
  have N0 := Lib.hid (num_range hr0)
  have E0 := Lib.hid hr0
  clear hr0
  go_enter Try.func74, Try.ntmps74
  go_wp2_with fail
  refine cF.mono ?_
  rintro e w1 ⟨hg, rfl, hr⟩
  have AP1a := AP0.out.grown hg NE.out.1
  have s1 := AP1a.2.2 7 _ rfl
  have f1 := AP1a.2.1 7
  have AP1 := Lib.hid (AP1a.set 7 (.int .i64 x0) (by simp))
  have AR1 := Lib.hid ((AR0.out.grown hg NE.out.2).set_other (b' := w.heap.size + 1) (i := 7) (v := .int .i64 x0) (by omega))
  have R1 := Lib.hid (hr.set_other (b := w.heap.size + 1) (o := 7) (v := .int .i64 x0) (by have := LT.out; omega))
  have G1 := Lib.hid (grown_new (b := w.heap.size + 1) (o := 7) (v := .int .i64 x0) (G0.out.trans hg) (by omega))
  clear hg hr AP1a cF
  have cF := number_any rb u1 _ R1.out
  rcases hr1 : rNum u1 with _ | ⟨x1, u2⟩
  · rw [hr1] at cF
    have Z1 := Lib.hid hr1
    clear hr1
    go_wp2_with fail
    refine cF.mono ?_
    rintro e w2 ⟨hg, rfl⟩
    exact ⟨rfl, preads_none (by simp [rSuper, E0.out, Z1.out]) (G1.out.trans hg)⟩
  rw [hr1] at cF
  have N1 := Lib.hid (num_range hr1)
  have E1 := Lib.hid hr1
  clear hr1
  go_wp2_with fail
  refine cF.mono ?_
  rintro e w2 ⟨hg, rfl, hr⟩
  have AP2a := AP1.out.grown hg NE.out.1
  have s2 := AP2a.2.2 8 _ rfl
  have f2 := AP2a.2.1 8
  have AP2 := Lib.hid (AP2a.set 8 (.int .i64 x1) (by simp))
  have AR2 := Lib.hid ((AR1.out.grown hg NE.out.2).set_other (b' := w.heap.size + 1) (i := 8) (v := .int .i64 x1) (by omega))
  have R2 := Lib.hid (hr.set_other (b := w.heap.size + 1) (o := 8) (v := .int .i64 x1) (by have := LT.out; omega))
  have G2 := Lib.hid (grown_new (b := w.heap.size + 1) (o := 8) (v := .int .i64 x1) (G1.out.trans hg) (by omega))
  clear hg hr AP2a cF
  have cF := wide4_any rb u2 _ R2.out
  rcases hr2 : rWide 4 u2 with _ | ⟨x2, u3⟩
  · rw [hr2] at cF
    have Z2 := Lib.hid hr2
    clear hr2
    go_wp2_with fail
    refine cF.mono ?_
    rintro e w3 ⟨hg, rfl⟩
    exact ⟨rfl, preads_none (by simp [rSuper, E0.out, E1.out, Z2.out]) (G2.out.trans hg)⟩
  rw [hr2] at cF
  have N2 := Lib.hid ((wide_lt hr2 (by omega)).1)
  have E2 := Lib.hid hr2
  clear hr2
  go_wp2_with fail
  refine cF.mono ?_
  rintro e w3 ⟨hg, rfl, hr⟩
  have AP3a := AP2.out.grown hg NE.out.1
  have s3 := AP3a.2.2 9 _ rfl
  have f3 := AP3a.2.1 9
  have AP3 := Lib.hid (AP3a.set 9 (.int .i64 (x2 : Int)) (by simp))
  have AR3 := Lib.hid ((AR2.out.grown hg NE.out.2).set_other (b' := w.heap.size + 1) (i := 9) (v := .int .i64 (x2 : Int)) (by omega))
  have R3 := Lib.hid (hr.set_other (b := w.heap.size + 1) (o := 9) (v := .int .i64 (x2 : Int)) (by have := LT.out; omega))
  have G3 := Lib.hid (grown_new (b := w.heap.size + 1) (o := 9) (v := .int .i64 (x2 : Int)) (G2.out.trans hg) (by omega))
  clear hg hr AP3a cF
  have n2 := N2.out
  have hw2 : IntKind.i64.wrap (x2 : Int) = (x2 : Int) := by rw [IntKind.wrap_i64]; omega
  clear n2
  have cF := number_any rb u3 _ R3.out
  rcases hr3 : rNum u3 with _ | ⟨x3, u4⟩
  · rw [hr3] at cF
    have Z3 := Lib.hid hr3
    clear hr3
    go_wp2_with fail
    refine cF.mono ?_
    rintro e w4 ⟨hg, rfl⟩
    exact ⟨rfl, preads_none (by simp [rSuper, E0.out, E1.out, E2.out, Z3.out]) (G3.out.trans hg)⟩
  rw [hr3] at cF
  have N3 := Lib.hid (num_range hr3)
  have E3 := Lib.hid hr3
  clear hr3
  go_wp2_with fail
  refine cF.mono ?_
  rintro e w4 ⟨hg, rfl, hr⟩
  have AP4a := AP3.out.grown hg NE.out.1
  have s4 := AP4a.2.2 10 _ rfl
  have f4 := AP4a.2.1 10
  have AP4 := Lib.hid (AP4a.set 10 (.int .i64 x3) (by simp))
  have AR4 := Lib.hid ((AR3.out.grown hg NE.out.2).set_other (b' := w.heap.size + 1) (i := 10) (v := .int .i64 x3) (by omega))
  have R4 := Lib.hid (hr.set_other (b := w.heap.size + 1) (o := 10) (v := .int .i64 x3) (by have := LT.out; omega))
  have G4 := Lib.hid (grown_new (b := w.heap.size + 1) (o := 10) (v := .int .i64 x3) (G3.out.trans hg) (by omega))
  clear hg hr AP4a cF
  have cF := number_any rb u4 _ R4.out
  rcases hr4 : rNum u4 with _ | ⟨x4, u5⟩
  · rw [hr4] at cF
    have Z4 := Lib.hid hr4
    clear hr4
    go_wp2_with fail
    refine cF.mono ?_
    rintro e w5 ⟨hg, rfl⟩
    exact ⟨rfl, preads_none (by simp [rSuper, E0.out, E1.out, E2.out, E3.out, Z4.out]) (G4.out.trans hg)⟩
  rw [hr4] at cF
  have N4 := Lib.hid (num_range hr4)
  have E4 := Lib.hid hr4
  clear hr4
  go_wp2_with fail
  refine cF.mono ?_
  rintro e w5 ⟨hg, rfl, hr⟩
  have AP5a := AP4.out.grown hg NE.out.1
  have s5 := AP5a.2.2 5 _ rfl
  have f5 := AP5a.2.1 5
  have AP5 := Lib.hid (AP5a.set 5 (.int .i64 x4) (by simp))
  have AR5 := Lib.hid ((AR4.out.grown hg NE.out.2).set_other (b' := w.heap.size + 1) (i := 5) (v := .int .i64 x4) (by omega))
  have R5 := Lib.hid (hr.set_other (b := w.heap.size + 1) (o := 5) (v := .int .i64 x4) (by have := LT.out; omega))
  have G5 := Lib.hid (grown_new (b := w.heap.size + 1) (o := 5) (v := .int .i64 x4) (G4.out.trans hg) (by omega))
  clear hg hr AP5a cF
  have c0 : (w5.setCell ⟨w.heap.size + 1, 5, none⟩ (.int .i64 x4)).cell? ⟨w.heap.size + 1, 0, none⟩ = some (.int .i64 4) := AP5.out.2.2 0 _ rfl
  have c1 : (w5.setCell ⟨w.heap.size + 1, 5, none⟩ (.int .i64 x4)).cell? ⟨w.heap.size + 1, 1, none⟩ = some (.slice none 0 0) := AP5.out.2.2 1 _ rfl
  have c2 : (w5.setCell ⟨w.heap.size + 1, 5, none⟩ (.int .i64 x4)).cell? ⟨w.heap.size + 1, 2, none⟩ = some (.slice none 0 0) := AP5.out.2.2 2 _ rfl
  have c3 : (w5.setCell ⟨w.heap.size + 1, 5, none⟩ (.int .i64 x4)).cell? ⟨w.heap.size + 1, 3, none⟩ = some (.slice none 0 0) := AP5.out.2.2 3 _ rfl
  have c4 : (w5.setCell ⟨w.heap.size + 1, 5, none⟩ (.int .i64 x4)).cell? ⟨w.heap.size + 1, 4, none⟩ = some (.slice none 0 0) := AP5.out.2.2 4 _ rfl
  have c5 : (w5.setCell ⟨w.heap.size + 1, 5, none⟩ (.int .i64 x4)).cell? ⟨w.heap.size + 1, 5, none⟩ = some (.int .i64 x4) := AP5.out.2.2 5 _ rfl
  have c6 : (w5.setCell ⟨w.heap.size + 1, 5, none⟩ (.int .i64 x4)).cell? ⟨w.heap.size + 1, 6, none⟩ = some (.int .u64 0) := AP5.out.2.2 6 _ rfl
  have c7 : (w5.setCell ⟨w.heap.size + 1, 5, none⟩ (.int .i64 x4)).cell? ⟨w.heap.size + 1, 7, none⟩ = some (.int .i64 x0) := AP5.out.2.2 7 _ rfl
  have c8 : (w5.setCell ⟨w.heap.size + 1, 5, none⟩ (.int .i64 x4)).cell? ⟨w.heap.size + 1, 8, none⟩ = some (.int .i64 x1) := AP5.out.2.2 8 _ rfl
  have c9 : (w5.setCell ⟨w.heap.size + 1, 5, none⟩ (.int .i64 x4)).cell? ⟨w.heap.size + 1, 9, none⟩ = some (.int .i64 (x2 : Int)) := AP5.out.2.2 9 _ rfl
  have c10 : (w5.setCell ⟨w.heap.size + 1, 5, none⟩ (.int .i64 x4)).cell? ⟨w.heap.size + 1, 10, none⟩ = some (.int .i64 x3) := AP5.out.2.2 10 _ rfl
  have r0 : (w5.setCell ⟨w.heap.size + 1, 5, none⟩ (.int .i64 x4)).cell? ⟨w.heap.size, 0, none⟩ = some (.int .i64 0) := AR5.out.2.2 0 _ rfl
  have r1 : (w5.setCell ⟨w.heap.size + 1, 5, none⟩ (.int .i64 x4)).cell? ⟨w.heap.size, 1, none⟩ = some (.slice none 0 0) := AR5.out.2.2 1 _ rfl
  have r2 : (w5.setCell ⟨w.heap.size + 1, 5, none⟩ (.int .i64 x4)).cell? ⟨w.heap.size, 2, none⟩ = some (.slice none 0 0) := AR5.out.2.2 2 _ rfl
  have r3 : (w5.setCell ⟨w.heap.size + 1, 5, none⟩ (.int .i64 x4)).cell? ⟨w.heap.size, 3, none⟩ = some (.slice none 0 0) := AR5.out.2.2 3 _ rfl
  have r4 : (w5.setCell ⟨w.heap.size + 1, 5, none⟩ (.int .i64 x4)).cell? ⟨w.heap.size, 4, none⟩ = some (.slice none 0 0) := AR5.out.2.2 4 _ rfl
  have r5 : (w5.setCell ⟨w.heap.size + 1, 5, none⟩ (.int .i64 x4)).cell? ⟨w.heap.size, 5, none⟩ = some (.int .i64 0) := AR5.out.2.2 5 _ rfl
  have r6 : (w5.setCell ⟨w.heap.size + 1, 5, none⟩ (.int .i64 x4)).cell? ⟨w.heap.size, 6, none⟩ = some (.int .u64 0) := AR5.out.2.2 6 _ rfl
  have r7 : (w5.setCell ⟨w.heap.size + 1, 5, none⟩ (.int .i64 x4)).cell? ⟨w.heap.size, 7, none⟩ = some (.int .i64 0) := AR5.out.2.2 7 _ rfl
  have r8 : (w5.setCell ⟨w.heap.size + 1, 5, none⟩ (.int .i64 x4)).cell? ⟨w.heap.size, 8, none⟩ = some (.int .i64 0) := AR5.out.2.2 8 _ rfl
  have r9 : (w5.setCell ⟨w.heap.size + 1, 5, none⟩ (.int .i64 x4)).cell? ⟨w.heap.size, 9, none⟩ = some (.int .i64 0) := AR5.out.2.2 9 _ rfl
  have r10 : (w5.setCell ⟨w.heap.size + 1, 5, none⟩ (.int .i64 x4)).cell? ⟨w.heap.size, 10, none⟩ = some (.int .i64 0) := AR5.out.2.2 10 _ rfl
  have fz : ∀ j, (w5.setCell ⟨w.heap.size + 1, 5, none⟩ (.int .i64 x4)).frozen? ⟨w.heap.size, j, none⟩ = false := AR5.out.2.1
  have ARZ := Lib.hid AR5.out
  clear AP0 AP1 AP2 AP3 AP4 AP5 AR0 AR1 AR2 AR3 AR4 AR5 R0 R1 R2 R3 R4 G0 G1 G2 G3 G4 s1 s2 s3 s4 f1 f2 f3 f4
  go_wp2_with fail
  have AW := set11_at ARZ.out (.int .i64 4) (.slice none 0 0) (.slice none 0 0) (.slice none 0 0) (.slice none 0 0) (.int .i64 x4) (.int .u64 0) (.int .i64 x0) (.int .i64 x1) (.int .i64 (x2 : Int)) (.int .i64 x3)
  have GW := set11_grown G5.out (b := w.heap.size) (Nat.le_refl _) (.int .i64 4) (.slice none 0 0) (.slice none 0 0) (.slice none 0 0) (.slice none 0 0) (.int .i64 x4) (.int .u64 0) (.int .i64 x0) (.int .i64 x1) (.int .i64 (x2 : Int)) (.int .i64 x3)
  have RW := set11_rd R5.out LT.out (.int .i64 4) (.slice none 0 0) (.slice none 0 0) (.slice none 0 0) (.slice none 0 0) (.int .i64 x4) (.int .u64 0) (.int .i64 x0) (.int .i64 x1) (.int .i64 (x2 : Int)) (.int .i64 x3)
  change bodyPost _ _ _ _ _ (set11 (w5.setCell ⟨w.heap.size + 1, 5, none⟩ (.int .i64 x4)) w.heap.size (.int .i64 4) (.slice none 0 0) (.slice none 0 0) (.slice none 0 0) (.slice none 0 0) (.int .i64 x4) (.int .u64 0) (.int .i64 x0) (.int .i64 x1) (.int .i64 (x2 : Int)) (.int .i64 x3))
  generalize set11 (w5.setCell ⟨w.heap.size + 1, 5, none⟩ (.int .i64 x4)) w.heap.size (.int .i64 4) (.slice none 0 0) (.slice none 0 0) (.slice none 0 0) (.slice none 0 0) (.int .i64 x4) (.int .u64 0) (.int .i64 x0) (.int .i64 x1) (.int .i64 (x2 : Int)) (.int .i64 x3) = W at *
  clear c0 r0 c1 r1 c2 r2 c3 r3 c4 r4 c5 r5 c6 r6 c7 r7 c8 r8 c9 r9 c10 r10 fz
  have c0 := AW.2.2 0 _ rfl
  have c1 := AW.2.2 1 _ rfl
  have c2 := AW.2.2 2 _ rfl
  have c3 := AW.2.2 3 _ rfl
  have c4 := AW.2.2 4 _ rfl
  have c5 := AW.2.2 5 _ rfl
  have c6 := AW.2.2 6 _ rfl
  have c7 := AW.2.2 7 _ rfl
  have c8 := AW.2.2 8 _ rfl
  have c9 := AW.2.2 9 _ rfl
  have c10 := AW.2.2 10 _ rfl
  refine bodyPost_ret (v := .agg #[.int .i64 4, .slice none 0 0, .slice none 0 0, .slice none 0 0, .slice none 0 0, .int .i64 x4, .int .u64 0, .int .i64 x0, .int .i64 x1, .int .i64 (x2 : Int), .int .i64 x3]) (by simp [results, Try.results74, go_sem, *]) rfl ?_
  have n0 := N0.out
  have n1 := N1.out
  have n2 := N2.out
  have n3 := N3.out
  have n4 := N4.out
  refine preads_some (p := { kind := 4, root := x0, depth := x1, count := (x2 : Int), high := x3, next := x4 }) (u := u5) {} (by simp [rSuper, E0.out, E1.out, E2.out, E3.out, E4.out]) GW (rows_none _ _ _ rfl rfl rfl rfl) (by refine ⟨?_, ?_, ?_, ?_, ?_, ?_, ?_, ?_, ?_, ?_, ?_⟩ <;> simp [I64] <;> omega) RW ⟨(fun _ h => by cases h), (fun _ h => by cases h), (fun _ h => by cases h), (fun _ h => by cases h)⟩
end Go.Proofs.Ytiebaeahimeedaa.Page
