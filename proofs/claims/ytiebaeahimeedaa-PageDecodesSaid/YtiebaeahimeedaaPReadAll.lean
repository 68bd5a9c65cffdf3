/-
  Contract of page's read: reading that is given up is told as an error.
-/
import Derived.Test.YtiebaeahimeedaaPCatch
namespace Go.Proofs.Ytiebaeahimeedaa.Page
open Go.RowKit Gen

def ReadPost (r : Option Pg) (w : World) (e : Ending) (w' : World) : Prop := Below w.heap.size w w' ∧ match r with
  | none => e = .returned (.tuple #[pgV { kind := 0 } {}, numV 50])
  | some p => ∃ a, e = .returned (.tuple #[pgV p a, numV 0]) ∧ PgRows w' p a ∧ PgOk p ∧ New a w.heap.size
/-- What stands behind a page that was not read. -/
theorem door_none (w w1 : World) (B : Nat) (hz : At w1 B (pC 0)) (c0 : w1.cell? ⟨B + 1, 0, none⟩ = some (.int .i64 0)) (hb : Below w.heap.size w w1) (hB : w.heap.size ≤ B) :
    At ((set11 w1 B (.int .i64 0) (.slice none 0 0) (.slice none 0 0) (.slice none 0 0) (.slice none 0 0) (.int .i64 0) (.int .u64 0) (.int .i64 0) (.int .i64 0) (.int .i64 0) (.int .i64 0)).setCell ⟨B + 1, 0, none⟩ (.int .i64 50)) B (pC 0) ∧ ((set11 w1 B (.int .i64 0) (.slice none 0 0) (.slice none 0 0) (.slice none 0 0) (.slice none 0 0) (.int .i64 0) (.int .u64 0) (.int .i64 0) (.int .i64 0) (.int .i64 0) (.int .i64 0)).setCell ⟨B + 1, 0, none⟩ (.int .i64 50)).cell? ⟨B + 1, 0, none⟩ = some (.int .i64 50) ∧ Below w.heap.size w ((set11 w1 B (.int .i64 0) (.slice none 0 0) (.slice none 0 0) (.slice none 0 0) (.slice none 0 0) (.int .i64 0) (.int .u64 0) (.int .i64 0) (.int .i64 0) (.int .i64 0) (.int .i64 0)).setCell ⟨B + 1, 0, none⟩ (.int .i64 50)) := by
  have g := set11_only w1 B (.int .i64 0) (.slice none 0 0) (.slice none 0 0) (.slice none 0 0) (.slice none 0 0) (.int .i64 0) (.int .u64 0) (.int .i64 0) (.int .i64 0) (.int .i64 0) (.int .i64 0)
  have hb2 : Below w.heap.size w (set11 w1 B (.int .i64 0) (.slice none 0 0) (.slice none 0 0) (.slice none 0 0) (.slice none 0 0) (.int .i64 0) (.int .u64 0) (.int .i64 0) (.int .i64 0) (.int .i64 0) (.int .i64 0)) := hb.grown g hb.size (fun k hk => by cases hk; exact hB)
  refine ⟨(set11_at hz (.int .i64 0) (.slice none 0 0) (.slice none 0 0) (.slice none 0 0) (.slice none 0 0) (.int .i64 0) (.int .u64 0) (.int .i64 0) (.int .i64 0) (.int .i64 0) (.int .i64 0)).set_other (by omega), ?_, hb2.setCell (by show w.heap.size ≤ B + 1; omega) _⟩
  exact World.cell?_setCell_same _ _ _ ((World.cell?_of_block (w := w1) (a := ⟨B + 1, 0, none⟩) (g.block (B + 1) (cell_lt c0) (by simp))).trans c0)
/-- .. and behind one that was. -/
theorem door_some (w w1 : World) (B : Nat) (p : Pg) (a : Lay) (hz : At w1 B (pC 0)) (c0 : w1.cell? ⟨B + 1, 0, none⟩ = some (.int .i64 0)) (hb : Below w.heap.size w w1) (hB : w.heap.size ≤ B) (hr : PgRows w1 p a) (hn : New a (B + 2)) :
    At ((set11 w1 B (.int .i64 p.kind) (.slice a.A1 p.pairs.length a.c1) (.slice a.A2 p.keys.length a.c2) (.slice a.A3 p.kids.length a.c3) (.slice a.A4 p.pages.length a.c4) (.int .i64 p.next) (.int .u64 (p.epoch : Int)) (.int .i64 p.root) (.int .i64 p.depth) (.int .i64 p.count) (.int .i64 p.high)).setCell ⟨B + 1, 0, none⟩ (.int .i64 0)) B (pgC p a) ∧ ((set11 w1 B (.int .i64 p.kind) (.slice a.A1 p.pairs.length a.c1) (.slice a.A2 p.keys.length a.c2) (.slice a.A3 p.kids.length a.c3) (.slice a.A4 p.pages.length a.c4) (.int .i64 p.next) (.int .u64 (p.epoch : Int)) (.int .i64 p.root) (.int .i64 p.depth) (.int .i64 p.count) (.int .i64 p.high)).setCell ⟨B + 1, 0, none⟩ (.int .i64 0)).cell? ⟨B + 1, 0, none⟩ = some (.int .i64 0) ∧ Below w.heap.size w ((set11 w1 B (.int .i64 p.kind) (.slice a.A1 p.pairs.length a.c1) (.slice a.A2 p.keys.length a.c2) (.slice a.A3 p.kids.length a.c3) (.slice a.A4 p.pages.length a.c4) (.int .i64 p.next) (.int .u64 (p.epoch : Int)) (.int .i64 p.root) (.int .i64 p.depth) (.int .i64 p.count) (.int .i64 p.high)).setCell ⟨B + 1, 0, none⟩ (.int .i64 0)) ∧ PgRows ((set11 w1 B (.int .i64 p.kind) (.slice a.A1 p.pairs.length a.c1) (.slice a.A2 p.keys.length a.c2) (.slice a.A3 p.kids.length a.c3) (.slice a.A4 p.pages.length a.c4) (.int .i64 p.next) (.int .u64 (p.epoch : Int)) (.int .i64 p.root) (.int .i64 p.depth) (.int .i64 p.count) (.int .i64 p.high)).setCell ⟨B + 1, 0, none⟩ (.int .i64 0)) p a := by
  have g := set11_only w1 B (.int .i64 p.kind) (.slice a.A1 p.pairs.length a.c1) (.slice a.A2 p.keys.length a.c2) (.slice a.A3 p.kids.length a.c3) (.slice a.A4 p.pages.length a.c4) (.int .i64 p.next) (.int .u64 (p.epoch : Int)) (.int .i64 p.root) (.int .i64 p.depth) (.int .i64 p.count) (.int .i64 p.high)
  have hb2 : Below w.heap.size w (set11 w1 B (.int .i64 p.kind) (.slice a.A1 p.pairs.length a.c1) (.slice a.A2 p.keys.length a.c2) (.slice a.A3 p.kids.length a.c3) (.slice a.A4 p.pages.length a.c4) (.int .i64 p.next) (.int .u64 (p.epoch : Int)) (.int .i64 p.root) (.int .i64 p.depth) (.int .i64 p.count) (.int .i64 p.high)) := hb.grown g hb.size (fun k hk => by cases hk; exact hB)
  refine ⟨(set11_at hz (.int .i64 p.kind) (.slice a.A1 p.pairs.length a.c1) (.slice a.A2 p.keys.length a.c2) (.slice a.A3 p.kids.length a.c3) (.slice a.A4 p.pages.length a.c4) (.int .i64 p.next) (.int .u64 (p.epoch : Int)) (.int .i64 p.root) (.int .i64 p.depth) (.int .i64 p.count) (.int .i64 p.high)).set_other (by omega), ?_, hb2.setCell (by show w.heap.size ≤ B + 1; omega) _, (hr.apart g hn (by omega)).apart (grown_set _ (B + 1) 0 (.int .i64 0)) hn (by omega)⟩
  exact World.cell?_setCell_same _ _ _ ((World.cell?_of_block (w := w1) (a := ⟨B + 1, 0, none⟩) (g.block (B + 1) (cell_lt c0) (by simp))).trans c0)
/-- The three new blocks of read. -/
theorem read_new (w : World) (A : Option Addr) (n c : Nat) (u : Bs) (h : BytesAt w A n c u) :
    Rd (((w.alloc (.cells (pC 0) 28)).alloc (.cells #[.int .i64 0] 31)).alloc (.cells #[.slice A n c] 73)) (w.heap.size + 2) u ∧
    At (((w.alloc (.cells (pC 0) 28)).alloc (.cells #[.int .i64 0] 31)).alloc (.cells #[.slice A n c] 73)) w.heap.size (pC 0) ∧
    At (((w.alloc (.cells (pC 0) 28)).alloc (.cells #[.int .i64 0] 31)).alloc (.cells #[.slice A n c] 73)) (w.heap.size + 1) #[.int .i64 0] ∧
    Below w.heap.size w (((w.alloc (.cells (pC 0) 28)).alloc (.cells #[.int .i64 0] 31)).alloc (.cells #[.slice A n c] 73)) := by
  have b1 : Below w.heap.size w (w.alloc (.cells (pC 0) 28)) := (Below.refl _ _).alloc (Nat.le_refl _) _
  have b2 := b1.alloc b1.size (.cells #[.int .i64 0] 31)
  have b3 := b2.alloc b2.size (.cells #[.slice A n c] 73)
  have s1 : (w.alloc (.cells (pC 0) 28)).heap.size = w.heap.size + 1 := by simp
  have s2 : ((w.alloc (.cells (pC 0) 28)).alloc (.cells #[.int .i64 0] 31)).heap.size = w.heap.size + 2 := by simp
  have a1 : At (w.alloc (.cells (pC 0) 28)) w.heap.size (pC 0) := At.of_block (heap_alloc_last w _)
  have a2 : At ((w.alloc (.cells (pC 0) 28)).alloc (.cells #[.int .i64 0] 31)) (w.heap.size + 1) #[.int .i64 0] := At.of_block (by
    have := heap_alloc_last (w.alloc (.cells (pC 0) 28)) (.cells #[.int .i64 0] 31)
    rwa [s1] at this)
  have a3 : At (((w.alloc (.cells (pC 0) 28)).alloc (.cells #[.int .i64 0] 31)).alloc (.cells #[.slice A n c] 73)) (w.heap.size + 2) #[.slice A n c] := At.of_block (by
    have := heap_alloc_last ((w.alloc (.cells (pC 0) 28)).alloc (.cells #[.int .i64 0] 31)) (.cells #[.slice A n c] 73)
    rwa [s2] at this)
  refine ⟨⟨A, n, c, a3.2.2 0 _ rfl, a3.2.1 0, h.below b3, fun a ha hne => ?_⟩, (a1.below ((Below.refl _ _).alloc (Nat.le_refl _) _) (by simp)).below ((Below.refl _ _).alloc (Nat.le_refl _) _) (by simp; omega), a2.below ((Below.refl _ _).alloc (Nat.le_refl _) _) (by simp), b3⟩
  obtain ⟨b, off, e, hlt, _⟩ := h.row hne
  rw [ha] at e
  cases e
  show b < _
  omega
set_option maxRecDepth 100000 in
set_option maxHeartbeats 8000000 in
theorem read_plain (s : Int) (A : Option Addr) (n c : Nat) (u : Bs) (w : World) (h : BytesAt w A n c u) (hs : ¬ (s = 0 ∨ s = 1)) : Calls Try.prog 39 #[.int .i64 s, .slice A n c] w (ReadPost ((rPage u).map (·.1)) w) := by
  have hmf : ∀ (fn : Fn) (first cap : Array Value) (w : World), (Instr.makeFunc fn first cap).run Try.prog w = .ok (.func fn first cap) w := fun _ _ _ _ => rfl
  obtain ⟨hrd, hpg, her, hbl⟩ := read_new w A n c u h
  have cP := page_read (w.heap.size + 2) u _ hrd
  have HPG := Lib.hid hpg
  have HER := Lib.hid her
  have HBL := Lib.hid hbl
  have HS := Lib.hid hs
  clear h hrd hpg her hbl hs
  unfold pC pgC at *
  rcases hr : rPage u with _ | ⟨p, v⟩
  · rw [hr] at cP
    clear hr
    go_enter_defers Try.func39, Try.ntmps39
    go_wp2_with fail
    refine (leads_any _ _).mono ?_
    rintro e w' ⟨r, rfl, hr, rfl⟩
    obtain rfl : r = false := by cases r; rfl; exact absurd (hr.1 rfl) HS.out
    clear hr
    go_wp2_with fail
    refine cP.mono ?_
    rintro e w1 ⟨hg, rfl⟩
    have AG := Lib.hid (HPG.out.grown hg (by omega))
    have EG := Lib.hid (HER.out.grown hg (by omega))
    have BG := Lib.hid (HBL.out.grown hg HBL.out.size (fun k hk => by cases hk; omega))
    obtain ⟨d1, d2, d3⟩ := door_none w w1 w.heap.size AG.out (EG.out.2.2 0 _ rfl) BG.out (Nat.le_refl _)
    clear hg cP
    refine leaves_cons (f := 64) (args := #[ptr w.heap.size, ptr (w.heap.size + 1)]) (by simp) (by simp [go_sem]) ?_
    refine (catch_panicking w.heap.size (w.heap.size + 1) w1 AG.out (EG.out.2.2 0 _ rfl) (EG.out.2.1 0) (by omega)).mono ?_
    rintro e u' w'' ⟨rfl, rfl, rfl⟩
    generalize (set11 w1 w.heap.size (.int .i64 0) (.slice none 0 0) (.slice none 0 0) (.slice none 0 0) (.slice none 0 0) (.int .i64 0) (.int .u64 0) (.int .i64 0) (.int .i64 0) (.int .i64 0) (.int .i64 0)).setCell ⟨w.heap.size + 1, 0, none⟩ (.int .i64 50) = W at *
    have c0 := d1.2.2 0 _ rfl
    have c1 := d1.2.2 1 _ rfl
    have c2 := d1.2.2 2 _ rfl
    have c3 := d1.2.2 3 _ rfl
    have c4 := d1.2.2 4 _ rfl
    have c5 := d1.2.2 5 _ rfl
    have c6 := d1.2.2 6 _ rfl
    have c7 := d1.2.2 7 _ rfl
    have c8 := d1.2.2 8 _ rfl
    have c9 := d1.2.2 9 _ rfl
    have c10 := d1.2.2 10 _ rfl
    simp [Leaves, settle, results, Try.results39, go_sem, *]
    exact ⟨d3, rfl⟩
  · rw [hr] at cP
    clear hr
    go_enter_defers Try.func39, Try.ntmps39
    go_wp2_with fail
    refine (leads_any _ _).mono ?_
    rintro e w' ⟨r, rfl, hr, rfl⟩
    obtain rfl : r = false := by cases r; rfl; exact absurd (hr.1 rfl) HS.out
    clear hr
    go_wp2_with fail
    refine cP.mono ?_
    rintro e w1 ⟨hg, a, rfl, hrows, hok, hrd, hnew⟩
    have AG := HPG.out.grown hg (by omega)
    have EG := HER.out.grown hg (by omega)
    have BG := HBL.out.grown hg HBL.out.size (fun k hk => by cases hk; omega)
    have HNW := Lib.hid (hnew.mono (show w.heap.size ≤ _ by simp; omega))
    have D := Lib.hid (door_some w w1 w.heap.size p a AG (EG.2.2 0 _ rfl) BG (Nat.le_refl _) hrows (hnew.mono (by simp)))
    have HOK := Lib.hid hok
    have r0 : w1.cell? ⟨w.heap.size, 0, none⟩ = some (.int .i64 0) := AG.2.2 0 _ rfl
    have r1 : w1.cell? ⟨w.heap.size, 1, none⟩ = some (.slice none 0 0) := AG.2.2 1 _ rfl
    have r2 : w1.cell? ⟨w.heap.size, 2, none⟩ = some (.slice none 0 0) := AG.2.2 2 _ rfl
    have r3 : w1.cell? ⟨w.heap.size, 3, none⟩ = some (.slice none 0 0) := AG.2.2 3 _ rfl
    have r4 : w1.cell? ⟨w.heap.size, 4, none⟩ = some (.slice none 0 0) := AG.2.2 4 _ rfl
    have r5 : w1.cell? ⟨w.heap.size, 5, none⟩ = some (.int .i64 0) := AG.2.2 5 _ rfl
    have r6 : w1.cell? ⟨w.heap.size, 6, none⟩ = some (.int .u64 0) := AG.2.2 6 _ rfl
    have r7 : w1.cell? ⟨w.heap.size, 7, none⟩ = some (.int .i64 0) := AG.2.2 7 _ rfl
    have r8 : w1.cell? ⟨w.heap.size, 8, none⟩ = some (.int .i64 0) := AG.2.2 8 _ rfl
    have r9 : w1.cell? ⟨w.heap.size, 9, none⟩ = some (.int .i64 0) := AG.2.2 9 _ rfl
    have r10 : w1.cell? ⟨w.heap.size, 10, none⟩ = some (.int .i64 0) := AG.2.2 10 _ rfl
    have fz := AG.2.1
    have e0 := EG.2.2 0 _ rfl
    have e1 := EG.2.1 0
    have hcb : (set11 w1 w.heap.size (.int .i64 p.kind) (.slice a.A1 p.pairs.length a.c1) (.slice a.A2 p.keys.length a.c2) (.slice a.A3 p.kids.length a.c3) (.slice a.A4 p.pages.length a.c4) (.int .i64 p.next) (.int .u64 (p.epoch : Int)) (.int .i64 p.root) (.int .i64 p.depth) (.int .i64 p.count) (.int .i64 p.high)).cell? ⟨w.heap.size + 1, 0, none⟩ = some (.int .i64 0) := by
      rw [World.cell?_of_block (w := w1) (a := ⟨w.heap.size + 1, 0, none⟩) ((set11_only w1 w.heap.size (.int .i64 p.kind) (.slice a.A1 p.pairs.length a.c1) (.slice a.A2 p.keys.length a.c2) (.slice a.A3 p.kids.length a.c3) (.slice a.A4 p.pages.length a.c4) (.int .i64 p.next) (.int .u64 (p.epoch : Int)) (.int .i64 p.root) (.int .i64 p.depth) (.int .i64 p.count) (.int .i64 p.high)).block _ (cell_lt e0) (by simp))]; exact e0
    have hfb : (set11 w1 w.heap.size (.int .i64 p.kind) (.slice a.A1 p.pairs.length a.c1) (.slice a.A2 p.keys.length a.c2) (.slice a.A3 p.kids.length a.c3) (.slice a.A4 p.pages.length a.c4) (.int .i64 p.next) (.int .u64 (p.epoch : Int)) (.int .i64 p.root) (.int .i64 p.depth) (.int .i64 p.count) (.int .i64 p.high)).frozen? ⟨w.heap.size + 1, 0, none⟩ = false := by
      rw [World.frozen?_of_block (w := w1) (a := ⟨w.heap.size + 1, 0, none⟩) ((set11_only w1 w.heap.size (.int .i64 p.kind) (.slice a.A1 p.pairs.length a.c1) (.slice a.A2 p.keys.length a.c2) (.slice a.A3 p.kids.length a.c3) (.slice a.A4 p.pages.length a.c4) (.int .i64 p.next) (.int .u64 (p.epoch : Int)) (.int .i64 p.root) (.int .i64 p.depth) (.int .i64 p.count) (.int .i64 p.high)).block _ (cell_lt e0) (by simp))]; exact e1
    unfold set11 at hcb hfb
    clear cP hg hrows hok hrd hnew AG EG BG e0 e1
    go_wp2_with fail
    change bodyPostD _ _ _ _ _ ((set11 w1 w.heap.size (.int .i64 p.kind) (.slice a.A1 p.pairs.length a.c1) (.slice a.A2 p.keys.length a.c2) (.slice a.A3 p.kids.length a.c3) (.slice a.A4 p.pages.length a.c4) (.int .i64 p.next) (.int .u64 (p.epoch : Int)) (.int .i64 p.root) (.int .i64 p.depth) (.int .i64 p.count) (.int .i64 p.high)).setCell ⟨w.heap.size + 1, 0, none⟩ (.int .i64 0))
    clear r0 r1 r2 r3 r4 r5 r6 r7 r8 r9 r10 fz hcb hfb
    refine leaves_cons (f := 64) (args := #[ptr w.heap.size, ptr (w.heap.size + 1)]) (by simp) (by simp [go_sem]) ?_
    refine (catch_idle w.heap.size (w.heap.size + 1) _).mono ?_
    rintro e u' w'' ⟨rfl, rfl, rfl⟩
    obtain ⟨d1, d2, d3, d4⟩ := D.out
    clear D
    generalize (set11 w1 w.heap.size (.int .i64 p.kind) (.slice a.A1 p.pairs.length a.c1) (.slice a.A2 p.keys.length a.c2) (.slice a.A3 p.kids.length a.c3) (.slice a.A4 p.pages.length a.c4) (.int .i64 p.next) (.int .u64 (p.epoch : Int)) (.int .i64 p.root) (.int .i64 p.depth) (.int .i64 p.count) (.int .i64 p.high)).setCell ⟨w.heap.size + 1, 0, none⟩ (.int .i64 0) = W at *
    have c0 := d1.2.2 0 _ rfl
    have c1 := d1.2.2 1 _ rfl
    have c2 := d1.2.2 2 _ rfl
    have c3 := d1.2.2 3 _ rfl
    have c4 := d1.2.2 4 _ rfl
    have c5 := d1.2.2 5 _ rfl
    have c6 := d1.2.2 6 _ rfl
    have c7 := d1.2.2 7 _ rfl
    have c8 := d1.2.2 8 _ rfl
    have c9 := d1.2.2 9 _ rfl
    have c10 := d1.2.2 10 _ rfl
    simp [Leaves, settle, results, Try.results39, go_sem, *]
    exact ⟨d3, a, rfl, d4, HOK.out, HNW.out⟩
end Go.Proofs.Ytiebaeahimeedaa.Page
