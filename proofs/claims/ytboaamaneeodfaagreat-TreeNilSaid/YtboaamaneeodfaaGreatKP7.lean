/-
  Texts of one family, one behind the other: PCatch, PReadAll, PReadLead, PDecode.
-/
import Derived.Test.YtboaamaneeodfaaGreatKP6
import Derived.Tactics
import Derived.Tactics2
import Derived.Defers
import Derived.Recover
import Derived.Laws.Pointers
import Derived.Deep.Cut
namespace Go.Proofs.YtboaamaneeodfaaGreat.Page
open Go.RowKit Gen

theorem assert_yes (W : World) (v : Value) : (Instr.typeAssert (.iface 39 v) 20 39 true).run Tryz.prog W = .ok (.tuple #[v, .bool true]) W := by kernel_rfl
theorem assert_none (W : World) : (Instr.typeAssert .nilIface 20 39 true).run Tryz.prog W = .ok (.tuple #[.int .i64 0, .bool false]) W := by kernel_rfl
set_option maxRecDepth 100000 in
set_option maxHeartbeats 4000000 in
theorem catch_idle (B C : Nat) (w : World) :
    CallsD Tryz.prog 160 #[ptr B, ptr C] .returning w fun e u' w' => e = .returned (.tuple #[]) ∧ u' = .returning ∧ w' = w := by
  have h1 := assert_none
  refine callsD_of_wpS Tryz.func160 rfl fun c₀ cs hu => ?_
  apply wpS_seq
  apply wpS_region
  simp [wpOpsS, go_sem, recoverD, hu, Tryz.ntmps160, Exit.thenS, h1]
  refine wpS_of_wp ?_
  rw [show #[ptr B, ptr C] ++ (((((((Array.replicate 10 undef).setIfInBounds 3 Value.nilIface).setIfInBounds 4 (.tuple #[.int .i64 0, .bool false])).setIfInBounds 2 (.tuple #[.int .i64 0, .bool false])).setIfInBounds 5 (.int .i64 0)).setIfInBounds 6 (.bool false)).setIfInBounds 0 (.int .i64 0)).setIfInBounds 1 (.bool false) =
    #[ptr B, ptr C, .int .i64 0, .bool false, .tuple #[.int .i64 0, .bool false], .nilIface, .tuple #[.int .i64 0, .bool false], .int .i64 0, .bool false, undef, undef, undef] from rfl]
  go_wp2_with fail
  cases c₀
  simp_all [bodyPostS, results, Tryz.results160]
theorem catch_panicking (B C : Nat) (w : World) (hz : At w B (pC 0)) (c0 : w.cell? ⟨C, 0, none⟩ = some (.int .i64 0)) (f0 : w.frozen? ⟨C, 0, none⟩ = false) (hne : B ≠ C) :
    CallsD Tryz.prog 160 #[ptr B, ptr C] (.panicking ({ v := .iface 39 (.int .i64 50), recovered := false } :: [])) w fun e u' w' =>
      e = .returned (.tuple #[]) ∧ u' = .panicking ({ v := .iface 39 (.int .i64 50), recovered := true } :: []) ∧ w' = (set11 w B (.int .i64 0) (.slice none 0 0) (.slice none 0 0) (.slice none 0 0) (.slice none 0 0) (.int .i64 0) (.int .u64 0) (.int .i64 0) (.int .i64 0) (.int .i64 0) (.int .i64 0)).setCell ⟨C, 0, none⟩ (.int .i64 50) := by
  have h1 := assert_yes
  refine callsD_of_wpS Tryz.func160 rfl fun c₀ cs hu => ?_
  apply wpS_seq
  apply wpS_region
  simp [wpOpsS, go_sem, recoverD, hu, Tryz.ntmps160, Exit.thenS, h1]
  refine wpS_of_wp ?_
  rw [show #[ptr B, ptr C] ++ (((((((Array.replicate 10 undef).setIfInBounds 3 (Value.iface 39 (.int .i64 50))).setIfInBounds 4 (.tuple #[.int .i64 50, .bool true])).setIfInBounds 2 (.tuple #[.int .i64 50, .bool true])).setIfInBounds 5 (.int .i64 50)).setIfInBounds 6 (.bool true)).setIfInBounds 0 (.int .i64 50)).setIfInBounds 1 (.bool true) =
    #[ptr B, ptr C, .int .i64 50, .bool true, .tuple #[.int .i64 50, .bool true], .iface 39 (.int .i64 50), .tuple #[.int .i64 50, .bool true], .int .i64 50, .bool true, undef, undef, undef] from rfl]
  have r0 : w.cell? ⟨B, 0, none⟩ = some (.int .i64 0) := hz.2.2 0 _ rfl
  have r1 : w.cell? ⟨B, 1, none⟩ = some (.slice none 0 0) := hz.2.2 1 _ rfl
  have r2 : w.cell? ⟨B, 2, none⟩ = some (.slice none 0 0) := hz.2.2 2 _ rfl
  have r3 : w.cell? ⟨B, 3, none⟩ = some (.slice none 0 0) := hz.2.2 3 _ rfl
  have r4 : w.cell? ⟨B, 4, none⟩ = some (.slice none 0 0) := hz.2.2 4 _ rfl
  have r5 : w.cell? ⟨B, 5, none⟩ = some (.int .i64 0) := hz.2.2 5 _ rfl
  have r6 : w.cell? ⟨B, 6, none⟩ = some (.int .u64 0) := hz.2.2 6 _ rfl
  have r7 : w.cell? ⟨B, 7, none⟩ = some (.int .i64 0) := hz.2.2 7 _ rfl
  have r8 : w.cell? ⟨B, 8, none⟩ = some (.int .i64 0) := hz.2.2 8 _ rfl
  have r9 : w.cell? ⟨B, 9, none⟩ = some (.int .i64 0) := hz.2.2 9 _ rfl
  have r10 : w.cell? ⟨B, 10, none⟩ = some (.int .i64 0) := hz.2.2 10 _ rfl
  have fz := hz.2.1
  have hcb : (set11 w B (.int .i64 0) (.slice none 0 0) (.slice none 0 0) (.slice none 0 0) (.slice none 0 0) (.int .i64 0) (.int .u64 0) (.int .i64 0) (.int .i64 0) (.int .i64 0) (.int .i64 0)).cell? ⟨C, 0, none⟩ = some (.int .i64 0) := by
    rw [World.cell?_of_block (w := w) (a := ⟨C, 0, none⟩) ((set11_only w B (.int .i64 0) (.slice none 0 0) (.slice none 0 0) (.slice none 0 0) (.slice none 0 0) (.int .i64 0) (.int .u64 0) (.int .i64 0) (.int .i64 0) (.int .i64 0) (.int .i64 0)).block C (cell_lt c0) (by simp; omega))]; exact c0
  have hfb : (set11 w B (.int .i64 0) (.slice none 0 0) (.slice none 0 0) (.slice none 0 0) (.slice none 0 0) (.int .i64 0) (.int .u64 0) (.int .i64 0) (.int .i64 0) (.int .i64 0) (.int .i64 0)).frozen? ⟨C, 0, none⟩ = false := by
    rw [World.frozen?_of_block (w := w) (a := ⟨C, 0, none⟩) ((set11_only w B (.int .i64 0) (.slice none 0 0) (.slice none 0 0) (.slice none 0 0) (.slice none 0 0) (.int .i64 0) (.int .u64 0) (.int .i64 0) (.int .i64 0) (.int .i64 0) (.int .i64 0)).block C (cell_lt c0) (by simp; omega))]; exact f0
  unfold set11 at hcb hfb ⊢
  clear hz
  go_wp2_with fail
  cases c₀
  simp_all [bodyPostS, results, Tryz.results160]
end Go.Proofs.YtboaamaneeodfaaGreat.Page
namespace Go.Proofs.YtboaamaneeodfaaGreat.Page
open Go.RowKit Gen

def ReadPost (r : Option Pg) (w : World) (e : Ending) (w' : World) : Prop := Below w.heap.size w w' ∧ match r with
  | none => e = .returned (.tuple #[pgV { kind := 0 } {}, numV 50])
  | some p => ∃ a, e = .returned (.tuple #[pgV p a, numV 0]) ∧ PgRows w' p a ∧ PgOk p ∧ New p a w.heap.size
/-- What stands behind a page that was not read. -/
theorem door_none (w w1 : World) (B : Nat) (hz : At w1 B (pC 0)) (c0 : w1.cell? ⟨B + 1, 0, none⟩ = some (.int .i64 0)) (hb : Below w.heap.size w w1) (hB : w.heap.size ≤ B) :
    At ((set11 w1 B (.int .i64 0) (.slice none 0 0) (.slice none 0 0) (.slice none 0 0) (.slice none 0 0) (.int .i64 0) (.int .u64 0) (.int .i64 0) (.int .i64 0) (.int .i64 0) (.int .i64 0)).setCell ⟨B + 1, 0, none⟩ (.int .i64 50)) B (pC 0) ∧ ((set11 w1 B (.int .i64 0) (.slice none 0 0) (.slice none 0 0) (.slice none 0 0) (.slice none 0 0) (.int .i64 0) (.int .u64 0) (.int .i64 0) (.int .i64 0) (.int .i64 0) (.int .i64 0)).setCell ⟨B + 1, 0, none⟩ (.int .i64 50)).cell? ⟨B + 1, 0, none⟩ = some (.int .i64 50) ∧ Below w.heap.size w ((set11 w1 B (.int .i64 0) (.slice none 0 0) (.slice none 0 0) (.slice none 0 0) (.slice none 0 0) (.int .i64 0) (.int .u64 0) (.int .i64 0) (.int .i64 0) (.int .i64 0) (.int .i64 0)).setCell ⟨B + 1, 0, none⟩ (.int .i64 50)) := by
  have g := set11_only w1 B (.int .i64 0) (.slice none 0 0) (.slice none 0 0) (.slice none 0 0) (.slice none 0 0) (.int .i64 0) (.int .u64 0) (.int .i64 0) (.int .i64 0) (.int .i64 0) (.int .i64 0)
  have hb2 : Below w.heap.size w (set11 w1 B (.int .i64 0) (.slice none 0 0) (.slice none 0 0) (.slice none 0 0) (.slice none 0 0) (.int .i64 0) (.int .u64 0) (.int .i64 0) (.int .i64 0) (.int .i64 0) (.int .i64 0)) := hb.grown g hb.size (fun k hk => by cases hk; exact hB)
  refine ⟨(set11_at hz (.int .i64 0) (.slice none 0 0) (.slice none 0 0) (.slice none 0 0) (.slice none 0 0) (.int .i64 0) (.int .u64 0) (.int .i64 0) (.int .i64 0) (.int .i64 0) (.int .i64 0)).set_other (by omega), ?_, hb2.setCell (by show w.heap.size ≤ B + 1; omega) _⟩
  exact World.cell?_setCell_same _ _ _ ((World.cell?_of_block (w := w1) (a := ⟨B + 1, 0, none⟩) (g.block (B + 1) (cell_lt c0) (by simp))).trans c0)
/-- .. and behind one that was. -/
theorem door_some (w w1 : World) (B : Nat) (p : Pg) (a : Lay) (hz : At w1 B (pC 0)) (c0 : w1.cell? ⟨B + 1, 0, none⟩ = some (.int .i64 0)) (hb : Below w.heap.size w w1) (hB : w.heap.size ≤ B) (hr : PgRows w1 p a) (hn : New p a (B + 2)) :
    At ((set11 w1 B (.int .i64 p.kind) (.slice a.A1 p.pairs.length a.c1) (.slice a.A2 p.keys.length a.c2) (.slice a.A3 p.kids.length a.c3) (.slice a.A4 p.pages.length a.c4) (.int .i64 p.next) (.int .u64 (p.epoch : Int)) (.int .i64 p.root) (.int .i64 p.depth) (.int .i64 p.count) (.int .i64 p.high)).setCell ⟨B + 1, 0, none⟩ (.int .i64 0)) B (pgC p a) ∧ ((set11 w1 B (.int .i64 p.kind) (.slice a.A1 p.pairs.length a.c1) (.slice a.A2 p.keys.length a.c2) (.slice a.A3 p.kids.length a.c3) (.slice a.A4 p.pages.length a.c4) (.int .i64 p.next) (.int .u64 (p.epoch : Int)) (.int .i64 p.root) (.int .i64 p.depth) (.int .i64 p.count) (.int .i64 p.high)).setCell ⟨B + 1, 0, none⟩ (.int .i64 0)).cell? ⟨B + 1, 0, none⟩ = some (.int .i64 0) ∧ Below w.heap.size w ((set11 w1 B (.int .i64 p.kind) (.slice a.A1 p.pairs.length a.c1) (.slice a.A2 p.keys.length a.c2) (.slice a.A3 p.kids.length a.c3) (.slice a.A4 p.pages.length a.c4) (.int .i64 p.next) (.int .u64 (p.epoch : Int)) (.int .i64 p.root) (.int .i64 p.depth) (.int .i64 p.count) (.int .i64 p.high)).setCell ⟨B + 1, 0, none⟩ (.int .i64 0)) ∧ PgRows ((set11 w1 B (.int .i64 p.kind) (.slice a.A1 p.pairs.length a.c1) (.slice a.A2 p.keys.length a.c2) (.slice a.A3 p.kids.length a.c3) (.slice a.A4 p.pages.length a.c4) (.int .i64 p.next) (.int .u64 (p.epoch : Int)) (.int .i64 p.root) (.int .i64 p.depth) (.int .i64 p.count) (.int .i64 p.high)).setCell ⟨B + 1, 0, none⟩ (.int .i64 0)) p a := by
  have g := set11_only w1 B (.int .i64 p.kind) (.slice a.A1 p.pairs.length a.c1) (.slice a.A2 p.keys.length a.c2) (.slice a.A3 p.kids.length a.c3) (.slice a.A4 p.pages.length a.c4) (.int .i64 p.next) (.int .u64 (p.epoch : Int)) (.int .i64 p.root) (.int .i64 p.depth) (.int .i64 p.count) (.int .i64 p.high)
  have hb2 : Below w.heap.size w (set11 w1 B (.int .i64 p.kind) (.slice a.A1 p.pairs.length a.c1) (.slice a.A2 p.keys.length a.c2) (.slice a.A3 p.kids.length a.c3) (.slice a.A4 p.pages.length a.c4) (.int .i64 p.next) (.int .u64 (p.epoch : Int)) (.int .i64 p.root) (.int .i64 p.depth) (.int .i64 p.count) (.int .i64 p.high)) := hb.grown g hb.size (fun k hk => by cases hk; exact hB)
  refine ⟨(set11_at hz (.int .i64 p.kind) (.slice a.A1 p.pairs.length a.c1) (.slice a.A2 p.keys.length a.c2) (.slice a.A3 p.kids.length a.c3) (.slice a.A4 p.pages.length a.c4) (.int .i64 p.next) (.int .u64 (p.epoch : Int)) (.int .i64 p.root) (.int .i64 p.depth) (.int .i64 p.count) (.int .i64 p.high)).set_other (by omega), ?_, hb2.setCell (by show w.heap.size ≤ B + 1; omega) _, (hr.apart g hn (by omega)).apart (grown_set _ (B + 1) 0 (.int .i64 0)) hn (by omega)⟩
  exact World.cell?_setCell_same _ _ _ ((World.cell?_of_block (w := w1) (a := ⟨B + 1, 0, none⟩) (g.block (B + 1) (cell_lt c0) (by simp))).trans c0)
/-- The three new blocks of read. -/
theorem read_new (w : World) (A : Option Addr) (n c : Nat) (u : Bs) (h : BytesAt w A n c u) :
    Rd (((w.alloc (.cells (pC 0) 82)).alloc (.cells #[.int .i64 0] 39)).alloc (.cells #[.slice A n c] 206)) (w.heap.size + 2) u ∧
    At (((w.alloc (.cells (pC 0) 82)).alloc (.cells #[.int .i64 0] 39)).alloc (.cells #[.slice A n c] 206)) w.heap.size (pC 0) ∧
    At (((w.alloc (.cells (pC 0) 82)).alloc (.cells #[.int .i64 0] 39)).alloc (.cells #[.slice A n c] 206)) (w.heap.size + 1) #[.int .i64 0] ∧
    Below w.heap.size w (((w.alloc (.cells (pC 0) 82)).alloc (.cells #[.int .i64 0] 39)).alloc (.cells #[.slice A n c] 206)) := by
  have b1 : Below w.heap.size w (w.alloc (.cells (pC 0) 82)) := (Below.refl _ _).alloc (Nat.le_refl _) _
  have b2 := b1.alloc b1.size (.cells #[.int .i64 0] 39)
  have b3 := b2.alloc b2.size (.cells #[.slice A n c] 206)
  have s1 : (w.alloc (.cells (pC 0) 82)).heap.size = w.heap.size + 1 := by simp
  have s2 : ((w.alloc (.cells (pC 0) 82)).alloc (.cells #[.int .i64 0] 39)).heap.size = w.heap.size + 2 := by simp
  have a1 : At (w.alloc (.cells (pC 0) 82)) w.heap.size (pC 0) := At.of_block (heap_alloc_last w _)
  have a2 : At ((w.alloc (.cells (pC 0) 82)).alloc (.cells #[.int .i64 0] 39)) (w.heap.size + 1) #[.int .i64 0] := At.of_block (by
    have := heap_alloc_last (w.alloc (.cells (pC 0) 82)) (.cells #[.int .i64 0] 39)
    rwa [s1] at this)
  have a3 : At (((w.alloc (.cells (pC 0) 82)).alloc (.cells #[.int .i64 0] 39)).alloc (.cells #[.slice A n c] 206)) (w.heap.size + 2) #[.slice A n c] := At.of_block (by
    have := heap_alloc_last ((w.alloc (.cells (pC 0) 82)).alloc (.cells #[.int .i64 0] 39)) (.cells #[.slice A n c] 206)
    rwa [s2] at this)
  refine ⟨⟨A, n, c, a3.2.2 0 _ rfl, a3.2.1 0, h.below b3, fun a ha hne => ?_⟩, (a1.below ((Below.refl _ _).alloc (Nat.le_refl _) _) (by simp)).below ((Below.refl _ _).alloc (Nat.le_refl _) _) (by simp; omega), a2.below ((Below.refl _ _).alloc (Nat.le_refl _) _) (by simp), b3⟩
  obtain ⟨b, off, e, hlt, _⟩ := h.row hne
  rw [ha] at e
  cases e
  show b < _
  omega
set_option maxRecDepth 100000 in
set_option maxHeartbeats 8000000 in
theorem read_plain (s : Int) (A : Option Addr) (n c : Nat) (u : Bs) (w : World) (h : BytesAt w A n c u) (hs : ¬ (s = 0 ∨ s = 1)) : Calls Tryz.prog 137 #[.int .i64 s, .slice A n c] w (ReadPost ((rPage u).map (·.1)) w) := by
  have hmf : ∀ (fn : Fn) (first cap : Array Value) (w : World), (Instr.makeFunc fn first cap).run Tryz.prog w = .ok (.func fn first cap) w := fun _ _ _ _ => rfl
  obtain ⟨hrd, hpg, her, hbl⟩ := read_new w A n c u h
  have cP := page_read (w.heap.size + 2) u _ hrd
  have HPG := Lib.hid hpg
  have HER := Lib.hid her
  have HBL := Lib.hid hbl
  have HS := Lib.hid hs
  clear h hrd hpg her hbl hs
  unfold pC pgC at *
  rcases hr : rPage u with _ | ⟨p, v⟩
  · rw [hr] at cP
    clear hr
    go_enter_defers Tryz.func137, Tryz.ntmps137
    go_wp2_with fail
    refine (leads_any _ _).mono ?_
    rintro e w' ⟨r, rfl, hr, rfl⟩
    obtain rfl : r = false := by cases r; rfl; exact absurd (hr.1 rfl) HS.out
    clear hr
    go_wp2_with fail
    refine cP.mono ?_
    rintro e w1 ⟨hg, rfl⟩
    have AG := Lib.hid (HPG.out.grown hg (by omega))
    have EG := Lib.hid (HER.out.grown hg (by omega))
    have BG := Lib.hid (HBL.out.grown hg HBL.out.size (fun k hk => by cases hk; omega))
    obtain ⟨d1, d2, d3⟩ := door_none w w1 w.heap.size AG.out (EG.out.2.2 0 _ rfl) BG.out (Nat.le_refl _)
    clear hg cP
    refine leaves_cons (f := 160) (args := #[ptr w.heap.size, ptr (w.heap.size + 1)]) (by simp) (by simp [go_sem]) ?_
    refine (catch_panicking w.heap.size (w.heap.size + 1) w1 AG.out (EG.out.2.2 0 _ rfl) (EG.out.2.1 0) (by omega)).mono ?_
    rintro e u' w'' ⟨rfl, rfl, rfl⟩
    generalize (set11 w1 w.heap.size (.int .i64 0) (.slice none 0 0) (.slice none 0 0) (.slice none 0 0) (.slice none 0 0) (.int .i64 0) (.int .u64 0) (.int .i64 0) (.int .i64 0) (.int .i64 0) (.int .i64 0)).setCell ⟨w.heap.size + 1, 0, none⟩ (.int .i64 50) = W at *
    have c0 := d1.2.2 0 _ rfl
    have c1 := d1.2.2 1 _ rfl
    have c2 := d1.2.2 2 _ rfl
    have c3 := d1.2.2 3 _ rfl
    have c4 := d1.2.2 4 _ rfl
    have c5 := d1.2.2 5 _ rfl
    have c6 := d1.2.2 6 _ rfl
    have c7 := d1.2.2 7 _ rfl
    have c8 := d1.2.2 8 _ rfl
    have c9 := d1.2.2 9 _ rfl
    have c10 := d1.2.2 10 _ rfl
    simp [Leaves, settle, results, Tryz.results137, go_sem, *]
    exact ⟨d3, rfl⟩
  · rw [hr] at cP
    clear hr
    go_enter_defers Tryz.func137, Tryz.ntmps137
    go_wp2_with fail
    refine (leads_any _ _).mono ?_
    rintro e w' ⟨r, rfl, hr, rfl⟩
    obtain rfl : r = false := by cases r; rfl; exact absurd (hr.1 rfl) HS.out
    clear hr
    go_wp2_with fail
    refine cP.mono ?_
    rintro e w1 ⟨hg, a, rfl, hrows, hok, hrd, hnew⟩
    have AG := HPG.out.grown hg (by omega)
    have EG := HER.out.grown hg (by omega)
    have BG := HBL.out.grown hg HBL.out.size (fun k hk => by cases hk; omega)
    have HNW := Lib.hid (hnew.mono (show w.heap.size ≤ _ by simp; omega))
    have D := Lib.hid (door_some w w1 w.heap.size p a AG (EG.2.2 0 _ rfl) BG (Nat.le_refl _) hrows (hnew.mono (by simp)))
    have HOK := Lib.hid hok
    have r0 : w1.cell? ⟨w.heap.size, 0, none⟩ = some (.int .i64 0) := AG.2.2 0 _ rfl
    have r1 : w1.cell? ⟨w.heap.size, 1, none⟩ = some (.slice none 0 0) := AG.2.2 1 _ rfl
    have r2 : w1.cell? ⟨w.heap.size, 2, none⟩ = some (.slice none 0 0) := AG.2.2 2 _ rfl
    have r3 : w1.cell? ⟨w.heap.size, 3, none⟩ = some (.slice none 0 0) := AG.2.2 3 _ rfl
    have r4 : w1.cell? ⟨w.heap.size, 4, none⟩ = some (.slice none 0 0) := AG.2.2 4 _ rfl
    have r5 : w1.cell? ⟨w.heap.size, 5, none⟩ = some (.int .i64 0) := AG.2.2 5 _ rfl
    have r6 : w1.cell? ⟨w.heap.size, 6, none⟩ = some (.int .u64 0) := AG.2.2 6 _ rfl
    have r7 : w1.cell? ⟨w.heap.size, 7, none⟩ = some (.int .i64 0) := AG.2.2 7 _ rfl
    have r8 : w1.cell? ⟨w.heap.size, 8, none⟩ = some (.int .i64 0) := AG.2.2 8 _ rfl
    have r9 : w1.cell? ⟨w.heap.size, 9, none⟩ = some (.int .i64 0) := AG.2.2 9 _ rfl
    have r10 : w1.cell? ⟨w.heap.size, 10, none⟩ = some (.int .i64 0) := AG.2.2 10 _ rfl
    have fz := AG.2.1
    have e0 := EG.2.2 0 _ rfl
    have e1 := EG.2.1 0
    have hcb : (set11 w1 w.heap.size (.int .i64 p.kind) (.slice a.A1 p.pairs.length a.c1) (.slice a.A2 p.keys.length a.c2) (.slice a.A3 p.kids.length a.c3) (.slice a.A4 p.pages.length a.c4) (.int .i64 p.next) (.int .u64 (p.epoch : Int)) (.int .i64 p.root) (.int .i64 p.depth) (.int .i64 p.count) (.int .i64 p.high)).cell? ⟨w.heap.size + 1, 0, none⟩ = some (.int .i64 0) := by
      rw [World.cell?_of_block (w := w1) (a := ⟨w.heap.size + 1, 0, none⟩) ((set11_only w1 w.heap.size (.int .i64 p.kind) (.slice a.A1 p.pairs.length a.c1) (.slice a.A2 p.keys.length a.c2) (.slice a.A3 p.kids.length a.c3) (.slice a.A4 p.pages.length a.c4) (.int .i64 p.next) (.int .u64 (p.epoch : Int)) (.int .i64 p.root) (.int .i64 p.depth) (.int .i64 p.count) (.int .i64 p.high)).block _ (cell_lt e0) (by simp))]; exact e0
    have hfb : (set11 w1 w.heap.size (.int .i64 p.kind) (.slice a.A1 p.pairs.length a.c1) (.slice a.A2 p.keys.length a.c2) (.slice a.A3 p.kids.length a.c3) (.slice a.A4 p.pages.length a.c4) (.int .i64 p.next) (.int .u64 (p.epoch : Int)) (.int .i64 p.root) (.int .i64 p.depth) (.int .i64 p.count) (.int .i64 p.high)).frozen? ⟨w.heap.size + 1, 0, none⟩ = false := by
      rw [World.frozen?_of_block (w := w1) (a := ⟨w.heap.size + 1, 0, none⟩) ((set11_only w1 w.heap.size (.int .i64 p.kind) (.slice a.A1 p.pairs.length a.c1) (.slice a.A2 p.keys.length a.c2) (.slice a.A3 p.kids.length a.c3) (.slice a.A4 p.pages.length a.c4) (.int .i64 p.next) (.int .u64 (p.epoch : Int)) (.int .i64 p.root) (.int .i64 p.depth) (.int .i64 p.count) (.int .i64 p.high)).block _ (cell_lt e0) (by simp))]; exact e1
    unfold set11 at hcb hfb
    clear cP hg hrows hok hrd hnew AG EG BG e0 e1
    go_wp2_with fail
    change bodyPostD _ _ _ _ _ ((set11 w1 w.heap.size (.int .i64 p.kind) (.slice a.A1 p.pairs.length a.c1) (.slice a.A2 p.keys.length a.c2) (.slice a.A3 p.kids.length a.c3) (.slice a.A4 p.pages.length a.c4) (.int .i64 p.next) (.int .u64 (p.epoch : Int)) (.int .i64 p.root) (.int .i64 p.depth) (.int .i64 p.count) (.int .i64 p.high)).setCell ⟨w.heap.size + 1, 0, none⟩ (.int .i64 0))
    clear r0 r1 r2 r3 r4 r5 r6 r7 r8 r9 r10 fz hcb hfb
    refine leaves_cons (f := 160) (args := #[ptr w.heap.size, ptr (w.heap.size + 1)]) (by simp) (by simp [go_sem]) ?_
    refine (catch_idle w.heap.size (w.heap.size + 1) _).mono ?_
    rintro e u' w'' ⟨rfl, rfl, rfl⟩
    obtain ⟨d1, d2, d3, d4⟩ := D.out
    clear D
    generalize (set11 w1 w.heap.size (.int .i64 p.kind) (.slice a.A1 p.pairs.length a.c1) (.slice a.A2 p.keys.length a.c2) (.slice a.A3 p.kids.length a.c3) (.slice a.A4 p.pages.length a.c4) (.int .i64 p.next) (.int .u64 (p.epoch : Int)) (.int .i64 p.root) (.int .i64 p.depth) (.int .i64 p.count) (.int .i64 p.high)).setCell ⟨w.heap.size + 1, 0, none⟩ (.int .i64 0) = W at *
    have c0 := d1.2.2 0 _ rfl
    have c1 := d1.2.2 1 _ rfl
    have c2 := d1.2.2 2 _ rfl
    have c3 := d1.2.2 3 _ rfl
    have c4 := d1.2.2 4 _ rfl
    have c5 := d1.2.2 5 _ rfl
    have c6 := d1.2.2 6 _ rfl
    have c7 := d1.2.2 7 _ rfl
    have c8 := d1.2.2 8 _ rfl
    have c9 := d1.2.2 9 _ rfl
    have c10 := d1.2.2 10 _ rfl
    simp [Leaves, settle, results, Tryz.results137, go_sem, *]
    exact ⟨d3, a, rfl, d4, HOK.out, HNW.out⟩
end Go.Proofs.YtboaamaneeodfaaGreat.Page
namespace Go.Proofs.YtboaamaneeodfaaGreat.Page
open Go.RowKit Gen

set_option maxHeartbeats 4000000 in
/-- Eleven cells, laid over whatever eleven. -/
theorem set11_again {w : World} {b : Nat} {C : Array Value} (h : At w b C) (v0 v1 v2 v3 v4 v5 v6 v7 v8 v9 v10 : Value) (hs : C.toList.length = 11 := by rfl) : At (set11 w b v0 v1 v2 v3 v4 v5 v6 v7 v8 v9 v10) b #[v0, v1, v2, v3, v4, v5, v6, v7, v8, v9, v10] := by
  obtain ⟨lC⟩ := C
  match lC, hs with
  | [z0, z1, z2, z3, z4, z5, z6, z7, z8, z9, z10], _ =>
    have h0 : At (w.setCell ⟨b, 0, none⟩ v0) b #[v0, z1, z2, z3, z4, z5, z6, z7, z8, z9, z10] := by
      have e := h.set 0 v0 (by simp)
      rw [show (#[z0, z1, z2, z3, z4, z5, z6, z7, z8, z9, z10] : Array Value).setIfInBounds 0 v0 = #[v0, z1, z2, z3, z4, z5, z6, z7, z8, z9, z10] from rfl] at e
      exact e
    have h1 : At ((w.setCell ⟨b, 0, none⟩ v0).setCell ⟨b, 1, none⟩ v1) b #[v0, v1, z2, z3, z4, z5, z6, z7, z8, z9, z10] := by
      have e := h0.set 1 v1 (by simp)
      rw [show (#[v0, z1, z2, z3, z4, z5, z6, z7, z8, z9, z10] : Array Value).setIfInBounds 1 v1 = #[v0, v1, z2, z3, z4, z5, z6, z7, z8, z9, z10] from rfl] at e
      exact e
    have h2 : At (((w.setCell ⟨b, 0, none⟩ v0).setCell ⟨b, 1, none⟩ v1).setCell ⟨b, 2, none⟩ v2) b #[v0, v1, v2, z3, z4, z5, z6, z7, z8, z9, z10] := by
      have e := h1.set 2 v2 (by simp)
      rw [show (#[v0, v1, z2, z3, z4, z5, z6, z7, z8, z9, z10] : Array Value).setIfInBounds 2 v2 = #[v0, v1, v2, z3, z4, z5, z6, z7, z8, z9, z10] from rfl] at e
      exact e
    have h3 : At ((((w.setCell ⟨b, 0, none⟩ v0).setCell ⟨b, 1, none⟩ v1).setCell ⟨b, 2, none⟩ v2).setCell ⟨b, 3, none⟩ v3) b #[v0, v1, v2, v3, z4, z5, z6, z7, z8, z9, z10] := by
      have e := h2.set 3 v3 (by simp)
      rw [show (#[v0, v1, v2, z3, z4, z5, z6, z7, z8, z9, z10] : Array Value).setIfInBounds 3 v3 = #[v0, v1, v2, v3, z4, z5, z6, z7, z8, z9, z10] from rfl] at e
      exact e
    have h4 : At (((((w.setCell ⟨b, 0, none⟩ v0).setCell ⟨b, 1, none⟩ v1).setCell ⟨b, 2, none⟩ v2).setCell ⟨b, 3, none⟩ v3).setCell ⟨b, 4, none⟩ v4) b #[v0, v1, v2, v3, v4, z5, z6, z7, z8, z9, z10] := by
      have e := h3.set 4 v4 (by simp)
      rw [show (#[v0, v1, v2, v3, z4, z5, z6, z7, z8, z9, z10] : Array Value).setIfInBounds 4 v4 = #[v0, v1, v2, v3, v4, z5, z6, z7, z8, z9, z10] from rfl] at e
      exact e
    have h5 : At ((((((w.setCell ⟨b, 0, none⟩ v0).setCell ⟨b, 1, none⟩ v1).setCell ⟨b, 2, none⟩ v2).setCell ⟨b, 3, none⟩ v3).setCell ⟨b, 4, none⟩ v4).setCell ⟨b, 5, none⟩ v5) b #[v0, v1, v2, v3, v4, v5, z6, z7, z8, z9, z10] := by
      have e := h4.set 5 v5 (by simp)
      rw [show (#[v0, v1, v2, v3, v4, z5, z6, z7, z8, z9, z10] : Array Value).setIfInBounds 5 v5 = #[v0, v1, v2, v3, v4, v5, z6, z7, z8, z9, z10] from rfl] at e
      exact e
    have h6 : At (((((((w.setCell ⟨b, 0, none⟩ v0).setCell ⟨b, 1, none⟩ v1).setCell ⟨b, 2, none⟩ v2).setCell ⟨b, 3, none⟩ v3).setCell ⟨b, 4, none⟩ v4).setCell ⟨b, 5, none⟩ v5).setCell ⟨b, 6, none⟩ v6) b #[v0, v1, v2, v3, v4, v5, v6, z7, z8, z9, z10] := by
      have e := h5.set 6 v6 (by simp)
      rw [show (#[v0, v1, v2, v3, v4, v5, z6, z7, z8, z9, z10] : Array Value).setIfInBounds 6 v6 = #[v0, v1, v2, v3, v4, v5, v6, z7, z8, z9, z10] from rfl] at e
      exact e
    have h7 : At ((((((((w.setCell ⟨b, 0, none⟩ v0).setCell ⟨b, 1, none⟩ v1).setCell ⟨b, 2, none⟩ v2).setCell ⟨b, 3, none⟩ v3).setCell ⟨b, 4, none⟩ v4).setCell ⟨b, 5, none⟩ v5).setCell ⟨b, 6, none⟩ v6).setCell ⟨b, 7, none⟩ v7) b #[v0, v1, v2, v3, v4, v5, v6, v7, z8, z9, z10] := by
      have e := h6.set 7 v7 (by simp)
      rw [show (#[v0, v1, v2, v3, v4, v5, v6, z7, z8, z9, z10] : Array Value).setIfInBounds 7 v7 = #[v0, v1, v2, v3, v4, v5, v6, v7, z8, z9, z10] from rfl] at e
      exact e
    have h8 : At (((((((((w.setCell ⟨b, 0, none⟩ v0).setCell ⟨b, 1, none⟩ v1).setCell ⟨b, 2, none⟩ v2).setCell ⟨b, 3, none⟩ v3).setCell ⟨b, 4, none⟩ v4).setCell ⟨b, 5, none⟩ v5).setCell ⟨b, 6, none⟩ v6).setCell ⟨b, 7, none⟩ v7).setCell ⟨b, 8, none⟩ v8) b #[v0, v1, v2, v3, v4, v5, v6, v7, v8, z9, z10] := by
      have e := h7.set 8 v8 (by simp)
      rw [show (#[v0, v1, v2, v3, v4, v5, v6, v7, z8, z9, z10] : Array Value).setIfInBounds 8 v8 = #[v0, v1, v2, v3, v4, v5, v6, v7, v8, z9, z10] from rfl] at e
      exact e
    have h9 : At ((((((((((w.setCell ⟨b, 0, none⟩ v0).setCell ⟨b, 1, none⟩ v1).setCell ⟨b, 2, none⟩ v2).setCell ⟨b, 3, none⟩ v3).setCell ⟨b, 4, none⟩ v4).setCell ⟨b, 5, none⟩ v5).setCell ⟨b, 6, none⟩ v6).setCell ⟨b, 7, none⟩ v7).setCell ⟨b, 8, none⟩ v8).setCell ⟨b, 9, none⟩ v9) b #[v0, v1, v2, v3, v4, v5, v6, v7, v8, v9, z10] := by
      have e := h8.set 9 v9 (by simp)
      rw [show (#[v0, v1, v2, v3, v4, v5, v6, v7, v8, z9, z10] : Array Value).setIfInBounds 9 v9 = #[v0, v1, v2, v3, v4, v5, v6, v7, v8, v9, z10] from rfl] at e
      exact e
    have h10 : At (((((((((((w.setCell ⟨b, 0, none⟩ v0).setCell ⟨b, 1, none⟩ v1).setCell ⟨b, 2, none⟩ v2).setCell ⟨b, 3, none⟩ v3).setCell ⟨b, 4, none⟩ v4).setCell ⟨b, 5, none⟩ v5).setCell ⟨b, 6, none⟩ v6).setCell ⟨b, 7, none⟩ v7).setCell ⟨b, 8, none⟩ v8).setCell ⟨b, 9, none⟩ v9).setCell ⟨b, 10, none⟩ v10) b #[v0, v1, v2, v3, v4, v5, v6, v7, v8, v9, v10] := by
      have e := h9.set 10 v10 (by simp)
      rw [show (#[v0, v1, v2, v3, v4, v5, v6, v7, v8, v9, z10] : Array Value).setIfInBounds 10 v10 = #[v0, v1, v2, v3, v4, v5, v6, v7, v8, v9, v10] from rfl] at e
      exact e
    exact h10

def rRead (s : Int) (u : Bs) : Option Pg := if s = 0 ∨ s = 1 then (rWide 8 u).bind fun x => (rPage x.2).map fun y => { y.1 with epoch := x.1 } else (rPage u).map (·.1)
set_option maxRecDepth 100000 in
set_option maxHeartbeats 16000000 in
theorem read_lead (s : Int) (A : Option Addr) (n c : Nat) (u : Bs) (w : World) (h : BytesAt w A n c u) (hs : s = 0 ∨ s = 1) : Calls Tryz.prog 137 #[.int .i64 s, .slice A n c] w (ReadPost ((rWide 8 u).bind fun x => (rPage x.2).map fun y => { y.1 with epoch := x.1 }) w) := by
  have hmf : ∀ (fn : Fn) (first cap : Array Value) (w : World), (Instr.makeFunc fn first cap).run Tryz.prog w = .ok (.func fn first cap) w := fun _ _ _ _ => rfl
  obtain ⟨hrd, hpg, her, hbl⟩ := read_new w A n c u h
  have cW := wide8_any (w.heap.size + 2) u _ hrd
  have HPG := Lib.hid hpg
  have HER := Lib.hid her
  have HBL := Lib.hid hbl
  have HS := Lib.hid hs
  clear h hrd hpg her hbl hs
  unfold pC pgC at *
  rcases hr : rWide 8 u with _ | ⟨ep, v⟩
  · rw [hr] at cW
    clear hr
    go_enter_defers Tryz.func137, Tryz.ntmps137
    go_wp2_with fail
    refine (leads_any _ _).mono ?_
    rintro e w' ⟨r, rfl, hr, rfl⟩
    obtain rfl : r = true := by rw [hr]; exact HS.out
    clear hr
    go_wp2_with fail
    refine cW.mono ?_
    rintro e w1 ⟨hg, rfl⟩
    have AG := Lib.hid (HPG.out.grown hg (by omega))
    have EG := Lib.hid (HER.out.grown hg (by omega))
    have BG := Lib.hid (HBL.out.grown hg HBL.out.size (fun k hk => by cases hk; omega))
    obtain ⟨d1, d2, d3⟩ := door_none w w1 w.heap.size AG.out (EG.out.2.2 0 _ rfl) BG.out (Nat.le_refl _)
    clear hg cW
    refine leaves_cons (f := 160) (args := #[ptr w.heap.size, ptr (w.heap.size + 1)]) (by simp) (by simp [go_sem]) ?_
    refine (catch_panicking w.heap.size (w.heap.size + 1) w1 AG.out (EG.out.2.2 0 _ rfl) (EG.out.2.1 0) (by omega)).mono ?_
    rintro e u' w'' ⟨rfl, rfl, rfl⟩
    generalize (set11 w1 w.heap.size (.int .i64 0) (.slice none 0 0) (.slice none 0 0) (.slice none 0 0) (.slice none 0 0) (.int .i64 0) (.int .u64 0) (.int .i64 0) (.int .i64 0) (.int .i64 0) (.int .i64 0)).setCell ⟨w.heap.size + 1, 0, none⟩ (.int .i64 50) = W at *
    have c0 := d1.2.2 0 _ rfl
    have c1 := d1.2.2 1 _ rfl
    have c2 := d1.2.2 2 _ rfl
    have c3 := d1.2.2 3 _ rfl
    have c4 := d1.2.2 4 _ rfl
    have c5 := d1.2.2 5 _ rfl
    have c6 := d1.2.2 6 _ rfl
    have c7 := d1.2.2 7 _ rfl
    have c8 := d1.2.2 8 _ rfl
    have c9 := d1.2.2 9 _ rfl
    have c10 := d1.2.2 10 _ rfl
    simp [Leaves, settle, results, Tryz.results137, go_sem, *]
    exact ⟨d3, rfl⟩
  rw [hr] at cW
  have hep := (wide_lt hr (by omega)).2
  clear hr
  show Calls _ _ _ _ (ReadPost ((rPage v).map fun y => { y.1 with epoch := ep }) w)
  go_enter_defers Tryz.func137, Tryz.ntmps137
  go_wp2_with fail
  refine (leads_any _ _).mono ?_
  rintro e w' ⟨r, rfl, hr, rfl⟩
  obtain rfl : r = true := by rw [hr]; exact HS.out
  clear hr
  go_wp2_with fail
  refine cW.mono ?_
  rintro e w0 ⟨hg, rfl, hrd⟩
  have cP := page_read (w.heap.size + 2) v w0 hrd
  have SZ0 := Lib.hid hg.size
  have HPG := Lib.hid (HPG.out.grown hg (by omega))
  have HER := Lib.hid (HER.out.grown hg (by omega))
  have HBL := Lib.hid (HBL.out.grown hg HBL.out.size (fun k hk => by cases hk; omega))
  clear cW hg hrd
  rcases hr : rPage v with _ | ⟨p, v2⟩
  · rw [hr] at cP
    have HZ := Lib.hid hr
    clear hr
    go_wp2_with fail
    refine cP.mono ?_
    rintro e w1 ⟨hg, rfl⟩
    have AG := Lib.hid (HPG.out.grown hg (by omega))
    have EG := Lib.hid (HER.out.grown hg (by omega))
    have BG := Lib.hid (HBL.out.grown hg HBL.out.size (fun k hk => by cases hk; omega))
    obtain ⟨d1, d2, d3⟩ := door_none w w1 w.heap.size AG.out (EG.out.2.2 0 _ rfl) BG.out (Nat.le_refl _)
    clear hg cP
    refine leaves_cons (f := 160) (args := #[ptr w.heap.size, ptr (w.heap.size + 1)]) (by simp) (by simp [go_sem]) ?_
    refine (catch_panicking w.heap.size (w.heap.size + 1) w1 AG.out (EG.out.2.2 0 _ rfl) (EG.out.2.1 0) (by omega)).mono ?_
    rintro e u' w'' ⟨rfl, rfl, rfl⟩
    generalize (set11 w1 w.heap.size (.int .i64 0) (.slice none 0 0) (.slice none 0 0) (.slice none 0 0) (.slice none 0 0) (.int .i64 0) (.int .u64 0) (.int .i64 0) (.int .i64 0) (.int .i64 0) (.int .i64 0)).setCell ⟨w.heap.size + 1, 0, none⟩ (.int .i64 50) = W at *
    have c0 := d1.2.2 0 _ rfl
    have c1 := d1.2.2 1 _ rfl
    have c2 := d1.2.2 2 _ rfl
    have c3 := d1.2.2 3 _ rfl
    have c4 := d1.2.2 4 _ rfl
    have c5 := d1.2.2 5 _ rfl
    have c6 := d1.2.2 6 _ rfl
    have c7 := d1.2.2 7 _ rfl
    have c8 := d1.2.2 8 _ rfl
    have c9 := d1.2.2 9 _ rfl
    have c10 := d1.2.2 10 _ rfl
    simp [Leaves, settle, results, Tryz.results137, go_sem, *]
    exact ⟨d3, by rw [HZ.out]; rfl⟩
  rw [hr] at cP
  have HZ := Lib.hid hr
  clear hr
  go_wp2_with fail
  refine cP.mono ?_
  rintro e w1 ⟨hg, a, rfl, hrows, hok, hrd, hnew⟩
  have AG := HPG.out.grown hg (by omega)
  have EG := HER.out.grown hg (by omega)
  have BG := HBL.out.grown hg HBL.out.size (fun k hk => by cases hk; omega)
  have HOK := Lib.hid hok
  have HEP := Lib.hid hep
  have r0 : w1.cell? ⟨w.heap.size, 0, none⟩ = some (.int .i64 0) := AG.2.2 0 _ rfl
  have r1 : w1.cell? ⟨w.heap.size, 1, none⟩ = some (.slice none 0 0) := AG.2.2 1 _ rfl
  have r2 : w1.cell? ⟨w.heap.size, 2, none⟩ = some (.slice none 0 0) := AG.2.2 2 _ rfl
  have r3 : w1.cell? ⟨w.heap.size, 3, none⟩ = some (.slice none 0 0) := AG.2.2 3 _ rfl
  have r4 : w1.cell? ⟨w.heap.size, 4, none⟩ = some (.slice none 0 0) := AG.2.2 4 _ rfl
  have r5 : w1.cell? ⟨w.heap.size, 5, none⟩ = some (.int .i64 0) := AG.2.2 5 _ rfl
  have r6 : w1.cell? ⟨w.heap.size, 6, none⟩ = some (.int .u64 0) := AG.2.2 6 _ rfl
  have r7 : w1.cell? ⟨w.heap.size, 7, none⟩ = some (.int .i64 0) := AG.2.2 7 _ rfl
  have r8 : w1.cell? ⟨w.heap.size, 8, none⟩ = some (.int .i64 0) := AG.2.2 8 _ rfl
  have r9 : w1.cell? ⟨w.heap.size, 9, none⟩ = some (.int .i64 0) := AG.2.2 9 _ rfl
  have r10 : w1.cell? ⟨w.heap.size, 10, none⟩ = some (.int .i64 0) := AG.2.2 10 _ rfl
  have fz := AG.2.1
  have hnw := hnew.mono (show w.heap.size + 2 ≤ w0.heap.size by have := SZ0.out; simp at this; omega)
  have g1 := set11_only w1 w.heap.size (.int .i64 p.kind) (.slice a.A1 p.pairs.length a.c1) (.slice a.A2 p.keys.length a.c2) (.slice a.A3 p.kids.length a.c3) (.slice a.A4 p.pages.length a.c4) (.int .i64 p.next) (.int .u64 (p.epoch : Int)) (.int .i64 p.root) (.int .i64 p.depth) (.int .i64 p.count) (.int .i64 p.high)
  have A1 := Lib.hid (set11_at AG (.int .i64 p.kind) (.slice a.A1 p.pairs.length a.c1) (.slice a.A2 p.keys.length a.c2) (.slice a.A3 p.kids.length a.c3) (.slice a.A4 p.pages.length a.c4) (.int .i64 p.next) (.int .u64 (p.epoch : Int)) (.int .i64 p.root) (.int .i64 p.depth) (.int .i64 p.count) (.int .i64 p.high))
  have E1 := Lib.hid (EG.grown g1 (by omega))
  have P1 := Lib.hid (hrows.apart g1 hnw (by omega))
  have B1 := Lib.hid (BG.grown g1 BG.size (fun k hk => by cases hk; omega))
  have HNW := Lib.hid hnw
  clear cP hg hrows hok hrd hnew AG EG BG hep g1 hnw
  go_upto_region 7 with fail
  change Code.wp _ _ _ _ (set11 w1 w.heap.size (.int .i64 p.kind) (.slice a.A1 p.pairs.length a.c1) (.slice a.A2 p.keys.length a.c2) (.slice a.A3 p.kids.length a.c3) (.slice a.A4 p.pages.length a.c4) (.int .i64 p.next) (.int .u64 (p.epoch : Int)) (.int .i64 p.root) (.int .i64 p.depth) (.int .i64 p.count) (.int .i64 p.high))
  generalize set11 w1 w.heap.size (.int .i64 p.kind) (.slice a.A1 p.pairs.length a.c1) (.slice a.A2 p.keys.length a.c2) (.slice a.A3 p.kids.length a.c3) (.slice a.A4 p.pages.length a.c4) (.int .i64 p.next) (.int .u64 (p.epoch : Int)) (.int .i64 p.root) (.int .i64 p.depth) (.int .i64 p.count) (.int .i64 p.high) = W1 at *
  clear r0 r1 r2 r3 r4 r5 r6 r7 r8 r9 r10 fz
  have s6 := A1.out.2.2 6 _ rfl
  have f6 := A1.out.2.1 6
  have g2 := grown_set W1 w.heap.size 6 (.int .u64 (ep : Int))
  have A2 : Hid (At (W1.setCell ⟨w.heap.size, 6, none⟩ (.int .u64 (ep : Int))) w.heap.size (pgC { p with epoch := ep } a)) := Lib.hid (A1.out.set 6 (.int .u64 (ep : Int)) (by simp))
  have E2 := Lib.hid (E1.out.grown g2 (by omega))
  have P2 := Lib.hid (P1.out.apart g2 HNW.out (by omega))
  have B2 := Lib.hid (B1.out.grown g2 B1.out.size (fun k hk => by cases hk; omega))
  clear A1 E1 P1 B1 g2
  go_upto_region 8 with fail
  generalize W1.setCell ⟨w.heap.size, 6, none⟩ (.int .u64 (ep : Int)) = W2 at *
  clear s6 f6
  have r0 : W2.cell? ⟨w.heap.size, 0, none⟩ = some (.int .i64 p.kind) := A2.out.2.2 0 _ rfl
  have r1 : W2.cell? ⟨w.heap.size, 1, none⟩ = some (.slice a.A1 p.pairs.length a.c1) := A2.out.2.2 1 _ rfl
  have r2 : W2.cell? ⟨w.heap.size, 2, none⟩ = some (.slice a.A2 p.keys.length a.c2) := A2.out.2.2 2 _ rfl
  have r3 : W2.cell? ⟨w.heap.size, 3, none⟩ = some (.slice a.A3 p.kids.length a.c3) := A2.out.2.2 3 _ rfl
  have r4 : W2.cell? ⟨w.heap.size, 4, none⟩ = some (.slice a.A4 p.pages.length a.c4) := A2.out.2.2 4 _ rfl
  have r5 : W2.cell? ⟨w.heap.size, 5, none⟩ = some (.int .i64 p.next) := A2.out.2.2 5 _ rfl
  have r6 : W2.cell? ⟨w.heap.size, 6, none⟩ = some (.int .u64 (ep : Int)) := A2.out.2.2 6 _ rfl
  have r7 : W2.cell? ⟨w.heap.size, 7, none⟩ = some (.int .i64 p.root) := A2.out.2.2 7 _ rfl
  have r8 : W2.cell? ⟨w.heap.size, 8, none⟩ = some (.int .i64 p.depth) := A2.out.2.2 8 _ rfl
  have r9 : W2.cell? ⟨w.heap.size, 9, none⟩ = some (.int .i64 p.count) := A2.out.2.2 9 _ rfl
  have r10 : W2.cell? ⟨w.heap.size, 10, none⟩ = some (.int .i64 p.high) := A2.out.2.2 10 _ rfl
  have fz := A2.out.2.1
  have e0 := E2.out.2.2 0 _ rfl
  have e1 := E2.out.2.1 0
  have g3 := set11_only W2 w.heap.size (.int .i64 p.kind) (.slice a.A1 p.pairs.length a.c1) (.slice a.A2 p.keys.length a.c2) (.slice a.A3 p.kids.length a.c3) (.slice a.A4 p.pages.length a.c4) (.int .i64 p.next) (.int .u64 (ep : Int)) (.int .i64 p.root) (.int .i64 p.depth) (.int .i64 p.count) (.int .i64 p.high)
  have hcb : (set11 W2 w.heap.size (.int .i64 p.kind) (.slice a.A1 p.pairs.length a.c1) (.slice a.A2 p.keys.length a.c2) (.slice a.A3 p.kids.length a.c3) (.slice a.A4 p.pages.length a.c4) (.int .i64 p.next) (.int .u64 (ep : Int)) (.int .i64 p.root) (.int .i64 p.depth) (.int .i64 p.count) (.int .i64 p.high)).cell? ⟨w.heap.size + 1, 0, none⟩ = some (.int .i64 0) := (E2.out.grown g3 (by omega)).2.2 0 _ rfl
  have hfb : (set11 W2 w.heap.size (.int .i64 p.kind) (.slice a.A1 p.pairs.length a.c1) (.slice a.A2 p.keys.length a.c2) (.slice a.A3 p.kids.length a.c3) (.slice a.A4 p.pages.length a.c4) (.int .i64 p.next) (.int .u64 (ep : Int)) (.int .i64 p.root) (.int .i64 p.depth) (.int .i64 p.count) (.int .i64 p.high)).frozen? ⟨w.heap.size + 1, 0, none⟩ = false := (E2.out.grown g3 (by omega)).2.1 0
  have A3 := Lib.hid ((set11_again A2.out (.int .i64 p.kind) (.slice a.A1 p.pairs.length a.c1) (.slice a.A2 p.keys.length a.c2) (.slice a.A3 p.kids.length a.c3) (.slice a.A4 p.pages.length a.c4) (.int .i64 p.next) (.int .u64 (ep : Int)) (.int .i64 p.root) (.int .i64 p.depth) (.int .i64 p.count) (.int .i64 p.high)).set_other (b' := w.heap.size + 1) (i := 0) (v := .int .i64 0) (by omega))
  have E3 := Lib.hid (World.cell?_setCell_same (set11 W2 w.heap.size (.int .i64 p.kind) (.slice a.A1 p.pairs.length a.c1) (.slice a.A2 p.keys.length a.c2) (.slice a.A3 p.kids.length a.c3) (.slice a.A4 p.pages.length a.c4) (.int .i64 p.next) (.int .u64 (ep : Int)) (.int .i64 p.root) (.int .i64 p.depth) (.int .i64 p.count) (.int .i64 p.high)) ⟨w.heap.size + 1, 0, none⟩ (.int .i64 0) hcb)
  have P3 := Lib.hid ((P2.out.apart g3 HNW.out (by omega)).apart (grown_set _ (w.heap.size + 1) 0 (.int .i64 0)) HNW.out (by omega))
  have B3 := Lib.hid ((B2.out.grown g3 B2.out.size (fun k hk => by cases hk; omega)).setCell (p := ⟨w.heap.size + 1, 0, none⟩) (by simp) (.int .i64 0))
  unfold set11 at hcb hfb
  clear A2 E2 P2 B2 g3 e0 e1
  go_wp2_with fail
  change bodyPostD _ _ _ _ _ ((set11 W2 w.heap.size (.int .i64 p.kind) (.slice a.A1 p.pairs.length a.c1) (.slice a.A2 p.keys.length a.c2) (.slice a.A3 p.kids.length a.c3) (.slice a.A4 p.pages.length a.c4) (.int .i64 p.next) (.int .u64 (ep : Int)) (.int .i64 p.root) (.int .i64 p.depth) (.int .i64 p.count) (.int .i64 p.high)).setCell ⟨w.heap.size + 1, 0, none⟩ (.int .i64 0))
  clear r0 r1 r2 r3 r4 r5 r6 r7 r8 r9 r10 fz hcb hfb
  refine leaves_cons (f := 160) (args := #[ptr w.heap.size, ptr (w.heap.size + 1)]) (by simp) (by simp [go_sem]) ?_
  refine (catch_idle w.heap.size (w.heap.size + 1) _).mono ?_
  rintro e u' w'' ⟨rfl, rfl, rfl⟩
  have d1 := A3.out
  have d2 := E3.out
  generalize (set11 W2 w.heap.size (.int .i64 p.kind) (.slice a.A1 p.pairs.length a.c1) (.slice a.A2 p.keys.length a.c2) (.slice a.A3 p.kids.length a.c3) (.slice a.A4 p.pages.length a.c4) (.int .i64 p.next) (.int .u64 (ep : Int)) (.int .i64 p.root) (.int .i64 p.depth) (.int .i64 p.count) (.int .i64 p.high)).setCell ⟨w.heap.size + 1, 0, none⟩ (.int .i64 0) = W at *
  have c0 := d1.2.2 0 _ rfl
  have c1 := d1.2.2 1 _ rfl
  have c2 := d1.2.2 2 _ rfl
  have c3 := d1.2.2 3 _ rfl
  have c4 := d1.2.2 4 _ rfl
  have c5 := d1.2.2 5 _ rfl
  have c6 := d1.2.2 6 _ rfl
  have c7 := d1.2.2 7 _ rfl
  have c8 := d1.2.2 8 _ rfl
  have c9 := d1.2.2 9 _ rfl
  have c10 := d1.2.2 10 _ rfl
  simp [Leaves, settle, results, Tryz.results137, go_sem, *]
  exact ⟨B3.out, by rw [HZ.out]; exact ⟨a, rfl, ⟨P3.out.r1, P3.out.r2, P3.out.r3, P3.out.r4⟩, ⟨HOK.out.kind, HOK.out.pairs, HOK.out.keys, HOK.out.kids, HOK.out.pages, HOK.out.next, HEP.out, HOK.out.root, HOK.out.depth, HOK.out.count, HOK.out.high⟩, (have h := HNW.out.mono (m := w.heap.size) (by omega); ⟨h.n1, h.n2, h.n3, h.n4, h.n5, h.k1, h.k2, h.k3, h.k4, h.z1, h.z2, h.z3⟩)⟩⟩
theorem read_any (s : Int) (A : Option Addr) (n c : Nat) (u : Bs) (w : World) (h : BytesAt w A n c u) : Calls Tryz.prog 137 #[.int .i64 s, .slice A n c] w (ReadPost (rRead s u) w) := by
  unfold rRead
  by_cases hs : s = 0 ∨ s = 1
  · rw [if_pos hs]; exact read_lead s A n c u w h hs
  · rw [if_neg hs]; exact read_plain s A n c u w h hs
end Go.Proofs.YtboaamaneeodfaaGreat.Page
namespace Go.Proofs.YtboaamaneeodfaaGreat.Page
open Go.RowKit Gen

/-- The page of which a sector and bytes are the bytes. -/
def IsDec (s : Int) (u : Bs) (p : Pg) : Prop := rRead s u = some p ∧ Enc s p u
def DecPost (s : Int) (u : Bs) (w : World) (e : Ending) (w' : World) : Prop := Below w.heap.size w w' ∧
  ((∃ p a, e = .returned (.tuple #[pgV p a, numV 0]) ∧ PgRows w' p a ∧ PgOk p ∧ IsDec s u p ∧ New p a w.heap.size) ∨ (e = .returned (.tuple #[pgV { kind := 0 } {}, numV 50]) ∧ ∀ p, ¬ IsDec s u p))
theorem enc_fun {s : Int} {p : Pg} {l m : Bs} (h : Enc s p l) (g : Enc s p m) : l = m := by
  rcases h with ⟨_, ⟨h1, _, h3⟩ | ⟨h1, _, h3⟩⟩ <;> rcases g with ⟨_, ⟨g1, _, g3⟩ | ⟨g1, _, g3⟩⟩
  · rw [h3, g3]
  · exact absurd h1 g1
  · exact absurd g1 h1
  · rw [h3, g3]
theorem strB_beq (l m : Bs) : ((strB l).toList == (strB m).toList) = decide (l = m) := by
  rw [strB_list, strB_list]
  by_cases h : l = m <;> simp [h]
set_option maxRecDepth 100000 in
/-- bytes.Equal. -/
theorem equal_any (A B : Option Addr) (n c m d : Nat) (l k : Bs) (w : World) (hl : l.length = n) (hk : k.length = m) (hR : BRow w A l) (hS : BRow w B k) : Calls Tryz.prog 138 #[.slice A n c, .slice B m d] w (TellsQ (l = k) w) := by
  have v1 := conv_run c hl hR
  have v2 := conv_run d hk hS
  have HSB := Lib.hid (strB_beq l k)
  obtain ⟨S1, h1⟩ : ∃ S, strB l = S := ⟨_, rfl⟩
  obtain ⟨S2, h2⟩ : ∃ S, strB k = S := ⟨_, rfl⟩
  rw [h1] at v1
  rw [h2] at v2
  rw [h1, h2] at HSB
  clear h1 h2 hl hk hR hS
  go_enter Tryz.func138, Tryz.ntmps138
  go_wp2_with fail
  go_ret
  exact ⟨_, rfl, by rw [HSB.out, decide_eq_true_iff], rfl⟩
end Go.Proofs.YtboaamaneeodfaaGreat.Page
