/-
  Contract of page's read, of a superblock's sector.
-/
import Derived.Test.YtiebaeahimeedaaPReadAll
import Derived.Deep.Cut
namespace Go.Proofs.Ytiebaeahimeedaa.Page
open Go.RowKit Gen

set_option maxHeartbeats 4000000 in
/-- Eleven cells, laid over whatever eleven. -/
theorem set11_again {w : World} {b : Nat} {C : Array Value} (h : At w b C) (v0 v1 v2 v3 v4 v5 v6 v7 v8 v9 v10 : Value) (hs : C.toList.length = 11 := by rfl) : At (set11 w b v0 v1 v2 v3 v4 v5 v6 v7 v8 v9 v10) b #[v0, v1, v2, v3, v4, v5, v6, v7, v8, v9, v10] := by
  obtain ⟨lC⟩ := C
  match lC, hs with
  | [z0, z1, z2, z3, z4, z5, z6, z7, z8, z9, z10], _ =>
    have h0 : At (w.setCell ⟨b, 0, none⟩ v0) b #[v0, z1, z2, z3, z4, z5, z6, z7, z8, z9, z10] := by
      have e := h.set 0 v0 (by simp)
      rw [show (#[z0, z1, z2, z3, z4, z5, z6, z7, z8, z9, z10] : Array Value).setIfInBounds 0 v0 = #[v0, z1, z2, z3, z4, z5, z6, z7, z8, z9, z10] from rfl] at e
      exact e
    have h1 : At ((w.setCell ⟨b, 0, none⟩ v0).setCell ⟨b, 1, none⟩ v1) b #[v0, v1, z2, z3, z4, z5, z6, z7, z8, z9, z10] := by
      have e := h0.set 1 v1 (by simp)
      rw [show (#[v0, z1, z2, z3, z4, z5, z6, z7, z8, z9, z10] : Array Value).setIfInBounds 1 v1 = #[v0, v1, z2, z3, z4, z5, z6, z7, z8, z9, z10] from rfl] at e
      exact e
    have h2 : At (((w.setCell ⟨b, 0, none⟩ v0).setCell ⟨b, 1, none⟩ v1).setCell ⟨b, 2, none⟩ v2) b #[v0, v1, v2, z3, z4, z5, z6, z7, z8, z9, z10] := by
      have e := h1.set 2 v2 (by simp)
      rw [show (#[v0, v1, z2, z3, z4, z5, z6, z7, z8, z9, z10] : Array Value).setIfInBounds 2 v2 = #[v0, v1, v2, z3, z4, z5, z6, z7, z8, z9, z10] from rfl] at e
      exact e
    have h3 : At ((((w.setCell ⟨b, 0, none⟩ v0).setCell ⟨b, 1, none⟩ v1).setCell ⟨b, 2, none⟩ v2).setCell ⟨b, 3, none⟩ v3) b #[v0, v1, v2, v3, z4, z5, z6, z7, z8, z9, z10] := by
      have e := h2.set 3 v3 (by simp)
      rw [show (#[v0, v1, v2, z3, z4, z5, z6, z7, z8, z9, z10] : Array Value).setIfInBounds 3 v3 = #[v0, v1, v2, v3, z4, z5, z6, z7, z8, z9, z10] from rfl] at e
      exact e
    have h4 : At (((((w.setCell ⟨b, 0, none⟩ v0).setCell ⟨b, 1, none⟩ v1).setCell ⟨b, 2, none⟩ v2).setCell ⟨b, 3, none⟩ v3).setCell ⟨b, 4, none⟩ v4) b #[v0, v1, v2, v3, v4, z5, z6, z7, z8, z9, z10] := by
      have e := h3.set 4 v4 (by simp)
      rw [show (#[v0, v1, v2, v3, z4, z5, z6, z7, z8, z9, z10] : Array Value).setIfInBounds 4 v4 = #[v0, v1, v2, v3, v4, z5, z6, z7, z8, z9, z10] from rfl] at e
      exact e
    have h5 : At ((((((w.setCell ⟨b, 0, none⟩ v0).setCell ⟨b, 1, none⟩ v1).setCell ⟨b, 2, none⟩ v2).setCell ⟨b, 3, none⟩ v3).setCell ⟨b, 4, none⟩ v4).setCell ⟨b, 5, none⟩ v5) b #[v0, v1, v2, v3, v4, v5, z6, z7, z8, z9, z10] := by
      have e := h4.set 5 v5 (by simp)
      rw [show (#[v0, v1, v2, v3, v4, z5, z6, z7, z8, z9, z10] : Array Value).setIfInBounds 5 v5 = #[v0, v1, v2, v3, v4, v5, z6, z7, z8, z9, z10] from rfl] at e
      exact e
    have h6 : At (((((((w.setCell ⟨b, 0, none⟩ v0).setCell ⟨b, 1, none⟩ v1).setCell ⟨b, 2, none⟩ v2).setCell ⟨b, 3, none⟩ v3).setCell ⟨b, 4, none⟩ v4).setCell ⟨b, 5, none⟩ v5).setCell ⟨b, 6, none⟩ v6) b #[v0, v1, v2, v3, v4, v5, v6, z7, z8, z9, z10] := by
      have e := h5.set 6 v6 (by simp)
      rw [show (#[v0, v1, v2, v3, v4, v5, z6, z7, z8, z9, z10] : Array Value).setIfInBounds 6 v6 = #[v0, v1, v2, v3, v4, v5, v6, z7, z8, z9, z10] from rfl] at e
      exact e
    have h7 : At ((((((((w.setCell ⟨b, 0, none⟩ v0).setCell ⟨b, 1, none⟩ v1).setCell ⟨b, 2, none⟩ v2).setCell ⟨b, 3, none⟩ v3).setCell ⟨b, 4, none⟩ v4).setCell ⟨b, 5, none⟩ v5).setCell ⟨b, 6, none⟩ v6).setCell ⟨b, 7, none⟩ v7) b #[v0, v1, v2, v3, v4, v5, v6, v7, z8, z9, z10] := by
      have e := h6.set 7 v7 (by simp)
      rw [show (#[v0, v1, v2, v3, v4, v5, v6, z7, z8, z9, z10] : Array Value).setIfInBounds 7 v7 = #[v0, v1, v2, v3, v4, v5, v6, v7, z8, z9, z10] from rfl] at e
      exact e
    have h8 : At (((((((((w.setCell ⟨b, 0, none⟩ v0).setCell ⟨b, 1, none⟩ v1).setCell ⟨b, 2, none⟩ v2).setCell ⟨b, 3, none⟩ v3).setCell ⟨b, 4, none⟩ v4).setCell ⟨b, 5, none⟩ v5).setCell ⟨b, 6, none⟩ v6).setCell ⟨b, 7, none⟩ v7).setCell ⟨b, 8, none⟩ v8) b #[v0, v1, v2, v3, v4, v5, v6, v7, v8, z9, z10] := by
      have e := h7.set 8 v8 (by simp)
      rw [show (#[v0, v1, v2, v3, v4, v5, v6, v7, z8, z9, z10] : Array Value).setIfInBounds 8 v8 = #[v0, v1, v2, v3, v4, v5, v6, v7, v8, z9, z10] from rfl] at e
      exact e
    have h9 : At ((((((((((w.setCell ⟨b, 0, none⟩ v0).setCell ⟨b, 1, none⟩ v1).setCell ⟨b, 2, none⟩ v2).setCell ⟨b, 3, none⟩ v3).setCell ⟨b, 4, none⟩ v4).setCell ⟨b, 5, none⟩ v5).setCell ⟨b, 6, none⟩ v6).setCell ⟨b, 7, none⟩ v7).setCell ⟨b, 8, none⟩ v8).setCell ⟨b, 9, none⟩ v9) b #[v0, v1, v2, v3, v4, v5, v6, v7, v8, v9, z10] := by
      have e := h8.set 9 v9 (by simp)
      rw [show (#[v0, v1, v2, v3, v4, v5, v6, v7, v8, z9, z10] : Array Value).setIfInBounds 9 v9 = #[v0, v1, v2, v3, v4, v5, v6, v7, v8, v9, z10] from rfl] at e
      exact e
    have h10 : At (((((((((((w.setCell ⟨b, 0, none⟩ v0).setCell ⟨b, 1, none⟩ v1).setCell ⟨b, 2, none⟩ v2).setCell ⟨b, 3, none⟩ v3).setCell ⟨b, 4, none⟩ v4).setCell ⟨b, 5, none⟩ v5).setCell ⟨b, 6, none⟩ v6).setCell ⟨b, 7, none⟩ v7).setCell ⟨b, 8, none⟩ v8).setCell ⟨b, 9, none⟩ v9).setCell ⟨b, 10, none⟩ v10) b #[v0, v1, v2, v3, v4, v5, v6, v7, v8, v9, v10] := by
      have e := h9.set 10 v10 (by simp)
      rw [show (#[v0, v1, v2, v3, v4, v5, v6, v7, v8, v9, z10] : Array Value).setIfInBounds 10 v10 = #[v0, v1, v2, v3, v4, v5, v6, v7, v8, v9, v10] from rfl] at e
      exact e
    exact h10

def rRead (s : Int) (u : Bs) : Option Pg := if s = 0 ∨ s = 1 then (rWide 8 u).bind fun x => (rPage x.2).map fun y => { y.1 with epoch := x.1 } else (rPage u).map (·.1)
set_option maxRecDepth 100000 in
set_option maxHeartbeats 16000000 in
theorem read_lead (s : Int) (A : Option Addr) (n c : Nat) (u : Bs) (w : World) (h : BytesAt w A n c u) (hs : s = 0 ∨ s = 1) : Calls Try.prog 39 #[.int .i64 s, .slice A n c] w (ReadPost ((rWide 8 u).bind fun x => (rPage x.2).map fun y => { y.1 with epoch := x.1 }) w) := by
  have hmf : ∀ (fn : Fn) (first cap : Array Value) (w : World), (Instr.makeFunc fn first cap).run Try.prog w = .ok (.func fn first cap) w := fun _ _ _ _ => rfl
  obtain ⟨hrd, hpg, her, hbl⟩ := read_new w A n c u h
  have cW := wide8_any (w.heap.size + 2) u _ hrd
  have HPG := Lib.hid hpg
  have HER := Lib.hid her
  have HBL := Lib.hid hbl
  have HS := Lib.hid hs
  clear h hrd hpg her hbl hs
  unfold pC pgC at *
  rcases hr : rWide 8 u with _ | ⟨ep, v⟩
  · rw [hr] at cW
    clear hr
    go_enter_defers Try.func39, Try.ntmps39
    go_wp2_with fail
    refine (leads_any _ _).mono ?_
    rintro e w' ⟨r, rfl, hr, rfl⟩
    obtain rfl : r = true := by rw [hr]; exact HS.out
    clear hr
    go_wp2_with fail
    refine cW.mono ?_
    rintro e w1 ⟨hg, rfl⟩
    have AG := Lib.hid (HPG.out.grown hg (by omega))
    have EG := Lib.hid (HER.out.grown hg (by omega))
    have BG := Lib.hid (HBL.out.grown hg HBL.out.size (fun k hk => by cases hk; omega))
    obtain ⟨d1, d2, d3⟩ := door_none w w1 w.heap.size AG.out (EG.out.2.2 0 _ rfl) BG.out (Nat.le_refl _)
    clear hg cW
    refine leaves_cons (f := 64) (args := #[ptr w.heap.size, ptr (w.heap.size + 1)]) (by simp) (by simp [go_sem]) ?_
    refine (catch_panicking w.heap.size (w.heap.size + 1) w1 AG.out (EG.out.2.2 0 _ rfl) (EG.out.2.1 0) (by omega)).mono ?_
    rintro e u' w'' ⟨rfl, rfl, rfl⟩
    generalize (set11 w1 w.heap.size (.int .i64 0) (.slice none 0 0) (.slice none 0 0) (.slice none 0 0) (.slice none 0 0) (.int .i64 0) (.int .u64 0) (.int .i64 0) (.int .i64 0) (.int .i64 0) (.int .i64 0)).setCell ⟨w.heap.size + 1, 0, none⟩ (.int .i64 50) = W at *
    have c0 := d1.2.2 0 _ rfl
    have c1 := d1.2.2 1 _ rfl
    have c2 := d1.2.2 2 _ rfl
    have c3 := d1.2.2 3 _ rfl
    have c4 := d1.2.2 4 _ rfl
    have c5 := d1.2.2 5 _ rfl
    have c6 := d1.2.2 6 _ rfl
    have c7 := d1.2.2 7 _ rfl
    have c8 := d1.2.2 8 _ rfl
    have c9 := d1.2.2 9 _ rfl
    have c10 := d1.2.2 10 _ rfl
    simp [Leaves, settle, results, Try.results39, go_sem, *]
    exact ⟨d3, rfl⟩
  rw [hr] at cW
  have hep := (wide_lt hr (by omega)).2
  clear hr
  show Calls _ _ _ _ (ReadPost ((rPage v).map fun y => { y.1 with epoch := ep }) w)
  go_enter_defers Try.func39, Try.ntmps39
  go_wp2_with fail
  refine (leads_any _ _).mono ?_
  rintro e w' ⟨r, rfl, hr, rfl⟩
  obtain rfl : r = true := by rw [hr]; exact HS.out
  clear hr
  go_wp2_with fail
  refine cW.mono ?_
  rintro e w0 ⟨hg, rfl, hrd⟩
  have cP := page_read (w.heap.size + 2) v w0 hrd
  have SZ0 := Lib.hid hg.size
  have HPG := Lib.hid (HPG.out.grown hg (by omega))
  have HER := Lib.hid (HER.out.grown hg (by omega))
  have HBL := Lib.hid (HBL.out.grown hg HBL.out.size (fun k hk => by cases hk; omega))
  clear cW hg hrd
  rcases hr : rPage v with _ | ⟨p, v2⟩
  · rw [hr] at cP
    have HZ := Lib.hid hr
    clear hr
    go_wp2_with fail
    refine cP.mono ?_
    rintro e w1 ⟨hg, rfl⟩
    have AG := Lib.hid (HPG.out.grown hg (by omega))
    have EG := Lib.hid (HER.out.grown hg (by omega))
    have BG := Lib.hid (HBL.out.grown hg HBL.out.size (fun k hk => by cases hk; omega))
    obtain ⟨d1, d2, d3⟩ := door_none w w1 w.heap.size AG.out (EG.out.2.2 0 _ rfl) BG.out (Nat.le_refl _)
    clear hg cP
    refine leaves_cons (f := 64) (args := #[ptr w.heap.size, ptr (w.heap.size + 1)]) (by simp) (by simp [go_sem]) ?_
    refine (catch_panicking w.heap.size (w.heap.size + 1) w1 AG.out (EG.out.2.2 0 _ rfl) (EG.out.2.1 0) (by omega)).mono ?_
    rintro e u' w'' ⟨rfl, rfl, rfl⟩
    generalize (set11 w1 w.heap.size (.int .i64 0) (.slice none 0 0) (.slice none 0 0) (.slice none 0 0) (.slice none 0 0) (.int .i64 0) (.int .u64 0) (.int .i64 0) (.int .i64 0) (.int .i64 0) (.int .i64 0)).setCell ⟨w.heap.size + 1, 0, none⟩ (.int .i64 50) = W at *
    have c0 := d1.2.2 0 _ rfl
    have c1 := d1.2.2 1 _ rfl
    have c2 := d1.2.2 2 _ rfl
    have c3 := d1.2.2 3 _ rfl
    have c4 := d1.2.2 4 _ rfl
    have c5 := d1.2.2 5 _ rfl
    have c6 := d1.2.2 6 _ rfl
    have c7 := d1.2.2 7 _ rfl
    have c8 := d1.2.2 8 _ rfl
    have c9 := d1.2.2 9 _ rfl
    have c10 := d1.2.2 10 _ rfl
    simp [Leaves, settle, results, Try.results39, go_sem, *]
    exact ⟨d3, by rw [HZ.out]; rfl⟩
  rw [hr] at cP
  have HZ := Lib.hid hr
  clear hr
  go_wp2_with fail
  refine cP.mono ?_
  rintro e w1 ⟨hg, a, rfl, hrows, hok, hrd, hnew⟩
  have AG := HPG.out.grown hg (by omega)
  have EG := HER.out.grown hg (by omega)
  have BG := HBL.out.grown hg HBL.out.size (fun k hk => by cases hk; omega)
  have HOK := Lib.hid hok
  have HEP := Lib.hid hep
  have r0 : w1.cell? ⟨w.heap.size, 0, none⟩ = some (.int .i64 0) := AG.2.2 0 _ rfl
  have r1 : w1.cell? ⟨w.heap.size, 1, none⟩ = some (.slice none 0 0) := AG.2.2 1 _ rfl
  have r2 : w1.cell? ⟨w.heap.size, 2, none⟩ = some (.slice none 0 0) := AG.2.2 2 _ rfl
  have r3 : w1.cell? ⟨w.heap.size, 3, none⟩ = some (.slice none 0 0) := AG.2.2 3 _ rfl
  have r4 : w1.cell? ⟨w.heap.size, 4, none⟩ = some (.slice none 0 0) := AG.2.2 4 _ rfl
  have r5 : w1.cell? ⟨w.heap.size, 5, none⟩ = some (.int .i64 0) := AG.2.2 5 _ rfl
  have r6 : w1.cell? ⟨w.heap.size, 6, none⟩ = some (.int .u64 0) := AG.2.2 6 _ rfl
  have r7 : w1.cell? ⟨w.heap.size, 7, none⟩ = some (.int .i64 0) := AG.2.2 7 _ rfl
  have r8 : w1.cell? ⟨w.heap.size, 8, none⟩ = some (.int .i64 0) := AG.2.2 8 _ rfl
  have r9 : w1.cell? ⟨w.heap.size, 9, none⟩ = some (.int .i64 0) := AG.2.2 9 _ rfl
  have r10 : w1.cell? ⟨w.heap.size, 10, none⟩ = some (.int .i64 0) := AG.2.2 10 _ rfl
  have fz := AG.2.1
  have hnw := hnew.mono (show w.heap.size + 2 ≤ w0.heap.size by have := SZ0.out; simp at this; omega)
  have g1 := set11_only w1 w.heap.size (.int .i64 p.kind) (.slice a.A1 p.pairs.length a.c1) (.slice a.A2 p.keys.length a.c2) (.slice a.A3 p.kids.length a.c3) (.slice a.A4 p.pages.length a.c4) (.int .i64 p.next) (.int .u64 (p.epoch : Int)) (.int .i64 p.root) (.int .i64 p.depth) (.int .i64 p.count) (.int .i64 p.high)
  have A1 := Lib.hid (set11_at AG (.int .i64 p.kind) (.slice a.A1 p.pairs.length a.c1) (.slice a.A2 p.keys.length a.c2) (.slice a.A3 p.kids.length a.c3) (.slice a.A4 p.pages.length a.c4) (.int .i64 p.next) (.int .u64 (p.epoch : Int)) (.int .i64 p.root) (.int .i64 p.depth) (.int .i64 p.count) (.int .i64 p.high))
  have E1 := Lib.hid (EG.grown g1 (by omega))
  have P1 := Lib.hid (hrows.apart g1 hnw (by omega))
  have B1 := Lib.hid (BG.grown g1 BG.size (fun k hk => by cases hk; omega))
  have HNW := Lib.hid hnw
  clear cP hg hrows hok hrd hnew AG EG BG hep g1 hnw
  go_upto_region 7 with fail
  change Code.wp _ _ _ _ (set11 w1 w.heap.size (.int .i64 p.kind) (.slice a.A1 p.pairs.length a.c1) (.slice a.A2 p.keys.length a.c2) (.slice a.A3 p.kids.length a.c3) (.slice a.A4 p.pages.length a.c4) (.int .i64 p.next) (.int .u64 (p.epoch : Int)) (.int .i64 p.root) (.int .i64 p.depth) (.int .i64 p.count) (.int .i64 p.high))
  generalize set11 w1 w.heap.size (.int .i64 p.kind) (.slice a.A1 p.pairs.length a.c1) (.slice a.A2 p.keys.length a.c2) (.slice a.A3 p.kids.length a.c3) (.slice a.A4 p.pages.length a.c4) (.int .i64 p.next) (.int .u64 (p.epoch : Int)) (.int .i64 p.root) (.int .i64 p.depth) (.int .i64 p.count) (.int .i64 p.high) = W1 at *
  clear r0 r1 r2 r3 r4 r5 r6 r7 r8 r9 r10 fz
  have s6 := A1.out.2.2 6 _ rfl
  have f6 := A1.out.2.1 6
  have g2 := grown_set W1 w.heap.size 6 (.int .u64 (ep : Int))
  have A2 : Hid (At (W1.setCell ⟨w.heap.size, 6, none⟩ (.int .u64 (ep : Int))) w.heap.size (pgC { p with epoch := ep } a)) := Lib.hid (A1.out.set 6 (.int .u64 (ep : Int)) (by simp))
  have E2 := Lib.hid (E1.out.grown g2 (by omega))
  have P2 := Lib.hid (P1.out.apart g2 HNW.out (by omega))
  have B2 := Lib.hid (B1.out.grown g2 B1.out.size (fun k hk => by cases hk; omega))
  clear A1 E1 P1 B1 g2
  go_upto_region 8 with fail
  generalize W1.setCell ⟨w.heap.size, 6, none⟩ (.int .u64 (ep : Int)) = W2 at *
  clear s6 f6
  have r0 : W2.cell? ⟨w.heap.size, 0, none⟩ = some (.int .i64 p.kind) := A2.out.2.2 0 _ rfl
  have r1 : W2.cell? ⟨w.heap.size, 1, none⟩ = some (.slice a.A1 p.pairs.length a.c1) := A2.out.2.2 1 _ rfl
  have r2 : W2.cell? ⟨w.heap.size, 2, none⟩ = some (.slice a.A2 p.keys.length a.c2) := A2.out.2.2 2 _ rfl
  have r3 : W2.cell? ⟨w.heap.size, 3, none⟩ = some (.slice a.A3 p.kids.length a.c3) := A2.out.2.2 3 _ rfl
  have r4 : W2.cell? ⟨w.heap.size, 4, none⟩ = some (.slice a.A4 p.pages.length a.c4) := A2.out.2.2 4 _ rfl
  have r5 : W2.cell? ⟨w.heap.size, 5, none⟩ = some (.int .i64 p.next) := A2.out.2.2 5 _ rfl
  have r6 : W2.cell? ⟨w.heap.size, 6, none⟩ = some (.int .u64 (ep : Int)) := A2.out.2.2 6 _ rfl
  have r7 : W2.cell? ⟨w.heap.size, 7, none⟩ = some (.int .i64 p.root) := A2.out.2.2 7 _ rfl
  have r8 : W2.cell? ⟨w.heap.size, 8, none⟩ = some (.int .i64 p.depth) := A2.out.2.2 8 _ rfl
  have r9 : W2.cell? ⟨w.heap.size, 9, none⟩ = some (.int .i64 p.count) := A2.out.2.2 9 _ rfl
  have r10 : W2.cell? ⟨w.heap.size, 10, none⟩ = some (.int .i64 p.high) := A2.out.2.2 10 _ rfl
  have fz := A2.out.2.1
  have e0 := E2.out.2.2 0 _ rfl
  have e1 := E2.out.2.1 0
  have g3 := set11_only W2 w.heap.size (.int .i64 p.kind) (.slice a.A1 p.pairs.length a.c1) (.slice a.A2 p.keys.length a.c2) (.slice a.A3 p.kids.length a.c3) (.slice a.A4 p.pages.length a.c4) (.int .i64 p.next) (.int .u64 (ep : Int)) (.int .i64 p.root) (.int .i64 p.depth) (.int .i64 p.count) (.int .i64 p.high)
  have hcb : (set11 W2 w.heap.size (.int .i64 p.kind) (.slice a.A1 p.pairs.length a.c1) (.slice a.A2 p.keys.length a.c2) (.slice a.A3 p.kids.length a.c3) (.slice a.A4 p.pages.length a.c4) (.int .i64 p.next) (.int .u64 (ep : Int)) (.int .i64 p.root) (.int .i64 p.depth) (.int .i64 p.count) (.int .i64 p.high)).cell? ⟨w.heap.size + 1, 0, none⟩ = some (.int .i64 0) := (E2.out.grown g3 (by omega)).2.2 0 _ rfl
  have hfb : (set11 W2 w.heap.size (.int .i64 p.kind) (.slice a.A1 p.pairs.length a.c1) (.slice a.A2 p.keys.length a.c2) (.slice a.A3 p.kids.length a.c3) (.slice a.A4 p.pages.length a.c4) (.int .i64 p.next) (.int .u64 (ep : Int)) (.int .i64 p.root) (.int .i64 p.depth) (.int .i64 p.count) (.int .i64 p.high)).frozen? ⟨w.heap.size + 1, 0, none⟩ = false := (E2.out.grown g3 (by omega)).2.1 0
  have A3 := Lib.hid ((set11_again A2.out (.int .i64 p.kind) (.slice a.A1 p.pairs.length a.c1) (.slice a.A2 p.keys.length a.c2) (.slice a.A3 p.kids.length a.c3) (.slice a.A4 p.pages.length a.c4) (.int .i64 p.next) (.int .u64 (ep : Int)) (.int .i64 p.root) (.int .i64 p.depth) (.int .i64 p.count) (.int .i64 p.high)).set_other (b' := w.heap.size + 1) (i := 0) (v := .int .i64 0) (by omega))
  have E3 := Lib.hid (World.cell?_setCell_same (set11 W2 w.heap.size (.int .i64 p.kind) (.slice a.A1 p.pairs.length a.c1) (.slice a.A2 p.keys.length a.c2) (.slice a.A3 p.kids.length a.c3) (.slice a.A4 p.pages.length a.c4) (.int .i64 p.next) (.int .u64 (ep : Int)) (.int .i64 p.root) (.int .i64 p.depth) (.int .i64 p.count) (.int .i64 p.high)) ⟨w.heap.size + 1, 0, none⟩ (.int .i64 0) hcb)
  have P3 := Lib.hid ((P2.out.apart g3 HNW.out (by omega)).apart (grown_set _ (w.heap.size + 1) 0 (.int .i64 0)) HNW.out (by omega))
  have B3 := Lib.hid ((B2.out.grown g3 B2.out.size (fun k hk => by cases hk; omega)).setCell (p := ⟨w.heap.size + 1, 0, none⟩) (by simp) (.int .i64 0))
  unfold set11 at hcb hfb
  clear A2 E2 P2 B2 g3 e0 e1
  go_wp2_with fail
  change bodyPostD _ _ _ _ _ ((set11 W2 w.heap.size (.int .i64 p.kind) (.slice a.A1 p.pairs.length a.c1) (.slice a.A2 p.keys.length a.c2) (.slice a.A3 p.kids.length a.c3) (.slice a.A4 p.pages.length a.c4) (.int .i64 p.next) (.int .u64 (ep : Int)) (.int .i64 p.root) (.int .i64 p.depth) (.int .i64 p.count) (.int .i64 p.high)).setCell ⟨w.heap.size + 1, 0, none⟩ (.int .i64 0))
  clear r0 r1 r2 r3 r4 r5 r6 r7 r8 r9 r10 fz hcb hfb
  refine leaves_cons (f := 64) (args := #[ptr w.heap.size, ptr (w.heap.size + 1)]) (by simp) (by simp [go_sem]) ?_
  refine (catch_idle w.heap.size (w.heap.size + 1) _).mono ?_
  rintro e u' w'' ⟨rfl, rfl, rfl⟩
  have d1 := A3.out
  have d2 := E3.out
  generalize (set11 W2 w.heap.size (.int .i64 p.kind) (.slice a.A1 p.pairs.length a.c1) (.slice a.A2 p.keys.length a.c2) (.slice a.A3 p.kids.length a.c3) (.slice a.A4 p.pages.length a.c4) (.int .i64 p.next) (.int .u64 (ep : Int)) (.int .i64 p.root) (.int .i64 p.depth) (.int .i64 p.count) (.int .i64 p.high)).setCell ⟨w.heap.size + 1, 0, none⟩ (.int .i64 0) = W at *
  have c0 := d1.2.2 0 _ rfl
  have c1 := d1.2.2 1 _ rfl
  have c2 := d1.2.2 2 _ rfl
  have c3 := d1.2.2 3 _ rfl
  have c4 := d1.2.2 4 _ rfl
  have c5 := d1.2.2 5 _ rfl
  have c6 := d1.2.2 6 _ rfl
  have c7 := d1.2.2 7 _ rfl
  have c8 := d1.2.2 8 _ rfl
  have c9 := d1.2.2 9 _ rfl
  have c10 := d1.2.2 10 _ rfl
  simp [Leaves, settle, results, Try.results39, go_sem, *]
  exact ⟨B3.out, by rw [HZ.out]; exact ⟨a, rfl, ⟨P3.out.r1, P3.out.r2, P3.out.r3, P3.out.r4⟩, ⟨HOK.out.kind, HOK.out.pairs, HOK.out.keys, HOK.out.kids, HOK.out.pages, HOK.out.next, HEP.out, HOK.out.root, HOK.out.depth, HOK.out.count, HOK.out.high⟩, HNW.out.mono (by omega)⟩⟩
theorem read_any (s : Int) (A : Option Addr) (n c : Nat) (u : Bs) (w : World) (h : BytesAt w A n c u) : Calls Try.prog 39 #[.int .i64 s, .slice A n c] w (ReadPost (rRead s u) w) := by
  unfold rRead
  by_cases hs : s = 0 ∨ s = 1
  · rw [if_pos hs]; exact read_lead s A n c u w h hs
  · rw [if_neg hs]; exact read_plain s A n c u w h hs
end Go.Proofs.Ytiebaeahimeedaa.Page
