/-
  Contract of the document's own Decode, and the walk of PageDecodes.
-/
import Derived.Test.YtiebaeahimeedaaPGuess
import Derived.Test.YtiebaeahimeedaaPAwake
import Derived.Test.YtiebaeahimeedaaPRow
namespace Go.Proofs.Ytiebaeahimeedaa.Page
open Go.RowKit Gen

theorem set11_over {w : World} {b : Nat} {a0 a1 a2 a3 a4 a5 a6 a7 a8 a9 a10 : Value} (h : At w b #[a0, a1, a2, a3, a4, a5, a6, a7, a8, a9, a10]) (v0 v1 v2 v3 v4 v5 v6 v7 v8 v9 v10 : Value) : At (set11 w b v0 v1 v2 v3 v4 v5 v6 v7 v8 v9 v10) b #[v0, v1, v2, v3, v4, v5, v6, v7, v8, v9, v10] := by
  have h0 : At (w.setCell ⟨b, 0, none⟩ v0) b #[v0, a1, a2, a3, a4, a5, a6, a7, a8, a9, a10] := by
    have e := h.set 0 v0 (by simp)
    rw [show (#[a0, a1, a2, a3, a4, a5, a6, a7, a8, a9, a10] : Array Value).setIfInBounds 0 v0 = #[v0, a1, a2, a3, a4, a5, a6, a7, a8, a9, a10] from rfl] at e
    exact e
  have h1 : At ((w.setCell ⟨b, 0, none⟩ v0).setCell ⟨b, 1, none⟩ v1) b #[v0, v1, a2, a3, a4, a5, a6, a7, a8, a9, a10] := by
    have e := h0.set 1 v1 (by simp)
    rw [show (#[v0, a1, a2, a3, a4, a5, a6, a7, a8, a9, a10] : Array Value).setIfInBounds 1 v1 = #[v0, v1, a2, a3, a4, a5, a6, a7, a8, a9, a10] from rfl] at e
    exact e
  have h2 : At (((w.setCell ⟨b, 0, none⟩ v0).setCell ⟨b, 1, none⟩ v1).setCell ⟨b, 2, none⟩ v2) b #[v0, v1, v2, a3, a4, a5, a6, a7, a8, a9, a10] := by
    have e := h1.set 2 v2 (by simp)
    rw [show (#[v0, v1, a2, a3, a4, a5, a6, a7, a8, a9, a10] : Array Value).setIfInBounds 2 v2 = #[v0, v1, v2, a3, a4, a5, a6, a7, a8, a9, a10] from rfl] at e
    exact e
  have h3 : At ((((w.setCell ⟨b, 0, none⟩ v0).setCell ⟨b, 1, none⟩ v1).setCell ⟨b, 2, none⟩ v2).setCell ⟨b, 3, none⟩ v3) b #[v0, v1, v2, v3, a4, a5, a6, a7, a8, a9, a10] := by
    have e := h2.set 3 v3 (by simp)
    rw [show (#[v0, v1, v2, a3, a4, a5, a6, a7, a8, a9, a10] : Array Value).setIfInBounds 3 v3 = #[v0, v1, v2, v3, a4, a5, a6, a7, a8, a9, a10] from rfl] at e
    exact e
  have h4 : At (((((w.setCell ⟨b, 0, none⟩ v0).setCell ⟨b, 1, none⟩ v1).setCell ⟨b, 2, none⟩ v2).setCell ⟨b, 3, none⟩ v3).setCell ⟨b, 4, none⟩ v4) b #[v0, v1, v2, v3, v4, a5, a6, a7, a8, a9, a10] := by
    have e := h3.set 4 v4 (by simp)
    rw [show (#[v0, v1, v2, v3, a4, a5, a6, a7, a8, a9, a10] : Array Value).setIfInBounds 4 v4 = #[v0, v1, v2, v3, v4, a5, a6, a7, a8, a9, a10] from rfl] at e
    exact e
  have h5 : At ((((((w.setCell ⟨b, 0, none⟩ v0).setCell ⟨b, 1, none⟩ v1).setCell ⟨b, 2, none⟩ v2).setCell ⟨b, 3, none⟩ v3).setCell ⟨b, 4, none⟩ v4).setCell ⟨b, 5, none⟩ v5) b #[v0, v1, v2, v3, v4, v5, a6, a7, a8, a9, a10] := by
    have e := h4.set 5 v5 (by simp)
    rw [show (#[v0, v1, v2, v3, v4, a5, a6, a7, a8, a9, a10] : Array Value).setIfInBounds 5 v5 = #[v0, v1, v2, v3, v4, v5, a6, a7, a8, a9, a10] from rfl] at e
    exact e
  have h6 : At (((((((w.setCell ⟨b, 0, none⟩ v0).setCell ⟨b, 1, none⟩ v1).setCell ⟨b, 2, none⟩ v2).setCell ⟨b, 3, none⟩ v3).setCell ⟨b, 4, none⟩ v4).setCell ⟨b, 5, none⟩ v5).setCell ⟨b, 6, none⟩ v6) b #[v0, v1, v2, v3, v4, v5, v6, a7, a8, a9, a10] := by
    have e := h5.set 6 v6 (by simp)
    rw [show (#[v0, v1, v2, v3, v4, v5, a6, a7, a8, a9, a10] : Array Value).setIfInBounds 6 v6 = #[v0, v1, v2, v3, v4, v5, v6, a7, a8, a9, a10] from rfl] at e
    exact e
  have h7 : At ((((((((w.setCell ⟨b, 0, none⟩ v0).setCell ⟨b, 1, none⟩ v1).setCell ⟨b, 2, none⟩ v2).setCell ⟨b, 3, none⟩ v3).setCell ⟨b, 4, none⟩ v4).setCell ⟨b, 5, none⟩ v5).setCell ⟨b, 6, none⟩ v6).setCell ⟨b, 7, none⟩ v7) b #[v0, v1, v2, v3, v4, v5, v6, v7, a8, a9, a10] := by
    have e := h6.set 7 v7 (by simp)
    rw [show (#[v0, v1, v2, v3, v4, v5, v6, a7, a8, a9, a10] : Array Value).setIfInBounds 7 v7 = #[v0, v1, v2, v3, v4, v5, v6, v7, a8, a9, a10] from rfl] at e
    exact e
  have h8 : At (((((((((w.setCell ⟨b, 0, none⟩ v0).setCell ⟨b, 1, none⟩ v1).setCell ⟨b, 2, none⟩ v2).setCell ⟨b, 3, none⟩ v3).setCell ⟨b, 4, none⟩ v4).setCell ⟨b, 5, none⟩ v5).setCell ⟨b, 6, none⟩ v6).setCell ⟨b, 7, none⟩ v7).setCell ⟨b, 8, none⟩ v8) b #[v0, v1, v2, v3, v4, v5, v6, v7, v8, a9, a10] := by
    have e := h7.set 8 v8 (by simp)
    rw [show (#[v0, v1, v2, v3, v4, v5, v6, v7, a8, a9, a10] : Array Value).setIfInBounds 8 v8 = #[v0, v1, v2, v3, v4, v5, v6, v7, v8, a9, a10] from rfl] at e
    exact e
  have h9 : At ((((((((((w.setCell ⟨b, 0, none⟩ v0).setCell ⟨b, 1, none⟩ v1).setCell ⟨b, 2, none⟩ v2).setCell ⟨b, 3, none⟩ v3).setCell ⟨b, 4, none⟩ v4).setCell ⟨b, 5, none⟩ v5).setCell ⟨b, 6, none⟩ v6).setCell ⟨b, 7, none⟩ v7).setCell ⟨b, 8, none⟩ v8).setCell ⟨b, 9, none⟩ v9) b #[v0, v1, v2, v3, v4, v5, v6, v7, v8, v9, a10] := by
    have e := h8.set 9 v9 (by simp)
    rw [show (#[v0, v1, v2, v3, v4, v5, v6, v7, v8, a9, a10] : Array Value).setIfInBounds 9 v9 = #[v0, v1, v2, v3, v4, v5, v6, v7, v8, v9, a10] from rfl] at e
    exact e
  have h10 : At (((((((((((w.setCell ⟨b, 0, none⟩ v0).setCell ⟨b, 1, none⟩ v1).setCell ⟨b, 2, none⟩ v2).setCell ⟨b, 3, none⟩ v3).setCell ⟨b, 4, none⟩ v4).setCell ⟨b, 5, none⟩ v5).setCell ⟨b, 6, none⟩ v6).setCell ⟨b, 7, none⟩ v7).setCell ⟨b, 8, none⟩ v8).setCell ⟨b, 9, none⟩ v9).setCell ⟨b, 10, none⟩ v10) b #[v0, v1, v2, v3, v4, v5, v6, v7, v8, v9, v10] := by
    have e := h9.set 10 v10 (by simp)
    rw [show (#[v0, v1, v2, v3, v4, v5, v6, v7, v8, v9, a10] : Array Value).setIfInBounds 10 v10 = #[v0, v1, v2, v3, v4, v5, v6, v7, v8, v9, v10] from rfl] at e
    exact e
  exact h10
/-- A page is stored into a box. -/
theorem lay11 {W : World} {B : Nat} {a0 a1 a2 a3 a4 a5 a6 a7 a8 a9 a10 : Value} (h : At W B #[a0, a1, a2, a3, a4, a5, a6, a7, a8, a9, a10]) (p : Pg) (a : Lay) : ∃ W9, set11 W B (.int .i64 p.kind) (.slice a.A1 p.pairs.length a.c1) (.slice a.A2 p.keys.length a.c2) (.slice a.A3 p.kids.length a.c3) (.slice a.A4 p.pages.length a.c4) (.int .i64 p.next) (.int .u64 (p.epoch : Int)) (.int .i64 p.root) (.int .i64 p.depth) (.int .i64 p.count) (.int .i64 p.high) = W9 ∧ At W9 B (pgC p a) ∧ W.grownBy W9 (some B) :=
  ⟨_, rfl, set11_over h _ _ _ _ _ _ _ _ _ _ _, set11_only W B _ _ _ _ _ _ _ _ _ _ _⟩
theorem gDec_ok (s : Int) (u : Bs) : PgOk (gDec s u) := by
  have h1 : ∀ i, gGet u i 1 ≤ 255 := fun i => by have := gGet_lt u i 1; omega
  have h8 := gGet_lt u 0 8
  unfold gDec
  split
  · have h := gGuess_ok (gGet u 8 1) (h1 8) (u.drop 11)
    exact ⟨h.kind, h.pairs, h.keys, h.kids, h.pages, h.next, h8, h.root, h.depth, h.count, h.high⟩
  · exact gGuess_ok (gGet u 0 1) (h1 0) (u.drop 3)
theorem gGet_one {u : Bs} {i : Nat} (h : i < u.length) : gGet u i 1 = u[i].toNat := by
  simp [gGet, List.getElem?_eq_getElem h]
set_option maxRecDepth 100000 in
set_option maxHeartbeats 2000000 in
theorem rDecode_short (s : Int) (A : Option Addr) (n c : Nat) (u : Bs) (w : World) (h : BytesAt w A n c u) (hs64 : -9223372036854775808 ≤ s ∧ s ≤ 9223372036854775807) (hn : n ≠ 1024) : Calls Try.prog 17 #[.int .i64 s, .slice A n c] w (DecPost s u w) := by
  have H64 := Lib.hid hs64
  have hb0 : Below w.heap.size w (w.alloc (.cells #[.int .i64 0, .slice none 0 0, .slice none 0 0, .slice none 0 0, .slice none 0 0, .int .i64 0, .int .u64 0, .int .i64 0, .int .i64 0, .int .i64 0, .int .i64 0] 28)) := (Below.refl _ _).alloc (Nat.le_refl _) _
  have hz0 : At (w.alloc (.cells #[.int .i64 0, .slice none 0 0, .slice none 0 0, .slice none 0 0, .slice none 0 0, .int .i64 0, .int .u64 0, .int .i64 0, .int .i64 0, .int .i64 0, .int .i64 0] 28)) w.heap.size (pC 0) := At.of_block (heap_alloc_last w _)
  obtain ⟨W0, hW0⟩ : ∃ W0, w.alloc (.cells #[.int .i64 0, .slice none 0 0, .slice none 0 0, .slice none 0 0, .slice none 0 0, .int .i64 0, .int .u64 0, .int .i64 0, .int .i64 0, .int .i64 0, .int .i64 0] 28) = W0 := ⟨_, rfl⟩
  have hsz : W0.heap.size = w.heap.size + 1 := by rw [← hW0]; simp
  rw [hW0] at hb0 hz0
  have HU0 := Lib.hid (h.below hb0)
  have HZ0 := Lib.hid hz0
  have HB0 := Lib.hid hb0
  have HSZ := Lib.hid hsz
  have d1 : ((n : Int) != 1024) = true := by simp [bne]; omega
  have HD : Hid (∀ q, ¬ IsDec s u q) := Lib.hid (fun q hq => hn (by rw [← h.len]; exact enc_len hq.2))
  clear hz0 hb0 hsz h hn
  go_enter Try.func17, Try.ntmps17
  have r0 : W0.cell? ⟨w.heap.size, 0, none⟩ = some (.int .i64 0) := HZ0.out.2.2 0 _ rfl
  have r1 : W0.cell? ⟨w.heap.size, 1, none⟩ = some (.slice none 0 0) := HZ0.out.2.2 1 _ rfl
  have r2 : W0.cell? ⟨w.heap.size, 2, none⟩ = some (.slice none 0 0) := HZ0.out.2.2 2 _ rfl
  have r3 : W0.cell? ⟨w.heap.size, 3, none⟩ = some (.slice none 0 0) := HZ0.out.2.2 3 _ rfl
  have r4 : W0.cell? ⟨w.heap.size, 4, none⟩ = some (.slice none 0 0) := HZ0.out.2.2 4 _ rfl
  have r5 : W0.cell? ⟨w.heap.size, 5, none⟩ = some (.int .i64 0) := HZ0.out.2.2 5 _ rfl
  have r6 : W0.cell? ⟨w.heap.size, 6, none⟩ = some (.int .u64 0) := HZ0.out.2.2 6 _ rfl
  have r7 : W0.cell? ⟨w.heap.size, 7, none⟩ = some (.int .i64 0) := HZ0.out.2.2 7 _ rfl
  have r8 : W0.cell? ⟨w.heap.size, 8, none⟩ = some (.int .i64 0) := HZ0.out.2.2 8 _ rfl
  have r9 : W0.cell? ⟨w.heap.size, 9, none⟩ = some (.int .i64 0) := HZ0.out.2.2 9 _ rfl
  have r10 : W0.cell? ⟨w.heap.size, 10, none⟩ = some (.int .i64 0) := HZ0.out.2.2 10 _ rfl
  have fz := HZ0.out.2.1
  have A9 := Lib.hid (set11_at HZ0.out (.int .i64 0) (.slice none 0 0) (.slice none 0 0) (.slice none 0 0) (.slice none 0 0) (.int .i64 0) (.int .u64 0) (.int .i64 0) (.int .i64 0) (.int .i64 0) (.int .i64 0))
  have g9 := set11_only W0 w.heap.size (.int .i64 0) (.slice none 0 0) (.slice none 0 0) (.slice none 0 0) (.slice none 0 0) (.int .i64 0) (.int .u64 0) (.int .i64 0) (.int .i64 0) (.int .i64 0) (.int .i64 0)
  have B9 : Hid (Below w.heap.size w (set11 W0 w.heap.size (.int .i64 0) (.slice none 0 0) (.slice none 0 0) (.slice none 0 0) (.slice none 0 0) (.int .i64 0) (.int .u64 0) (.int .i64 0) (.int .i64 0) (.int .i64 0) (.int .i64 0))) := Lib.hid (HB0.out.grown g9 HB0.out.size (fun k hk => by cases hk; omega))
  clear g9
  go_wp2_with fail
  change bodyPost _ _ _ _ _ (set11 W0 w.heap.size (.int .i64 0) (.slice none 0 0) (.slice none 0 0) (.slice none 0 0) (.slice none 0 0) (.int .i64 0) (.int .u64 0) (.int .i64 0) (.int .i64 0) (.int .i64 0) (.int .i64 0))
  generalize set11 W0 w.heap.size (.int .i64 0) (.slice none 0 0) (.slice none 0 0) (.slice none 0 0) (.slice none 0 0) (.int .i64 0) (.int .u64 0) (.int .i64 0) (.int .i64 0) (.int .i64 0) (.int .i64 0) = W99 at *
  clear r0 r1 r2 r3 r4 r5 r6 r7 r8 r9 r10 fz hW0
  have c0 := A9.out.2.2 0 _ rfl
  have c1 := A9.out.2.2 1 _ rfl
  have c2 := A9.out.2.2 2 _ rfl
  have c3 := A9.out.2.2 3 _ rfl
  have c4 := A9.out.2.2 4 _ rfl
  have c5 := A9.out.2.2 5 _ rfl
  have c6 := A9.out.2.2 6 _ rfl
  have c7 := A9.out.2.2 7 _ rfl
  have c8 := A9.out.2.2 8 _ rfl
  have c9 := A9.out.2.2 9 _ rfl
  have c10 := A9.out.2.2 10 _ rfl
  refine bodyPost_ret (v := .tuple #[pgV { kind := 0 } {}, numV 50]) (by simp [results, Try.results17, go_sem, *]) rfl ?_
  exact ⟨B9.out, .inr ⟨rfl, HD.out⟩⟩
set_option maxRecDepth 100000 in
set_option maxHeartbeats 8000000 in
theorem rDecode_plain (s : Int) (A : Option Addr) (c : Nat) (u : Bs) (w : World) (h : BytesAt w A 1024 c u) (hs64 : -9223372036854775808 ≤ s ∧ s ≤ 9223372036854775807) (e0 : (s == 0) = false) (e1 : (s == 1) = false) : Calls Try.prog 17 #[.int .i64 s, .slice A 1024 c] w (DecPost s u w) := by
  have H64 := Lib.hid hs64
  have hb0 : Below w.heap.size w (w.alloc (.cells #[.int .i64 0, .slice none 0 0, .slice none 0 0, .slice none 0 0, .slice none 0 0, .int .i64 0, .int .u64 0, .int .i64 0, .int .i64 0, .int .i64 0, .int .i64 0] 28)) := (Below.refl _ _).alloc (Nat.le_refl _) _
  have hz0 : At (w.alloc (.cells #[.int .i64 0, .slice none 0 0, .slice none 0 0, .slice none 0 0, .slice none 0 0, .int .i64 0, .int .u64 0, .int .i64 0, .int .i64 0, .int .i64 0, .int .i64 0] 28)) w.heap.size (pC 0) := At.of_block (heap_alloc_last w _)
  obtain ⟨W0, hW0⟩ : ∃ W0, w.alloc (.cells #[.int .i64 0, .slice none 0 0, .slice none 0 0, .slice none 0 0, .slice none 0 0, .int .i64 0, .int .u64 0, .int .i64 0, .int .i64 0, .int .i64 0, .int .i64 0] 28) = W0 := ⟨_, rfl⟩
  have hsz : W0.heap.size = w.heap.size + 1 := by rw [← hW0]; simp
  rw [hW0] at hb0 hz0
  have HU0 := Lib.hid (h.below hb0)
  have HZ0 := Lib.hid hz0
  have HB0 := Lib.hid hb0
  have HSZ := Lib.hid hsz
  have hul := h.len
  obtain ⟨b, off, rfl, hlt, hc⟩ := h.row (by intro e; rw [e] at hul; simp at hul)
  have hx0 : w.cell? ⟨b, off, none⟩ = some (byteV (u[0]'(by omega))) := hc 0 (by omega)
  have hy0 : w.cell? ⟨b, off + 8, none⟩ = some (byteV (u[8]'(by omega))) := hc 8 (by omega)
  have OKQ := Lib.hid (gDec_ok s u)
  have EPQ := Lib.hid (gDec_epoch s u)
  have HQ0 : Hid (gDec s u = gGuess ((u[0]'(by omega)).toNat : Int) (u.drop 3)) := Lib.hid (by rw [gDec, if_neg (by simp at e0 e1; omega), gGet_one (by omega)])
  have hcap := h.cap
  have q3 : ∀ W, (Instr.slice 30 (.slice (some ⟨b, off, none⟩) 1024 c) (some (.int .i64 3)) none none).run Try.prog W = .ok (.slice (if c = 3 then some ⟨b, off, none⟩ else (some ⟨b, off, none⟩ : Option Addr).map (·.add 3)) (1024 - 3) (c - 3)) W := fun W => tail_runB _ 1024 c 3 (by omega) W
  have q11 : ∀ W, (Instr.slice 30 (.slice (some ⟨b, off, none⟩) 1024 c) (some (.int .i64 11)) none none).run Try.prog W = .ok (.slice (if c = 11 then some ⟨b, off, none⟩ else (some ⟨b, off, none⟩ : Option Addr).map (·.add 11)) (1024 - 11) (c - 11)) W := fun W => tail_runB _ 1024 c 11 (by omega) W
  have Y3 := Lib.hid (h.tail (k := 3))
  have Y11 := Lib.hid (h.tail (k := 11))
  generalize (if c = 3 then some ⟨b, off, none⟩ else (some ⟨b, off, none⟩ : Option Addr).map (·.add 3)) = A3 at q3 Y3
  generalize (if c = 11 then some ⟨b, off, none⟩ else (some ⟨b, off, none⟩ : Option Addr).map (·.add 11)) = A11 at q11 Y11
  generalize c - 3 = c3 at q3 Y3
  generalize c - 11 = c11 at q11 Y11
  simp only [Nat.reduceSub] at q3 q11 Y3 Y11
  generalize u[0]'(by omega) = x at *
  generalize u[8]'(by omega) = y at *
  have hx2 := x.toNat_lt
  have hy2 := y.toNat_lt
  have hwx : IntKind.i64.wrap (x.toNat : Int) = x.toNat := IntWalk.i64_in _ (by omega)
  have hwy : IntKind.i64.wrap (y.toNat : Int) = y.toNat := IntWalk.i64_in _ (by omega)
  have CG := Lib.hid (fun W (hW : Below w.heap.size w W) => guess_any x.toNat A3 1021 c3 (u.drop 3) W (Y3.out.below hW) (by omega))
  obtain ⟨q0, hq0⟩ : ∃ q, gGuess (x.toNat : Int) (u.drop 3) = q := ⟨_, rfl⟩
  rw [hq0] at CG HQ0
  clear hq0
  have S0 : W0.drew.cell? ⟨b, off, none⟩ = some (.int .u8 (x.toNat : Int)) := (hb0.cell (p := ⟨b, off, none⟩) hlt).trans hx0
  have KS := Lib.hid (fun w' (hW : Below W0.heap.size W0 w') => show w'.cell? ⟨b, off, none⟩ = some (.int .u8 (x.toNat : Int)) from ((hb0.trans (hW.mono hb0.size)).cell (p := ⟨b, off, none⟩) hlt).trans hx0)
  have HY0 := Lib.hid (show b < w.heap.size ∧ w.cell? ⟨b, off + 8, none⟩ = some (byteV y) from ⟨hlt, hy0⟩)
  clear hz0 hb0 hsz h hul hlt hc hx0 hy0 hcap hs64 Y11 q11 hwy hy2
  go_enter Try.func17, Try.ntmps17
  go_wp2_with fail
  clear hW0
  refine region_last (S := fun w' => w'.cell? ⟨b, off, none⟩ = some (.int .u8 (x.toNat : Int))) 8 (by kernel_rfl) rfl rfl rfl rfl (by kernel_rfl) (by kernel_rfl) ?_
  intro w3 hw3
  subst hw3
  have hSR := S0
  simp only [List.set_cons_zero, List.set_cons_succ]
  refine wpAnyH_take (i := 0) (v := ?_) rfl (by kernel_rfl) (by kernel_rfl) (by kernel_rfl) (fun _ _ _ h => h) (Or.inl ⟨by rfl, ?_⟩) hSR ?_
  rotate_left
  · (intro w' hSw; (try dsimp only at hSw); go_simp; (try with_reducible rfl))
  simp only [Act.put]
  refine wpAnyH_take (i := 1) (v := ?_) rfl (by kernel_rfl) (by kernel_rfl) (by kernel_rfl) (fun _ _ _ h => h) (Or.inl ⟨by rfl, ?_⟩) hSR ?_
  rotate_left
  · (intro w' hSw; (try dsimp only at hSw); go_simp; (try with_reducible rfl))
  simp only [Act.put]
  refine wpAnyH_take (i := 2) (v := ?_) rfl (by kernel_rfl) (by kernel_rfl) (by kernel_rfl) (fun _ _ _ h => h) (Or.inl ⟨by rfl, ?_⟩) hSR ?_
  rotate_left
  · (intro w' hSw; (try dsimp only at hSw); go_simp; (try with_reducible rfl))
  simp only [Act.put]
  refine wpAnyH_take (i := 3) (v := ?_) rfl (by kernel_rfl) (by kernel_rfl) (by kernel_rfl) (fun _ _ _ h => h) (Or.inl ⟨by rfl, ?_⟩) hSR ?_
  rotate_left
  · (intro w' hSw; (try dsimp only at hSw); go_simp; (try with_reducible rfl))
  simp only [Act.put]
  refine wpAnyH_take (i := 4) (v := ?_) rfl (by kernel_rfl) (by kernel_rfl) (by kernel_rfl) (fun _ _ _ h => h) (Or.inl ⟨by rfl, ?_⟩) hSR ?_
  rotate_left
  · (intro w' hSw; (try dsimp only at hSw); go_simp; (try with_reducible rfl))
  simp only [Act.put]
  refine wpAnyH_take (i := 5) (v := ?_) rfl (by kernel_rfl) (by kernel_rfl) (by kernel_rfl) (fun _ _ _ h => h) (Or.inl ⟨by rfl, ?_⟩) hSR ?_
  rotate_left
  · (intro w' hSw; (try dsimp only at hSw); go_simp; (try with_reducible rfl))
  simp only [Act.put]
  clear S0 hwx q3 hx2
  refine wpAnyH_ready (rs := [6, 7]) (by kernel_rfl) (by simp) (AllReadyH.cons rfl (fun K hK => ?_) (AllReadyH.cons rfl (fun K hK => ?_) AllReadyH.nil))
  · go_simp
    have hd : Below W0.heap.size W0 W0.drew := (Below.refl _ _).drew
    refine (CG.out _ (HB0.out.trans (hd.mono HB0.out.size))).mono ?_
    rintro e w2 ⟨a2, rfl, hr2, hn2, hb2⟩
    have hB2 : Below W0.heap.size W0 w2 := hd.trans hb2
    have hB3 : Below W0.heap.size W0 (w2.alloc (.cells #[.int .i64 0, .slice none 0 0, .slice none 0 0, .slice none 0 0, .slice none 0 0, .int .i64 0, .int .u64 0, .int .i64 0, .int .i64 0, .int .i64 0, .int .i64 0] 28)) := hB2.alloc hB2.size _
    have hA9 := pg_box w2 q0 a2
    have hB4 : Below w2.heap.size w2 (w2.alloc (.cells (pgC q0 a2) 28)) := (Below.refl w2.heap.size w2).alloc (Nat.le_refl _) _
    obtain ⟨W9, hW9⟩ : ∃ W9, w2.alloc (.cells (pgC q0 a2) 28) = W9 := ⟨_, rfl⟩
    rw [hW9] at hA9 hB4
    have HA := Lib.hid hA9
    have HR := Lib.hid (hr2.below hB4)
    have HB := Lib.hid ((HB0.out.trans (hB2.mono HB0.out.size)).trans (hB4.mono (Nat.le_trans HB0.out.size hB2.size)))
    have HZ := Lib.hid ((HZ0.out.below hB2 HZ0.out.1).below hB4 (Nat.lt_of_lt_of_le HZ0.out.1 hB2.size))
    have HU := Lib.hid ((HU0.out.below hB2).below hB4)
    have NW := Lib.hid (hn2.mono (show w.heap.size + 1 ≤ W0.drew.heap.size from Nat.le_of_eq HSZ.out.symm))
    have KB := Lib.hid (show w.heap.size + 1 ≤ w2.heap.size from Nat.le_trans (Nat.le_of_eq HSZ.out.symm) hB2.size)
    have S2 := Lib.hid (KS.out _ hB2)
    have S3 := Lib.hid (KS.out _ hB3)
    unfold pgC at hW9
    clear hd hb2 hB2 hB3 hB4 hr2 hn2 hA9
    refine hK.out _ _ S2.out (fun hSR => ?_)
    clear hK K
    refine wpAnyH_ready (rs := [7]) (by kernel_rfl) (by simp) (AllReadyH.cons rfl (fun K hK => ?_) AllReadyH.nil)
    go_simp
    refine hK.out _ _ S3.out (fun hSR => ?_)
    clear hK K
    (try simp only [Act.put])
    refine wpAnyH_take (i := 8) (v := ?_) rfl (by kernel_rfl) (by kernel_rfl) (by kernel_rfl) (fun _ _ _ h => h) (Or.inl ⟨by rfl, ?_⟩) hSR ?_
    rotate_left
    · (intro w' hSw; (try dsimp only at hSw); go_simp; (try with_reducible rfl))
    simp only [Act.put]
    refine wpAnyH_done (by kernel_rfl) ?_ _
    show Oper.wp _ _ _ _ _ _
    unfold Oper.wp
    go_simp
    clear hSR S2 S3 KS CG
    obtain ⟨Bx, hBx⟩ : ∃ B, w2.heap.size = B := ⟨_, rfl⟩
    rw [hBx] at HA KB
    (try rw [hBx])
    (try rw [hW9])
    clear hW9 hBx
    clear HU0 HZ0 HB0 HSZ
    have OK : Hid (PgOk q0) := Lib.hid (by rw [← HQ0.out]; exact OKQ.out)
    have EP : Hid (q0.epoch < 18446744073709551616) := Lib.hid (by rw [← HQ0.out]; exact EPQ.out)
    have HQ := HQ0
    clear OKQ EPQ HQ0 HY0
    have c0 : W9.cell? ⟨Bx, 0, none⟩ = some (.int .i64 q0.kind) := HA.out.2.2 0 _ rfl
    have c1 : W9.cell? ⟨Bx, 1, none⟩ = some (.slice a2.A1 q0.pairs.length a2.c1) := HA.out.2.2 1 _ rfl
    have c2 : W9.cell? ⟨Bx, 2, none⟩ = some (.slice a2.A2 q0.keys.length a2.c2) := HA.out.2.2 2 _ rfl
    have c3 : W9.cell? ⟨Bx, 3, none⟩ = some (.slice a2.A3 q0.kids.length a2.c3) := HA.out.2.2 3 _ rfl
    have c4 : W9.cell? ⟨Bx, 4, none⟩ = some (.slice a2.A4 q0.pages.length a2.c4) := HA.out.2.2 4 _ rfl
    have c5 : W9.cell? ⟨Bx, 5, none⟩ = some (.int .i64 q0.next) := HA.out.2.2 5 _ rfl
    have c6 : W9.cell? ⟨Bx, 6, none⟩ = some (.int .u64 (q0.epoch : Int)) := HA.out.2.2 6 _ rfl
    have c7 : W9.cell? ⟨Bx, 7, none⟩ = some (.int .i64 q0.root) := HA.out.2.2 7 _ rfl
    have c8 : W9.cell? ⟨Bx, 8, none⟩ = some (.int .i64 q0.depth) := HA.out.2.2 8 _ rfl
    have c9 : W9.cell? ⟨Bx, 9, none⟩ = some (.int .i64 q0.count) := HA.out.2.2 9 _ rfl
    have c10 : W9.cell? ⟨Bx, 10, none⟩ = some (.int .i64 q0.high) := HA.out.2.2 10 _ rfl
    have cE := rEncode_any s q0 a2 W9 H64.out OK.out HR.out
    go_wp2_with fail
    clear c0 c1 c2 c3 c4 c5 c6 c7 c8 c9 c10
    refine cE.mono ?_
    rintro e w4 (⟨X, m, d, l, rfl, hby, henc, hb⟩ | ⟨rfl, hno, hb⟩)
    · obtain rfl : m = 1024 := by rw [← hby.len]; exact enc_len henc
      have HA4 := Lib.hid (HA.out.below hb HA.out.1)
      have HZ4 := Lib.hid (HZ.out.below hb HZ.out.1)
      have HB4 := Lib.hid (HB.out.trans (hb.mono HB.out.size))
      have HU4 := Lib.hid (HU.out.below hb)
      have HR4 := Lib.hid (HR.out.below hb)
      have v1 := conv_run d hby.len hby.row
      have v2 := conv_run c HU4.out.len HU4.out.row
      have HSB := Lib.hid (strB_beq l u)
      obtain ⟨S1, h1⟩ : ∃ S, strB l = S := ⟨_, rfl⟩
      obtain ⟨S2, h2⟩ : ∃ S, strB u = S := ⟨_, rfl⟩
      rw [h1] at v1
      rw [h2] at v2
      rw [h1, h2] at HSB
      have HE := Lib.hid henc
      clear h1 h2 hby henc hb cE HA HZ HB HU HR
      by_cases hlu : l = u
      · have e8 : (S1.toList == S2.toList) = true := by rw [HSB.out]; simp [hlu]
        have e9 : (S1.toList != S2.toList) = false := by simp [bne, e8]
        have HD : Hid (IsDec s u q0) := Lib.hid (by rw [← hlu]; exact dec_of_enc HE.out EP.out)
        clear hlu HSB
        have c0 : w4.cell? ⟨Bx, 0, none⟩ = some (.int .i64 q0.kind) := HA4.out.2.2 0 _ rfl
        have c1 : w4.cell? ⟨Bx, 1, none⟩ = some (.slice a2.A1 q0.pairs.length a2.c1) := HA4.out.2.2 1 _ rfl
        have c2 : w4.cell? ⟨Bx, 2, none⟩ = some (.slice a2.A2 q0.keys.length a2.c2) := HA4.out.2.2 2 _ rfl
        have c3 : w4.cell? ⟨Bx, 3, none⟩ = some (.slice a2.A3 q0.kids.length a2.c3) := HA4.out.2.2 3 _ rfl
        have c4 : w4.cell? ⟨Bx, 4, none⟩ = some (.slice a2.A4 q0.pages.length a2.c4) := HA4.out.2.2 4 _ rfl
        have c5 : w4.cell? ⟨Bx, 5, none⟩ = some (.int .i64 q0.next) := HA4.out.2.2 5 _ rfl
        have c6 : w4.cell? ⟨Bx, 6, none⟩ = some (.int .u64 (q0.epoch : Int)) := HA4.out.2.2 6 _ rfl
        have c7 : w4.cell? ⟨Bx, 7, none⟩ = some (.int .i64 q0.root) := HA4.out.2.2 7 _ rfl
        have c8 : w4.cell? ⟨Bx, 8, none⟩ = some (.int .i64 q0.depth) := HA4.out.2.2 8 _ rfl
        have c9 : w4.cell? ⟨Bx, 9, none⟩ = some (.int .i64 q0.count) := HA4.out.2.2 9 _ rfl
        have c10 : w4.cell? ⟨Bx, 10, none⟩ = some (.int .i64 q0.high) := HA4.out.2.2 10 _ rfl
        have r0 : w4.cell? ⟨w.heap.size, 0, none⟩ = some (.int .i64 0) := HZ4.out.2.2 0 _ rfl
        have r1 : w4.cell? ⟨w.heap.size, 1, none⟩ = some (.slice none 0 0) := HZ4.out.2.2 1 _ rfl
        have r2 : w4.cell? ⟨w.heap.size, 2, none⟩ = some (.slice none 0 0) := HZ4.out.2.2 2 _ rfl
        have r3 : w4.cell? ⟨w.heap.size, 3, none⟩ = some (.slice none 0 0) := HZ4.out.2.2 3 _ rfl
        have r4 : w4.cell? ⟨w.heap.size, 4, none⟩ = some (.slice none 0 0) := HZ4.out.2.2 4 _ rfl
        have r5 : w4.cell? ⟨w.heap.size, 5, none⟩ = some (.int .i64 0) := HZ4.out.2.2 5 _ rfl
        have r6 : w4.cell? ⟨w.heap.size, 6, none⟩ = some (.int .u64 0) := HZ4.out.2.2 6 _ rfl
        have r7 : w4.cell? ⟨w.heap.size, 7, none⟩ = some (.int .i64 0) := HZ4.out.2.2 7 _ rfl
        have r8 : w4.cell? ⟨w.heap.size, 8, none⟩ = some (.int .i64 0) := HZ4.out.2.2 8 _ rfl
        have r9 : w4.cell? ⟨w.heap.size, 9, none⟩ = some (.int .i64 0) := HZ4.out.2.2 9 _ rfl
        have r10 : w4.cell? ⟨w.heap.size, 10, none⟩ = some (.int .i64 0) := HZ4.out.2.2 10 _ rfl
        have fz := HZ4.out.2.1
        have A9 := Lib.hid (set11_at HZ4.out (.int .i64 q0.kind) (.slice a2.A1 q0.pairs.length a2.c1) (.slice a2.A2 q0.keys.length a2.c2) (.slice a2.A3 q0.kids.length a2.c3) (.slice a2.A4 q0.pages.length a2.c4) (.int .i64 q0.next) (.int .u64 (q0.epoch : Int)) (.int .i64 q0.root) (.int .i64 q0.depth) (.int .i64 q0.count) (.int .i64 q0.high))
        have g9 := set11_only w4 w.heap.size (.int .i64 q0.kind) (.slice a2.A1 q0.pairs.length a2.c1) (.slice a2.A2 q0.keys.length a2.c2) (.slice a2.A3 q0.kids.length a2.c3) (.slice a2.A4 q0.pages.length a2.c4) (.int .i64 q0.next) (.int .u64 (q0.epoch : Int)) (.int .i64 q0.root) (.int .i64 q0.depth) (.int .i64 q0.count) (.int .i64 q0.high)
        have B9 : Hid (Below w.heap.size w (set11 w4 w.heap.size (.int .i64 q0.kind) (.slice a2.A1 q0.pairs.length a2.c1) (.slice a2.A2 q0.keys.length a2.c2) (.slice a2.A3 q0.kids.length a2.c3) (.slice a2.A4 q0.pages.length a2.c4) (.int .i64 q0.next) (.int .u64 (q0.epoch : Int)) (.int .i64 q0.root) (.int .i64 q0.depth) (.int .i64 q0.count) (.int .i64 q0.high))) := Lib.hid (HB4.out.grown g9 HB4.out.size (fun k hk => by cases hk; omega))
        have N9 := Lib.hid (HR4.out.apart g9 NW.out (by omega))
        clear g9
        go_wp2_with fail
        change bodyPost _ _ _ _ _ (set11 w4 w.heap.size (.int .i64 q0.kind) (.slice a2.A1 q0.pairs.length a2.c1) (.slice a2.A2 q0.keys.length a2.c2) (.slice a2.A3 q0.kids.length a2.c3) (.slice a2.A4 q0.pages.length a2.c4) (.int .i64 q0.next) (.int .u64 (q0.epoch : Int)) (.int .i64 q0.root) (.int .i64 q0.depth) (.int .i64 q0.count) (.int .i64 q0.high))
        generalize set11 w4 w.heap.size (.int .i64 q0.kind) (.slice a2.A1 q0.pairs.length a2.c1) (.slice a2.A2 q0.keys.length a2.c2) (.slice a2.A3 q0.kids.length a2.c3) (.slice a2.A4 q0.pages.length a2.c4) (.int .i64 q0.next) (.int .u64 (q0.epoch : Int)) (.int .i64 q0.root) (.int .i64 q0.depth) (.int .i64 q0.count) (.int .i64 q0.high) = W99 at *
        clear r0 r1 r2 r3 r4 r5 r6 r7 r8 r9 r10 fz c0 c1 c2 c3 c4 c5 c6 c7 c8 c9 c10
        have c0 := A9.out.2.2 0 _ rfl
        have c1 := A9.out.2.2 1 _ rfl
        have c2 := A9.out.2.2 2 _ rfl
        have c3 := A9.out.2.2 3 _ rfl
        have c4 := A9.out.2.2 4 _ rfl
        have c5 := A9.out.2.2 5 _ rfl
        have c6 := A9.out.2.2 6 _ rfl
        have c7 := A9.out.2.2 7 _ rfl
        have c8 := A9.out.2.2 8 _ rfl
        have c9 := A9.out.2.2 9 _ rfl
        have c10 := A9.out.2.2 10 _ rfl
        refine bodyPost_ret (v := .tuple #[pgV q0 a2, numV 0]) (by simp [results, Try.results17, go_sem, *]) rfl ?_
        exact ⟨B9.out, .inl ⟨q0, a2, rfl, N9.out, OK.out, HD.out⟩⟩
      · have e8 : (S1.toList == S2.toList) = false := by rw [HSB.out]; simp [hlu]
        have e9 : (S1.toList != S2.toList) = true := by simp [bne, e8]
        have HD : Hid (∀ q, ¬ IsDec s u q) := Lib.hid (fun q hq => by have e := isDec_back hq; rw [HQ.out] at e; subst e; exact hlu (enc_fun HE.out hq.2))
        clear hlu HSB
        have r0 : w4.cell? ⟨w.heap.size, 0, none⟩ = some (.int .i64 0) := HZ4.out.2.2 0 _ rfl
        have r1 : w4.cell? ⟨w.heap.size, 1, none⟩ = some (.slice none 0 0) := HZ4.out.2.2 1 _ rfl
        have r2 : w4.cell? ⟨w.heap.size, 2, none⟩ = some (.slice none 0 0) := HZ4.out.2.2 2 _ rfl
        have r3 : w4.cell? ⟨w.heap.size, 3, none⟩ = some (.slice none 0 0) := HZ4.out.2.2 3 _ rfl
        have r4 : w4.cell? ⟨w.heap.size, 4, none⟩ = some (.slice none 0 0) := HZ4.out.2.2 4 _ rfl
        have r5 : w4.cell? ⟨w.heap.size, 5, none⟩ = some (.int .i64 0) := HZ4.out.2.2 5 _ rfl
        have r6 : w4.cell? ⟨w.heap.size, 6, none⟩ = some (.int .u64 0) := HZ4.out.2.2 6 _ rfl
        have r7 : w4.cell? ⟨w.heap.size, 7, none⟩ = some (.int .i64 0) := HZ4.out.2.2 7 _ rfl
        have r8 : w4.cell? ⟨w.heap.size, 8, none⟩ = some (.int .i64 0) := HZ4.out.2.2 8 _ rfl
        have r9 : w4.cell? ⟨w.heap.size, 9, none⟩ = some (.int .i64 0) := HZ4.out.2.2 9 _ rfl
        have r10 : w4.cell? ⟨w.heap.size, 10, none⟩ = some (.int .i64 0) := HZ4.out.2.2 10 _ rfl
        have fz := HZ4.out.2.1
        have A9 := Lib.hid (set11_at HZ4.out (.int .i64 0) (.slice none 0 0) (.slice none 0 0) (.slice none 0 0) (.slice none 0 0) (.int .i64 0) (.int .u64 0) (.int .i64 0) (.int .i64 0) (.int .i64 0) (.int .i64 0))
        have g9 := set11_only w4 w.heap.size (.int .i64 0) (.slice none 0 0) (.slice none 0 0) (.slice none 0 0) (.slice none 0 0) (.int .i64 0) (.int .u64 0) (.int .i64 0) (.int .i64 0) (.int .i64 0) (.int .i64 0)
        have B9 : Hid (Below w.heap.size w (set11 w4 w.heap.size (.int .i64 0) (.slice none 0 0) (.slice none 0 0) (.slice none 0 0) (.slice none 0 0) (.int .i64 0) (.int .u64 0) (.int .i64 0) (.int .i64 0) (.int .i64 0) (.int .i64 0))) := Lib.hid (HB4.out.grown g9 HB4.out.size (fun k hk => by cases hk; omega))
        clear g9
        go_wp2_with fail
        change bodyPost _ _ _ _ _ (set11 w4 w.heap.size (.int .i64 0) (.slice none 0 0) (.slice none 0 0) (.slice none 0 0) (.slice none 0 0) (.int .i64 0) (.int .u64 0) (.int .i64 0) (.int .i64 0) (.int .i64 0) (.int .i64 0))
        generalize set11 w4 w.heap.size (.int .i64 0) (.slice none 0 0) (.slice none 0 0) (.slice none 0 0) (.slice none 0 0) (.int .i64 0) (.int .u64 0) (.int .i64 0) (.int .i64 0) (.int .i64 0) (.int .i64 0) = W99 at *
        clear r0 r1 r2 r3 r4 r5 r6 r7 r8 r9 r10 fz 
        have c0 := A9.out.2.2 0 _ rfl
        have c1 := A9.out.2.2 1 _ rfl
        have c2 := A9.out.2.2 2 _ rfl
        have c3 := A9.out.2.2 3 _ rfl
        have c4 := A9.out.2.2 4 _ rfl
        have c5 := A9.out.2.2 5 _ rfl
        have c6 := A9.out.2.2 6 _ rfl
        have c7 := A9.out.2.2 7 _ rfl
        have c8 := A9.out.2.2 8 _ rfl
        have c9 := A9.out.2.2 9 _ rfl
        have c10 := A9.out.2.2 10 _ rfl
        refine bodyPost_ret (v := .tuple #[pgV { kind := 0 } {}, numV 50]) (by simp [results, Try.results17, go_sem, *]) rfl ?_
        exact ⟨B9.out, .inr ⟨rfl, HD.out⟩⟩
    · have HA4 := Lib.hid (HA.out.below hb HA.out.1)
      have HZ4 := Lib.hid (HZ.out.below hb HZ.out.1)
      have HB4 := Lib.hid (HB.out.trans (hb.mono HB.out.size))
      have HU4 := Lib.hid (HU.out.below hb)
      have HR4 := Lib.hid (HR.out.below hb)
      have HD : Hid (∀ q, ¬ IsDec s u q) := Lib.hid (fun q hq => by have e := isDec_back hq; rw [HQ.out] at e; subst e; exact hno _ hq.2)
      clear hno hb cE HA HZ HB HU HR
      have r0 : w4.cell? ⟨w.heap.size, 0, none⟩ = some (.int .i64 0) := HZ4.out.2.2 0 _ rfl
      have r1 : w4.cell? ⟨w.heap.size, 1, none⟩ = some (.slice none 0 0) := HZ4.out.2.2 1 _ rfl
      have r2 : w4.cell? ⟨w.heap.size, 2, none⟩ = some (.slice none 0 0) := HZ4.out.2.2 2 _ rfl
      have r3 : w4.cell? ⟨w.heap.size, 3, none⟩ = some (.slice none 0 0) := HZ4.out.2.2 3 _ rfl
      have r4 : w4.cell? ⟨w.heap.size, 4, none⟩ = some (.slice none 0 0) := HZ4.out.2.2 4 _ rfl
      have r5 : w4.cell? ⟨w.heap.size, 5, none⟩ = some (.int .i64 0) := HZ4.out.2.2 5 _ rfl
      have r6 : w4.cell? ⟨w.heap.size, 6, none⟩ = some (.int .u64 0) := HZ4.out.2.2 6 _ rfl
      have r7 : w4.cell? ⟨w.heap.size, 7, none⟩ = some (.int .i64 0) := HZ4.out.2.2 7 _ rfl
      have r8 : w4.cell? ⟨w.heap.size, 8, none⟩ = some (.int .i64 0) := HZ4.out.2.2 8 _ rfl
      have r9 : w4.cell? ⟨w.heap.size, 9, none⟩ = some (.int .i64 0) := HZ4.out.2.2 9 _ rfl
      have r10 : w4.cell? ⟨w.heap.size, 10, none⟩ = some (.int .i64 0) := HZ4.out.2.2 10 _ rfl
      have fz := HZ4.out.2.1
      have A9 := Lib.hid (set11_at HZ4.out (.int .i64 0) (.slice none 0 0) (.slice none 0 0) (.slice none 0 0) (.slice none 0 0) (.int .i64 0) (.int .u64 0) (.int .i64 0) (.int .i64 0) (.int .i64 0) (.int .i64 0))
      have g9 := set11_only w4 w.heap.size (.int .i64 0) (.slice none 0 0) (.slice none 0 0) (.slice none 0 0) (.slice none 0 0) (.int .i64 0) (.int .u64 0) (.int .i64 0) (.int .i64 0) (.int .i64 0) (.int .i64 0)
      have B9 : Hid (Below w.heap.size w (set11 w4 w.heap.size (.int .i64 0) (.slice none 0 0) (.slice none 0 0) (.slice none 0 0) (.slice none 0 0) (.int .i64 0) (.int .u64 0) (.int .i64 0) (.int .i64 0) (.int .i64 0) (.int .i64 0))) := Lib.hid (HB4.out.grown g9 HB4.out.size (fun k hk => by cases hk; omega))
      clear g9
      go_wp2_with fail
      change bodyPost _ _ _ _ _ (set11 w4 w.heap.size (.int .i64 0) (.slice none 0 0) (.slice none 0 0) (.slice none 0 0) (.slice none 0 0) (.int .i64 0) (.int .u64 0) (.int .i64 0) (.int .i64 0) (.int .i64 0) (.int .i64 0))
      generalize set11 w4 w.heap.size (.int .i64 0) (.slice none 0 0) (.slice none 0 0) (.slice none 0 0) (.slice none 0 0) (.int .i64 0) (.int .u64 0) (.int .i64 0) (.int .i64 0) (.int .i64 0) (.int .i64 0) = W99 at *
      clear r0 r1 r2 r3 r4 r5 r6 r7 r8 r9 r10 fz 
      have c0 := A9.out.2.2 0 _ rfl
      have c1 := A9.out.2.2 1 _ rfl
      have c2 := A9.out.2.2 2 _ rfl
      have c3 := A9.out.2.2 3 _ rfl
      have c4 := A9.out.2.2 4 _ rfl
      have c5 := A9.out.2.2 5 _ rfl
      have c6 := A9.out.2.2 6 _ rfl
      have c7 := A9.out.2.2 7 _ rfl
      have c8 := A9.out.2.2 8 _ rfl
      have c9 := A9.out.2.2 9 _ rfl
      have c10 := A9.out.2.2 10 _ rfl
      refine bodyPost_ret (v := .tuple #[pgV { kind := 0 } {}, numV 50]) (by simp [results, Try.results17, go_sem, *]) rfl ?_
      exact ⟨B9.out, .inr ⟨rfl, HD.out⟩⟩
  · go_simp
    have hd : Below W0.heap.size W0 (W0.alloc (.cells #[.int .i64 0, .slice none 0 0, .slice none 0 0, .slice none 0 0, .slice none 0 0, .int .i64 0, .int .u64 0, .int .i64 0, .int .i64 0, .int .i64 0, .int .i64 0] 28)).drew := ((Below.refl _ _).alloc (Nat.le_refl _) _).drew
    have hz1 : At (W0.alloc (.cells #[.int .i64 0, .slice none 0 0, .slice none 0 0, .slice none 0 0, .slice none 0 0, .int .i64 0, .int .u64 0, .int .i64 0, .int .i64 0, .int .i64 0, .int .i64 0] 28)).drew W0.heap.size (pC 0) := (show At (W0.alloc (.cells #[.int .i64 0, .slice none 0 0, .slice none 0 0, .slice none 0 0, .slice none 0 0, .int .i64 0, .int .u64 0, .int .i64 0, .int .i64 0, .int .i64 0, .int .i64 0] 28)) W0.heap.size (pC 0) from At.of_block (heap_alloc_last W0 _))
    have S2 := Lib.hid (KS.out _ hd)
    refine hK.out _ _ S2.out (fun hSR => ?_)
    clear hK K
    refine wpAnyH_ready (rs := [6]) (by kernel_rfl) (by simp) (AllReadyH.cons rfl (fun K hK => ?_) AllReadyH.nil)
    go_simp
    refine (CG.out _ (HB0.out.trans (hd.mono HB0.out.size))).mono ?_
    rintro e w2 ⟨a2, rfl, hr2, hn2, hb2⟩
    have hsd : (W0.alloc (.cells #[.int .i64 0, .slice none 0 0, .slice none 0 0, .slice none 0 0, .slice none 0 0, .int .i64 0, .int .u64 0, .int .i64 0, .int .i64 0, .int .i64 0, .int .i64 0] 28)).drew.heap.size = W0.heap.size + 1 := by simp
    have hB2 : Below W0.heap.size W0 w2 := hd.trans (hb2.mono hd.size)
    have hz2 := hz1.below hb2 hz1.1
    obtain ⟨W9, hW9, hA9, hG9⟩ := lay11 (show At w2 W0.heap.size #[.int .i64 0, .slice none 0 0, .slice none 0 0, .slice none 0 0, .slice none 0 0, .int .i64 0, .int .u64 0, .int .i64 0, .int .i64 0, .int .i64 0, .int .i64 0] from hz2) q0 a2
    have hB4 : Below W0.heap.size w2 W9 := (Below.refl W0.heap.size w2).grown hG9 hB2.size (fun j hj => by cases hj; omega)
    have HA := Lib.hid hA9
    have HR := Lib.hid (hr2.apart hG9 hn2 (by omega))
    have HB := Lib.hid ((HB0.out.trans (hB2.mono HB0.out.size)).trans (hB4.mono HB0.out.size))
    have HZ := Lib.hid ((HZ0.out.below hB2 HZ0.out.1).below hB4 HZ0.out.1)
    have HU := Lib.hid (HU0.out.below (hB2.trans hB4))
    have NW := Lib.hid (hn2.mono (show w.heap.size + 1 ≤ (W0.alloc (.cells #[.int .i64 0, .slice none 0 0, .slice none 0 0, .slice none 0 0, .slice none 0 0, .int .i64 0, .int .u64 0, .int .i64 0, .int .i64 0, .int .i64 0, .int .i64 0] 28)).drew.heap.size from by have := HSZ.out; omega))
    have KB := Lib.hid (show w.heap.size + 1 ≤ W0.heap.size from Nat.le_of_eq HSZ.out.symm)
    have S3 := Lib.hid (KS.out _ hB2)
    have r0 : w2.cell? ⟨W0.heap.size, 0, none⟩ = some (.int .i64 0) := hz2.2.2 0 _ rfl
    have r1 : w2.cell? ⟨W0.heap.size, 1, none⟩ = some (.slice none 0 0) := hz2.2.2 1 _ rfl
    have r2 : w2.cell? ⟨W0.heap.size, 2, none⟩ = some (.slice none 0 0) := hz2.2.2 2 _ rfl
    have r3 : w2.cell? ⟨W0.heap.size, 3, none⟩ = some (.slice none 0 0) := hz2.2.2 3 _ rfl
    have r4 : w2.cell? ⟨W0.heap.size, 4, none⟩ = some (.slice none 0 0) := hz2.2.2 4 _ rfl
    have r5 : w2.cell? ⟨W0.heap.size, 5, none⟩ = some (.int .i64 0) := hz2.2.2 5 _ rfl
    have r6 : w2.cell? ⟨W0.heap.size, 6, none⟩ = some (.int .u64 0) := hz2.2.2 6 _ rfl
    have r7 : w2.cell? ⟨W0.heap.size, 7, none⟩ = some (.int .i64 0) := hz2.2.2 7 _ rfl
    have r8 : w2.cell? ⟨W0.heap.size, 8, none⟩ = some (.int .i64 0) := hz2.2.2 8 _ rfl
    have r9 : w2.cell? ⟨W0.heap.size, 9, none⟩ = some (.int .i64 0) := hz2.2.2 9 _ rfl
    have r10 : w2.cell? ⟨W0.heap.size, 10, none⟩ = some (.int .i64 0) := hz2.2.2 10 _ rfl
    have fz := hz2.2.1
    unfold set11 at hW9
    clear hd hb2 hB2 hB4 hr2 hn2 hA9 hG9 hz2 hz1 hsd
    refine hK.out _ _ S3.out (fun hSR => ?_)
    clear hK K
    (try simp only [Act.put])
    refine wpAnyH_take (i := 8) (v := ?_) rfl (by kernel_rfl) (by kernel_rfl) (by kernel_rfl) (fun _ _ _ h => h) (Or.inl ⟨by rfl, ?_⟩) hSR ?_
    rotate_left
    · (intro w' hSw; (try dsimp only at hSw); go_simp; (try with_reducible rfl))
    simp only [Act.put]
    refine wpAnyH_done (by kernel_rfl) ?_ _
    show Oper.wp _ _ _ _ _ _
    unfold Oper.wp
    go_simp
    clear hSR S2 S3 KS CG r0 r1 r2 r3 r4 r5 r6 r7 r8 r9 r10 fz
    obtain ⟨Bx, hBx⟩ : ∃ B, W0.heap.size = B := ⟨_, rfl⟩
    rw [hBx] at HA KB hW9
    (try rw [hBx])
    (try rw [hW9])
    clear hW9 hBx
    clear HU0 HZ0 HB0 HSZ
    have OK : Hid (PgOk q0) := Lib.hid (by rw [← HQ0.out]; exact OKQ.out)
    have EP : Hid (q0.epoch < 18446744073709551616) := Lib.hid (by rw [← HQ0.out]; exact EPQ.out)
    have HQ := HQ0
    clear OKQ EPQ HQ0 HY0
    have c0 : W9.cell? ⟨Bx, 0, none⟩ = some (.int .i64 q0.kind) := HA.out.2.2 0 _ rfl
    have c1 : W9.cell? ⟨Bx, 1, none⟩ = some (.slice a2.A1 q0.pairs.length a2.c1) := HA.out.2.2 1 _ rfl
    have c2 : W9.cell? ⟨Bx, 2, none⟩ = some (.slice a2.A2 q0.keys.length a2.c2) := HA.out.2.2 2 _ rfl
    have c3 : W9.cell? ⟨Bx, 3, none⟩ = some (.slice a2.A3 q0.kids.length a2.c3) := HA.out.2.2 3 _ rfl
    have c4 : W9.cell? ⟨Bx, 4, none⟩ = some (.slice a2.A4 q0.pages.length a2.c4) := HA.out.2.2 4 _ rfl
    have c5 : W9.cell? ⟨Bx, 5, none⟩ = some (.int .i64 q0.next) := HA.out.2.2 5 _ rfl
    have c6 : W9.cell? ⟨Bx, 6, none⟩ = some (.int .u64 (q0.epoch : Int)) := HA.out.2.2 6 _ rfl
    have c7 : W9.cell? ⟨Bx, 7, none⟩ = some (.int .i64 q0.root) := HA.out.2.2 7 _ rfl
    have c8 : W9.cell? ⟨Bx, 8, none⟩ = some (.int .i64 q0.depth) := HA.out.2.2 8 _ rfl
    have c9 : W9.cell? ⟨Bx, 9, none⟩ = some (.int .i64 q0.count) := HA.out.2.2 9 _ rfl
    have c10 : W9.cell? ⟨Bx, 10, none⟩ = some (.int .i64 q0.high) := HA.out.2.2 10 _ rfl
    have cE := rEncode_any s q0 a2 W9 H64.out OK.out HR.out
    go_wp2_with fail
    clear c0 c1 c2 c3 c4 c5 c6 c7 c8 c9 c10
    refine cE.mono ?_
    rintro e w4 (⟨X, m, d, l, rfl, hby, henc, hb⟩ | ⟨rfl, hno, hb⟩)
    · obtain rfl : m = 1024 := by rw [← hby.len]; exact enc_len henc
      have HA4 := Lib.hid (HA.out.below hb HA.out.1)
      have HZ4 := Lib.hid (HZ.out.below hb HZ.out.1)
      have HB4 := Lib.hid (HB.out.trans (hb.mono HB.out.size))
      have HU4 := Lib.hid (HU.out.below hb)
      have HR4 := Lib.hid (HR.out.below hb)
      have v1 := conv_run d hby.len hby.row
      have v2 := conv_run c HU4.out.len HU4.out.row
      have HSB := Lib.hid (strB_beq l u)
      obtain ⟨S1, h1⟩ : ∃ S, strB l = S := ⟨_, rfl⟩
      obtain ⟨S2, h2⟩ : ∃ S, strB u = S := ⟨_, rfl⟩
      rw [h1] at v1
      rw [h2] at v2
      rw [h1, h2] at HSB
      have HE := Lib.hid henc
      clear h1 h2 hby henc hb cE HA HZ HB HU HR
      by_cases hlu : l = u
      · have e8 : (S1.toList == S2.toList) = true := by rw [HSB.out]; simp [hlu]
        have e9 : (S1.toList != S2.toList) = false := by simp [bne, e8]
        have HD : Hid (IsDec s u q0) := Lib.hid (by rw [← hlu]; exact dec_of_enc HE.out EP.out)
        clear hlu HSB
        have c0 : w4.cell? ⟨Bx, 0, none⟩ = some (.int .i64 q0.kind) := HA4.out.2.2 0 _ rfl
        have c1 : w4.cell? ⟨Bx, 1, none⟩ = some (.slice a2.A1 q0.pairs.length a2.c1) := HA4.out.2.2 1 _ rfl
        have c2 : w4.cell? ⟨Bx, 2, none⟩ = some (.slice a2.A2 q0.keys.length a2.c2) := HA4.out.2.2 2 _ rfl
        have c3 : w4.cell? ⟨Bx, 3, none⟩ = some (.slice a2.A3 q0.kids.length a2.c3) := HA4.out.2.2 3 _ rfl
        have c4 : w4.cell? ⟨Bx, 4, none⟩ = some (.slice a2.A4 q0.pages.length a2.c4) := HA4.out.2.2 4 _ rfl
        have c5 : w4.cell? ⟨Bx, 5, none⟩ = some (.int .i64 q0.next) := HA4.out.2.2 5 _ rfl
        have c6 : w4.cell? ⟨Bx, 6, none⟩ = some (.int .u64 (q0.epoch : Int)) := HA4.out.2.2 6 _ rfl
        have c7 : w4.cell? ⟨Bx, 7, none⟩ = some (.int .i64 q0.root) := HA4.out.2.2 7 _ rfl
        have c8 : w4.cell? ⟨Bx, 8, none⟩ = some (.int .i64 q0.depth) := HA4.out.2.2 8 _ rfl
        have c9 : w4.cell? ⟨Bx, 9, none⟩ = some (.int .i64 q0.count) := HA4.out.2.2 9 _ rfl
        have c10 : w4.cell? ⟨Bx, 10, none⟩ = some (.int .i64 q0.high) := HA4.out.2.2 10 _ rfl
        have r0 : w4.cell? ⟨w.heap.size, 0, none⟩ = some (.int .i64 0) := HZ4.out.2.2 0 _ rfl
        have r1 : w4.cell? ⟨w.heap.size, 1, none⟩ = some (.slice none 0 0) := HZ4.out.2.2 1 _ rfl
        have r2 : w4.cell? ⟨w.heap.size, 2, none⟩ = some (.slice none 0 0) := HZ4.out.2.2 2 _ rfl
        have r3 : w4.cell? ⟨w.heap.size, 3, none⟩ = some (.slice none 0 0) := HZ4.out.2.2 3 _ rfl
        have r4 : w4.cell? ⟨w.heap.size, 4, none⟩ = some (.slice none 0 0) := HZ4.out.2.2 4 _ rfl
        have r5 : w4.cell? ⟨w.heap.size, 5, none⟩ = some (.int .i64 0) := HZ4.out.2.2 5 _ rfl
        have r6 : w4.cell? ⟨w.heap.size, 6, none⟩ = some (.int .u64 0) := HZ4.out.2.2 6 _ rfl
        have r7 : w4.cell? ⟨w.heap.size, 7, none⟩ = some (.int .i64 0) := HZ4.out.2.2 7 _ rfl
        have r8 : w4.cell? ⟨w.heap.size, 8, none⟩ = some (.int .i64 0) := HZ4.out.2.2 8 _ rfl
        have r9 : w4.cell? ⟨w.heap.size, 9, none⟩ = some (.int .i64 0) := HZ4.out.2.2 9 _ rfl
        have r10 : w4.cell? ⟨w.heap.size, 10, none⟩ = some (.int .i64 0) := HZ4.out.2.2 10 _ rfl
        have fz := HZ4.out.2.1
        have A9 := Lib.hid (set11_at HZ4.out (.int .i64 q0.kind) (.slice a2.A1 q0.pairs.length a2.c1) (.slice a2.A2 q0.keys.length a2.c2) (.slice a2.A3 q0.kids.length a2.c3) (.slice a2.A4 q0.pages.length a2.c4) (.int .i64 q0.next) (.int .u64 (q0.epoch : Int)) (.int .i64 q0.root) (.int .i64 q0.depth) (.int .i64 q0.count) (.int .i64 q0.high))
        have g9 := set11_only w4 w.heap.size (.int .i64 q0.kind) (.slice a2.A1 q0.pairs.length a2.c1) (.slice a2.A2 q0.keys.length a2.c2) (.slice a2.A3 q0.kids.length a2.c3) (.slice a2.A4 q0.pages.length a2.c4) (.int .i64 q0.next) (.int .u64 (q0.epoch : Int)) (.int .i64 q0.root) (.int .i64 q0.depth) (.int .i64 q0.count) (.int .i64 q0.high)
        have B9 : Hid (Below w.heap.size w (set11 w4 w.heap.size (.int .i64 q0.kind) (.slice a2.A1 q0.pairs.length a2.c1) (.slice a2.A2 q0.keys.length a2.c2) (.slice a2.A3 q0.kids.length a2.c3) (.slice a2.A4 q0.pages.length a2.c4) (.int .i64 q0.next) (.int .u64 (q0.epoch : Int)) (.int .i64 q0.root) (.int .i64 q0.depth) (.int .i64 q0.count) (.int .i64 q0.high))) := Lib.hid (HB4.out.grown g9 HB4.out.size (fun k hk => by cases hk; omega))
        have N9 := Lib.hid (HR4.out.apart g9 NW.out (by omega))
        clear g9
        go_wp2_with fail
        change bodyPost _ _ _ _ _ (set11 w4 w.heap.size (.int .i64 q0.kind) (.slice a2.A1 q0.pairs.length a2.c1) (.slice a2.A2 q0.keys.length a2.c2) (.slice a2.A3 q0.kids.length a2.c3) (.slice a2.A4 q0.pages.length a2.c4) (.int .i64 q0.next) (.int .u64 (q0.epoch : Int)) (.int .i64 q0.root) (.int .i64 q0.depth) (.int .i64 q0.count) (.int .i64 q0.high))
        generalize set11 w4 w.heap.size (.int .i64 q0.kind) (.slice a2.A1 q0.pairs.length a2.c1) (.slice a2.A2 q0.keys.length a2.c2) (.slice a2.A3 q0.kids.length a2.c3) (.slice a2.A4 q0.pages.length a2.c4) (.int .i64 q0.next) (.int .u64 (q0.epoch : Int)) (.int .i64 q0.root) (.int .i64 q0.depth) (.int .i64 q0.count) (.int .i64 q0.high) = W99 at *
        clear r0 r1 r2 r3 r4 r5 r6 r7 r8 r9 r10 fz c0 c1 c2 c3 c4 c5 c6 c7 c8 c9 c10
        have c0 := A9.out.2.2 0 _ rfl
        have c1 := A9.out.2.2 1 _ rfl
        have c2 := A9.out.2.2 2 _ rfl
        have c3 := A9.out.2.2 3 _ rfl
        have c4 := A9.out.2.2 4 _ rfl
        have c5 := A9.out.2.2 5 _ rfl
        have c6 := A9.out.2.2 6 _ rfl
        have c7 := A9.out.2.2 7 _ rfl
        have c8 := A9.out.2.2 8 _ rfl
        have c9 := A9.out.2.2 9 _ rfl
        have c10 := A9.out.2.2 10 _ rfl
        refine bodyPost_ret (v := .tuple #[pgV q0 a2, numV 0]) (by simp [results, Try.results17, go_sem, *]) rfl ?_
        exact ⟨B9.out, .inl ⟨q0, a2, rfl, N9.out, OK.out, HD.out⟩⟩
      · have e8 : (S1.toList == S2.toList) = false := by rw [HSB.out]; simp [hlu]
        have e9 : (S1.toList != S2.toList) = true := by simp [bne, e8]
        have HD : Hid (∀ q, ¬ IsDec s u q) := Lib.hid (fun q hq => by have e := isDec_back hq; rw [HQ.out] at e; subst e; exact hlu (enc_fun HE.out hq.2))
        clear hlu HSB
        have r0 : w4.cell? ⟨w.heap.size, 0, none⟩ = some (.int .i64 0) := HZ4.out.2.2 0 _ rfl
        have r1 : w4.cell? ⟨w.heap.size, 1, none⟩ = some (.slice none 0 0) := HZ4.out.2.2 1 _ rfl
        have r2 : w4.cell? ⟨w.heap.size, 2, none⟩ = some (.slice none 0 0) := HZ4.out.2.2 2 _ rfl
        have r3 : w4.cell? ⟨w.heap.size, 3, none⟩ = some (.slice none 0 0) := HZ4.out.2.2 3 _ rfl
        have r4 : w4.cell? ⟨w.heap.size, 4, none⟩ = some (.slice none 0 0) := HZ4.out.2.2 4 _ rfl
        have r5 : w4.cell? ⟨w.heap.size, 5, none⟩ = some (.int .i64 0) := HZ4.out.2.2 5 _ rfl
        have r6 : w4.cell? ⟨w.heap.size, 6, none⟩ = some (.int .u64 0) := HZ4.out.2.2 6 _ rfl
        have r7 : w4.cell? ⟨w.heap.size, 7, none⟩ = some (.int .i64 0) := HZ4.out.2.2 7 _ rfl
        have r8 : w4.cell? ⟨w.heap.size, 8, none⟩ = some (.int .i64 0) := HZ4.out.2.2 8 _ rfl
        have r9 : w4.cell? ⟨w.heap.size, 9, none⟩ = some (.int .i64 0) := HZ4.out.2.2 9 _ rfl
        have r10 : w4.cell? ⟨w.heap.size, 10, none⟩ = some (.int .i64 0) := HZ4.out.2.2 10 _ rfl
        have fz := HZ4.out.2.1
        have A9 := Lib.hid (set11_at HZ4.out (.int .i64 0) (.slice none 0 0) (.slice none 0 0) (.slice none 0 0) (.slice none 0 0) (.int .i64 0) (.int .u64 0) (.int .i64 0) (.int .i64 0) (.int .i64 0) (.int .i64 0))
        have g9 := set11_only w4 w.heap.size (.int .i64 0) (.slice none 0 0) (.slice none 0 0) (.slice none 0 0) (.slice none 0 0) (.int .i64 0) (.int .u64 0) (.int .i64 0) (.int .i64 0) (.int .i64 0) (.int .i64 0)
        have B9 : Hid (Below w.heap.size w (set11 w4 w.heap.size (.int .i64 0) (.slice none 0 0) (.slice none 0 0) (.slice none 0 0) (.slice none 0 0) (.int .i64 0) (.int .u64 0) (.int .i64 0) (.int .i64 0) (.int .i64 0) (.int .i64 0))) := Lib.hid (HB4.out.grown g9 HB4.out.size (fun k hk => by cases hk; omega))
        clear g9
        go_wp2_with fail
        change bodyPost _ _ _ _ _ (set11 w4 w.heap.size (.int .i64 0) (.slice none 0 0) (.slice none 0 0) (.slice none 0 0) (.slice none 0 0) (.int .i64 0) (.int .u64 0) (.int .i64 0) (.int .i64 0) (.int .i64 0) (.int .i64 0))
        generalize set11 w4 w.heap.size (.int .i64 0) (.slice none 0 0) (.slice none 0 0) (.slice none 0 0) (.slice none 0 0) (.int .i64 0) (.int .u64 0) (.int .i64 0) (.int .i64 0) (.int .i64 0) (.int .i64 0) = W99 at *
        clear r0 r1 r2 r3 r4 r5 r6 r7 r8 r9 r10 fz 
        have c0 := A9.out.2.2 0 _ rfl
        have c1 := A9.out.2.2 1 _ rfl
        have c2 := A9.out.2.2 2 _ rfl
        have c3 := A9.out.2.2 3 _ rfl
        have c4 := A9.out.2.2 4 _ rfl
        have c5 := A9.out.2.2 5 _ rfl
        have c6 := A9.out.2.2 6 _ rfl
        have c7 := A9.out.2.2 7 _ rfl
        have c8 := A9.out.2.2 8 _ rfl
        have c9 := A9.out.2.2 9 _ rfl
        have c10 := A9.out.2.2 10 _ rfl
        refine bodyPost_ret (v := .tuple #[pgV { kind := 0 } {}, numV 50]) (by simp [results, Try.results17, go_sem, *]) rfl ?_
        exact ⟨B9.out, .inr ⟨rfl, HD.out⟩⟩
    · have HA4 := Lib.hid (HA.out.below hb HA.out.1)
      have HZ4 := Lib.hid (HZ.out.below hb HZ.out.1)
      have HB4 := Lib.hid (HB.out.trans (hb.mono HB.out.size))
      have HU4 := Lib.hid (HU.out.below hb)
      have HR4 := Lib.hid (HR.out.below hb)
      have HD : Hid (∀ q, ¬ IsDec s u q) := Lib.hid (fun q hq => by have e := isDec_back hq; rw [HQ.out] at e; subst e; exact hno _ hq.2)
      clear hno hb cE HA HZ HB HU HR
      have r0 : w4.cell? ⟨w.heap.size, 0, none⟩ = some (.int .i64 0) := HZ4.out.2.2 0 _ rfl
      have r1 : w4.cell? ⟨w.heap.size, 1, none⟩ = some (.slice none 0 0) := HZ4.out.2.2 1 _ rfl
      have r2 : w4.cell? ⟨w.heap.size, 2, none⟩ = some (.slice none 0 0) := HZ4.out.2.2 2 _ rfl
      have r3 : w4.cell? ⟨w.heap.size, 3, none⟩ = some (.slice none 0 0) := HZ4.out.2.2 3 _ rfl
      have r4 : w4.cell? ⟨w.heap.size, 4, none⟩ = some (.slice none 0 0) := HZ4.out.2.2 4 _ rfl
      have r5 : w4.cell? ⟨w.heap.size, 5, none⟩ = some (.int .i64 0) := HZ4.out.2.2 5 _ rfl
      have r6 : w4.cell? ⟨w.heap.size, 6, none⟩ = some (.int .u64 0) := HZ4.out.2.2 6 _ rfl
      have r7 : w4.cell? ⟨w.heap.size, 7, none⟩ = some (.int .i64 0) := HZ4.out.2.2 7 _ rfl
      have r8 : w4.cell? ⟨w.heap.size, 8, none⟩ = some (.int .i64 0) := HZ4.out.2.2 8 _ rfl
      have r9 : w4.cell? ⟨w.heap.size, 9, none⟩ = some (.int .i64 0) := HZ4.out.2.2 9 _ rfl
      have r10 : w4.cell? ⟨w.heap.size, 10, none⟩ = some (.int .i64 0) := HZ4.out.2.2 10 _ rfl
      have fz := HZ4.out.2.1
      have A9 := Lib.hid (set11_at HZ4.out (.int .i64 0) (.slice none 0 0) (.slice none 0 0) (.slice none 0 0) (.slice none 0 0) (.int .i64 0) (.int .u64 0) (.int .i64 0) (.int .i64 0) (.int .i64 0) (.int .i64 0))
      have g9 := set11_only w4 w.heap.size (.int .i64 0) (.slice none 0 0) (.slice none 0 0) (.slice none 0 0) (.slice none 0 0) (.int .i64 0) (.int .u64 0) (.int .i64 0) (.int .i64 0) (.int .i64 0) (.int .i64 0)
      have B9 : Hid (Below w.heap.size w (set11 w4 w.heap.size (.int .i64 0) (.slice none 0 0) (.slice none 0 0) (.slice none 0 0) (.slice none 0 0) (.int .i64 0) (.int .u64 0) (.int .i64 0) (.int .i64 0) (.int .i64 0) (.int .i64 0))) := Lib.hid (HB4.out.grown g9 HB4.out.size (fun k hk => by cases hk; omega))
      clear g9
      go_wp2_with fail
      change bodyPost _ _ _ _ _ (set11 w4 w.heap.size (.int .i64 0) (.slice none 0 0) (.slice none 0 0) (.slice none 0 0) (.slice none 0 0) (.int .i64 0) (.int .u64 0) (.int .i64 0) (.int .i64 0) (.int .i64 0) (.int .i64 0))
      generalize set11 w4 w.heap.size (.int .i64 0) (.slice none 0 0) (.slice none 0 0) (.slice none 0 0) (.slice none 0 0) (.int .i64 0) (.int .u64 0) (.int .i64 0) (.int .i64 0) (.int .i64 0) (.int .i64 0) = W99 at *
      clear r0 r1 r2 r3 r4 r5 r6 r7 r8 r9 r10 fz 
      have c0 := A9.out.2.2 0 _ rfl
      have c1 := A9.out.2.2 1 _ rfl
      have c2 := A9.out.2.2 2 _ rfl
      have c3 := A9.out.2.2 3 _ rfl
      have c4 := A9.out.2.2 4 _ rfl
      have c5 := A9.out.2.2 5 _ rfl
      have c6 := A9.out.2.2 6 _ rfl
      have c7 := A9.out.2.2 7 _ rfl
      have c8 := A9.out.2.2 8 _ rfl
      have c9 := A9.out.2.2 9 _ rfl
      have c10 := A9.out.2.2 10 _ rfl
      refine bodyPost_ret (v := .tuple #[pgV { kind := 0 } {}, numV 50]) (by simp [results, Try.results17, go_sem, *]) rfl ?_
      exact ⟨B9.out, .inr ⟨rfl, HD.out⟩⟩
set_option maxRecDepth 100000 in
set_option maxHeartbeats 8000000 in
theorem rDecode_zero (s : Int) (A : Option Addr) (c : Nat) (u : Bs) (w : World) (h : BytesAt w A 1024 c u) (hs64 : -9223372036854775808 ≤ s ∧ s ≤ 9223372036854775807) (e0 : (s == 0) = true) : Calls Try.prog 17 #[.int .i64 s, .slice A 1024 c] w (DecPost s u w) := by
  have H64 := Lib.hid hs64
  have hb0 : Below w.heap.size w (w.alloc (.cells #[.int .i64 0, .slice none 0 0, .slice none 0 0, .slice none 0 0, .slice none 0 0, .int .i64 0, .int .u64 0, .int .i64 0, .int .i64 0, .int .i64 0, .int .i64 0] 28)) := (Below.refl _ _).alloc (Nat.le_refl _) _
  have hz0 : At (w.alloc (.cells #[.int .i64 0, .slice none 0 0, .slice none 0 0, .slice none 0 0, .slice none 0 0, .int .i64 0, .int .u64 0, .int .i64 0, .int .i64 0, .int .i64 0, .int .i64 0] 28)) w.heap.size (pC 0) := At.of_block (heap_alloc_last w _)
  obtain ⟨W0, hW0⟩ : ∃ W0, w.alloc (.cells #[.int .i64 0, .slice none 0 0, .slice none 0 0, .slice none 0 0, .slice none 0 0, .int .i64 0, .int .u64 0, .int .i64 0, .int .i64 0, .int .i64 0, .int .i64 0] 28) = W0 := ⟨_, rfl⟩
  have hsz : W0.heap.size = w.heap.size + 1 := by rw [← hW0]; simp
  rw [hW0] at hb0 hz0
  have HU0 := Lib.hid (h.below hb0)
  have HZ0 := Lib.hid hz0
  have HB0 := Lib.hid hb0
  have HSZ := Lib.hid hsz
  have hul := h.len
  obtain ⟨b, off, rfl, hlt, hc⟩ := h.row (by intro e; rw [e] at hul; simp at hul)
  have hx0 : w.cell? ⟨b, off, none⟩ = some (byteV (u[0]'(by omega))) := hc 0 (by omega)
  have hy0 : w.cell? ⟨b, off + 8, none⟩ = some (byteV (u[8]'(by omega))) := hc 8 (by omega)
  have OKQ := Lib.hid (gDec_ok s u)
  have EPQ := Lib.hid (gDec_epoch s u)
  have HQ0 : Hid (gDec s u = { gGuess ((u[8]'(by omega)).toNat : Int) (u.drop 11) with epoch := gGet u 0 8 }) := Lib.hid (by rw [gDec, if_pos (by simp at e0; omega), gGet_one (by omega)])
  have hcap := h.cap
  have q3 : ∀ W, (Instr.slice 30 (.slice (some ⟨b, off, none⟩) 1024 c) (some (.int .i64 3)) none none).run Try.prog W = .ok (.slice (if c = 3 then some ⟨b, off, none⟩ else (some ⟨b, off, none⟩ : Option Addr).map (·.add 3)) (1024 - 3) (c - 3)) W := fun W => tail_runB _ 1024 c 3 (by omega) W
  have q11 : ∀ W, (Instr.slice 30 (.slice (some ⟨b, off, none⟩) 1024 c) (some (.int .i64 11)) none none).run Try.prog W = .ok (.slice (if c = 11 then some ⟨b, off, none⟩ else (some ⟨b, off, none⟩ : Option Addr).map (·.add 11)) (1024 - 11) (c - 11)) W := fun W => tail_runB _ 1024 c 11 (by omega) W
  have Y3 := Lib.hid (h.tail (k := 3))
  have Y11 := Lib.hid (h.tail (k := 11))
  generalize (if c = 3 then some ⟨b, off, none⟩ else (some ⟨b, off, none⟩ : Option Addr).map (·.add 3)) = A3 at q3 Y3
  generalize (if c = 11 then some ⟨b, off, none⟩ else (some ⟨b, off, none⟩ : Option Addr).map (·.add 11)) = A11 at q11 Y11
  generalize c - 3 = c3 at q3 Y3
  generalize c - 11 = c11 at q11 Y11
  simp only [Nat.reduceSub] at q3 q11 Y3 Y11
  generalize u[0]'(by omega) = x at *
  generalize u[8]'(by omega) = y at *
  have hx2 := x.toNat_lt
  have hy2 := y.toNat_lt
  have hwx : IntKind.i64.wrap (x.toNat : Int) = x.toNat := IntWalk.i64_in _ (by omega)
  have hwy : IntKind.i64.wrap (y.toNat : Int) = y.toNat := IntWalk.i64_in _ (by omega)
  have CG := Lib.hid (fun W (hW : Below w.heap.size w W) => guess_any x.toNat A3 1021 c3 (u.drop 3) W (Y3.out.below hW) (by omega))
  have CH := Lib.hid (fun W (hW : Below w.heap.size w W) => guess_any y.toNat A11 1013 c11 (u.drop 11) W (Y11.out.below hW) (by omega))
  have hv := gGet_lt u 0 8
  have CV := Lib.hid (show ∀ W, Below w.heap.size w W → Calls Try.prog 42 #[.slice (some ⟨b, off, none⟩) 1024 c, .int .i64 0, .int .i64 8] W (fun e w' => e = .returned (.int .u64 (gGet u 0 8 : Int)) ∧ W = w') from fun W hW => get_any _ 1024 c 0 8 u W (h.below hW) (by omega) (by omega) (by omega))
  obtain ⟨q1, hq1⟩ : ∃ q, gGuess (y.toNat : Int) (u.drop 11) = q := ⟨_, rfl⟩
  rw [hq1] at CH HQ0
  obtain ⟨v, hvv⟩ : ∃ v, gGet u 0 8 = v := ⟨_, rfl⟩
  rw [hvv] at CV HQ0 hv
  clear hq1 hvv
  obtain ⟨q0, hq0⟩ : ∃ q, gGuess (x.toNat : Int) (u.drop 3) = q := ⟨_, rfl⟩
  rw [hq0] at CG
  clear hq0
  have S0 : W0.drew.cell? ⟨b, off, none⟩ = some (.int .u8 (x.toNat : Int)) := (hb0.cell (p := ⟨b, off, none⟩) hlt).trans hx0
  have KS := Lib.hid (fun w' (hW : Below W0.heap.size W0 w') => show w'.cell? ⟨b, off, none⟩ = some (.int .u8 (x.toNat : Int)) from ((hb0.trans (hW.mono hb0.size)).cell (p := ⟨b, off, none⟩) hlt).trans hx0)
  have HY0 := Lib.hid (show b < w.heap.size ∧ w.cell? ⟨b, off + 8, none⟩ = some (byteV y) from ⟨hlt, hy0⟩)
  clear hz0 hb0 hsz h hul hlt hc hx0 hy0 hcap hs64
  go_enter Try.func17, Try.ntmps17
  go_wp2_with fail
  clear hW0
  refine region_last (S := fun w' => w'.cell? ⟨b, off, none⟩ = some (.int .u8 (x.toNat : Int))) 8 (by kernel_rfl) rfl rfl rfl rfl (by kernel_rfl) (by kernel_rfl) ?_
  intro w3 hw3
  subst hw3
  have hSR := S0
  simp only [List.set_cons_zero, List.set_cons_succ]
  refine wpAnyH_take (i := 0) (v := ?_) rfl (by kernel_rfl) (by kernel_rfl) (by kernel_rfl) (fun _ _ _ h => h) (Or.inl ⟨by rfl, ?_⟩) hSR ?_
  rotate_left
  · (intro w' hSw; (try dsimp only at hSw); go_simp; (try with_reducible rfl))
  simp only [Act.put]
  refine wpAnyH_take (i := 1) (v := ?_) rfl (by kernel_rfl) (by kernel_rfl) (by kernel_rfl) (fun _ _ _ h => h) (Or.inl ⟨by rfl, ?_⟩) hSR ?_
  rotate_left
  · (intro w' hSw; (try dsimp only at hSw); go_simp; (try with_reducible rfl))
  simp only [Act.put]
  refine wpAnyH_take (i := 2) (v := ?_) rfl (by kernel_rfl) (by kernel_rfl) (by kernel_rfl) (fun _ _ _ h => h) (Or.inl ⟨by rfl, ?_⟩) hSR ?_
  rotate_left
  · (intro w' hSw; (try dsimp only at hSw); go_simp; (try with_reducible rfl))
  simp only [Act.put]
  refine wpAnyH_take (i := 3) (v := ?_) rfl (by kernel_rfl) (by kernel_rfl) (by kernel_rfl) (fun _ _ _ h => h) (Or.inl ⟨by rfl, ?_⟩) hSR ?_
  rotate_left
  · (intro w' hSw; (try dsimp only at hSw); go_simp; (try with_reducible rfl))
  simp only [Act.put]
  refine wpAnyH_take (i := 4) (v := ?_) rfl (by kernel_rfl) (by kernel_rfl) (by kernel_rfl) (fun _ _ _ h => h) (Or.inl ⟨by rfl, ?_⟩) hSR ?_
  rotate_left
  · (intro w' hSw; (try dsimp only at hSw); go_simp; (try with_reducible rfl))
  simp only [Act.put]
  refine wpAnyH_take (i := 5) (v := ?_) rfl (by kernel_rfl) (by kernel_rfl) (by kernel_rfl) (fun _ _ _ h => h) (Or.inl ⟨by rfl, ?_⟩) hSR ?_
  rotate_left
  · (intro w' hSw; (try dsimp only at hSw); go_simp; (try with_reducible rfl))
  simp only [Act.put]
  clear S0 hwx q3 hx2
  refine wpAnyH_ready (rs := [6, 7]) (by kernel_rfl) (by simp) (AllReadyH.cons rfl (fun K hK => ?_) (AllReadyH.cons rfl (fun K hK => ?_) AllReadyH.nil))
  · go_simp
    have hd : Below W0.heap.size W0 W0.drew := (Below.refl _ _).drew
    refine (CG.out _ (HB0.out.trans (hd.mono HB0.out.size))).mono ?_
    rintro e w2 ⟨a2, rfl, hr2, hn2, hb2⟩
    have hB2 : Below W0.heap.size W0 w2 := hd.trans hb2
    have hB3 : Below W0.heap.size W0 (w2.alloc (.cells #[.int .i64 0, .slice none 0 0, .slice none 0 0, .slice none 0 0, .slice none 0 0, .int .i64 0, .int .u64 0, .int .i64 0, .int .i64 0, .int .i64 0, .int .i64 0] 28)) := hB2.alloc hB2.size _
    have hA9 := pg_box w2 q0 a2
    have hB4 : Below w2.heap.size w2 (w2.alloc (.cells (pgC q0 a2) 28)) := (Below.refl w2.heap.size w2).alloc (Nat.le_refl _) _
    obtain ⟨W9, hW9⟩ : ∃ W9, w2.alloc (.cells (pgC q0 a2) 28) = W9 := ⟨_, rfl⟩
    rw [hW9] at hA9 hB4
    have HA := Lib.hid hA9
    have HR := Lib.hid (hr2.below hB4)
    have HB := Lib.hid ((HB0.out.trans (hB2.mono HB0.out.size)).trans (hB4.mono (Nat.le_trans HB0.out.size hB2.size)))
    have HZ := Lib.hid ((HZ0.out.below hB2 HZ0.out.1).below hB4 (Nat.lt_of_lt_of_le HZ0.out.1 hB2.size))
    have HU := Lib.hid ((HU0.out.below hB2).below hB4)
    have NW := Lib.hid (hn2.mono (show w.heap.size + 1 ≤ W0.drew.heap.size from Nat.le_of_eq HSZ.out.symm))
    have KB := Lib.hid (show w.heap.size + 1 ≤ w2.heap.size from Nat.le_trans (Nat.le_of_eq HSZ.out.symm) hB2.size)
    have S2 := Lib.hid (KS.out _ hB2)
    have S3 := Lib.hid (KS.out _ hB3)
    unfold pgC at hW9
    clear hd hb2 hB2 hB3 hB4 hr2 hn2 hA9
    refine hK.out _ _ S2.out (fun hSR => ?_)
    clear hK K
    refine wpAnyH_ready (rs := [7]) (by kernel_rfl) (by simp) (AllReadyH.cons rfl (fun K hK => ?_) AllReadyH.nil)
    go_simp
    refine hK.out _ _ S3.out (fun hSR => ?_)
    clear hK K
    (try simp only [Act.put])
    refine wpAnyH_take (i := 8) (v := ?_) rfl (by kernel_rfl) (by kernel_rfl) (by kernel_rfl) (fun _ _ _ h => h) (Or.inl ⟨by rfl, ?_⟩) hSR ?_
    rotate_left
    · (intro w' hSw; (try dsimp only at hSw); go_simp; (try with_reducible rfl))
    simp only [Act.put]
    refine wpAnyH_done (by kernel_rfl) ?_ _
    show Oper.wp _ _ _ _ _ _
    unfold Oper.wp
    go_simp
    clear hSR S2 S3 KS CG
    obtain ⟨Bx, hBx⟩ : ∃ B, w2.heap.size = B := ⟨_, rfl⟩
    rw [hBx] at HA KB
    (try rw [hBx])
    (try rw [hW9])
    clear hW9 hBx
    clear HU0 HZ0 HB0 HSZ
    have T0 : W9.drew.cell? ⟨b, off + 8, none⟩ = some (.int .u8 (y.toNat : Int)) := (HB.out.cell (p := ⟨b, off + 8, none⟩) HY0.out.1).trans HY0.out.2
    have KS := Lib.hid (fun w' (hW : Below W9.heap.size W9 w') => show w'.cell? ⟨b, off + 8, none⟩ = some (.int .u8 (y.toNat : Int)) from ((HB.out.trans (hW.mono HB.out.size)).cell (p := ⟨b, off + 8, none⟩) HY0.out.1).trans HY0.out.2)
    go_wp2_with fail
    refine region_last (S := fun w' => w'.cell? ⟨b, off + 8, none⟩ = some (.int .u8 (y.toNat : Int))) 7 (by kernel_rfl) rfl rfl rfl rfl (by kernel_rfl) (by kernel_rfl) ?_
    intro w3 hw3
    subst hw3
    have hSR := T0
    simp only [List.set_cons_zero, List.set_cons_succ]
    refine wpAnyH_take (i := 0) (v := ?_) rfl (by kernel_rfl) (by kernel_rfl) (by kernel_rfl) (fun _ _ _ h => h) (Or.inl ⟨by rfl, ?_⟩) hSR ?_
    rotate_left
    · (intro w' hSw; (try dsimp only at hSw); go_simp; (try with_reducible rfl))
    simp only [Act.put]
    refine wpAnyH_take (i := 1) (v := ?_) rfl (by kernel_rfl) (by kernel_rfl) (by kernel_rfl) (fun _ _ _ h => h) (Or.inl ⟨by rfl, ?_⟩) hSR ?_
    rotate_left
    · (intro w' hSw; (try dsimp only at hSw); go_simp; (try with_reducible rfl))
    simp only [Act.put]
    refine wpAnyH_take (i := 2) (v := ?_) rfl (by kernel_rfl) (by kernel_rfl) (by kernel_rfl) (fun _ _ _ h => h) (Or.inl ⟨by rfl, ?_⟩) hSR ?_
    rotate_left
    · (intro w' hSw; (try dsimp only at hSw); go_simp; (try with_reducible rfl))
    simp only [Act.put]
    refine wpAnyH_take (i := 3) (v := ?_) rfl (by kernel_rfl) (by kernel_rfl) (by kernel_rfl) (fun _ _ _ h => h) (Or.inl ⟨by rfl, ?_⟩) hSR ?_
    rotate_left
    · (intro w' hSw; (try dsimp only at hSw); go_simp; (try with_reducible rfl))
    simp only [Act.put]
    refine wpAnyH_take (i := 4) (v := ?_) rfl (by kernel_rfl) (by kernel_rfl) (by kernel_rfl) (fun _ _ _ h => h) (Or.inl ⟨by rfl, ?_⟩) hSR ?_
    rotate_left
    · (intro w' hSw; (try dsimp only at hSw); go_simp; (try with_reducible rfl))
    simp only [Act.put]
    refine wpAnyH_take (i := 5) (v := ?_) rfl (by kernel_rfl) (by kernel_rfl) (by kernel_rfl) (fun _ _ _ h => h) (Or.inl ⟨by rfl, ?_⟩) hSR ?_
    rotate_left
    · (intro w' hSw; (try dsimp only at hSw); go_simp; (try with_reducible rfl))
    simp only [Act.put]
    clear T0 hwy q11 hy2
    refine wpAnyH_ready (rs := [6]) (by kernel_rfl) (by simp) (AllReadyH.cons rfl (fun K hK => ?_) AllReadyH.nil)
    go_simp
    have hd : Below W9.heap.size W9 W9.drew := (Below.refl _ _).drew
    refine (CH.out _ (HB.out.trans (hd.mono HB.out.size))).mono ?_
    rintro e w5 ⟨a5, rfl, hr5, hn5, hb5⟩
    have hB5 : Below W9.heap.size W9 w5 := hd.trans hb5
    have hz5 := HA.out.below hB5 HA.out.1
    have hBl := HA.out.1
    obtain ⟨W10, hW10, hA10, hG10⟩ := lay11 (show At w5 Bx #[.int .i64 q0.kind, .slice a2.A1 q0.pairs.length a2.c1, .slice a2.A2 q0.keys.length a2.c2, .slice a2.A3 q0.kids.length a2.c3, .slice a2.A4 q0.pages.length a2.c4, .int .i64 q0.next, .int .u64 (q0.epoch : Int), .int .i64 q0.root, .int .i64 q0.depth, .int .i64 q0.count, .int .i64 q0.high] from hz5) q1 a5
    have hr10 := hr5.apart hG10 hn5 hBl
    have HB10 := Lib.hid ((HB.out.trans (hB5.mono HB.out.size)).grown hG10 (HB.out.trans (hB5.mono HB.out.size)).size (fun j hj => by cases hj; have := KB.out; omega))
    have HZ10 := Lib.hid ((HZ.out.below hB5 HZ.out.1).grownRow hG10 (by simp; have := KB.out; omega))
    have HU10 := Lib.hid (show BytesAt W10 (some ⟨b, off, none⟩) 1024 c u from by
      have h1 := HU.out.below hB5
      have h2 : Below Bx w5 W10 := (Below.refl Bx w5).grown hG10 (Nat.le_of_lt hz5.1) (fun j hj => by cases hj; omega)
      exact ⟨h1.len, h1.cap, h1.max, h1.nil, fun hne => by
        obtain ⟨b', o', e', hlt', hc'⟩ := h1.row hne
        cases e'
        exact ⟨b, off, rfl, Nat.lt_of_lt_of_le hlt' h2.size, fun k hk => (h2.cell (p := ⟨b, off + k, none⟩) (show b < Bx by have := KB.out; have := HY0.out.1; omega)).trans (hc' k hk)⟩⟩)
    have HN10 := Lib.hid (hn5.mono (show Bx + 1 ≤ W9.drew.heap.size from hBl))
    have HR10 := Lib.hid hr10
    have HA10 := Lib.hid hA10
    have S5 := Lib.hid (KS.out _ hB5)
    have r0 : w5.cell? ⟨Bx, 0, none⟩ = some (.int .i64 q0.kind) := hz5.2.2 0 _ rfl
    have r1 : w5.cell? ⟨Bx, 1, none⟩ = some (.slice a2.A1 q0.pairs.length a2.c1) := hz5.2.2 1 _ rfl
    have r2 : w5.cell? ⟨Bx, 2, none⟩ = some (.slice a2.A2 q0.keys.length a2.c2) := hz5.2.2 2 _ rfl
    have r3 : w5.cell? ⟨Bx, 3, none⟩ = some (.slice a2.A3 q0.kids.length a2.c3) := hz5.2.2 3 _ rfl
    have r4 : w5.cell? ⟨Bx, 4, none⟩ = some (.slice a2.A4 q0.pages.length a2.c4) := hz5.2.2 4 _ rfl
    have r5 : w5.cell? ⟨Bx, 5, none⟩ = some (.int .i64 q0.next) := hz5.2.2 5 _ rfl
    have r6 : w5.cell? ⟨Bx, 6, none⟩ = some (.int .u64 (q0.epoch : Int)) := hz5.2.2 6 _ rfl
    have r7 : w5.cell? ⟨Bx, 7, none⟩ = some (.int .i64 q0.root) := hz5.2.2 7 _ rfl
    have r8 : w5.cell? ⟨Bx, 8, none⟩ = some (.int .i64 q0.depth) := hz5.2.2 8 _ rfl
    have r9 : w5.cell? ⟨Bx, 9, none⟩ = some (.int .i64 q0.count) := hz5.2.2 9 _ rfl
    have r10 : w5.cell? ⟨Bx, 10, none⟩ = some (.int .i64 q0.high) := hz5.2.2 10 _ rfl
    have fz := hz5.2.1
    unfold set11 at hW10
    clear hd hb5 hB5 hz5 hBl hr5 hn5 hr10 hA10 hG10 HA HR NW HB HZ HU
    refine hK.out _ _ S5.out (fun hSR => ?_)
    clear hK K
    (try simp only [Act.put])
    refine wpAnyH_take (i := 7) (v := ?_) rfl (by kernel_rfl) (by kernel_rfl) (by kernel_rfl) (fun _ _ _ h => h) (Or.inl ⟨by rfl, ?_⟩) hSR ?_
    rotate_left
    · (intro w' hSw; (try dsimp only at hSw); go_simp; (try with_reducible rfl))
    simp only [Act.put]
    refine wpAnyH_done (by kernel_rfl) ?_ _
    show Oper.wp _ _ _ _ _ _
    unfold Oper.wp
    go_simp
    clear hSR S5 KS CH r0 r1 r2 r3 r4 r5 r6 r7 r8 r9 r10 fz
    (try rw [hW10])
    clear hW10
    have cV := CV.out W10 HB10.out
    go_wp2_with fail
    refine cV.mono ?_
    rintro e w6 ⟨rfl, rfl⟩
    clear cV CV
    have x6 : W10.cell? ⟨Bx, 6, none⟩ = some (.int .u64 (q1.epoch : Int)) := HA10.out.2.2 6 _ rfl
    have f6 := HA10.out.2.1 6
    obtain ⟨p, hp⟩ : ∃ p : Pg, p = { q1 with epoch := v } := ⟨_, rfl⟩
    obtain ⟨W11, hW11⟩ : ∃ W', W10.setCell ⟨Bx, 6, none⟩ (.int .u64 (v : Int)) = W' := ⟨_, rfl⟩
    have g11 := grown_set W10 Bx 6 (.int .u64 (v : Int))
    rw [hW11] at g11
    have HA : Hid (At W11 Bx (pgC p a5)) := Lib.hid (by rw [hp, ← hW11]; exact HA10.out.set 6 (.int .u64 (v : Int)) (by simp))
    have HR : Hid (PgRows W11 p a5) := Lib.hid (by rw [hp]; exact (show PgRows W10 { q1 with epoch := v } a5 from ⟨HR10.out.r1, HR10.out.r2, HR10.out.r3, HR10.out.r4⟩).apart g11 HN10.out (by omega))
    have HB := Lib.hid (HB10.out.grown g11 HB10.out.size (fun j hj => by cases hj; have := KB.out; omega))
    have HZ := Lib.hid (HZ10.out.grownRow g11 (by simp; have := KB.out; omega))
    have HU := Lib.hid (show BytesAt W11 (some ⟨b, off, none⟩) 1024 c u from by
      have h1 := HU10.out
      have h2 : Below Bx W10 W11 := (Below.refl Bx W10).grown g11 (Nat.le_of_lt HA10.out.1) (fun j hj => by cases hj; omega)
      exact ⟨h1.len, h1.cap, h1.max, h1.nil, fun hne => by
        obtain ⟨b', o', e', hlt', hc'⟩ := h1.row hne
        cases e'
        exact ⟨b, off, rfl, Nat.lt_of_lt_of_le hlt' h2.size, fun k hk => (h2.cell (p := ⟨b, off + k, none⟩) (show b < Bx by have := KB.out; have := HY0.out.1; omega)).trans (hc' k hk)⟩⟩)
    have NW := Lib.hid (HN10.out.mono (show w.heap.size + 1 ≤ Bx + 1 by have := KB.out; omega))
    have HQ : Hid (gDec s u = p) := Lib.hid (by rw [HQ0.out, hp])
    have OK : Hid (PgOk p) := Lib.hid (by rw [← HQ.out]; exact OKQ.out)
    have EP : Hid (p.epoch < 18446744073709551616) := Lib.hid (by rw [← HQ.out]; exact EPQ.out)
    clear g11 OKQ EPQ HQ0 HY0 HA10 HR10 HB10 HZ10 HU10 HN10 hp hv
    have c0 : W11.cell? ⟨Bx, 0, none⟩ = some (.int .i64 p.kind) := HA.out.2.2 0 _ rfl
    have c1 : W11.cell? ⟨Bx, 1, none⟩ = some (.slice a5.A1 p.pairs.length a5.c1) := HA.out.2.2 1 _ rfl
    have c2 : W11.cell? ⟨Bx, 2, none⟩ = some (.slice a5.A2 p.keys.length a5.c2) := HA.out.2.2 2 _ rfl
    have c3 : W11.cell? ⟨Bx, 3, none⟩ = some (.slice a5.A3 p.kids.length a5.c3) := HA.out.2.2 3 _ rfl
    have c4 : W11.cell? ⟨Bx, 4, none⟩ = some (.slice a5.A4 p.pages.length a5.c4) := HA.out.2.2 4 _ rfl
    have c5 : W11.cell? ⟨Bx, 5, none⟩ = some (.int .i64 p.next) := HA.out.2.2 5 _ rfl
    have c6 : W11.cell? ⟨Bx, 6, none⟩ = some (.int .u64 (p.epoch : Int)) := HA.out.2.2 6 _ rfl
    have c7 : W11.cell? ⟨Bx, 7, none⟩ = some (.int .i64 p.root) := HA.out.2.2 7 _ rfl
    have c8 : W11.cell? ⟨Bx, 8, none⟩ = some (.int .i64 p.depth) := HA.out.2.2 8 _ rfl
    have c9 : W11.cell? ⟨Bx, 9, none⟩ = some (.int .i64 p.count) := HA.out.2.2 9 _ rfl
    have c10 : W11.cell? ⟨Bx, 10, none⟩ = some (.int .i64 p.high) := HA.out.2.2 10 _ rfl
    have cE := rEncode_any s p a5 W11 H64.out OK.out HR.out
    go_wp2_with fail
    clear x6 f6 hW11
    clear c0 c1 c2 c3 c4 c5 c6 c7 c8 c9 c10
    refine cE.mono ?_
    rintro e w4 (⟨X, m, d, l, rfl, hby, henc, hb⟩ | ⟨rfl, hno, hb⟩)
    · obtain rfl : m = 1024 := by rw [← hby.len]; exact enc_len henc
      have HA4 := Lib.hid (HA.out.below hb HA.out.1)
      have HZ4 := Lib.hid (HZ.out.below hb HZ.out.1)
      have HB4 := Lib.hid (HB.out.trans (hb.mono HB.out.size))
      have HU4 := Lib.hid (HU.out.below hb)
      have HR4 := Lib.hid (HR.out.below hb)
      have v1 := conv_run d hby.len hby.row
      have v2 := conv_run c HU4.out.len HU4.out.row
      have HSB := Lib.hid (strB_beq l u)
      obtain ⟨S1, h1⟩ : ∃ S, strB l = S := ⟨_, rfl⟩
      obtain ⟨S2, h2⟩ : ∃ S, strB u = S := ⟨_, rfl⟩
      rw [h1] at v1
      rw [h2] at v2
      rw [h1, h2] at HSB
      have HE := Lib.hid henc
      clear h1 h2 hby henc hb cE HA HZ HB HU HR
      by_cases hlu : l = u
      · have e8 : (S1.toList == S2.toList) = true := by rw [HSB.out]; simp [hlu]
        have e9 : (S1.toList != S2.toList) = false := by simp [bne, e8]
        have HD : Hid (IsDec s u p) := Lib.hid (by rw [← hlu]; exact dec_of_enc HE.out EP.out)
        clear hlu HSB
        have c0 : w4.cell? ⟨Bx, 0, none⟩ = some (.int .i64 p.kind) := HA4.out.2.2 0 _ rfl
        have c1 : w4.cell? ⟨Bx, 1, none⟩ = some (.slice a5.A1 p.pairs.length a5.c1) := HA4.out.2.2 1 _ rfl
        have c2 : w4.cell? ⟨Bx, 2, none⟩ = some (.slice a5.A2 p.keys.length a5.c2) := HA4.out.2.2 2 _ rfl
        have c3 : w4.cell? ⟨Bx, 3, none⟩ = some (.slice a5.A3 p.kids.length a5.c3) := HA4.out.2.2 3 _ rfl
        have c4 : w4.cell? ⟨Bx, 4, none⟩ = some (.slice a5.A4 p.pages.length a5.c4) := HA4.out.2.2 4 _ rfl
        have c5 : w4.cell? ⟨Bx, 5, none⟩ = some (.int .i64 p.next) := HA4.out.2.2 5 _ rfl
        have c6 : w4.cell? ⟨Bx, 6, none⟩ = some (.int .u64 (p.epoch : Int)) := HA4.out.2.2 6 _ rfl
        have c7 : w4.cell? ⟨Bx, 7, none⟩ = some (.int .i64 p.root) := HA4.out.2.2 7 _ rfl
        have c8 : w4.cell? ⟨Bx, 8, none⟩ = some (.int .i64 p.depth) := HA4.out.2.2 8 _ rfl
        have c9 : w4.cell? ⟨Bx, 9, none⟩ = some (.int .i64 p.count) := HA4.out.2.2 9 _ rfl
        have c10 : w4.cell? ⟨Bx, 10, none⟩ = some (.int .i64 p.high) := HA4.out.2.2 10 _ rfl
        have r0 : w4.cell? ⟨w.heap.size, 0, none⟩ = some (.int .i64 0) := HZ4.out.2.2 0 _ rfl
        have r1 : w4.cell? ⟨w.heap.size, 1, none⟩ = some (.slice none 0 0) := HZ4.out.2.2 1 _ rfl
        have r2 : w4.cell? ⟨w.heap.size, 2, none⟩ = some (.slice none 0 0) := HZ4.out.2.2 2 _ rfl
        have r3 : w4.cell? ⟨w.heap.size, 3, none⟩ = some (.slice none 0 0) := HZ4.out.2.2 3 _ rfl
        have r4 : w4.cell? ⟨w.heap.size, 4, none⟩ = some (.slice none 0 0) := HZ4.out.2.2 4 _ rfl
        have r5 : w4.cell? ⟨w.heap.size, 5, none⟩ = some (.int .i64 0) := HZ4.out.2.2 5 _ rfl
        have r6 : w4.cell? ⟨w.heap.size, 6, none⟩ = some (.int .u64 0) := HZ4.out.2.2 6 _ rfl
        have r7 : w4.cell? ⟨w.heap.size, 7, none⟩ = some (.int .i64 0) := HZ4.out.2.2 7 _ rfl
        have r8 : w4.cell? ⟨w.heap.size, 8, none⟩ = some (.int .i64 0) := HZ4.out.2.2 8 _ rfl
        have r9 : w4.cell? ⟨w.heap.size, 9, none⟩ = some (.int .i64 0) := HZ4.out.2.2 9 _ rfl
        have r10 : w4.cell? ⟨w.heap.size, 10, none⟩ = some (.int .i64 0) := HZ4.out.2.2 10 _ rfl
        have fz := HZ4.out.2.1
        have A9 := Lib.hid (set11_at HZ4.out (.int .i64 p.kind) (.slice a5.A1 p.pairs.length a5.c1) (.slice a5.A2 p.keys.length a5.c2) (.slice a5.A3 p.kids.length a5.c3) (.slice a5.A4 p.pages.length a5.c4) (.int .i64 p.next) (.int .u64 (p.epoch : Int)) (.int .i64 p.root) (.int .i64 p.depth) (.int .i64 p.count) (.int .i64 p.high))
        have g9 := set11_only w4 w.heap.size (.int .i64 p.kind) (.slice a5.A1 p.pairs.length a5.c1) (.slice a5.A2 p.keys.length a5.c2) (.slice a5.A3 p.kids.length a5.c3) (.slice a5.A4 p.pages.length a5.c4) (.int .i64 p.next) (.int .u64 (p.epoch : Int)) (.int .i64 p.root) (.int .i64 p.depth) (.int .i64 p.count) (.int .i64 p.high)
        have B9 : Hid (Below w.heap.size w (set11 w4 w.heap.size (.int .i64 p.kind) (.slice a5.A1 p.pairs.length a5.c1) (.slice a5.A2 p.keys.length a5.c2) (.slice a5.A3 p.kids.length a5.c3) (.slice a5.A4 p.pages.length a5.c4) (.int .i64 p.next) (.int .u64 (p.epoch : Int)) (.int .i64 p.root) (.int .i64 p.depth) (.int .i64 p.count) (.int .i64 p.high))) := Lib.hid (HB4.out.grown g9 HB4.out.size (fun k hk => by cases hk; omega))
        have N9 := Lib.hid (HR4.out.apart g9 NW.out (by omega))
        clear g9
        go_wp2_with fail
        change bodyPost _ _ _ _ _ (set11 w4 w.heap.size (.int .i64 p.kind) (.slice a5.A1 p.pairs.length a5.c1) (.slice a5.A2 p.keys.length a5.c2) (.slice a5.A3 p.kids.length a5.c3) (.slice a5.A4 p.pages.length a5.c4) (.int .i64 p.next) (.int .u64 (p.epoch : Int)) (.int .i64 p.root) (.int .i64 p.depth) (.int .i64 p.count) (.int .i64 p.high))
        generalize set11 w4 w.heap.size (.int .i64 p.kind) (.slice a5.A1 p.pairs.length a5.c1) (.slice a5.A2 p.keys.length a5.c2) (.slice a5.A3 p.kids.length a5.c3) (.slice a5.A4 p.pages.length a5.c4) (.int .i64 p.next) (.int .u64 (p.epoch : Int)) (.int .i64 p.root) (.int .i64 p.depth) (.int .i64 p.count) (.int .i64 p.high) = W99 at *
        clear r0 r1 r2 r3 r4 r5 r6 r7 r8 r9 r10 fz c0 c1 c2 c3 c4 c5 c6 c7 c8 c9 c10
        have c0 := A9.out.2.2 0 _ rfl
        have c1 := A9.out.2.2 1 _ rfl
        have c2 := A9.out.2.2 2 _ rfl
        have c3 := A9.out.2.2 3 _ rfl
        have c4 := A9.out.2.2 4 _ rfl
        have c5 := A9.out.2.2 5 _ rfl
        have c6 := A9.out.2.2 6 _ rfl
        have c7 := A9.out.2.2 7 _ rfl
        have c8 := A9.out.2.2 8 _ rfl
        have c9 := A9.out.2.2 9 _ rfl
        have c10 := A9.out.2.2 10 _ rfl
        refine bodyPost_ret (v := .tuple #[pgV p a5, numV 0]) (by simp [results, Try.results17, go_sem, *]) rfl ?_
        exact ⟨B9.out, .inl ⟨p, a5, rfl, N9.out, OK.out, HD.out⟩⟩
      · have e8 : (S1.toList == S2.toList) = false := by rw [HSB.out]; simp [hlu]
        have e9 : (S1.toList != S2.toList) = true := by simp [bne, e8]
        have HD : Hid (∀ q, ¬ IsDec s u q) := Lib.hid (fun q hq => by have e := isDec_back hq; rw [HQ.out] at e; subst e; exact hlu (enc_fun HE.out hq.2))
        clear hlu HSB
        have r0 : w4.cell? ⟨w.heap.size, 0, none⟩ = some (.int .i64 0) := HZ4.out.2.2 0 _ rfl
        have r1 : w4.cell? ⟨w.heap.size, 1, none⟩ = some (.slice none 0 0) := HZ4.out.2.2 1 _ rfl
        have r2 : w4.cell? ⟨w.heap.size, 2, none⟩ = some (.slice none 0 0) := HZ4.out.2.2 2 _ rfl
        have r3 : w4.cell? ⟨w.heap.size, 3, none⟩ = some (.slice none 0 0) := HZ4.out.2.2 3 _ rfl
        have r4 : w4.cell? ⟨w.heap.size, 4, none⟩ = some (.slice none 0 0) := HZ4.out.2.2 4 _ rfl
        have r5 : w4.cell? ⟨w.heap.size, 5, none⟩ = some (.int .i64 0) := HZ4.out.2.2 5 _ rfl
        have r6 : w4.cell? ⟨w.heap.size, 6, none⟩ = some (.int .u64 0) := HZ4.out.2.2 6 _ rfl
        have r7 : w4.cell? ⟨w.heap.size, 7, none⟩ = some (.int .i64 0) := HZ4.out.2.2 7 _ rfl
        have r8 : w4.cell? ⟨w.heap.size, 8, none⟩ = some (.int .i64 0) := HZ4.out.2.2 8 _ rfl
        have r9 : w4.cell? ⟨w.heap.size, 9, none⟩ = some (.int .i64 0) := HZ4.out.2.2 9 _ rfl
        have r10 : w4.cell? ⟨w.heap.size, 10, none⟩ = some (.int .i64 0) := HZ4.out.2.2 10 _ rfl
        have fz := HZ4.out.2.1
        have A9 := Lib.hid (set11_at HZ4.out (.int .i64 0) (.slice none 0 0) (.slice none 0 0) (.slice none 0 0) (.slice none 0 0) (.int .i64 0) (.int .u64 0) (.int .i64 0) (.int .i64 0) (.int .i64 0) (.int .i64 0))
        have g9 := set11_only w4 w.heap.size (.int .i64 0) (.slice none 0 0) (.slice none 0 0) (.slice none 0 0) (.slice none 0 0) (.int .i64 0) (.int .u64 0) (.int .i64 0) (.int .i64 0) (.int .i64 0) (.int .i64 0)
        have B9 : Hid (Below w.heap.size w (set11 w4 w.heap.size (.int .i64 0) (.slice none 0 0) (.slice none 0 0) (.slice none 0 0) (.slice none 0 0) (.int .i64 0) (.int .u64 0) (.int .i64 0) (.int .i64 0) (.int .i64 0) (.int .i64 0))) := Lib.hid (HB4.out.grown g9 HB4.out.size (fun k hk => by cases hk; omega))
        clear g9
        go_wp2_with fail
        change bodyPost _ _ _ _ _ (set11 w4 w.heap.size (.int .i64 0) (.slice none 0 0) (.slice none 0 0) (.slice none 0 0) (.slice none 0 0) (.int .i64 0) (.int .u64 0) (.int .i64 0) (.int .i64 0) (.int .i64 0) (.int .i64 0))
        generalize set11 w4 w.heap.size (.int .i64 0) (.slice none 0 0) (.slice none 0 0) (.slice none 0 0) (.slice none 0 0) (.int .i64 0) (.int .u64 0) (.int .i64 0) (.int .i64 0) (.int .i64 0) (.int .i64 0) = W99 at *
        clear r0 r1 r2 r3 r4 r5 r6 r7 r8 r9 r10 fz 
        have c0 := A9.out.2.2 0 _ rfl
        have c1 := A9.out.2.2 1 _ rfl
        have c2 := A9.out.2.2 2 _ rfl
        have c3 := A9.out.2.2 3 _ rfl
        have c4 := A9.out.2.2 4 _ rfl
        have c5 := A9.out.2.2 5 _ rfl
        have c6 := A9.out.2.2 6 _ rfl
        have c7 := A9.out.2.2 7 _ rfl
        have c8 := A9.out.2.2 8 _ rfl
        have c9 := A9.out.2.2 9 _ rfl
        have c10 := A9.out.2.2 10 _ rfl
        refine bodyPost_ret (v := .tuple #[pgV { kind := 0 } {}, numV 50]) (by simp [results, Try.results17, go_sem, *]) rfl ?_
        exact ⟨B9.out, .inr ⟨rfl, HD.out⟩⟩
    · have HA4 := Lib.hid (HA.out.below hb HA.out.1)
      have HZ4 := Lib.hid (HZ.out.below hb HZ.out.1)
      have HB4 := Lib.hid (HB.out.trans (hb.mono HB.out.size))
      have HU4 := Lib.hid (HU.out.below hb)
      have HR4 := Lib.hid (HR.out.below hb)
      have HD : Hid (∀ q, ¬ IsDec s u q) := Lib.hid (fun q hq => by have e := isDec_back hq; rw [HQ.out] at e; subst e; exact hno _ hq.2)
      clear hno hb cE HA HZ HB HU HR
      have r0 : w4.cell? ⟨w.heap.size, 0, none⟩ = some (.int .i64 0) := HZ4.out.2.2 0 _ rfl
      have r1 : w4.cell? ⟨w.heap.size, 1, none⟩ = some (.slice none 0 0) := HZ4.out.2.2 1 _ rfl
      have r2 : w4.cell? ⟨w.heap.size, 2, none⟩ = some (.slice none 0 0) := HZ4.out.2.2 2 _ rfl
      have r3 : w4.cell? ⟨w.heap.size, 3, none⟩ = some (.slice none 0 0) := HZ4.out.2.2 3 _ rfl
      have r4 : w4.cell? ⟨w.heap.size, 4, none⟩ = some (.slice none 0 0) := HZ4.out.2.2 4 _ rfl
      have r5 : w4.cell? ⟨w.heap.size, 5, none⟩ = some (.int .i64 0) := HZ4.out.2.2 5 _ rfl
      have r6 : w4.cell? ⟨w.heap.size, 6, none⟩ = some (.int .u64 0) := HZ4.out.2.2 6 _ rfl
      have r7 : w4.cell? ⟨w.heap.size, 7, none⟩ = some (.int .i64 0) := HZ4.out.2.2 7 _ rfl
      have r8 : w4.cell? ⟨w.heap.size, 8, none⟩ = some (.int .i64 0) := HZ4.out.2.2 8 _ rfl
      have r9 : w4.cell? ⟨w.heap.size, 9, none⟩ = some (.int .i64 0) := HZ4.out.2.2 9 _ rfl
      have r10 : w4.cell? ⟨w.heap.size, 10, none⟩ = some (.int .i64 0) := HZ4.out.2.2 10 _ rfl
      have fz := HZ4.out.2.1
      have A9 := Lib.hid (set11_at HZ4.out (.int .i64 0) (.slice none 0 0) (.slice none 0 0) (.slice none 0 0) (.slice none 0 0) (.int .i64 0) (.int .u64 0) (.int .i64 0) (.int .i64 0) (.int .i64 0) (.int .i64 0))
      have g9 := set11_only w4 w.heap.size (.int .i64 0) (.slice none 0 0) (.slice none 0 0) (.slice none 0 0) (.slice none 0 0) (.int .i64 0) (.int .u64 0) (.int .i64 0) (.int .i64 0) (.int .i64 0) (.int .i64 0)
      have B9 : Hid (Below w.heap.size w (set11 w4 w.heap.size (.int .i64 0) (.slice none 0 0) (.slice none 0 0) (.slice none 0 0) (.slice none 0 0) (.int .i64 0) (.int .u64 0) (.int .i64 0) (.int .i64 0) (.int .i64 0) (.int .i64 0))) := Lib.hid (HB4.out.grown g9 HB4.out.size (fun k hk => by cases hk; omega))
      clear g9
      go_wp2_with fail
      change bodyPost _ _ _ _ _ (set11 w4 w.heap.size (.int .i64 0) (.slice none 0 0) (.slice none 0 0) (.slice none 0 0) (.slice none 0 0) (.int .i64 0) (.int .u64 0) (.int .i64 0) (.int .i64 0) (.int .i64 0) (.int .i64 0))
      generalize set11 w4 w.heap.size (.int .i64 0) (.slice none 0 0) (.slice none 0 0) (.slice none 0 0) (.slice none 0 0) (.int .i64 0) (.int .u64 0) (.int .i64 0) (.int .i64 0) (.int .i64 0) (.int .i64 0) = W99 at *
      clear r0 r1 r2 r3 r4 r5 r6 r7 r8 r9 r10 fz 
      have c0 := A9.out.2.2 0 _ rfl
      have c1 := A9.out.2.2 1 _ rfl
      have c2 := A9.out.2.2 2 _ rfl
      have c3 := A9.out.2.2 3 _ rfl
      have c4 := A9.out.2.2 4 _ rfl
      have c5 := A9.out.2.2 5 _ rfl
      have c6 := A9.out.2.2 6 _ rfl
      have c7 := A9.out.2.2 7 _ rfl
      have c8 := A9.out.2.2 8 _ rfl
      have c9 := A9.out.2.2 9 _ rfl
      have c10 := A9.out.2.2 10 _ rfl
      refine bodyPost_ret (v := .tuple #[pgV { kind := 0 } {}, numV 50]) (by simp [results, Try.results17, go_sem, *]) rfl ?_
      exact ⟨B9.out, .inr ⟨rfl, HD.out⟩⟩
  · go_simp
    have hd : Below W0.heap.size W0 (W0.alloc (.cells #[.int .i64 0, .slice none 0 0, .slice none 0 0, .slice none 0 0, .slice none 0 0, .int .i64 0, .int .u64 0, .int .i64 0, .int .i64 0, .int .i64 0, .int .i64 0] 28)).drew := ((Below.refl _ _).alloc (Nat.le_refl _) _).drew
    have hz1 : At (W0.alloc (.cells #[.int .i64 0, .slice none 0 0, .slice none 0 0, .slice none 0 0, .slice none 0 0, .int .i64 0, .int .u64 0, .int .i64 0, .int .i64 0, .int .i64 0, .int .i64 0] 28)).drew W0.heap.size (pC 0) := (show At (W0.alloc (.cells #[.int .i64 0, .slice none 0 0, .slice none 0 0, .slice none 0 0, .slice none 0 0, .int .i64 0, .int .u64 0, .int .i64 0, .int .i64 0, .int .i64 0, .int .i64 0] 28)) W0.heap.size (pC 0) from At.of_block (heap_alloc_last W0 _))
    have S2 := Lib.hid (KS.out _ hd)
    refine hK.out _ _ S2.out (fun hSR => ?_)
    clear hK K
    refine wpAnyH_ready (rs := [6]) (by kernel_rfl) (by simp) (AllReadyH.cons rfl (fun K hK => ?_) AllReadyH.nil)
    go_simp
    refine (CG.out _ (HB0.out.trans (hd.mono HB0.out.size))).mono ?_
    rintro e w2 ⟨a2, rfl, hr2, hn2, hb2⟩
    have hsd : (W0.alloc (.cells #[.int .i64 0, .slice none 0 0, .slice none 0 0, .slice none 0 0, .slice none 0 0, .int .i64 0, .int .u64 0, .int .i64 0, .int .i64 0, .int .i64 0, .int .i64 0] 28)).drew.heap.size = W0.heap.size + 1 := by simp
    have hB2 : Below W0.heap.size W0 w2 := hd.trans (hb2.mono hd.size)
    have hz2 := hz1.below hb2 hz1.1
    obtain ⟨W9, hW9, hA9, hG9⟩ := lay11 (show At w2 W0.heap.size #[.int .i64 0, .slice none 0 0, .slice none 0 0, .slice none 0 0, .slice none 0 0, .int .i64 0, .int .u64 0, .int .i64 0, .int .i64 0, .int .i64 0, .int .i64 0] from hz2) q0 a2
    have hB4 : Below W0.heap.size w2 W9 := (Below.refl W0.heap.size w2).grown hG9 hB2.size (fun j hj => by cases hj; omega)
    have HA := Lib.hid hA9
    have HR := Lib.hid (hr2.apart hG9 hn2 (by omega))
    have HB := Lib.hid ((HB0.out.trans (hB2.mono HB0.out.size)).trans (hB4.mono HB0.out.size))
    have HZ := Lib.hid ((HZ0.out.below hB2 HZ0.out.1).below hB4 HZ0.out.1)
    have HU := Lib.hid (HU0.out.below (hB2.trans hB4))
    have NW := Lib.hid (hn2.mono (show w.heap.size + 1 ≤ (W0.alloc (.cells #[.int .i64 0, .slice none 0 0, .slice none 0 0, .slice none 0 0, .slice none 0 0, .int .i64 0, .int .u64 0, .int .i64 0, .int .i64 0, .int .i64 0, .int .i64 0] 28)).drew.heap.size from by have := HSZ.out; omega))
    have KB := Lib.hid (show w.heap.size + 1 ≤ W0.heap.size from Nat.le_of_eq HSZ.out.symm)
    have S3 := Lib.hid (KS.out _ hB2)
    have r0 : w2.cell? ⟨W0.heap.size, 0, none⟩ = some (.int .i64 0) := hz2.2.2 0 _ rfl
    have r1 : w2.cell? ⟨W0.heap.size, 1, none⟩ = some (.slice none 0 0) := hz2.2.2 1 _ rfl
    have r2 : w2.cell? ⟨W0.heap.size, 2, none⟩ = some (.slice none 0 0) := hz2.2.2 2 _ rfl
    have r3 : w2.cell? ⟨W0.heap.size, 3, none⟩ = some (.slice none 0 0) := hz2.2.2 3 _ rfl
    have r4 : w2.cell? ⟨W0.heap.size, 4, none⟩ = some (.slice none 0 0) := hz2.2.2 4 _ rfl
    have r5 : w2.cell? ⟨W0.heap.size, 5, none⟩ = some (.int .i64 0) := hz2.2.2 5 _ rfl
    have r6 : w2.cell? ⟨W0.heap.size, 6, none⟩ = some (.int .u64 0) := hz2.2.2 6 _ rfl
    have r7 : w2.cell? ⟨W0.heap.size, 7, none⟩ = some (.int .i64 0) := hz2.2.2 7 _ rfl
    have r8 : w2.cell? ⟨W0.heap.size, 8, none⟩ = some (.int .i64 0) := hz2.2.2 8 _ rfl
    have r9 : w2.cell? ⟨W0.heap.size, 9, none⟩ = some (.int .i64 0) := hz2.2.2 9 _ rfl
    have r10 : w2.cell? ⟨W0.heap.size, 10, none⟩ = some (.int .i64 0) := hz2.2.2 10 _ rfl
    have fz := hz2.2.1
    unfold set11 at hW9
    clear hd hb2 hB2 hB4 hr2 hn2 hA9 hG9 hz2 hz1 hsd
    refine hK.out _ _ S3.out (fun hSR => ?_)
    clear hK K
    (try simp only [Act.put])
    refine wpAnyH_take (i := 8) (v := ?_) rfl (by kernel_rfl) (by kernel_rfl) (by kernel_rfl) (fun _ _ _ h => h) (Or.inl ⟨by rfl, ?_⟩) hSR ?_
    rotate_left
    · (intro w' hSw; (try dsimp only at hSw); go_simp; (try with_reducible rfl))
    simp only [Act.put]
    refine wpAnyH_done (by kernel_rfl) ?_ _
    show Oper.wp _ _ _ _ _ _
    unfold Oper.wp
    go_simp
    clear hSR S2 S3 KS CG r0 r1 r2 r3 r4 r5 r6 r7 r8 r9 r10 fz
    obtain ⟨Bx, hBx⟩ : ∃ B, W0.heap.size = B := ⟨_, rfl⟩
    rw [hBx] at HA KB hW9
    (try rw [hBx])
    (try rw [hW9])
    clear hW9 hBx
    clear HU0 HZ0 HB0 HSZ
    have T0 : W9.drew.cell? ⟨b, off + 8, none⟩ = some (.int .u8 (y.toNat : Int)) := (HB.out.cell (p := ⟨b, off + 8, none⟩) HY0.out.1).trans HY0.out.2
    have KS := Lib.hid (fun w' (hW : Below W9.heap.size W9 w') => show w'.cell? ⟨b, off + 8, none⟩ = some (.int .u8 (y.toNat : Int)) from ((HB.out.trans (hW.mono HB.out.size)).cell (p := ⟨b, off + 8, none⟩) HY0.out.1).trans HY0.out.2)
    go_wp2_with fail
    refine region_last (S := fun w' => w'.cell? ⟨b, off + 8, none⟩ = some (.int .u8 (y.toNat : Int))) 7 (by kernel_rfl) rfl rfl rfl rfl (by kernel_rfl) (by kernel_rfl) ?_
    intro w3 hw3
    subst hw3
    have hSR := T0
    simp only [List.set_cons_zero, List.set_cons_succ]
    refine wpAnyH_take (i := 0) (v := ?_) rfl (by kernel_rfl) (by kernel_rfl) (by kernel_rfl) (fun _ _ _ h => h) (Or.inl ⟨by rfl, ?_⟩) hSR ?_
    rotate_left
    · (intro w' hSw; (try dsimp only at hSw); go_simp; (try with_reducible rfl))
    simp only [Act.put]
    refine wpAnyH_take (i := 1) (v := ?_) rfl (by kernel_rfl) (by kernel_rfl) (by kernel_rfl) (fun _ _ _ h => h) (Or.inl ⟨by rfl, ?_⟩) hSR ?_
    rotate_left
    · (intro w' hSw; (try dsimp only at hSw); go_simp; (try with_reducible rfl))
    simp only [Act.put]
    refine wpAnyH_take (i := 2) (v := ?_) rfl (by kernel_rfl) (by kernel_rfl) (by kernel_rfl) (fun _ _ _ h => h) (Or.inl ⟨by rfl, ?_⟩) hSR ?_
    rotate_left
    · (intro w' hSw; (try dsimp only at hSw); go_simp; (try with_reducible rfl))
    simp only [Act.put]
    refine wpAnyH_take (i := 3) (v := ?_) rfl (by kernel_rfl) (by kernel_rfl) (by kernel_rfl) (fun _ _ _ h => h) (Or.inl ⟨by rfl, ?_⟩) hSR ?_
    rotate_left
    · (intro w' hSw; (try dsimp only at hSw); go_simp; (try with_reducible rfl))
    simp only [Act.put]
    refine wpAnyH_take (i := 4) (v := ?_) rfl (by kernel_rfl) (by kernel_rfl) (by kernel_rfl) (fun _ _ _ h => h) (Or.inl ⟨by rfl, ?_⟩) hSR ?_
    rotate_left
    · (intro w' hSw; (try dsimp only at hSw); go_simp; (try with_reducible rfl))
    simp only [Act.put]
    refine wpAnyH_take (i := 5) (v := ?_) rfl (by kernel_rfl) (by kernel_rfl) (by kernel_rfl) (fun _ _ _ h => h) (Or.inl ⟨by rfl, ?_⟩) hSR ?_
    rotate_left
    · (intro w' hSw; (try dsimp only at hSw); go_simp; (try with_reducible rfl))
    simp only [Act.put]
    clear T0 hwy q11 hy2
    refine wpAnyH_ready (rs := [6]) (by kernel_rfl) (by simp) (AllReadyH.cons rfl (fun K hK => ?_) AllReadyH.nil)
    go_simp
    have hd : Below W9.heap.size W9 W9.drew := (Below.refl _ _).drew
    refine (CH.out _ (HB.out.trans (hd.mono HB.out.size))).mono ?_
    rintro e w5 ⟨a5, rfl, hr5, hn5, hb5⟩
    have hB5 : Below W9.heap.size W9 w5 := hd.trans hb5
    have hz5 := HA.out.below hB5 HA.out.1
    have hBl := HA.out.1
    obtain ⟨W10, hW10, hA10, hG10⟩ := lay11 (show At w5 Bx #[.int .i64 q0.kind, .slice a2.A1 q0.pairs.length a2.c1, .slice a2.A2 q0.keys.length a2.c2, .slice a2.A3 q0.kids.length a2.c3, .slice a2.A4 q0.pages.length a2.c4, .int .i64 q0.next, .int .u64 (q0.epoch : Int), .int .i64 q0.root, .int .i64 q0.depth, .int .i64 q0.count, .int .i64 q0.high] from hz5) q1 a5
    have hr10 := hr5.apart hG10 hn5 hBl
    have HB10 := Lib.hid ((HB.out.trans (hB5.mono HB.out.size)).grown hG10 (HB.out.trans (hB5.mono HB.out.size)).size (fun j hj => by cases hj; have := KB.out; omega))
    have HZ10 := Lib.hid ((HZ.out.below hB5 HZ.out.1).grownRow hG10 (by simp; have := KB.out; omega))
    have HU10 := Lib.hid (show BytesAt W10 (some ⟨b, off, none⟩) 1024 c u from by
      have h1 := HU.out.below hB5
      have h2 : Below Bx w5 W10 := (Below.refl Bx w5).grown hG10 (Nat.le_of_lt hz5.1) (fun j hj => by cases hj; omega)
      exact ⟨h1.len, h1.cap, h1.max, h1.nil, fun hne => by
        obtain ⟨b', o', e', hlt', hc'⟩ := h1.row hne
        cases e'
        exact ⟨b, off, rfl, Nat.lt_of_lt_of_le hlt' h2.size, fun k hk => (h2.cell (p := ⟨b, off + k, none⟩) (show b < Bx by have := KB.out; have := HY0.out.1; omega)).trans (hc' k hk)⟩⟩)
    have HN10 := Lib.hid (hn5.mono (show Bx + 1 ≤ W9.drew.heap.size from hBl))
    have HR10 := Lib.hid hr10
    have HA10 := Lib.hid hA10
    have S5 := Lib.hid (KS.out _ hB5)
    have r0 : w5.cell? ⟨Bx, 0, none⟩ = some (.int .i64 q0.kind) := hz5.2.2 0 _ rfl
    have r1 : w5.cell? ⟨Bx, 1, none⟩ = some (.slice a2.A1 q0.pairs.length a2.c1) := hz5.2.2 1 _ rfl
    have r2 : w5.cell? ⟨Bx, 2, none⟩ = some (.slice a2.A2 q0.keys.length a2.c2) := hz5.2.2 2 _ rfl
    have r3 : w5.cell? ⟨Bx, 3, none⟩ = some (.slice a2.A3 q0.kids.length a2.c3) := hz5.2.2 3 _ rfl
    have r4 : w5.cell? ⟨Bx, 4, none⟩ = some (.slice a2.A4 q0.pages.length a2.c4) := hz5.2.2 4 _ rfl
    have r5 : w5.cell? ⟨Bx, 5, none⟩ = some (.int .i64 q0.next) := hz5.2.2 5 _ rfl
    have r6 : w5.cell? ⟨Bx, 6, none⟩ = some (.int .u64 (q0.epoch : Int)) := hz5.2.2 6 _ rfl
    have r7 : w5.cell? ⟨Bx, 7, none⟩ = some (.int .i64 q0.root) := hz5.2.2 7 _ rfl
    have r8 : w5.cell? ⟨Bx, 8, none⟩ = some (.int .i64 q0.depth) := hz5.2.2 8 _ rfl
    have r9 : w5.cell? ⟨Bx, 9, none⟩ = some (.int .i64 q0.count) := hz5.2.2 9 _ rfl
    have r10 : w5.cell? ⟨Bx, 10, none⟩ = some (.int .i64 q0.high) := hz5.2.2 10 _ rfl
    have fz := hz5.2.1
    unfold set11 at hW10
    clear hd hb5 hB5 hz5 hBl hr5 hn5 hr10 hA10 hG10 HA HR NW HB HZ HU
    refine hK.out _ _ S5.out (fun hSR => ?_)
    clear hK K
    (try simp only [Act.put])
    refine wpAnyH_take (i := 7) (v := ?_) rfl (by kernel_rfl) (by kernel_rfl) (by kernel_rfl) (fun _ _ _ h => h) (Or.inl ⟨by rfl, ?_⟩) hSR ?_
    rotate_left
    · (intro w' hSw; (try dsimp only at hSw); go_simp; (try with_reducible rfl))
    simp only [Act.put]
    refine wpAnyH_done (by kernel_rfl) ?_ _
    show Oper.wp _ _ _ _ _ _
    unfold Oper.wp
    go_simp
    clear hSR S5 KS CH r0 r1 r2 r3 r4 r5 r6 r7 r8 r9 r10 fz
    (try rw [hW10])
    clear hW10
    have cV := CV.out W10 HB10.out
    go_wp2_with fail
    refine cV.mono ?_
    rintro e w6 ⟨rfl, rfl⟩
    clear cV CV
    have x6 : W10.cell? ⟨Bx, 6, none⟩ = some (.int .u64 (q1.epoch : Int)) := HA10.out.2.2 6 _ rfl
    have f6 := HA10.out.2.1 6
    obtain ⟨p, hp⟩ : ∃ p : Pg, p = { q1 with epoch := v } := ⟨_, rfl⟩
    obtain ⟨W11, hW11⟩ : ∃ W', W10.setCell ⟨Bx, 6, none⟩ (.int .u64 (v : Int)) = W' := ⟨_, rfl⟩
    have g11 := grown_set W10 Bx 6 (.int .u64 (v : Int))
    rw [hW11] at g11
    have HA : Hid (At W11 Bx (pgC p a5)) := Lib.hid (by rw [hp, ← hW11]; exact HA10.out.set 6 (.int .u64 (v : Int)) (by simp))
    have HR : Hid (PgRows W11 p a5) := Lib.hid (by rw [hp]; exact (show PgRows W10 { q1 with epoch := v } a5 from ⟨HR10.out.r1, HR10.out.r2, HR10.out.r3, HR10.out.r4⟩).apart g11 HN10.out (by omega))
    have HB := Lib.hid (HB10.out.grown g11 HB10.out.size (fun j hj => by cases hj; have := KB.out; omega))
    have HZ := Lib.hid (HZ10.out.grownRow g11 (by simp; have := KB.out; omega))
    have HU := Lib.hid (show BytesAt W11 (some ⟨b, off, none⟩) 1024 c u from by
      have h1 := HU10.out
      have h2 : Below Bx W10 W11 := (Below.refl Bx W10).grown g11 (Nat.le_of_lt HA10.out.1) (fun j hj => by cases hj; omega)
      exact ⟨h1.len, h1.cap, h1.max, h1.nil, fun hne => by
        obtain ⟨b', o', e', hlt', hc'⟩ := h1.row hne
        cases e'
        exact ⟨b, off, rfl, Nat.lt_of_lt_of_le hlt' h2.size, fun k hk => (h2.cell (p := ⟨b, off + k, none⟩) (show b < Bx by have := KB.out; have := HY0.out.1; omega)).trans (hc' k hk)⟩⟩)
    have NW := Lib.hid (HN10.out.mono (show w.heap.size + 1 ≤ Bx + 1 by have := KB.out; omega))
    have HQ : Hid (gDec s u = p) := Lib.hid (by rw [HQ0.out, hp])
    have OK : Hid (PgOk p) := Lib.hid (by rw [← HQ.out]; exact OKQ.out)
    have EP : Hid (p.epoch < 18446744073709551616) := Lib.hid (by rw [← HQ.out]; exact EPQ.out)
    clear g11 OKQ EPQ HQ0 HY0 HA10 HR10 HB10 HZ10 HU10 HN10 hp hv
    have c0 : W11.cell? ⟨Bx, 0, none⟩ = some (.int .i64 p.kind) := HA.out.2.2 0 _ rfl
    have c1 : W11.cell? ⟨Bx, 1, none⟩ = some (.slice a5.A1 p.pairs.length a5.c1) := HA.out.2.2 1 _ rfl
    have c2 : W11.cell? ⟨Bx, 2, none⟩ = some (.slice a5.A2 p.keys.length a5.c2) := HA.out.2.2 2 _ rfl
    have c3 : W11.cell? ⟨Bx, 3, none⟩ = some (.slice a5.A3 p.kids.length a5.c3) := HA.out.2.2 3 _ rfl
    have c4 : W11.cell? ⟨Bx, 4, none⟩ = some (.slice a5.A4 p.pages.length a5.c4) := HA.out.2.2 4 _ rfl
    have c5 : W11.cell? ⟨Bx, 5, none⟩ = some (.int .i64 p.next) := HA.out.2.2 5 _ rfl
    have c6 : W11.cell? ⟨Bx, 6, none⟩ = some (.int .u64 (p.epoch : Int)) := HA.out.2.2 6 _ rfl
    have c7 : W11.cell? ⟨Bx, 7, none⟩ = some (.int .i64 p.root) := HA.out.2.2 7 _ rfl
    have c8 : W11.cell? ⟨Bx, 8, none⟩ = some (.int .i64 p.depth) := HA.out.2.2 8 _ rfl
    have c9 : W11.cell? ⟨Bx, 9, none⟩ = some (.int .i64 p.count) := HA.out.2.2 9 _ rfl
    have c10 : W11.cell? ⟨Bx, 10, none⟩ = some (.int .i64 p.high) := HA.out.2.2 10 _ rfl
    have cE := rEncode_any s p a5 W11 H64.out OK.out HR.out
    go_wp2_with fail
    clear x6 f6 hW11
    clear c0 c1 c2 c3 c4 c5 c6 c7 c8 c9 c10
    refine cE.mono ?_
    rintro e w4 (⟨X, m, d, l, rfl, hby, henc, hb⟩ | ⟨rfl, hno, hb⟩)
    · obtain rfl : m = 1024 := by rw [← hby.len]; exact enc_len henc
      have HA4 := Lib.hid (HA.out.below hb HA.out.1)
      have HZ4 := Lib.hid (HZ.out.below hb HZ.out.1)
      have HB4 := Lib.hid (HB.out.trans (hb.mono HB.out.size))
      have HU4 := Lib.hid (HU.out.below hb)
      have HR4 := Lib.hid (HR.out.below hb)
      have v1 := conv_run d hby.len hby.row
      have v2 := conv_run c HU4.out.len HU4.out.row
      have HSB := Lib.hid (strB_beq l u)
      obtain ⟨S1, h1⟩ : ∃ S, strB l = S := ⟨_, rfl⟩
      obtain ⟨S2, h2⟩ : ∃ S, strB u = S := ⟨_, rfl⟩
      rw [h1] at v1
      rw [h2] at v2
      rw [h1, h2] at HSB
      have HE := Lib.hid henc
      clear h1 h2 hby henc hb cE HA HZ HB HU HR
      by_cases hlu : l = u
      · have e8 : (S1.toList == S2.toList) = true := by rw [HSB.out]; simp [hlu]
        have e9 : (S1.toList != S2.toList) = false := by simp [bne, e8]
        have HD : Hid (IsDec s u p) := Lib.hid (by rw [← hlu]; exact dec_of_enc HE.out EP.out)
        clear hlu HSB
        have c0 : w4.cell? ⟨Bx, 0, none⟩ = some (.int .i64 p.kind) := HA4.out.2.2 0 _ rfl
        have c1 : w4.cell? ⟨Bx, 1, none⟩ = some (.slice a5.A1 p.pairs.length a5.c1) := HA4.out.2.2 1 _ rfl
        have c2 : w4.cell? ⟨Bx, 2, none⟩ = some (.slice a5.A2 p.keys.length a5.c2) := HA4.out.2.2 2 _ rfl
        have c3 : w4.cell? ⟨Bx, 3, none⟩ = some (.slice a5.A3 p.kids.length a5.c3) := HA4.out.2.2 3 _ rfl
        have c4 : w4.cell? ⟨Bx, 4, none⟩ = some (.slice a5.A4 p.pages.length a5.c4) := HA4.out.2.2 4 _ rfl
        have c5 : w4.cell? ⟨Bx, 5, none⟩ = some (.int .i64 p.next) := HA4.out.2.2 5 _ rfl
        have c6 : w4.cell? ⟨Bx, 6, none⟩ = some (.int .u64 (p.epoch : Int)) := HA4.out.2.2 6 _ rfl
        have c7 : w4.cell? ⟨Bx, 7, none⟩ = some (.int .i64 p.root) := HA4.out.2.2 7 _ rfl
        have c8 : w4.cell? ⟨Bx, 8, none⟩ = some (.int .i64 p.depth) := HA4.out.2.2 8 _ rfl
        have c9 : w4.cell? ⟨Bx, 9, none⟩ = some (.int .i64 p.count) := HA4.out.2.2 9 _ rfl
        have c10 : w4.cell? ⟨Bx, 10, none⟩ = some (.int .i64 p.high) := HA4.out.2.2 10 _ rfl
        have r0 : w4.cell? ⟨w.heap.size, 0, none⟩ = some (.int .i64 0) := HZ4.out.2.2 0 _ rfl
        have r1 : w4.cell? ⟨w.heap.size, 1, none⟩ = some (.slice none 0 0) := HZ4.out.2.2 1 _ rfl
        have r2 : w4.cell? ⟨w.heap.size, 2, none⟩ = some (.slice none 0 0) := HZ4.out.2.2 2 _ rfl
        have r3 : w4.cell? ⟨w.heap.size, 3, none⟩ = some (.slice none 0 0) := HZ4.out.2.2 3 _ rfl
        have r4 : w4.cell? ⟨w.heap.size, 4, none⟩ = some (.slice none 0 0) := HZ4.out.2.2 4 _ rfl
        have r5 : w4.cell? ⟨w.heap.size, 5, none⟩ = some (.int .i64 0) := HZ4.out.2.2 5 _ rfl
        have r6 : w4.cell? ⟨w.heap.size, 6, none⟩ = some (.int .u64 0) := HZ4.out.2.2 6 _ rfl
        have r7 : w4.cell? ⟨w.heap.size, 7, none⟩ = some (.int .i64 0) := HZ4.out.2.2 7 _ rfl
        have r8 : w4.cell? ⟨w.heap.size, 8, none⟩ = some (.int .i64 0) := HZ4.out.2.2 8 _ rfl
        have r9 : w4.cell? ⟨w.heap.size, 9, none⟩ = some (.int .i64 0) := HZ4.out.2.2 9 _ rfl
        have r10 : w4.cell? ⟨w.heap.size, 10, none⟩ = some (.int .i64 0) := HZ4.out.2.2 10 _ rfl
        have fz := HZ4.out.2.1
        have A9 := Lib.hid (set11_at HZ4.out (.int .i64 p.kind) (.slice a5.A1 p.pairs.length a5.c1) (.slice a5.A2 p.keys.length a5.c2) (.slice a5.A3 p.kids.length a5.c3) (.slice a5.A4 p.pages.length a5.c4) (.int .i64 p.next) (.int .u64 (p.epoch : Int)) (.int .i64 p.root) (.int .i64 p.depth) (.int .i64 p.count) (.int .i64 p.high))
        have g9 := set11_only w4 w.heap.size (.int .i64 p.kind) (.slice a5.A1 p.pairs.length a5.c1) (.slice a5.A2 p.keys.length a5.c2) (.slice a5.A3 p.kids.length a5.c3) (.slice a5.A4 p.pages.length a5.c4) (.int .i64 p.next) (.int .u64 (p.epoch : Int)) (.int .i64 p.root) (.int .i64 p.depth) (.int .i64 p.count) (.int .i64 p.high)
        have B9 : Hid (Below w.heap.size w (set11 w4 w.heap.size (.int .i64 p.kind) (.slice a5.A1 p.pairs.length a5.c1) (.slice a5.A2 p.keys.length a5.c2) (.slice a5.A3 p.kids.length a5.c3) (.slice a5.A4 p.pages.length a5.c4) (.int .i64 p.next) (.int .u64 (p.epoch : Int)) (.int .i64 p.root) (.int .i64 p.depth) (.int .i64 p.count) (.int .i64 p.high))) := Lib.hid (HB4.out.grown g9 HB4.out.size (fun k hk => by cases hk; omega))
        have N9 := Lib.hid (HR4.out.apart g9 NW.out (by omega))
        clear g9
        go_wp2_with fail
        change bodyPost _ _ _ _ _ (set11 w4 w.heap.size (.int .i64 p.kind) (.slice a5.A1 p.pairs.length a5.c1) (.slice a5.A2 p.keys.length a5.c2) (.slice a5.A3 p.kids.length a5.c3) (.slice a5.A4 p.pages.length a5.c4) (.int .i64 p.next) (.int .u64 (p.epoch : Int)) (.int .i64 p.root) (.int .i64 p.depth) (.int .i64 p.count) (.int .i64 p.high))
        generalize set11 w4 w.heap.size (.int .i64 p.kind) (.slice a5.A1 p.pairs.length a5.c1) (.slice a5.A2 p.keys.length a5.c2) (.slice a5.A3 p.kids.length a5.c3) (.slice a5.A4 p.pages.length a5.c4) (.int .i64 p.next) (.int .u64 (p.epoch : Int)) (.int .i64 p.root) (.int .i64 p.depth) (.int .i64 p.count) (.int .i64 p.high) = W99 at *
        clear r0 r1 r2 r3 r4 r5 r6 r7 r8 r9 r10 fz c0 c1 c2 c3 c4 c5 c6 c7 c8 c9 c10
        have c0 := A9.out.2.2 0 _ rfl
        have c1 := A9.out.2.2 1 _ rfl
        have c2 := A9.out.2.2 2 _ rfl
        have c3 := A9.out.2.2 3 _ rfl
        have c4 := A9.out.2.2 4 _ rfl
        have c5 := A9.out.2.2 5 _ rfl
        have c6 := A9.out.2.2 6 _ rfl
        have c7 := A9.out.2.2 7 _ rfl
        have c8 := A9.out.2.2 8 _ rfl
        have c9 := A9.out.2.2 9 _ rfl
        have c10 := A9.out.2.2 10 _ rfl
        refine bodyPost_ret (v := .tuple #[pgV p a5, numV 0]) (by simp [results, Try.results17, go_sem, *]) rfl ?_
        exact ⟨B9.out, .inl ⟨p, a5, rfl, N9.out, OK.out, HD.out⟩⟩
      · have e8 : (S1.toList == S2.toList) = false := by rw [HSB.out]; simp [hlu]
        have e9 : (S1.toList != S2.toList) = true := by simp [bne, e8]
        have HD : Hid (∀ q, ¬ IsDec s u q) := Lib.hid (fun q hq => by have e := isDec_back hq; rw [HQ.out] at e; subst e; exact hlu (enc_fun HE.out hq.2))
        clear hlu HSB
        have r0 : w4.cell? ⟨w.heap.size, 0, none⟩ = some (.int .i64 0) := HZ4.out.2.2 0 _ rfl
        have r1 : w4.cell? ⟨w.heap.size, 1, none⟩ = some (.slice none 0 0) := HZ4.out.2.2 1 _ rfl
        have r2 : w4.cell? ⟨w.heap.size, 2, none⟩ = some (.slice none 0 0) := HZ4.out.2.2 2 _ rfl
        have r3 : w4.cell? ⟨w.heap.size, 3, none⟩ = some (.slice none 0 0) := HZ4.out.2.2 3 _ rfl
        have r4 : w4.cell? ⟨w.heap.size, 4, none⟩ = some (.slice none 0 0) := HZ4.out.2.2 4 _ rfl
        have r5 : w4.cell? ⟨w.heap.size, 5, none⟩ = some (.int .i64 0) := HZ4.out.2.2 5 _ rfl
        have r6 : w4.cell? ⟨w.heap.size, 6, none⟩ = some (.int .u64 0) := HZ4.out.2.2 6 _ rfl
        have r7 : w4.cell? ⟨w.heap.size, 7, none⟩ = some (.int .i64 0) := HZ4.out.2.2 7 _ rfl
        have r8 : w4.cell? ⟨w.heap.size, 8, none⟩ = some (.int .i64 0) := HZ4.out.2.2 8 _ rfl
        have r9 : w4.cell? ⟨w.heap.size, 9, none⟩ = some (.int .i64 0) := HZ4.out.2.2 9 _ rfl
        have r10 : w4.cell? ⟨w.heap.size, 10, none⟩ = some (.int .i64 0) := HZ4.out.2.2 10 _ rfl
        have fz := HZ4.out.2.1
        have A9 := Lib.hid (set11_at HZ4.out (.int .i64 0) (.slice none 0 0) (.slice none 0 0) (.slice none 0 0) (.slice none 0 0) (.int .i64 0) (.int .u64 0) (.int .i64 0) (.int .i64 0) (.int .i64 0) (.int .i64 0))
        have g9 := set11_only w4 w.heap.size (.int .i64 0) (.slice none 0 0) (.slice none 0 0) (.slice none 0 0) (.slice none 0 0) (.int .i64 0) (.int .u64 0) (.int .i64 0) (.int .i64 0) (.int .i64 0) (.int .i64 0)
        have B9 : Hid (Below w.heap.size w (set11 w4 w.heap.size (.int .i64 0) (.slice none 0 0) (.slice none 0 0) (.slice none 0 0) (.slice none 0 0) (.int .i64 0) (.int .u64 0) (.int .i64 0) (.int .i64 0) (.int .i64 0) (.int .i64 0))) := Lib.hid (HB4.out.grown g9 HB4.out.size (fun k hk => by cases hk; omega))
        clear g9
        go_wp2_with fail
        change bodyPost _ _ _ _ _ (set11 w4 w.heap.size (.int .i64 0) (.slice none 0 0) (.slice none 0 0) (.slice none 0 0) (.slice none 0 0) (.int .i64 0) (.int .u64 0) (.int .i64 0) (.int .i64 0) (.int .i64 0) (.int .i64 0))
        generalize set11 w4 w.heap.size (.int .i64 0) (.slice none 0 0) (.slice none 0 0) (.slice none 0 0) (.slice none 0 0) (.int .i64 0) (.int .u64 0) (.int .i64 0) (.int .i64 0) (.int .i64 0) (.int .i64 0) = W99 at *
        clear r0 r1 r2 r3 r4 r5 r6 r7 r8 r9 r10 fz 
        have c0 := A9.out.2.2 0 _ rfl
        have c1 := A9.out.2.2 1 _ rfl
        have c2 := A9.out.2.2 2 _ rfl
        have c3 := A9.out.2.2 3 _ rfl
        have c4 := A9.out.2.2 4 _ rfl
        have c5 := A9.out.2.2 5 _ rfl
        have c6 := A9.out.2.2 6 _ rfl
        have c7 := A9.out.2.2 7 _ rfl
        have c8 := A9.out.2.2 8 _ rfl
        have c9 := A9.out.2.2 9 _ rfl
        have c10 := A9.out.2.2 10 _ rfl
        refine bodyPost_ret (v := .tuple #[pgV { kind := 0 } {}, numV 50]) (by simp [results, Try.results17, go_sem, *]) rfl ?_
        exact ⟨B9.out, .inr ⟨rfl, HD.out⟩⟩
    · have HA4 := Lib.hid (HA.out.below hb HA.out.1)
      have HZ4 := Lib.hid (HZ.out.below hb HZ.out.1)
      have HB4 := Lib.hid (HB.out.trans (hb.mono HB.out.size))
      have HU4 := Lib.hid (HU.out.below hb)
      have HR4 := Lib.hid (HR.out.below hb)
      have HD : Hid (∀ q, ¬ IsDec s u q) := Lib.hid (fun q hq => by have e := isDec_back hq; rw [HQ.out] at e; subst e; exact hno _ hq.2)
      clear hno hb cE HA HZ HB HU HR
      have r0 : w4.cell? ⟨w.heap.size, 0, none⟩ = some (.int .i64 0) := HZ4.out.2.2 0 _ rfl
      have r1 : w4.cell? ⟨w.heap.size, 1, none⟩ = some (.slice none 0 0) := HZ4.out.2.2 1 _ rfl
      have r2 : w4.cell? ⟨w.heap.size, 2, none⟩ = some (.slice none 0 0) := HZ4.out.2.2 2 _ rfl
      have r3 : w4.cell? ⟨w.heap.size, 3, none⟩ = some (.slice none 0 0) := HZ4.out.2.2 3 _ rfl
      have r4 : w4.cell? ⟨w.heap.size, 4, none⟩ = some (.slice none 0 0) := HZ4.out.2.2 4 _ rfl
      have r5 : w4.cell? ⟨w.heap.size, 5, none⟩ = some (.int .i64 0) := HZ4.out.2.2 5 _ rfl
      have r6 : w4.cell? ⟨w.heap.size, 6, none⟩ = some (.int .u64 0) := HZ4.out.2.2 6 _ rfl
      have r7 : w4.cell? ⟨w.heap.size, 7, none⟩ = some (.int .i64 0) := HZ4.out.2.2 7 _ rfl
      have r8 : w4.cell? ⟨w.heap.size, 8, none⟩ = some (.int .i64 0) := HZ4.out.2.2 8 _ rfl
      have r9 : w4.cell? ⟨w.heap.size, 9, none⟩ = some (.int .i64 0) := HZ4.out.2.2 9 _ rfl
      have r10 : w4.cell? ⟨w.heap.size, 10, none⟩ = some (.int .i64 0) := HZ4.out.2.2 10 _ rfl
      have fz := HZ4.out.2.1
      have A9 := Lib.hid (set11_at HZ4.out (.int .i64 0) (.slice none 0 0) (.slice none 0 0) (.slice none 0 0) (.slice none 0 0) (.int .i64 0) (.int .u64 0) (.int .i64 0) (.int .i64 0) (.int .i64 0) (.int .i64 0))
      have g9 := set11_only w4 w.heap.size (.int .i64 0) (.slice none 0 0) (.slice none 0 0) (.slice none 0 0) (.slice none 0 0) (.int .i64 0) (.int .u64 0) (.int .i64 0) (.int .i64 0) (.int .i64 0) (.int .i64 0)
      have B9 : Hid (Below w.heap.size w (set11 w4 w.heap.size (.int .i64 0) (.slice none 0 0) (.slice none 0 0) (.slice none 0 0) (.slice none 0 0) (.int .i64 0) (.int .u64 0) (.int .i64 0) (.int .i64 0) (.int .i64 0) (.int .i64 0))) := Lib.hid (HB4.out.grown g9 HB4.out.size (fun k hk => by cases hk; omega))
      clear g9
      go_wp2_with fail
      change bodyPost _ _ _ _ _ (set11 w4 w.heap.size (.int .i64 0) (.slice none 0 0) (.slice none 0 0) (.slice none 0 0) (.slice none 0 0) (.int .i64 0) (.int .u64 0) (.int .i64 0) (.int .i64 0) (.int .i64 0) (.int .i64 0))
      generalize set11 w4 w.heap.size (.int .i64 0) (.slice none 0 0) (.slice none 0 0) (.slice none 0 0) (.slice none 0 0) (.int .i64 0) (.int .u64 0) (.int .i64 0) (.int .i64 0) (.int .i64 0) (.int .i64 0) = W99 at *
      clear r0 r1 r2 r3 r4 r5 r6 r7 r8 r9 r10 fz 
      have c0 := A9.out.2.2 0 _ rfl
      have c1 := A9.out.2.2 1 _ rfl
      have c2 := A9.out.2.2 2 _ rfl
      have c3 := A9.out.2.2 3 _ rfl
      have c4 := A9.out.2.2 4 _ rfl
      have c5 := A9.out.2.2 5 _ rfl
      have c6 := A9.out.2.2 6 _ rfl
      have c7 := A9.out.2.2 7 _ rfl
      have c8 := A9.out.2.2 8 _ rfl
      have c9 := A9.out.2.2 9 _ rfl
      have c10 := A9.out.2.2 10 _ rfl
      refine bodyPost_ret (v := .tuple #[pgV { kind := 0 } {}, numV 50]) (by simp [results, Try.results17, go_sem, *]) rfl ?_
      exact ⟨B9.out, .inr ⟨rfl, HD.out⟩⟩
set_option maxRecDepth 100000 in
set_option maxHeartbeats 8000000 in
theorem rDecode_one (s : Int) (A : Option Addr) (c : Nat) (u : Bs) (w : World) (h : BytesAt w A 1024 c u) (hs64 : -9223372036854775808 ≤ s ∧ s ≤ 9223372036854775807) (e0 : (s == 0) = false) (e1 : (s == 1) = true) : Calls Try.prog 17 #[.int .i64 s, .slice A 1024 c] w (DecPost s u w) := by
  have H64 := Lib.hid hs64
  have hb0 : Below w.heap.size w (w.alloc (.cells #[.int .i64 0, .slice none 0 0, .slice none 0 0, .slice none 0 0, .slice none 0 0, .int .i64 0, .int .u64 0, .int .i64 0, .int .i64 0, .int .i64 0, .int .i64 0] 28)) := (Below.refl _ _).alloc (Nat.le_refl _) _
  have hz0 : At (w.alloc (.cells #[.int .i64 0, .slice none 0 0, .slice none 0 0, .slice none 0 0, .slice none 0 0, .int .i64 0, .int .u64 0, .int .i64 0, .int .i64 0, .int .i64 0, .int .i64 0] 28)) w.heap.size (pC 0) := At.of_block (heap_alloc_last w _)
  obtain ⟨W0, hW0⟩ : ∃ W0, w.alloc (.cells #[.int .i64 0, .slice none 0 0, .slice none 0 0, .slice none 0 0, .slice none 0 0, .int .i64 0, .int .u64 0, .int .i64 0, .int .i64 0, .int .i64 0, .int .i64 0] 28) = W0 := ⟨_, rfl⟩
  have hsz : W0.heap.size = w.heap.size + 1 := by rw [← hW0]; simp
  rw [hW0] at hb0 hz0
  have HU0 := Lib.hid (h.below hb0)
  have HZ0 := Lib.hid hz0
  have HB0 := Lib.hid hb0
  have HSZ := Lib.hid hsz
  have hul := h.len
  obtain ⟨b, off, rfl, hlt, hc⟩ := h.row (by intro e; rw [e] at hul; simp at hul)
  have hx0 : w.cell? ⟨b, off, none⟩ = some (byteV (u[0]'(by omega))) := hc 0 (by omega)
  have hy0 : w.cell? ⟨b, off + 8, none⟩ = some (byteV (u[8]'(by omega))) := hc 8 (by omega)
  have OKQ := Lib.hid (gDec_ok s u)
  have EPQ := Lib.hid (gDec_epoch s u)
  have HQ0 : Hid (gDec s u = { gGuess ((u[8]'(by omega)).toNat : Int) (u.drop 11) with epoch := gGet u 0 8 }) := Lib.hid (by rw [gDec, if_pos (by simp at e1; omega), gGet_one (by omega)])
  have hcap := h.cap
  have q3 : ∀ W, (Instr.slice 30 (.slice (some ⟨b, off, none⟩) 1024 c) (some (.int .i64 3)) none none).run Try.prog W = .ok (.slice (if c = 3 then some ⟨b, off, none⟩ else (some ⟨b, off, none⟩ : Option Addr).map (·.add 3)) (1024 - 3) (c - 3)) W := fun W => tail_runB _ 1024 c 3 (by omega) W
  have q11 : ∀ W, (Instr.slice 30 (.slice (some ⟨b, off, none⟩) 1024 c) (some (.int .i64 11)) none none).run Try.prog W = .ok (.slice (if c = 11 then some ⟨b, off, none⟩ else (some ⟨b, off, none⟩ : Option Addr).map (·.add 11)) (1024 - 11) (c - 11)) W := fun W => tail_runB _ 1024 c 11 (by omega) W
  have Y3 := Lib.hid (h.tail (k := 3))
  have Y11 := Lib.hid (h.tail (k := 11))
  generalize (if c = 3 then some ⟨b, off, none⟩ else (some ⟨b, off, none⟩ : Option Addr).map (·.add 3)) = A3 at q3 Y3
  generalize (if c = 11 then some ⟨b, off, none⟩ else (some ⟨b, off, none⟩ : Option Addr).map (·.add 11)) = A11 at q11 Y11
  generalize c - 3 = c3 at q3 Y3
  generalize c - 11 = c11 at q11 Y11
  simp only [Nat.reduceSub] at q3 q11 Y3 Y11
  generalize u[0]'(by omega) = x at *
  generalize u[8]'(by omega) = y at *
  have hx2 := x.toNat_lt
  have hy2 := y.toNat_lt
  have hwx : IntKind.i64.wrap (x.toNat : Int) = x.toNat := IntWalk.i64_in _ (by omega)
  have hwy : IntKind.i64.wrap (y.toNat : Int) = y.toNat := IntWalk.i64_in _ (by omega)
  have CG := Lib.hid (fun W (hW : Below w.heap.size w W) => guess_any x.toNat A3 1021 c3 (u.drop 3) W (Y3.out.below hW) (by omega))
  have CH := Lib.hid (fun W (hW : Below w.heap.size w W) => guess_any y.toNat A11 1013 c11 (u.drop 11) W (Y11.out.below hW) (by omega))
  have hv := gGet_lt u 0 8
  have CV := Lib.hid (show ∀ W, Below w.heap.size w W → Calls Try.prog 42 #[.slice (some ⟨b, off, none⟩) 1024 c, .int .i64 0, .int .i64 8] W (fun e w' => e = .returned (.int .u64 (gGet u 0 8 : Int)) ∧ W = w') from fun W hW => get_any _ 1024 c 0 8 u W (h.below hW) (by omega) (by omega) (by omega))
  obtain ⟨q1, hq1⟩ : ∃ q, gGuess (y.toNat : Int) (u.drop 11) = q := ⟨_, rfl⟩
  rw [hq1] at CH HQ0
  obtain ⟨v, hvv⟩ : ∃ v, gGet u 0 8 = v := ⟨_, rfl⟩
  rw [hvv] at CV HQ0 hv
  clear hq1 hvv
  obtain ⟨q0, hq0⟩ : ∃ q, gGuess (x.toNat : Int) (u.drop 3) = q := ⟨_, rfl⟩
  rw [hq0] at CG
  clear hq0
  have S0 : W0.drew.cell? ⟨b, off, none⟩ = some (.int .u8 (x.toNat : Int)) := (hb0.cell (p := ⟨b, off, none⟩) hlt).trans hx0
  have KS := Lib.hid (fun w' (hW : Below W0.heap.size W0 w') => show w'.cell? ⟨b, off, none⟩ = some (.int .u8 (x.toNat : Int)) from ((hb0.trans (hW.mono hb0.size)).cell (p := ⟨b, off, none⟩) hlt).trans hx0)
  have HY0 := Lib.hid (show b < w.heap.size ∧ w.cell? ⟨b, off + 8, none⟩ = some (byteV y) from ⟨hlt, hy0⟩)
  clear hz0 hb0 hsz h hul hlt hc hx0 hy0 hcap hs64
  go_enter Try.func17, Try.ntmps17
  go_wp2_with fail
  clear hW0
  refine region_last (S := fun w' => w'.cell? ⟨b, off, none⟩ = some (.int .u8 (x.toNat : Int))) 8 (by kernel_rfl) rfl rfl rfl rfl (by kernel_rfl) (by kernel_rfl) ?_
  intro w3 hw3
  subst hw3
  have hSR := S0
  simp only [List.set_cons_zero, List.set_cons_succ]
  refine wpAnyH_take (i := 0) (v := ?_) rfl (by kernel_rfl) (by kernel_rfl) (by kernel_rfl) (fun _ _ _ h => h) (Or.inl ⟨by rfl, ?_⟩) hSR ?_
  rotate_left
  · (intro w' hSw; (try dsimp only at hSw); go_simp; (try with_reducible rfl))
  simp only [Act.put]
  refine wpAnyH_take (i := 1) (v := ?_) rfl (by kernel_rfl) (by kernel_rfl) (by kernel_rfl) (fun _ _ _ h => h) (Or.inl ⟨by rfl, ?_⟩) hSR ?_
  rotate_left
  · (intro w' hSw; (try dsimp only at hSw); go_simp; (try with_reducible rfl))
  simp only [Act.put]
  refine wpAnyH_take (i := 2) (v := ?_) rfl (by kernel_rfl) (by kernel_rfl) (by kernel_rfl) (fun _ _ _ h => h) (Or.inl ⟨by rfl, ?_⟩) hSR ?_
  rotate_left
  · (intro w' hSw; (try dsimp only at hSw); go_simp; (try with_reducible rfl))
  simp only [Act.put]
  refine wpAnyH_take (i := 3) (v := ?_) rfl (by kernel_rfl) (by kernel_rfl) (by kernel_rfl) (fun _ _ _ h => h) (Or.inl ⟨by rfl, ?_⟩) hSR ?_
  rotate_left
  · (intro w' hSw; (try dsimp only at hSw); go_simp; (try with_reducible rfl))
  simp only [Act.put]
  refine wpAnyH_take (i := 4) (v := ?_) rfl (by kernel_rfl) (by kernel_rfl) (by kernel_rfl) (fun _ _ _ h => h) (Or.inl ⟨by rfl, ?_⟩) hSR ?_
  rotate_left
  · (intro w' hSw; (try dsimp only at hSw); go_simp; (try with_reducible rfl))
  simp only [Act.put]
  refine wpAnyH_take (i := 5) (v := ?_) rfl (by kernel_rfl) (by kernel_rfl) (by kernel_rfl) (fun _ _ _ h => h) (Or.inl ⟨by rfl, ?_⟩) hSR ?_
  rotate_left
  · (intro w' hSw; (try dsimp only at hSw); go_simp; (try with_reducible rfl))
  simp only [Act.put]
  clear S0 hwx q3 hx2
  refine wpAnyH_ready (rs := [6, 7]) (by kernel_rfl) (by simp) (AllReadyH.cons rfl (fun K hK => ?_) (AllReadyH.cons rfl (fun K hK => ?_) AllReadyH.nil))
  · go_simp
    have hd : Below W0.heap.size W0 W0.drew := (Below.refl _ _).drew
    refine (CG.out _ (HB0.out.trans (hd.mono HB0.out.size))).mono ?_
    rintro e w2 ⟨a2, rfl, hr2, hn2, hb2⟩
    have hB2 : Below W0.heap.size W0 w2 := hd.trans hb2
    have hB3 : Below W0.heap.size W0 (w2.alloc (.cells #[.int .i64 0, .slice none 0 0, .slice none 0 0, .slice none 0 0, .slice none 0 0, .int .i64 0, .int .u64 0, .int .i64 0, .int .i64 0, .int .i64 0, .int .i64 0] 28)) := hB2.alloc hB2.size _
    have hA9 := pg_box w2 q0 a2
    have hB4 : Below w2.heap.size w2 (w2.alloc (.cells (pgC q0 a2) 28)) := (Below.refl w2.heap.size w2).alloc (Nat.le_refl _) _
    obtain ⟨W9, hW9⟩ : ∃ W9, w2.alloc (.cells (pgC q0 a2) 28) = W9 := ⟨_, rfl⟩
    rw [hW9] at hA9 hB4
    have HA := Lib.hid hA9
    have HR := Lib.hid (hr2.below hB4)
    have HB := Lib.hid ((HB0.out.trans (hB2.mono HB0.out.size)).trans (hB4.mono (Nat.le_trans HB0.out.size hB2.size)))
    have HZ := Lib.hid ((HZ0.out.below hB2 HZ0.out.1).below hB4 (Nat.lt_of_lt_of_le HZ0.out.1 hB2.size))
    have HU := Lib.hid ((HU0.out.below hB2).below hB4)
    have NW := Lib.hid (hn2.mono (show w.heap.size + 1 ≤ W0.drew.heap.size from Nat.le_of_eq HSZ.out.symm))
    have KB := Lib.hid (show w.heap.size + 1 ≤ w2.heap.size from Nat.le_trans (Nat.le_of_eq HSZ.out.symm) hB2.size)
    have S2 := Lib.hid (KS.out _ hB2)
    have S3 := Lib.hid (KS.out _ hB3)
    unfold pgC at hW9
    clear hd hb2 hB2 hB3 hB4 hr2 hn2 hA9
    refine hK.out _ _ S2.out (fun hSR => ?_)
    clear hK K
    refine wpAnyH_ready (rs := [7]) (by kernel_rfl) (by simp) (AllReadyH.cons rfl (fun K hK => ?_) AllReadyH.nil)
    go_simp
    refine hK.out _ _ S3.out (fun hSR => ?_)
    clear hK K
    (try simp only [Act.put])
    refine wpAnyH_take (i := 8) (v := ?_) rfl (by kernel_rfl) (by kernel_rfl) (by kernel_rfl) (fun _ _ _ h => h) (Or.inl ⟨by rfl, ?_⟩) hSR ?_
    rotate_left
    · (intro w' hSw; (try dsimp only at hSw); go_simp; (try with_reducible rfl))
    simp only [Act.put]
    refine wpAnyH_done (by kernel_rfl) ?_ _
    show Oper.wp _ _ _ _ _ _
    unfold Oper.wp
    go_simp
    clear hSR S2 S3 KS CG
    obtain ⟨Bx, hBx⟩ : ∃ B, w2.heap.size = B := ⟨_, rfl⟩
    rw [hBx] at HA KB
    (try rw [hBx])
    (try rw [hW9])
    clear hW9 hBx
    clear HU0 HZ0 HB0 HSZ
    have T0 : W9.drew.cell? ⟨b, off + 8, none⟩ = some (.int .u8 (y.toNat : Int)) := (HB.out.cell (p := ⟨b, off + 8, none⟩) HY0.out.1).trans HY0.out.2
    have KS := Lib.hid (fun w' (hW : Below W9.heap.size W9 w') => show w'.cell? ⟨b, off + 8, none⟩ = some (.int .u8 (y.toNat : Int)) from ((HB.out.trans (hW.mono HB.out.size)).cell (p := ⟨b, off + 8, none⟩) HY0.out.1).trans HY0.out.2)
    go_wp2_with fail
    refine region_last (S := fun w' => w'.cell? ⟨b, off + 8, none⟩ = some (.int .u8 (y.toNat : Int))) 7 (by kernel_rfl) rfl rfl rfl rfl (by kernel_rfl) (by kernel_rfl) ?_
    intro w3 hw3
    subst hw3
    have hSR := T0
    simp only [List.set_cons_zero, List.set_cons_succ]
    refine wpAnyH_take (i := 0) (v := ?_) rfl (by kernel_rfl) (by kernel_rfl) (by kernel_rfl) (fun _ _ _ h => h) (Or.inl ⟨by rfl, ?_⟩) hSR ?_
    rotate_left
    · (intro w' hSw; (try dsimp only at hSw); go_simp; (try with_reducible rfl))
    simp only [Act.put]
    refine wpAnyH_take (i := 1) (v := ?_) rfl (by kernel_rfl) (by kernel_rfl) (by kernel_rfl) (fun _ _ _ h => h) (Or.inl ⟨by rfl, ?_⟩) hSR ?_
    rotate_left
    · (intro w' hSw; (try dsimp only at hSw); go_simp; (try with_reducible rfl))
    simp only [Act.put]
    refine wpAnyH_take (i := 2) (v := ?_) rfl (by kernel_rfl) (by kernel_rfl) (by kernel_rfl) (fun _ _ _ h => h) (Or.inl ⟨by rfl, ?_⟩) hSR ?_
    rotate_left
    · (intro w' hSw; (try dsimp only at hSw); go_simp; (try with_reducible rfl))
    simp only [Act.put]
    refine wpAnyH_take (i := 3) (v := ?_) rfl (by kernel_rfl) (by kernel_rfl) (by kernel_rfl) (fun _ _ _ h => h) (Or.inl ⟨by rfl, ?_⟩) hSR ?_
    rotate_left
    · (intro w' hSw; (try dsimp only at hSw); go_simp; (try with_reducible rfl))
    simp only [Act.put]
    refine wpAnyH_take (i := 4) (v := ?_) rfl (by kernel_rfl) (by kernel_rfl) (by kernel_rfl) (fun _ _ _ h => h) (Or.inl ⟨by rfl, ?_⟩) hSR ?_
    rotate_left
    · (intro w' hSw; (try dsimp only at hSw); go_simp; (try with_reducible rfl))
    simp only [Act.put]
    refine wpAnyH_take (i := 5) (v := ?_) rfl (by kernel_rfl) (by kernel_rfl) (by kernel_rfl) (fun _ _ _ h => h) (Or.inl ⟨by rfl, ?_⟩) hSR ?_
    rotate_left
    · (intro w' hSw; (try dsimp only at hSw); go_simp; (try with_reducible rfl))
    simp only [Act.put]
    clear T0 hwy q11 hy2
    refine wpAnyH_ready (rs := [6]) (by kernel_rfl) (by simp) (AllReadyH.cons rfl (fun K hK => ?_) AllReadyH.nil)
    go_simp
    have hd : Below W9.heap.size W9 W9.drew := (Below.refl _ _).drew
    refine (CH.out _ (HB.out.trans (hd.mono HB.out.size))).mono ?_
    rintro e w5 ⟨a5, rfl, hr5, hn5, hb5⟩
    have hB5 : Below W9.heap.size W9 w5 := hd.trans hb5
    have hz5 := HA.out.below hB5 HA.out.1
    have hBl := HA.out.1
    obtain ⟨W10, hW10, hA10, hG10⟩ := lay11 (show At w5 Bx #[.int .i64 q0.kind, .slice a2.A1 q0.pairs.length a2.c1, .slice a2.A2 q0.keys.length a2.c2, .slice a2.A3 q0.kids.length a2.c3, .slice a2.A4 q0.pages.length a2.c4, .int .i64 q0.next, .int .u64 (q0.epoch : Int), .int .i64 q0.root, .int .i64 q0.depth, .int .i64 q0.count, .int .i64 q0.high] from hz5) q1 a5
    have hr10 := hr5.apart hG10 hn5 hBl
    have HB10 := Lib.hid ((HB.out.trans (hB5.mono HB.out.size)).grown hG10 (HB.out.trans (hB5.mono HB.out.size)).size (fun j hj => by cases hj; have := KB.out; omega))
    have HZ10 := Lib.hid ((HZ.out.below hB5 HZ.out.1).grownRow hG10 (by simp; have := KB.out; omega))
    have HU10 := Lib.hid (show BytesAt W10 (some ⟨b, off, none⟩) 1024 c u from by
      have h1 := HU.out.below hB5
      have h2 : Below Bx w5 W10 := (Below.refl Bx w5).grown hG10 (Nat.le_of_lt hz5.1) (fun j hj => by cases hj; omega)
      exact ⟨h1.len, h1.cap, h1.max, h1.nil, fun hne => by
        obtain ⟨b', o', e', hlt', hc'⟩ := h1.row hne
        cases e'
        exact ⟨b, off, rfl, Nat.lt_of_lt_of_le hlt' h2.size, fun k hk => (h2.cell (p := ⟨b, off + k, none⟩) (show b < Bx by have := KB.out; have := HY0.out.1; omega)).trans (hc' k hk)⟩⟩)
    have HN10 := Lib.hid (hn5.mono (show Bx + 1 ≤ W9.drew.heap.size from hBl))
    have HR10 := Lib.hid hr10
    have HA10 := Lib.hid hA10
    have S5 := Lib.hid (KS.out _ hB5)
    have r0 : w5.cell? ⟨Bx, 0, none⟩ = some (.int .i64 q0.kind) := hz5.2.2 0 _ rfl
    have r1 : w5.cell? ⟨Bx, 1, none⟩ = some (.slice a2.A1 q0.pairs.length a2.c1) := hz5.2.2 1 _ rfl
    have r2 : w5.cell? ⟨Bx, 2, none⟩ = some (.slice a2.A2 q0.keys.length a2.c2) := hz5.2.2 2 _ rfl
    have r3 : w5.cell? ⟨Bx, 3, none⟩ = some (.slice a2.A3 q0.kids.length a2.c3) := hz5.2.2 3 _ rfl
    have r4 : w5.cell? ⟨Bx, 4, none⟩ = some (.slice a2.A4 q0.pages.length a2.c4) := hz5.2.2 4 _ rfl
    have r5 : w5.cell? ⟨Bx, 5, none⟩ = some (.int .i64 q0.next) := hz5.2.2 5 _ rfl
    have r6 : w5.cell? ⟨Bx, 6, none⟩ = some (.int .u64 (q0.epoch : Int)) := hz5.2.2 6 _ rfl
    have r7 : w5.cell? ⟨Bx, 7, none⟩ = some (.int .i64 q0.root) := hz5.2.2 7 _ rfl
    have r8 : w5.cell? ⟨Bx, 8, none⟩ = some (.int .i64 q0.depth) := hz5.2.2 8 _ rfl
    have r9 : w5.cell? ⟨Bx, 9, none⟩ = some (.int .i64 q0.count) := hz5.2.2 9 _ rfl
    have r10 : w5.cell? ⟨Bx, 10, none⟩ = some (.int .i64 q0.high) := hz5.2.2 10 _ rfl
    have fz := hz5.2.1
    unfold set11 at hW10
    clear hd hb5 hB5 hz5 hBl hr5 hn5 hr10 hA10 hG10 HA HR NW HB HZ HU
    refine hK.out _ _ S5.out (fun hSR => ?_)
    clear hK K
    (try simp only [Act.put])
    refine wpAnyH_take (i := 7) (v := ?_) rfl (by kernel_rfl) (by kernel_rfl) (by kernel_rfl) (fun _ _ _ h => h) (Or.inl ⟨by rfl, ?_⟩) hSR ?_
    rotate_left
    · (intro w' hSw; (try dsimp only at hSw); go_simp; (try with_reducible rfl))
    simp only [Act.put]
    refine wpAnyH_done (by kernel_rfl) ?_ _
    show Oper.wp _ _ _ _ _ _
    unfold Oper.wp
    go_simp
    clear hSR S5 KS CH r0 r1 r2 r3 r4 r5 r6 r7 r8 r9 r10 fz
    (try rw [hW10])
    clear hW10
    have cV := CV.out W10 HB10.out
    go_wp2_with fail
    refine cV.mono ?_
    rintro e w6 ⟨rfl, rfl⟩
    clear cV CV
    have x6 : W10.cell? ⟨Bx, 6, none⟩ = some (.int .u64 (q1.epoch : Int)) := HA10.out.2.2 6 _ rfl
    have f6 := HA10.out.2.1 6
    obtain ⟨p, hp⟩ : ∃ p : Pg, p = { q1 with epoch := v } := ⟨_, rfl⟩
    obtain ⟨W11, hW11⟩ : ∃ W', W10.setCell ⟨Bx, 6, none⟩ (.int .u64 (v : Int)) = W' := ⟨_, rfl⟩
    have g11 := grown_set W10 Bx 6 (.int .u64 (v : Int))
    rw [hW11] at g11
    have HA : Hid (At W11 Bx (pgC p a5)) := Lib.hid (by rw [hp, ← hW11]; exact HA10.out.set 6 (.int .u64 (v : Int)) (by simp))
    have HR : Hid (PgRows W11 p a5) := Lib.hid (by rw [hp]; exact (show PgRows W10 { q1 with epoch := v } a5 from ⟨HR10.out.r1, HR10.out.r2, HR10.out.r3, HR10.out.r4⟩).apart g11 HN10.out (by omega))
    have HB := Lib.hid (HB10.out.grown g11 HB10.out.size (fun j hj => by cases hj; have := KB.out; omega))
    have HZ := Lib.hid (HZ10.out.grownRow g11 (by simp; have := KB.out; omega))
    have HU := Lib.hid (show BytesAt W11 (some ⟨b, off, none⟩) 1024 c u from by
      have h1 := HU10.out
      have h2 : Below Bx W10 W11 := (Below.refl Bx W10).grown g11 (Nat.le_of_lt HA10.out.1) (fun j hj => by cases hj; omega)
      exact ⟨h1.len, h1.cap, h1.max, h1.nil, fun hne => by
        obtain ⟨b', o', e', hlt', hc'⟩ := h1.row hne
        cases e'
        exact ⟨b, off, rfl, Nat.lt_of_lt_of_le hlt' h2.size, fun k hk => (h2.cell (p := ⟨b, off + k, none⟩) (show b < Bx by have := KB.out; have := HY0.out.1; omega)).trans (hc' k hk)⟩⟩)
    have NW := Lib.hid (HN10.out.mono (show w.heap.size + 1 ≤ Bx + 1 by have := KB.out; omega))
    have HQ : Hid (gDec s u = p) := Lib.hid (by rw [HQ0.out, hp])
    have OK : Hid (PgOk p) := Lib.hid (by rw [← HQ.out]; exact OKQ.out)
    have EP : Hid (p.epoch < 18446744073709551616) := Lib.hid (by rw [← HQ.out]; exact EPQ.out)
    clear g11 OKQ EPQ HQ0 HY0 HA10 HR10 HB10 HZ10 HU10 HN10 hp hv
    have c0 : W11.cell? ⟨Bx, 0, none⟩ = some (.int .i64 p.kind) := HA.out.2.2 0 _ rfl
    have c1 : W11.cell? ⟨Bx, 1, none⟩ = some (.slice a5.A1 p.pairs.length a5.c1) := HA.out.2.2 1 _ rfl
    have c2 : W11.cell? ⟨Bx, 2, none⟩ = some (.slice a5.A2 p.keys.length a5.c2) := HA.out.2.2 2 _ rfl
    have c3 : W11.cell? ⟨Bx, 3, none⟩ = some (.slice a5.A3 p.kids.length a5.c3) := HA.out.2.2 3 _ rfl
    have c4 : W11.cell? ⟨Bx, 4, none⟩ = some (.slice a5.A4 p.pages.length a5.c4) := HA.out.2.2 4 _ rfl
    have c5 : W11.cell? ⟨Bx, 5, none⟩ = some (.int .i64 p.next) := HA.out.2.2 5 _ rfl
    have c6 : W11.cell? ⟨Bx, 6, none⟩ = some (.int .u64 (p.epoch : Int)) := HA.out.2.2 6 _ rfl
    have c7 : W11.cell? ⟨Bx, 7, none⟩ = some (.int .i64 p.root) := HA.out.2.2 7 _ rfl
    have c8 : W11.cell? ⟨Bx, 8, none⟩ = some (.int .i64 p.depth) := HA.out.2.2 8 _ rfl
    have c9 : W11.cell? ⟨Bx, 9, none⟩ = some (.int .i64 p.count) := HA.out.2.2 9 _ rfl
    have c10 : W11.cell? ⟨Bx, 10, none⟩ = some (.int .i64 p.high) := HA.out.2.2 10 _ rfl
    have cE := rEncode_any s p a5 W11 H64.out OK.out HR.out
    go_wp2_with fail
    clear x6 f6 hW11
    clear c0 c1 c2 c3 c4 c5 c6 c7 c8 c9 c10
    refine cE.mono ?_
    rintro e w4 (⟨X, m, d, l, rfl, hby, henc, hb⟩ | ⟨rfl, hno, hb⟩)
    · obtain rfl : m = 1024 := by rw [← hby.len]; exact enc_len henc
      have HA4 := Lib.hid (HA.out.below hb HA.out.1)
      have HZ4 := Lib.hid (HZ.out.below hb HZ.out.1)
      have HB4 := Lib.hid (HB.out.trans (hb.mono HB.out.size))
      have HU4 := Lib.hid (HU.out.below hb)
      have HR4 := Lib.hid (HR.out.below hb)
      have v1 := conv_run d hby.len hby.row
      have v2 := conv_run c HU4.out.len HU4.out.row
      have HSB := Lib.hid (strB_beq l u)
      obtain ⟨S1, h1⟩ : ∃ S, strB l = S := ⟨_, rfl⟩
      obtain ⟨S2, h2⟩ : ∃ S, strB u = S := ⟨_, rfl⟩
      rw [h1] at v1
      rw [h2] at v2
      rw [h1, h2] at HSB
      have HE := Lib.hid henc
      clear h1 h2 hby henc hb cE HA HZ HB HU HR
      by_cases hlu : l = u
      · have e8 : (S1.toList == S2.toList) = true := by rw [HSB.out]; simp [hlu]
        have e9 : (S1.toList != S2.toList) = false := by simp [bne, e8]
        have HD : Hid (IsDec s u p) := Lib.hid (by rw [← hlu]; exact dec_of_enc HE.out EP.out)
        clear hlu HSB
        have c0 : w4.cell? ⟨Bx, 0, none⟩ = some (.int .i64 p.kind) := HA4.out.2.2 0 _ rfl
        have c1 : w4.cell? ⟨Bx, 1, none⟩ = some (.slice a5.A1 p.pairs.length a5.c1) := HA4.out.2.2 1 _ rfl
        have c2 : w4.cell? ⟨Bx, 2, none⟩ = some (.slice a5.A2 p.keys.length a5.c2) := HA4.out.2.2 2 _ rfl
        have c3 : w4.cell? ⟨Bx, 3, none⟩ = some (.slice a5.A3 p.kids.length a5.c3) := HA4.out.2.2 3 _ rfl
        have c4 : w4.cell? ⟨Bx, 4, none⟩ = some (.slice a5.A4 p.pages.length a5.c4) := HA4.out.2.2 4 _ rfl
        have c5 : w4.cell? ⟨Bx, 5, none⟩ = some (.int .i64 p.next) := HA4.out.2.2 5 _ rfl
        have c6 : w4.cell? ⟨Bx, 6, none⟩ = some (.int .u64 (p.epoch : Int)) := HA4.out.2.2 6 _ rfl
        have c7 : w4.cell? ⟨Bx, 7, none⟩ = some (.int .i64 p.root) := HA4.out.2.2 7 _ rfl
        have c8 : w4.cell? ⟨Bx, 8, none⟩ = some (.int .i64 p.depth) := HA4.out.2.2 8 _ rfl
        have c9 : w4.cell? ⟨Bx, 9, none⟩ = some (.int .i64 p.count) := HA4.out.2.2 9 _ rfl
        have c10 : w4.cell? ⟨Bx, 10, none⟩ = some (.int .i64 p.high) := HA4.out.2.2 10 _ rfl
        have r0 : w4.cell? ⟨w.heap.size, 0, none⟩ = some (.int .i64 0) := HZ4.out.2.2 0 _ rfl
        have r1 : w4.cell? ⟨w.heap.size, 1, none⟩ = some (.slice none 0 0) := HZ4.out.2.2 1 _ rfl
        have r2 : w4.cell? ⟨w.heap.size, 2, none⟩ = some (.slice none 0 0) := HZ4.out.2.2 2 _ rfl
        have r3 : w4.cell? ⟨w.heap.size, 3, none⟩ = some (.slice none 0 0) := HZ4.out.2.2 3 _ rfl
        have r4 : w4.cell? ⟨w.heap.size, 4, none⟩ = some (.slice none 0 0) := HZ4.out.2.2 4 _ rfl
        have r5 : w4.cell? ⟨w.heap.size, 5, none⟩ = some (.int .i64 0) := HZ4.out.2.2 5 _ rfl
        have r6 : w4.cell? ⟨w.heap.size, 6, none⟩ = some (.int .u64 0) := HZ4.out.2.2 6 _ rfl
        have r7 : w4.cell? ⟨w.heap.size, 7, none⟩ = some (.int .i64 0) := HZ4.out.2.2 7 _ rfl
        have r8 : w4.cell? ⟨w.heap.size, 8, none⟩ = some (.int .i64 0) := HZ4.out.2.2 8 _ rfl
        have r9 : w4.cell? ⟨w.heap.size, 9, none⟩ = some (.int .i64 0) := HZ4.out.2.2 9 _ rfl
        have r10 : w4.cell? ⟨w.heap.size, 10, none⟩ = some (.int .i64 0) := HZ4.out.2.2 10 _ rfl
        have fz := HZ4.out.2.1
        have A9 := Lib.hid (set11_at HZ4.out (.int .i64 p.kind) (.slice a5.A1 p.pairs.length a5.c1) (.slice a5.A2 p.keys.length a5.c2) (.slice a5.A3 p.kids.length a5.c3) (.slice a5.A4 p.pages.length a5.c4) (.int .i64 p.next) (.int .u64 (p.epoch : Int)) (.int .i64 p.root) (.int .i64 p.depth) (.int .i64 p.count) (.int .i64 p.high))
        have g9 := set11_only w4 w.heap.size (.int .i64 p.kind) (.slice a5.A1 p.pairs.length a5.c1) (.slice a5.A2 p.keys.length a5.c2) (.slice a5.A3 p.kids.length a5.c3) (.slice a5.A4 p.pages.length a5.c4) (.int .i64 p.next) (.int .u64 (p.epoch : Int)) (.int .i64 p.root) (.int .i64 p.depth) (.int .i64 p.count) (.int .i64 p.high)
        have B9 : Hid (Below w.heap.size w (set11 w4 w.heap.size (.int .i64 p.kind) (.slice a5.A1 p.pairs.length a5.c1) (.slice a5.A2 p.keys.length a5.c2) (.slice a5.A3 p.kids.length a5.c3) (.slice a5.A4 p.pages.length a5.c4) (.int .i64 p.next) (.int .u64 (p.epoch : Int)) (.int .i64 p.root) (.int .i64 p.depth) (.int .i64 p.count) (.int .i64 p.high))) := Lib.hid (HB4.out.grown g9 HB4.out.size (fun k hk => by cases hk; omega))
        have N9 := Lib.hid (HR4.out.apart g9 NW.out (by omega))
        clear g9
        go_wp2_with fail
        change bodyPost _ _ _ _ _ (set11 w4 w.heap.size (.int .i64 p.kind) (.slice a5.A1 p.pairs.length a5.c1) (.slice a5.A2 p.keys.length a5.c2) (.slice a5.A3 p.kids.length a5.c3) (.slice a5.A4 p.pages.length a5.c4) (.int .i64 p.next) (.int .u64 (p.epoch : Int)) (.int .i64 p.root) (.int .i64 p.depth) (.int .i64 p.count) (.int .i64 p.high))
        generalize set11 w4 w.heap.size (.int .i64 p.kind) (.slice a5.A1 p.pairs.length a5.c1) (.slice a5.A2 p.keys.length a5.c2) (.slice a5.A3 p.kids.length a5.c3) (.slice a5.A4 p.pages.length a5.c4) (.int .i64 p.next) (.int .u64 (p.epoch : Int)) (.int .i64 p.root) (.int .i64 p.depth) (.int .i64 p.count) (.int .i64 p.high) = W99 at *
        clear r0 r1 r2 r3 r4 r5 r6 r7 r8 r9 r10 fz c0 c1 c2 c3 c4 c5 c6 c7 c8 c9 c10
        have c0 := A9.out.2.2 0 _ rfl
        have c1 := A9.out.2.2 1 _ rfl
        have c2 := A9.out.2.2 2 _ rfl
        have c3 := A9.out.2.2 3 _ rfl
        have c4 := A9.out.2.2 4 _ rfl
        have c5 := A9.out.2.2 5 _ rfl
        have c6 := A9.out.2.2 6 _ rfl
        have c7 := A9.out.2.2 7 _ rfl
        have c8 := A9.out.2.2 8 _ rfl
        have c9 := A9.out.2.2 9 _ rfl
        have c10 := A9.out.2.2 10 _ rfl
        refine bodyPost_ret (v := .tuple #[pgV p a5, numV 0]) (by simp [results, Try.results17, go_sem, *]) rfl ?_
        exact ⟨B9.out, .inl ⟨p, a5, rfl, N9.out, OK.out, HD.out⟩⟩
      · have e8 : (S1.toList == S2.toList) = false := by rw [HSB.out]; simp [hlu]
        have e9 : (S1.toList != S2.toList) = true := by simp [bne, e8]
        have HD : Hid (∀ q, ¬ IsDec s u q) := Lib.hid (fun q hq => by have e := isDec_back hq; rw [HQ.out] at e; subst e; exact hlu (enc_fun HE.out hq.2))
        clear hlu HSB
        have r0 : w4.cell? ⟨w.heap.size, 0, none⟩ = some (.int .i64 0) := HZ4.out.2.2 0 _ rfl
        have r1 : w4.cell? ⟨w.heap.size, 1, none⟩ = some (.slice none 0 0) := HZ4.out.2.2 1 _ rfl
        have r2 : w4.cell? ⟨w.heap.size, 2, none⟩ = some (.slice none 0 0) := HZ4.out.2.2 2 _ rfl
        have r3 : w4.cell? ⟨w.heap.size, 3, none⟩ = some (.slice none 0 0) := HZ4.out.2.2 3 _ rfl
        have r4 : w4.cell? ⟨w.heap.size, 4, none⟩ = some (.slice none 0 0) := HZ4.out.2.2 4 _ rfl
        have r5 : w4.cell? ⟨w.heap.size, 5, none⟩ = some (.int .i64 0) := HZ4.out.2.2 5 _ rfl
        have r6 : w4.cell? ⟨w.heap.size, 6, none⟩ = some (.int .u64 0) := HZ4.out.2.2 6 _ rfl
        have r7 : w4.cell? ⟨w.heap.size, 7, none⟩ = some (.int .i64 0) := HZ4.out.2.2 7 _ rfl
        have r8 : w4.cell? ⟨w.heap.size, 8, none⟩ = some (.int .i64 0) := HZ4.out.2.2 8 _ rfl
        have r9 : w4.cell? ⟨w.heap.size, 9, none⟩ = some (.int .i64 0) := HZ4.out.2.2 9 _ rfl
        have r10 : w4.cell? ⟨w.heap.size, 10, none⟩ = some (.int .i64 0) := HZ4.out.2.2 10 _ rfl
        have fz := HZ4.out.2.1
        have A9 := Lib.hid (set11_at HZ4.out (.int .i64 0) (.slice none 0 0) (.slice none 0 0) (.slice none 0 0) (.slice none 0 0) (.int .i64 0) (.int .u64 0) (.int .i64 0) (.int .i64 0) (.int .i64 0) (.int .i64 0))
        have g9 := set11_only w4 w.heap.size (.int .i64 0) (.slice none 0 0) (.slice none 0 0) (.slice none 0 0) (.slice none 0 0) (.int .i64 0) (.int .u64 0) (.int .i64 0) (.int .i64 0) (.int .i64 0) (.int .i64 0)
        have B9 : Hid (Below w.heap.size w (set11 w4 w.heap.size (.int .i64 0) (.slice none 0 0) (.slice none 0 0) (.slice none 0 0) (.slice none 0 0) (.int .i64 0) (.int .u64 0) (.int .i64 0) (.int .i64 0) (.int .i64 0) (.int .i64 0))) := Lib.hid (HB4.out.grown g9 HB4.out.size (fun k hk => by cases hk; omega))
        clear g9
        go_wp2_with fail
        change bodyPost _ _ _ _ _ (set11 w4 w.heap.size (.int .i64 0) (.slice none 0 0) (.slice none 0 0) (.slice none 0 0) (.slice none 0 0) (.int .i64 0) (.int .u64 0) (.int .i64 0) (.int .i64 0) (.int .i64 0) (.int .i64 0))
        generalize set11 w4 w.heap.size (.int .i64 0) (.slice none 0 0) (.slice none 0 0) (.slice none 0 0) (.slice none 0 0) (.int .i64 0) (.int .u64 0) (.int .i64 0) (.int .i64 0) (.int .i64 0) (.int .i64 0) = W99 at *
        clear r0 r1 r2 r3 r4 r5 r6 r7 r8 r9 r10 fz 
        have c0 := A9.out.2.2 0 _ rfl
        have c1 := A9.out.2.2 1 _ rfl
        have c2 := A9.out.2.2 2 _ rfl
        have c3 := A9.out.2.2 3 _ rfl
        have c4 := A9.out.2.2 4 _ rfl
        have c5 := A9.out.2.2 5 _ rfl
        have c6 := A9.out.2.2 6 _ rfl
        have c7 := A9.out.2.2 7 _ rfl
        have c8 := A9.out.2.2 8 _ rfl
        have c9 := A9.out.2.2 9 _ rfl
        have c10 := A9.out.2.2 10 _ rfl
        refine bodyPost_ret (v := .tuple #[pgV { kind := 0 } {}, numV 50]) (by simp [results, Try.results17, go_sem, *]) rfl ?_
        exact ⟨B9.out, .inr ⟨rfl, HD.out⟩⟩
    · have HA4 := Lib.hid (HA.out.below hb HA.out.1)
      have HZ4 := Lib.hid (HZ.out.below hb HZ.out.1)
      have HB4 := Lib.hid (HB.out.trans (hb.mono HB.out.size))
      have HU4 := Lib.hid (HU.out.below hb)
      have HR4 := Lib.hid (HR.out.below hb)
      have HD : Hid (∀ q, ¬ IsDec s u q) := Lib.hid (fun q hq => by have e := isDec_back hq; rw [HQ.out] at e; subst e; exact hno _ hq.2)
      clear hno hb cE HA HZ HB HU HR
      have r0 : w4.cell? ⟨w.heap.size, 0, none⟩ = some (.int .i64 0) := HZ4.out.2.2 0 _ rfl
      have r1 : w4.cell? ⟨w.heap.size, 1, none⟩ = some (.slice none 0 0) := HZ4.out.2.2 1 _ rfl
      have r2 : w4.cell? ⟨w.heap.size, 2, none⟩ = some (.slice none 0 0) := HZ4.out.2.2 2 _ rfl
      have r3 : w4.cell? ⟨w.heap.size, 3, none⟩ = some (.slice none 0 0) := HZ4.out.2.2 3 _ rfl
      have r4 : w4.cell? ⟨w.heap.size, 4, none⟩ = some (.slice none 0 0) := HZ4.out.2.2 4 _ rfl
      have r5 : w4.cell? ⟨w.heap.size, 5, none⟩ = some (.int .i64 0) := HZ4.out.2.2 5 _ rfl
      have r6 : w4.cell? ⟨w.heap.size, 6, none⟩ = some (.int .u64 0) := HZ4.out.2.2 6 _ rfl
      have r7 : w4.cell? ⟨w.heap.size, 7, none⟩ = some (.int .i64 0) := HZ4.out.2.2 7 _ rfl
      have r8 : w4.cell? ⟨w.heap.size, 8, none⟩ = some (.int .i64 0) := HZ4.out.2.2 8 _ rfl
      have r9 : w4.cell? ⟨w.heap.size, 9, none⟩ = some (.int .i64 0) := HZ4.out.2.2 9 _ rfl
      have r10 : w4.cell? ⟨w.heap.size, 10, none⟩ = some (.int .i64 0) := HZ4.out.2.2 10 _ rfl
      have fz := HZ4.out.2.1
      have A9 := Lib.hid (set11_at HZ4.out (.int .i64 0) (.slice none 0 0) (.slice none 0 0) (.slice none 0 0) (.slice none 0 0) (.int .i64 0) (.int .u64 0) (.int .i64 0) (.int .i64 0) (.int .i64 0) (.int .i64 0))
      have g9 := set11_only w4 w.heap.size (.int .i64 0) (.slice none 0 0) (.slice none 0 0) (.slice none 0 0) (.slice none 0 0) (.int .i64 0) (.int .u64 0) (.int .i64 0) (.int .i64 0) (.int .i64 0) (.int .i64 0)
      have B9 : Hid (Below w.heap.size w (set11 w4 w.heap.size (.int .i64 0) (.slice none 0 0) (.slice none 0 0) (.slice none 0 0) (.slice none 0 0) (.int .i64 0) (.int .u64 0) (.int .i64 0) (.int .i64 0) (.int .i64 0) (.int .i64 0))) := Lib.hid (HB4.out.grown g9 HB4.out.size (fun k hk => by cases hk; omega))
      clear g9
      go_wp2_with fail
      change bodyPost _ _ _ _ _ (set11 w4 w.heap.size (.int .i64 0) (.slice none 0 0) (.slice none 0 0) (.slice none 0 0) (.slice none 0 0) (.int .i64 0) (.int .u64 0) (.int .i64 0) (.int .i64 0) (.int .i64 0) (.int .i64 0))
      generalize set11 w4 w.heap.size (.int .i64 0) (.slice none 0 0) (.slice none 0 0) (.slice none 0 0) (.slice none 0 0) (.int .i64 0) (.int .u64 0) (.int .i64 0) (.int .i64 0) (.int .i64 0) (.int .i64 0) = W99 at *
      clear r0 r1 r2 r3 r4 r5 r6 r7 r8 r9 r10 fz 
      have c0 := A9.out.2.2 0 _ rfl
      have c1 := A9.out.2.2 1 _ rfl
      have c2 := A9.out.2.2 2 _ rfl
      have c3 := A9.out.2.2 3 _ rfl
      have c4 := A9.out.2.2 4 _ rfl
      have c5 := A9.out.2.2 5 _ rfl
      have c6 := A9.out.2.2 6 _ rfl
      have c7 := A9.out.2.2 7 _ rfl
      have c8 := A9.out.2.2 8 _ rfl
      have c9 := A9.out.2.2 9 _ rfl
      have c10 := A9.out.2.2 10 _ rfl
      refine bodyPost_ret (v := .tuple #[pgV { kind := 0 } {}, numV 50]) (by simp [results, Try.results17, go_sem, *]) rfl ?_
      exact ⟨B9.out, .inr ⟨rfl, HD.out⟩⟩
  · go_simp
    have hd : Below W0.heap.size W0 (W0.alloc (.cells #[.int .i64 0, .slice none 0 0, .slice none 0 0, .slice none 0 0, .slice none 0 0, .int .i64 0, .int .u64 0, .int .i64 0, .int .i64 0, .int .i64 0, .int .i64 0] 28)).drew := ((Below.refl _ _).alloc (Nat.le_refl _) _).drew
    have hz1 : At (W0.alloc (.cells #[.int .i64 0, .slice none 0 0, .slice none 0 0, .slice none 0 0, .slice none 0 0, .int .i64 0, .int .u64 0, .int .i64 0, .int .i64 0, .int .i64 0, .int .i64 0] 28)).drew W0.heap.size (pC 0) := (show At (W0.alloc (.cells #[.int .i64 0, .slice none 0 0, .slice none 0 0, .slice none 0 0, .slice none 0 0, .int .i64 0, .int .u64 0, .int .i64 0, .int .i64 0, .int .i64 0, .int .i64 0] 28)) W0.heap.size (pC 0) from At.of_block (heap_alloc_last W0 _))
    have S2 := Lib.hid (KS.out _ hd)
    refine hK.out _ _ S2.out (fun hSR => ?_)
    clear hK K
    refine wpAnyH_ready (rs := [6]) (by kernel_rfl) (by simp) (AllReadyH.cons rfl (fun K hK => ?_) AllReadyH.nil)
    go_simp
    refine (CG.out _ (HB0.out.trans (hd.mono HB0.out.size))).mono ?_
    rintro e w2 ⟨a2, rfl, hr2, hn2, hb2⟩
    have hsd : (W0.alloc (.cells #[.int .i64 0, .slice none 0 0, .slice none 0 0, .slice none 0 0, .slice none 0 0, .int .i64 0, .int .u64 0, .int .i64 0, .int .i64 0, .int .i64 0, .int .i64 0] 28)).drew.heap.size = W0.heap.size + 1 := by simp
    have hB2 : Below W0.heap.size W0 w2 := hd.trans (hb2.mono hd.size)
    have hz2 := hz1.below hb2 hz1.1
    obtain ⟨W9, hW9, hA9, hG9⟩ := lay11 (show At w2 W0.heap.size #[.int .i64 0, .slice none 0 0, .slice none 0 0, .slice none 0 0, .slice none 0 0, .int .i64 0, .int .u64 0, .int .i64 0, .int .i64 0, .int .i64 0, .int .i64 0] from hz2) q0 a2
    have hB4 : Below W0.heap.size w2 W9 := (Below.refl W0.heap.size w2).grown hG9 hB2.size (fun j hj => by cases hj; omega)
    have HA := Lib.hid hA9
    have HR := Lib.hid (hr2.apart hG9 hn2 (by omega))
    have HB := Lib.hid ((HB0.out.trans (hB2.mono HB0.out.size)).trans (hB4.mono HB0.out.size))
    have HZ := Lib.hid ((HZ0.out.below hB2 HZ0.out.1).below hB4 HZ0.out.1)
    have HU := Lib.hid (HU0.out.below (hB2.trans hB4))
    have NW := Lib.hid (hn2.mono (show w.heap.size + 1 ≤ (W0.alloc (.cells #[.int .i64 0, .slice none 0 0, .slice none 0 0, .slice none 0 0, .slice none 0 0, .int .i64 0, .int .u64 0, .int .i64 0, .int .i64 0, .int .i64 0, .int .i64 0] 28)).drew.heap.size from by have := HSZ.out; omega))
    have KB := Lib.hid (show w.heap.size + 1 ≤ W0.heap.size from Nat.le_of_eq HSZ.out.symm)
    have S3 := Lib.hid (KS.out _ hB2)
    have r0 : w2.cell? ⟨W0.heap.size, 0, none⟩ = some (.int .i64 0) := hz2.2.2 0 _ rfl
    have r1 : w2.cell? ⟨W0.heap.size, 1, none⟩ = some (.slice none 0 0) := hz2.2.2 1 _ rfl
    have r2 : w2.cell? ⟨W0.heap.size, 2, none⟩ = some (.slice none 0 0) := hz2.2.2 2 _ rfl
    have r3 : w2.cell? ⟨W0.heap.size, 3, none⟩ = some (.slice none 0 0) := hz2.2.2 3 _ rfl
    have r4 : w2.cell? ⟨W0.heap.size, 4, none⟩ = some (.slice none 0 0) := hz2.2.2 4 _ rfl
    have r5 : w2.cell? ⟨W0.heap.size, 5, none⟩ = some (.int .i64 0) := hz2.2.2 5 _ rfl
    have r6 : w2.cell? ⟨W0.heap.size, 6, none⟩ = some (.int .u64 0) := hz2.2.2 6 _ rfl
    have r7 : w2.cell? ⟨W0.heap.size, 7, none⟩ = some (.int .i64 0) := hz2.2.2 7 _ rfl
    have r8 : w2.cell? ⟨W0.heap.size, 8, none⟩ = some (.int .i64 0) := hz2.2.2 8 _ rfl
    have r9 : w2.cell? ⟨W0.heap.size, 9, none⟩ = some (.int .i64 0) := hz2.2.2 9 _ rfl
    have r10 : w2.cell? ⟨W0.heap.size, 10, none⟩ = some (.int .i64 0) := hz2.2.2 10 _ rfl
    have fz := hz2.2.1
    unfold set11 at hW9
    clear hd hb2 hB2 hB4 hr2 hn2 hA9 hG9 hz2 hz1 hsd
    refine hK.out _ _ S3.out (fun hSR => ?_)
    clear hK K
    (try simp only [Act.put])
    refine wpAnyH_take (i := 8) (v := ?_) rfl (by kernel_rfl) (by kernel_rfl) (by kernel_rfl) (fun _ _ _ h => h) (Or.inl ⟨by rfl, ?_⟩) hSR ?_
    rotate_left
    · (intro w' hSw; (try dsimp only at hSw); go_simp; (try with_reducible rfl))
    simp only [Act.put]
    refine wpAnyH_done (by kernel_rfl) ?_ _
    show Oper.wp _ _ _ _ _ _
    unfold Oper.wp
    go_simp
    clear hSR S2 S3 KS CG r0 r1 r2 r3 r4 r5 r6 r7 r8 r9 r10 fz
    obtain ⟨Bx, hBx⟩ : ∃ B, W0.heap.size = B := ⟨_, rfl⟩
    rw [hBx] at HA KB hW9
    (try rw [hBx])
    (try rw [hW9])
    clear hW9 hBx
    clear HU0 HZ0 HB0 HSZ
    have T0 : W9.drew.cell? ⟨b, off + 8, none⟩ = some (.int .u8 (y.toNat : Int)) := (HB.out.cell (p := ⟨b, off + 8, none⟩) HY0.out.1).trans HY0.out.2
    have KS := Lib.hid (fun w' (hW : Below W9.heap.size W9 w') => show w'.cell? ⟨b, off + 8, none⟩ = some (.int .u8 (y.toNat : Int)) from ((HB.out.trans (hW.mono HB.out.size)).cell (p := ⟨b, off + 8, none⟩) HY0.out.1).trans HY0.out.2)
    go_wp2_with fail
    refine region_last (S := fun w' => w'.cell? ⟨b, off + 8, none⟩ = some (.int .u8 (y.toNat : Int))) 7 (by kernel_rfl) rfl rfl rfl rfl (by kernel_rfl) (by kernel_rfl) ?_
    intro w3 hw3
    subst hw3
    have hSR := T0
    simp only [List.set_cons_zero, List.set_cons_succ]
    refine wpAnyH_take (i := 0) (v := ?_) rfl (by kernel_rfl) (by kernel_rfl) (by kernel_rfl) (fun _ _ _ h => h) (Or.inl ⟨by rfl, ?_⟩) hSR ?_
    rotate_left
    · (intro w' hSw; (try dsimp only at hSw); go_simp; (try with_reducible rfl))
    simp only [Act.put]
    refine wpAnyH_take (i := 1) (v := ?_) rfl (by kernel_rfl) (by kernel_rfl) (by kernel_rfl) (fun _ _ _ h => h) (Or.inl ⟨by rfl, ?_⟩) hSR ?_
    rotate_left
    · (intro w' hSw; (try dsimp only at hSw); go_simp; (try with_reducible rfl))
    simp only [Act.put]
    refine wpAnyH_take (i := 2) (v := ?_) rfl (by kernel_rfl) (by kernel_rfl) (by kernel_rfl) (fun _ _ _ h => h) (Or.inl ⟨by rfl, ?_⟩) hSR ?_
    rotate_left
    · (intro w' hSw; (try dsimp only at hSw); go_simp; (try with_reducible rfl))
    simp only [Act.put]
    refine wpAnyH_take (i := 3) (v := ?_) rfl (by kernel_rfl) (by kernel_rfl) (by kernel_rfl) (fun _ _ _ h => h) (Or.inl ⟨by rfl, ?_⟩) hSR ?_
    rotate_left
    · (intro w' hSw; (try dsimp only at hSw); go_simp; (try with_reducible rfl))
    simp only [Act.put]
    refine wpAnyH_take (i := 4) (v := ?_) rfl (by kernel_rfl) (by kernel_rfl) (by kernel_rfl) (fun _ _ _ h => h) (Or.inl ⟨by rfl, ?_⟩) hSR ?_
    rotate_left
    · (intro w' hSw; (try dsimp only at hSw); go_simp; (try with_reducible rfl))
    simp only [Act.put]
    refine wpAnyH_take (i := 5) (v := ?_) rfl (by kernel_rfl) (by kernel_rfl) (by kernel_rfl) (fun _ _ _ h => h) (Or.inl ⟨by rfl, ?_⟩) hSR ?_
    rotate_left
    · (intro w' hSw; (try dsimp only at hSw); go_simp; (try with_reducible rfl))
    simp only [Act.put]
    clear T0 hwy q11 hy2
    refine wpAnyH_ready (rs := [6]) (by kernel_rfl) (by simp) (AllReadyH.cons rfl (fun K hK => ?_) AllReadyH.nil)
    go_simp
    have hd : Below W9.heap.size W9 W9.drew := (Below.refl _ _).drew
    refine (CH.out _ (HB.out.trans (hd.mono HB.out.size))).mono ?_
    rintro e w5 ⟨a5, rfl, hr5, hn5, hb5⟩
    have hB5 : Below W9.heap.size W9 w5 := hd.trans hb5
    have hz5 := HA.out.below hB5 HA.out.1
    have hBl := HA.out.1
    obtain ⟨W10, hW10, hA10, hG10⟩ := lay11 (show At w5 Bx #[.int .i64 q0.kind, .slice a2.A1 q0.pairs.length a2.c1, .slice a2.A2 q0.keys.length a2.c2, .slice a2.A3 q0.kids.length a2.c3, .slice a2.A4 q0.pages.length a2.c4, .int .i64 q0.next, .int .u64 (q0.epoch : Int), .int .i64 q0.root, .int .i64 q0.depth, .int .i64 q0.count, .int .i64 q0.high] from hz5) q1 a5
    have hr10 := hr5.apart hG10 hn5 hBl
    have HB10 := Lib.hid ((HB.out.trans (hB5.mono HB.out.size)).grown hG10 (HB.out.trans (hB5.mono HB.out.size)).size (fun j hj => by cases hj; have := KB.out; omega))
    have HZ10 := Lib.hid ((HZ.out.below hB5 HZ.out.1).grownRow hG10 (by simp; have := KB.out; omega))
    have HU10 := Lib.hid (show BytesAt W10 (some ⟨b, off, none⟩) 1024 c u from by
      have h1 := HU.out.below hB5
      have h2 : Below Bx w5 W10 := (Below.refl Bx w5).grown hG10 (Nat.le_of_lt hz5.1) (fun j hj => by cases hj; omega)
      exact ⟨h1.len, h1.cap, h1.max, h1.nil, fun hne => by
        obtain ⟨b', o', e', hlt', hc'⟩ := h1.row hne
        cases e'
        exact ⟨b, off, rfl, Nat.lt_of_lt_of_le hlt' h2.size, fun k hk => (h2.cell (p := ⟨b, off + k, none⟩) (show b < Bx by have := KB.out; have := HY0.out.1; omega)).trans (hc' k hk)⟩⟩)
    have HN10 := Lib.hid (hn5.mono (show Bx + 1 ≤ W9.drew.heap.size from hBl))
    have HR10 := Lib.hid hr10
    have HA10 := Lib.hid hA10
    have S5 := Lib.hid (KS.out _ hB5)
    have r0 : w5.cell? ⟨Bx, 0, none⟩ = some (.int .i64 q0.kind) := hz5.2.2 0 _ rfl
    have r1 : w5.cell? ⟨Bx, 1, none⟩ = some (.slice a2.A1 q0.pairs.length a2.c1) := hz5.2.2 1 _ rfl
    have r2 : w5.cell? ⟨Bx, 2, none⟩ = some (.slice a2.A2 q0.keys.length a2.c2) := hz5.2.2 2 _ rfl
    have r3 : w5.cell? ⟨Bx, 3, none⟩ = some (.slice a2.A3 q0.kids.length a2.c3) := hz5.2.2 3 _ rfl
    have r4 : w5.cell? ⟨Bx, 4, none⟩ = some (.slice a2.A4 q0.pages.length a2.c4) := hz5.2.2 4 _ rfl
    have r5 : w5.cell? ⟨Bx, 5, none⟩ = some (.int .i64 q0.next) := hz5.2.2 5 _ rfl
    have r6 : w5.cell? ⟨Bx, 6, none⟩ = some (.int .u64 (q0.epoch : Int)) := hz5.2.2 6 _ rfl
    have r7 : w5.cell? ⟨Bx, 7, none⟩ = some (.int .i64 q0.root) := hz5.2.2 7 _ rfl
    have r8 : w5.cell? ⟨Bx, 8, none⟩ = some (.int .i64 q0.depth) := hz5.2.2 8 _ rfl
    have r9 : w5.cell? ⟨Bx, 9, none⟩ = some (.int .i64 q0.count) := hz5.2.2 9 _ rfl
    have r10 : w5.cell? ⟨Bx, 10, none⟩ = some (.int .i64 q0.high) := hz5.2.2 10 _ rfl
    have fz := hz5.2.1
    unfold set11 at hW10
    clear hd hb5 hB5 hz5 hBl hr5 hn5 hr10 hA10 hG10 HA HR NW HB HZ HU
    refine hK.out _ _ S5.out (fun hSR => ?_)
    clear hK K
    (try simp only [Act.put])
    refine wpAnyH_take (i := 7) (v := ?_) rfl (by kernel_rfl) (by kernel_rfl) (by kernel_rfl) (fun _ _ _ h => h) (Or.inl ⟨by rfl, ?_⟩) hSR ?_
    rotate_left
    · (intro w' hSw; (try dsimp only at hSw); go_simp; (try with_reducible rfl))
    simp only [Act.put]
    refine wpAnyH_done (by kernel_rfl) ?_ _
    show Oper.wp _ _ _ _ _ _
    unfold Oper.wp
    go_simp
    clear hSR S5 KS CH r0 r1 r2 r3 r4 r5 r6 r7 r8 r9 r10 fz
    (try rw [hW10])
    clear hW10
    have cV := CV.out W10 HB10.out
    go_wp2_with fail
    refine cV.mono ?_
    rintro e w6 ⟨rfl, rfl⟩
    clear cV CV
    have x6 : W10.cell? ⟨Bx, 6, none⟩ = some (.int .u64 (q1.epoch : Int)) := HA10.out.2.2 6 _ rfl
    have f6 := HA10.out.2.1 6
    obtain ⟨p, hp⟩ : ∃ p : Pg, p = { q1 with epoch := v } := ⟨_, rfl⟩
    obtain ⟨W11, hW11⟩ : ∃ W', W10.setCell ⟨Bx, 6, none⟩ (.int .u64 (v : Int)) = W' := ⟨_, rfl⟩
    have g11 := grown_set W10 Bx 6 (.int .u64 (v : Int))
    rw [hW11] at g11
    have HA : Hid (At W11 Bx (pgC p a5)) := Lib.hid (by rw [hp, ← hW11]; exact HA10.out.set 6 (.int .u64 (v : Int)) (by simp))
    have HR : Hid (PgRows W11 p a5) := Lib.hid (by rw [hp]; exact (show PgRows W10 { q1 with epoch := v } a5 from ⟨HR10.out.r1, HR10.out.r2, HR10.out.r3, HR10.out.r4⟩).apart g11 HN10.out (by omega))
    have HB := Lib.hid (HB10.out.grown g11 HB10.out.size (fun j hj => by cases hj; have := KB.out; omega))
    have HZ := Lib.hid (HZ10.out.grownRow g11 (by simp; have := KB.out; omega))
    have HU := Lib.hid (show BytesAt W11 (some ⟨b, off, none⟩) 1024 c u from by
      have h1 := HU10.out
      have h2 : Below Bx W10 W11 := (Below.refl Bx W10).grown g11 (Nat.le_of_lt HA10.out.1) (fun j hj => by cases hj; omega)
      exact ⟨h1.len, h1.cap, h1.max, h1.nil, fun hne => by
        obtain ⟨b', o', e', hlt', hc'⟩ := h1.row hne
        cases e'
        exact ⟨b, off, rfl, Nat.lt_of_lt_of_le hlt' h2.size, fun k hk => (h2.cell (p := ⟨b, off + k, none⟩) (show b < Bx by have := KB.out; have := HY0.out.1; omega)).trans (hc' k hk)⟩⟩)
    have NW := Lib.hid (HN10.out.mono (show w.heap.size + 1 ≤ Bx + 1 by have := KB.out; omega))
    have HQ : Hid (gDec s u = p) := Lib.hid (by rw [HQ0.out, hp])
    have OK : Hid (PgOk p) := Lib.hid (by rw [← HQ.out]; exact OKQ.out)
    have EP : Hid (p.epoch < 18446744073709551616) := Lib.hid (by rw [← HQ.out]; exact EPQ.out)
    clear g11 OKQ EPQ HQ0 HY0 HA10 HR10 HB10 HZ10 HU10 HN10 hp hv
    have c0 : W11.cell? ⟨Bx, 0, none⟩ = some (.int .i64 p.kind) := HA.out.2.2 0 _ rfl
    have c1 : W11.cell? ⟨Bx, 1, none⟩ = some (.slice a5.A1 p.pairs.length a5.c1) := HA.out.2.2 1 _ rfl
    have c2 : W11.cell? ⟨Bx, 2, none⟩ = some (.slice a5.A2 p.keys.length a5.c2) := HA.out.2.2 2 _ rfl
    have c3 : W11.cell? ⟨Bx, 3, none⟩ = some (.slice a5.A3 p.kids.length a5.c3) := HA.out.2.2 3 _ rfl
    have c4 : W11.cell? ⟨Bx, 4, none⟩ = some (.slice a5.A4 p.pages.length a5.c4) := HA.out.2.2 4 _ rfl
    have c5 : W11.cell? ⟨Bx, 5, none⟩ = some (.int .i64 p.next) := HA.out.2.2 5 _ rfl
    have c6 : W11.cell? ⟨Bx, 6, none⟩ = some (.int .u64 (p.epoch : Int)) := HA.out.2.2 6 _ rfl
    have c7 : W11.cell? ⟨Bx, 7, none⟩ = some (.int .i64 p.root) := HA.out.2.2 7 _ rfl
    have c8 : W11.cell? ⟨Bx, 8, none⟩ = some (.int .i64 p.depth) := HA.out.2.2 8 _ rfl
    have c9 : W11.cell? ⟨Bx, 9, none⟩ = some (.int .i64 p.count) := HA.out.2.2 9 _ rfl
    have c10 : W11.cell? ⟨Bx, 10, none⟩ = some (.int .i64 p.high) := HA.out.2.2 10 _ rfl
    have cE := rEncode_any s p a5 W11 H64.out OK.out HR.out
    go_wp2_with fail
    clear x6 f6 hW11
    clear c0 c1 c2 c3 c4 c5 c6 c7 c8 c9 c10
    refine cE.mono ?_
    rintro e w4 (⟨X, m, d, l, rfl, hby, henc, hb⟩ | ⟨rfl, hno, hb⟩)
    · obtain rfl : m = 1024 := by rw [← hby.len]; exact enc_len henc
      have HA4 := Lib.hid (HA.out.below hb HA.out.1)
      have HZ4 := Lib.hid (HZ.out.below hb HZ.out.1)
      have HB4 := Lib.hid (HB.out.trans (hb.mono HB.out.size))
      have HU4 := Lib.hid (HU.out.below hb)
      have HR4 := Lib.hid (HR.out.below hb)
      have v1 := conv_run d hby.len hby.row
      have v2 := conv_run c HU4.out.len HU4.out.row
      have HSB := Lib.hid (strB_beq l u)
      obtain ⟨S1, h1⟩ : ∃ S, strB l = S := ⟨_, rfl⟩
      obtain ⟨S2, h2⟩ : ∃ S, strB u = S := ⟨_, rfl⟩
      rw [h1] at v1
      rw [h2] at v2
      rw [h1, h2] at HSB
      have HE := Lib.hid henc
      clear h1 h2 hby henc hb cE HA HZ HB HU HR
      by_cases hlu : l = u
      · have e8 : (S1.toList == S2.toList) = true := by rw [HSB.out]; simp [hlu]
        have e9 : (S1.toList != S2.toList) = false := by simp [bne, e8]
        have HD : Hid (IsDec s u p) := Lib.hid (by rw [← hlu]; exact dec_of_enc HE.out EP.out)
        clear hlu HSB
        have c0 : w4.cell? ⟨Bx, 0, none⟩ = some (.int .i64 p.kind) := HA4.out.2.2 0 _ rfl
        have c1 : w4.cell? ⟨Bx, 1, none⟩ = some (.slice a5.A1 p.pairs.length a5.c1) := HA4.out.2.2 1 _ rfl
        have c2 : w4.cell? ⟨Bx, 2, none⟩ = some (.slice a5.A2 p.keys.length a5.c2) := HA4.out.2.2 2 _ rfl
        have c3 : w4.cell? ⟨Bx, 3, none⟩ = some (.slice a5.A3 p.kids.length a5.c3) := HA4.out.2.2 3 _ rfl
        have c4 : w4.cell? ⟨Bx, 4, none⟩ = some (.slice a5.A4 p.pages.length a5.c4) := HA4.out.2.2 4 _ rfl
        have c5 : w4.cell? ⟨Bx, 5, none⟩ = some (.int .i64 p.next) := HA4.out.2.2 5 _ rfl
        have c6 : w4.cell? ⟨Bx, 6, none⟩ = some (.int .u64 (p.epoch : Int)) := HA4.out.2.2 6 _ rfl
        have c7 : w4.cell? ⟨Bx, 7, none⟩ = some (.int .i64 p.root) := HA4.out.2.2 7 _ rfl
        have c8 : w4.cell? ⟨Bx, 8, none⟩ = some (.int .i64 p.depth) := HA4.out.2.2 8 _ rfl
        have c9 : w4.cell? ⟨Bx, 9, none⟩ = some (.int .i64 p.count) := HA4.out.2.2 9 _ rfl
        have c10 : w4.cell? ⟨Bx, 10, none⟩ = some (.int .i64 p.high) := HA4.out.2.2 10 _ rfl
        have r0 : w4.cell? ⟨w.heap.size, 0, none⟩ = some (.int .i64 0) := HZ4.out.2.2 0 _ rfl
        have r1 : w4.cell? ⟨w.heap.size, 1, none⟩ = some (.slice none 0 0) := HZ4.out.2.2 1 _ rfl
        have r2 : w4.cell? ⟨w.heap.size, 2, none⟩ = some (.slice none 0 0) := HZ4.out.2.2 2 _ rfl
        have r3 : w4.cell? ⟨w.heap.size, 3, none⟩ = some (.slice none 0 0) := HZ4.out.2.2 3 _ rfl
        have r4 : w4.cell? ⟨w.heap.size, 4, none⟩ = some (.slice none 0 0) := HZ4.out.2.2 4 _ rfl
        have r5 : w4.cell? ⟨w.heap.size, 5, none⟩ = some (.int .i64 0) := HZ4.out.2.2 5 _ rfl
        have r6 : w4.cell? ⟨w.heap.size, 6, none⟩ = some (.int .u64 0) := HZ4.out.2.2 6 _ rfl
        have r7 : w4.cell? ⟨w.heap.size, 7, none⟩ = some (.int .i64 0) := HZ4.out.2.2 7 _ rfl
        have r8 : w4.cell? ⟨w.heap.size, 8, none⟩ = some (.int .i64 0) := HZ4.out.2.2 8 _ rfl
        have r9 : w4.cell? ⟨w.heap.size, 9, none⟩ = some (.int .i64 0) := HZ4.out.2.2 9 _ rfl
        have r10 : w4.cell? ⟨w.heap.size, 10, none⟩ = some (.int .i64 0) := HZ4.out.2.2 10 _ rfl
        have fz := HZ4.out.2.1
        have A9 := Lib.hid (set11_at HZ4.out (.int .i64 p.kind) (.slice a5.A1 p.pairs.length a5.c1) (.slice a5.A2 p.keys.length a5.c2) (.slice a5.A3 p.kids.length a5.c3) (.slice a5.A4 p.pages.length a5.c4) (.int .i64 p.next) (.int .u64 (p.epoch : Int)) (.int .i64 p.root) (.int .i64 p.depth) (.int .i64 p.count) (.int .i64 p.high))
        have g9 := set11_only w4 w.heap.size (.int .i64 p.kind) (.slice a5.A1 p.pairs.length a5.c1) (.slice a5.A2 p.keys.length a5.c2) (.slice a5.A3 p.kids.length a5.c3) (.slice a5.A4 p.pages.length a5.c4) (.int .i64 p.next) (.int .u64 (p.epoch : Int)) (.int .i64 p.root) (.int .i64 p.depth) (.int .i64 p.count) (.int .i64 p.high)
        have B9 : Hid (Below w.heap.size w (set11 w4 w.heap.size (.int .i64 p.kind) (.slice a5.A1 p.pairs.length a5.c1) (.slice a5.A2 p.keys.length a5.c2) (.slice a5.A3 p.kids.length a5.c3) (.slice a5.A4 p.pages.length a5.c4) (.int .i64 p.next) (.int .u64 (p.epoch : Int)) (.int .i64 p.root) (.int .i64 p.depth) (.int .i64 p.count) (.int .i64 p.high))) := Lib.hid (HB4.out.grown g9 HB4.out.size (fun k hk => by cases hk; omega))
        have N9 := Lib.hid (HR4.out.apart g9 NW.out (by omega))
        clear g9
        go_wp2_with fail
        change bodyPost _ _ _ _ _ (set11 w4 w.heap.size (.int .i64 p.kind) (.slice a5.A1 p.pairs.length a5.c1) (.slice a5.A2 p.keys.length a5.c2) (.slice a5.A3 p.kids.length a5.c3) (.slice a5.A4 p.pages.length a5.c4) (.int .i64 p.next) (.int .u64 (p.epoch : Int)) (.int .i64 p.root) (.int .i64 p.depth) (.int .i64 p.count) (.int .i64 p.high))
        generalize set11 w4 w.heap.size (.int .i64 p.kind) (.slice a5.A1 p.pairs.length a5.c1) (.slice a5.A2 p.keys.length a5.c2) (.slice a5.A3 p.kids.length a5.c3) (.slice a5.A4 p.pages.length a5.c4) (.int .i64 p.next) (.int .u64 (p.epoch : Int)) (.int .i64 p.root) (.int .i64 p.depth) (.int .i64 p.count) (.int .i64 p.high) = W99 at *
        clear r0 r1 r2 r3 r4 r5 r6 r7 r8 r9 r10 fz c0 c1 c2 c3 c4 c5 c6 c7 c8 c9 c10
        have c0 := A9.out.2.2 0 _ rfl
        have c1 := A9.out.2.2 1 _ rfl
        have c2 := A9.out.2.2 2 _ rfl
        have c3 := A9.out.2.2 3 _ rfl
        have c4 := A9.out.2.2 4 _ rfl
        have c5 := A9.out.2.2 5 _ rfl
        have c6 := A9.out.2.2 6 _ rfl
        have c7 := A9.out.2.2 7 _ rfl
        have c8 := A9.out.2.2 8 _ rfl
        have c9 := A9.out.2.2 9 _ rfl
        have c10 := A9.out.2.2 10 _ rfl
        refine bodyPost_ret (v := .tuple #[pgV p a5, numV 0]) (by simp [results, Try.results17, go_sem, *]) rfl ?_
        exact ⟨B9.out, .inl ⟨p, a5, rfl, N9.out, OK.out, HD.out⟩⟩
      · have e8 : (S1.toList == S2.toList) = false := by rw [HSB.out]; simp [hlu]
        have e9 : (S1.toList != S2.toList) = true := by simp [bne, e8]
        have HD : Hid (∀ q, ¬ IsDec s u q) := Lib.hid (fun q hq => by have e := isDec_back hq; rw [HQ.out] at e; subst e; exact hlu (enc_fun HE.out hq.2))
        clear hlu HSB
        have r0 : w4.cell? ⟨w.heap.size, 0, none⟩ = some (.int .i64 0) := HZ4.out.2.2 0 _ rfl
        have r1 : w4.cell? ⟨w.heap.size, 1, none⟩ = some (.slice none 0 0) := HZ4.out.2.2 1 _ rfl
        have r2 : w4.cell? ⟨w.heap.size, 2, none⟩ = some (.slice none 0 0) := HZ4.out.2.2 2 _ rfl
        have r3 : w4.cell? ⟨w.heap.size, 3, none⟩ = some (.slice none 0 0) := HZ4.out.2.2 3 _ rfl
        have r4 : w4.cell? ⟨w.heap.size, 4, none⟩ = some (.slice none 0 0) := HZ4.out.2.2 4 _ rfl
        have r5 : w4.cell? ⟨w.heap.size, 5, none⟩ = some (.int .i64 0) := HZ4.out.2.2 5 _ rfl
        have r6 : w4.cell? ⟨w.heap.size, 6, none⟩ = some (.int .u64 0) := HZ4.out.2.2 6 _ rfl
        have r7 : w4.cell? ⟨w.heap.size, 7, none⟩ = some (.int .i64 0) := HZ4.out.2.2 7 _ rfl
        have r8 : w4.cell? ⟨w.heap.size, 8, none⟩ = some (.int .i64 0) := HZ4.out.2.2 8 _ rfl
        have r9 : w4.cell? ⟨w.heap.size, 9, none⟩ = some (.int .i64 0) := HZ4.out.2.2 9 _ rfl
        have r10 : w4.cell? ⟨w.heap.size, 10, none⟩ = some (.int .i64 0) := HZ4.out.2.2 10 _ rfl
        have fz := HZ4.out.2.1
        have A9 := Lib.hid (set11_at HZ4.out (.int .i64 0) (.slice none 0 0) (.slice none 0 0) (.slice none 0 0) (.slice none 0 0) (.int .i64 0) (.int .u64 0) (.int .i64 0) (.int .i64 0) (.int .i64 0) (.int .i64 0))
        have g9 := set11_only w4 w.heap.size (.int .i64 0) (.slice none 0 0) (.slice none 0 0) (.slice none 0 0) (.slice none 0 0) (.int .i64 0) (.int .u64 0) (.int .i64 0) (.int .i64 0) (.int .i64 0) (.int .i64 0)
        have B9 : Hid (Below w.heap.size w (set11 w4 w.heap.size (.int .i64 0) (.slice none 0 0) (.slice none 0 0) (.slice none 0 0) (.slice none 0 0) (.int .i64 0) (.int .u64 0) (.int .i64 0) (.int .i64 0) (.int .i64 0) (.int .i64 0))) := Lib.hid (HB4.out.grown g9 HB4.out.size (fun k hk => by cases hk; omega))
        clear g9
        go_wp2_with fail
        change bodyPost _ _ _ _ _ (set11 w4 w.heap.size (.int .i64 0) (.slice none 0 0) (.slice none 0 0) (.slice none 0 0) (.slice none 0 0) (.int .i64 0) (.int .u64 0) (.int .i64 0) (.int .i64 0) (.int .i64 0) (.int .i64 0))
        generalize set11 w4 w.heap.size (.int .i64 0) (.slice none 0 0) (.slice none 0 0) (.slice none 0 0) (.slice none 0 0) (.int .i64 0) (.int .u64 0) (.int .i64 0) (.int .i64 0) (.int .i64 0) (.int .i64 0) = W99 at *
        clear r0 r1 r2 r3 r4 r5 r6 r7 r8 r9 r10 fz 
        have c0 := A9.out.2.2 0 _ rfl
        have c1 := A9.out.2.2 1 _ rfl
        have c2 := A9.out.2.2 2 _ rfl
        have c3 := A9.out.2.2 3 _ rfl
        have c4 := A9.out.2.2 4 _ rfl
        have c5 := A9.out.2.2 5 _ rfl
        have c6 := A9.out.2.2 6 _ rfl
        have c7 := A9.out.2.2 7 _ rfl
        have c8 := A9.out.2.2 8 _ rfl
        have c9 := A9.out.2.2 9 _ rfl
        have c10 := A9.out.2.2 10 _ rfl
        refine bodyPost_ret (v := .tuple #[pgV { kind := 0 } {}, numV 50]) (by simp [results, Try.results17, go_sem, *]) rfl ?_
        exact ⟨B9.out, .inr ⟨rfl, HD.out⟩⟩
    · have HA4 := Lib.hid (HA.out.below hb HA.out.1)
      have HZ4 := Lib.hid (HZ.out.below hb HZ.out.1)
      have HB4 := Lib.hid (HB.out.trans (hb.mono HB.out.size))
      have HU4 := Lib.hid (HU.out.below hb)
      have HR4 := Lib.hid (HR.out.below hb)
      have HD : Hid (∀ q, ¬ IsDec s u q) := Lib.hid (fun q hq => by have e := isDec_back hq; rw [HQ.out] at e; subst e; exact hno _ hq.2)
      clear hno hb cE HA HZ HB HU HR
      have r0 : w4.cell? ⟨w.heap.size, 0, none⟩ = some (.int .i64 0) := HZ4.out.2.2 0 _ rfl
      have r1 : w4.cell? ⟨w.heap.size, 1, none⟩ = some (.slice none 0 0) := HZ4.out.2.2 1 _ rfl
      have r2 : w4.cell? ⟨w.heap.size, 2, none⟩ = some (.slice none 0 0) := HZ4.out.2.2 2 _ rfl
      have r3 : w4.cell? ⟨w.heap.size, 3, none⟩ = some (.slice none 0 0) := HZ4.out.2.2 3 _ rfl
      have r4 : w4.cell? ⟨w.heap.size, 4, none⟩ = some (.slice none 0 0) := HZ4.out.2.2 4 _ rfl
      have r5 : w4.cell? ⟨w.heap.size, 5, none⟩ = some (.int .i64 0) := HZ4.out.2.2 5 _ rfl
      have r6 : w4.cell? ⟨w.heap.size, 6, none⟩ = some (.int .u64 0) := HZ4.out.2.2 6 _ rfl
      have r7 : w4.cell? ⟨w.heap.size, 7, none⟩ = some (.int .i64 0) := HZ4.out.2.2 7 _ rfl
      have r8 : w4.cell? ⟨w.heap.size, 8, none⟩ = some (.int .i64 0) := HZ4.out.2.2 8 _ rfl
      have r9 : w4.cell? ⟨w.heap.size, 9, none⟩ = some (.int .i64 0) := HZ4.out.2.2 9 _ rfl
      have r10 : w4.cell? ⟨w.heap.size, 10, none⟩ = some (.int .i64 0) := HZ4.out.2.2 10 _ rfl
      have fz := HZ4.out.2.1
      have A9 := Lib.hid (set11_at HZ4.out (.int .i64 0) (.slice none 0 0) (.slice none 0 0) (.slice none 0 0) (.slice none 0 0) (.int .i64 0) (.int .u64 0) (.int .i64 0) (.int .i64 0) (.int .i64 0) (.int .i64 0))
      have g9 := set11_only w4 w.heap.size (.int .i64 0) (.slice none 0 0) (.slice none 0 0) (.slice none 0 0) (.slice none 0 0) (.int .i64 0) (.int .u64 0) (.int .i64 0) (.int .i64 0) (.int .i64 0) (.int .i64 0)
      have B9 : Hid (Below w.heap.size w (set11 w4 w.heap.size (.int .i64 0) (.slice none 0 0) (.slice none 0 0) (.slice none 0 0) (.slice none 0 0) (.int .i64 0) (.int .u64 0) (.int .i64 0) (.int .i64 0) (.int .i64 0) (.int .i64 0))) := Lib.hid (HB4.out.grown g9 HB4.out.size (fun k hk => by cases hk; omega))
      clear g9
      go_wp2_with fail
      change bodyPost _ _ _ _ _ (set11 w4 w.heap.size (.int .i64 0) (.slice none 0 0) (.slice none 0 0) (.slice none 0 0) (.slice none 0 0) (.int .i64 0) (.int .u64 0) (.int .i64 0) (.int .i64 0) (.int .i64 0) (.int .i64 0))
      generalize set11 w4 w.heap.size (.int .i64 0) (.slice none 0 0) (.slice none 0 0) (.slice none 0 0) (.slice none 0 0) (.int .i64 0) (.int .u64 0) (.int .i64 0) (.int .i64 0) (.int .i64 0) (.int .i64 0) = W99 at *
      clear r0 r1 r2 r3 r4 r5 r6 r7 r8 r9 r10 fz 
      have c0 := A9.out.2.2 0 _ rfl
      have c1 := A9.out.2.2 1 _ rfl
      have c2 := A9.out.2.2 2 _ rfl
      have c3 := A9.out.2.2 3 _ rfl
      have c4 := A9.out.2.2 4 _ rfl
      have c5 := A9.out.2.2 5 _ rfl
      have c6 := A9.out.2.2 6 _ rfl
      have c7 := A9.out.2.2 7 _ rfl
      have c8 := A9.out.2.2 8 _ rfl
      have c9 := A9.out.2.2 9 _ rfl
      have c10 := A9.out.2.2 10 _ rfl
      refine bodyPost_ret (v := .tuple #[pgV { kind := 0 } {}, numV 50]) (by simp [results, Try.results17, go_sem, *]) rfl ?_
      exact ⟨B9.out, .inr ⟨rfl, HD.out⟩⟩
theorem rDecode_any (s : Int) (A : Option Addr) (n c : Nat) (u : Bs) (w : World) (h : BytesAt w A n c u) (hs64 : -9223372036854775808 ≤ s ∧ s ≤ 9223372036854775807) : Calls Try.prog 17 #[.int .i64 s, .slice A n c] w (DecPost s u w) := by
  by_cases hn : n = 1024
  · subst hn
    by_cases h0 : s = 0
    · exact rDecode_zero s A c u w h hs64 (by simp [h0])
    by_cases h1 : s = 1
    · exact rDecode_one s A c u w h hs64 (by simp [h0]) (by simp [h1])
    · exact rDecode_plain s A c u w h hs64 (by simp [h0]) (by simp [h1])
  · exact rDecode_short s A n c u w h hs64 hn
end Go.Proofs.Ytiebaeahimeedaa.Page
namespace Go.Proofs.Ytiebaeahimeedaa.Page
open Go.RowKit Gen

theorem zero_ok : PgOk { kind := 0 } := by
  have z : I64 0 := by unfold I64; omega
  exact ⟨z, Nat.zero_le _, Nat.zero_le _, Nat.zero_le _, Nat.zero_le _, z, (by show (0 : Nat) < 18446744073709551616; omega), z, z, z, z⟩
set_option maxRecDepth 100000 in
set_option maxHeartbeats 4000000 in
theorem decodes_walk (s : Int) (A : Option Addr) (n c : Nat) (u : Bs) (w : World) (hs64 : -9223372036854775808 ≤ s ∧ s ≤ 9223372036854775807) (hu : BytesAt w A n c u) : Calls Try.prog 5 #[.int .i64 s, .slice A n c] w fun e w' => e = .returned (.bool true) ∧ Below w.heap.size w w' := by
  have H64 := Lib.hid hs64
  have HU := Lib.hid hu
  clear hs64 hu
  go_enter Try.func5, Try.ntmps5
  go_wp2_with fail
  refine (awake_any w).mono ?_
  rintro e w1 ⟨rfl, bb⟩
  have B1 := Lib.hid bb
  have U1 := Lib.hid (HU.out.below bb)
  clear bb HU
  by_cases hn : n ≤ 2000
  rotate_left
  · have dn : decide (2000 < (n : Int)) = true := by simp; omega
    clear hn
    go_wp2_with fail
    go_ret
    exact ⟨rfl, B1.out⟩
  have dn : decide (2000 < (n : Int)) = false := by simp; omega
  have cD := decode_any s A n c u w1 U1.out
  clear hn
  go_wp2_with fail
  clear dn
  refine cD.mono ?_
  rintro e w2 ⟨hb, (⟨p, a, rfl, hr, hok, hd⟩ | ⟨rfl, hno⟩)⟩
  · have hb2 : Below w2.heap.size w2 (w2.alloc (.cells (pgC p a) 28)) := (Below.refl _ _).alloc (Nat.le_refl _) _
    have hx := pg_box w2 p a
    obtain ⟨W2, hW2⟩ : ∃ W2, w2.alloc (.cells #[.int .i64 p.kind, .slice a.A1 p.pairs.length a.c1, .slice a.A2 p.keys.length a.c2, .slice a.A3 p.kids.length a.c3, .slice a.A4 p.pages.length a.c4, .int .i64 p.next, .int .u64 (p.epoch : Int), .int .i64 p.root, .int .i64 p.depth, .int .i64 p.count, .int .i64 p.high] 28) = W2 := ⟨_, rfl⟩
    have hW2' : w2.alloc (.cells (pgC p a) 28) = W2 := hW2
    rw [hW2'] at hb2 hx
    clear hW2'
    have B2 := Lib.hid (B1.out.trans ((hb.trans (hb2.mono hb.size)).mono B1.out.size))
    have U2 := Lib.hid (U1.out.below (hb.trans (hb2.mono hb.size)))
    have HX := Lib.hid hx
    have HR := Lib.hid (hr.below hb2)
    have OK := Lib.hid hok
    have HD := Lib.hid hd
    have cR := rDecode_any s A n c u W2 U2.out H64.out
    clear hb hb2 hx cD B1 U1 hr hok hd
    go_wp2_with fail
    clear hW2
    refine cR.mono ?_
    rintro e w3 ⟨hb, (⟨q, b, rfl, hr, hok, hd⟩ | ⟨rfl, hno⟩)⟩
    · obtain rfl : p = q := Option.some.inj (HD.out.1.symm.trans hd.1)
      have hb3 : Below w3.heap.size w3 (w3.alloc (.cells (pgC p b) 28)) := (Below.refl _ _).alloc (Nat.le_refl _) _
      have hy := pg_box w3 p b
      obtain ⟨W3, hW3⟩ : ∃ W3, w3.alloc (.cells #[.int .i64 p.kind, .slice b.A1 p.pairs.length b.c1, .slice b.A2 p.keys.length b.c2, .slice b.A3 p.kids.length b.c3, .slice b.A4 p.pages.length b.c4, .int .i64 p.next, .int .u64 (p.epoch : Int), .int .i64 p.root, .int .i64 p.depth, .int .i64 p.count, .int .i64 p.high] 28) = W3 := ⟨_, rfl⟩
      have hW3' : w3.alloc (.cells (pgC p b) 28) = W3 := hW3
      rw [hW3'] at hb3 hy
      clear hW3'
      have hb4 := hb.trans (hb3.mono hb.size)
      have B3 := Lib.hid (B2.out.trans (hb4.mono B2.out.size))
      have hx := HX.out.below hb4 HX.out.1
      have x0 : W3.cell? ⟨w2.heap.size, 0, none⟩ = some (.int .i64 p.kind) := hx.2.2 0 _ rfl
      have x1 : W3.cell? ⟨w2.heap.size, 1, none⟩ = some (.slice a.A1 p.pairs.length a.c1) := hx.2.2 1 _ rfl
      have x2 : W3.cell? ⟨w2.heap.size, 2, none⟩ = some (.slice a.A2 p.keys.length a.c2) := hx.2.2 2 _ rfl
      have x3 : W3.cell? ⟨w2.heap.size, 3, none⟩ = some (.slice a.A3 p.kids.length a.c3) := hx.2.2 3 _ rfl
      have x4 : W3.cell? ⟨w2.heap.size, 4, none⟩ = some (.slice a.A4 p.pages.length a.c4) := hx.2.2 4 _ rfl
      have x5 : W3.cell? ⟨w2.heap.size, 5, none⟩ = some (.int .i64 p.next) := hx.2.2 5 _ rfl
      have x6 : W3.cell? ⟨w2.heap.size, 6, none⟩ = some (.int .u64 (p.epoch : Int)) := hx.2.2 6 _ rfl
      have x7 : W3.cell? ⟨w2.heap.size, 7, none⟩ = some (.int .i64 p.root) := hx.2.2 7 _ rfl
      have x8 : W3.cell? ⟨w2.heap.size, 8, none⟩ = some (.int .i64 p.depth) := hx.2.2 8 _ rfl
      have x9 : W3.cell? ⟨w2.heap.size, 9, none⟩ = some (.int .i64 p.count) := hx.2.2 9 _ rfl
      have x10 : W3.cell? ⟨w2.heap.size, 10, none⟩ = some (.int .i64 p.high) := hx.2.2 10 _ rfl
      have y0 : W3.cell? ⟨w3.heap.size, 0, none⟩ = some (.int .i64 p.kind) := hy.2.2 0 _ rfl
      have y1 : W3.cell? ⟨w3.heap.size, 1, none⟩ = some (.slice b.A1 p.pairs.length b.c1) := hy.2.2 1 _ rfl
      have y2 : W3.cell? ⟨w3.heap.size, 2, none⟩ = some (.slice b.A2 p.keys.length b.c2) := hy.2.2 2 _ rfl
      have y3 : W3.cell? ⟨w3.heap.size, 3, none⟩ = some (.slice b.A3 p.kids.length b.c3) := hy.2.2 3 _ rfl
      have y4 : W3.cell? ⟨w3.heap.size, 4, none⟩ = some (.slice b.A4 p.pages.length b.c4) := hy.2.2 4 _ rfl
      have y5 : W3.cell? ⟨w3.heap.size, 5, none⟩ = some (.int .i64 p.next) := hy.2.2 5 _ rfl
      have y6 : W3.cell? ⟨w3.heap.size, 6, none⟩ = some (.int .u64 (p.epoch : Int)) := hy.2.2 6 _ rfl
      have y7 : W3.cell? ⟨w3.heap.size, 7, none⟩ = some (.int .i64 p.root) := hy.2.2 7 _ rfl
      have y8 : W3.cell? ⟨w3.heap.size, 8, none⟩ = some (.int .i64 p.depth) := hy.2.2 8 _ rfl
      have y9 : W3.cell? ⟨w3.heap.size, 9, none⟩ = some (.int .i64 p.count) := hy.2.2 9 _ rfl
      have y10 : W3.cell? ⟨w3.heap.size, 10, none⟩ = some (.int .i64 p.high) := hy.2.2 10 _ rfl
      have cS := same_any p p a b W3 OK.out (HR.out.below hb4) (hr.below hb3)
      clear hb hb3 hb4 hx hy cR B2 U2 HX HR OK HD hr hok hd
      go_wp2_with fail
      clear hW3 x0 y0 x1 y1 x2 y2 x3 y3 x4 y4 x5 y5 x6 y6 x7 y7 x8 y8 x9 y9 x10 y10
      refine cS.mono ?_
      rintro e w4 ⟨r, rfl, hr, hb⟩
      obtain rfl : r = true := (by first | exact hr.2 rfl | exact hr.2 trivial)
      have B4 := Lib.hid (B3.out.trans (hb.mono B3.out.size))
      clear hb hr cS
      go_wp2_with fail
      go_ret
      exact ⟨rfl, B4.out⟩
    · exact absurd HD.out (hno _)
  · have hb2 : Below w2.heap.size w2 (w2.alloc (.cells #[.int .i64 0, .slice none 0 0, .slice none 0 0, .slice none 0 0, .slice none 0 0, .int .i64 0, .int .u64 0, .int .i64 0, .int .i64 0, .int .i64 0, .int .i64 0] 28)) := (Below.refl _ _).alloc (Nat.le_refl _) _
    have hx : At (w2.alloc (.cells #[.int .i64 0, .slice none 0 0, .slice none 0 0, .slice none 0 0, .slice none 0 0, .int .i64 0, .int .u64 0, .int .i64 0, .int .i64 0, .int .i64 0, .int .i64 0] 28)) w2.heap.size #[.int .i64 0, .slice none 0 0, .slice none 0 0, .slice none 0 0, .slice none 0 0, .int .i64 0, .int .u64 0, .int .i64 0, .int .i64 0, .int .i64 0, .int .i64 0] := pg_box w2 { kind := 0 } {}
    have B2 := Lib.hid (B1.out.trans ((hb.trans (hb2.mono hb.size)).mono B1.out.size))
    have U2 := Lib.hid (U1.out.below (hb.trans (hb2.mono hb.size)))
    have HX := Lib.hid hx
    have HNO := Lib.hid hno
    have cR := rDecode_any s A n c u (w2.alloc (.cells #[.int .i64 0, .slice none 0 0, .slice none 0 0, .slice none 0 0, .slice none 0 0, .int .i64 0, .int .u64 0, .int .i64 0, .int .i64 0, .int .i64 0, .int .i64 0] 28)) U2.out H64.out
    clear hb hb2 hx cD B1 U1 hno
    go_wp2_with fail
    refine cR.mono ?_
    rintro e w3 ⟨hb, (⟨q, b, rfl, hr, hok, hd⟩ | ⟨rfl, hno⟩)⟩
    · exact absurd hd (HNO.out _)
    · have hb3 : Below w3.heap.size w3 (w3.alloc (.cells #[.int .i64 0, .slice none 0 0, .slice none 0 0, .slice none 0 0, .slice none 0 0, .int .i64 0, .int .u64 0, .int .i64 0, .int .i64 0, .int .i64 0, .int .i64 0] 28)) := (Below.refl _ _).alloc (Nat.le_refl _) _
      have hy : At (w3.alloc (.cells #[.int .i64 0, .slice none 0 0, .slice none 0 0, .slice none 0 0, .slice none 0 0, .int .i64 0, .int .u64 0, .int .i64 0, .int .i64 0, .int .i64 0, .int .i64 0] 28)) w3.heap.size #[.int .i64 0, .slice none 0 0, .slice none 0 0, .slice none 0 0, .slice none 0 0, .int .i64 0, .int .u64 0, .int .i64 0, .int .i64 0, .int .i64 0, .int .i64 0] := pg_box w3 { kind := 0 } {}
      have hb4 := hb.trans (hb3.mono hb.size)
      have B3 := Lib.hid (B2.out.trans (hb4.mono B2.out.size))
      have hx := HX.out.below hb4 HX.out.1
      have x0 : (w3.alloc (.cells #[.int .i64 0, .slice none 0 0, .slice none 0 0, .slice none 0 0, .slice none 0 0, .int .i64 0, .int .u64 0, .int .i64 0, .int .i64 0, .int .i64 0, .int .i64 0] 28)).cell? ⟨w2.heap.size, 0, none⟩ = some (.int .i64 0) := hx.2.2 0 _ rfl
      have x1 : (w3.alloc (.cells #[.int .i64 0, .slice none 0 0, .slice none 0 0, .slice none 0 0, .slice none 0 0, .int .i64 0, .int .u64 0, .int .i64 0, .int .i64 0, .int .i64 0, .int .i64 0] 28)).cell? ⟨w2.heap.size, 1, none⟩ = some (.slice none 0 0) := hx.2.2 1 _ rfl
      have x2 : (w3.alloc (.cells #[.int .i64 0, .slice none 0 0, .slice none 0 0, .slice none 0 0, .slice none 0 0, .int .i64 0, .int .u64 0, .int .i64 0, .int .i64 0, .int .i64 0, .int .i64 0] 28)).cell? ⟨w2.heap.size, 2, none⟩ = some (.slice none 0 0) := hx.2.2 2 _ rfl
      have x3 : (w3.alloc (.cells #[.int .i64 0, .slice none 0 0, .slice none 0 0, .slice none 0 0, .slice none 0 0, .int .i64 0, .int .u64 0, .int .i64 0, .int .i64 0, .int .i64 0, .int .i64 0] 28)).cell? ⟨w2.heap.size, 3, none⟩ = some (.slice none 0 0) := hx.2.2 3 _ rfl
      have x4 : (w3.alloc (.cells #[.int .i64 0, .slice none 0 0, .slice none 0 0, .slice none 0 0, .slice none 0 0, .int .i64 0, .int .u64 0, .int .i64 0, .int .i64 0, .int .i64 0, .int .i64 0] 28)).cell? ⟨w2.heap.size, 4, none⟩ = some (.slice none 0 0) := hx.2.2 4 _ rfl
      have x5 : (w3.alloc (.cells #[.int .i64 0, .slice none 0 0, .slice none 0 0, .slice none 0 0, .slice none 0 0, .int .i64 0, .int .u64 0, .int .i64 0, .int .i64 0, .int .i64 0, .int .i64 0] 28)).cell? ⟨w2.heap.size, 5, none⟩ = some (.int .i64 0) := hx.2.2 5 _ rfl
      have x6 : (w3.alloc (.cells #[.int .i64 0, .slice none 0 0, .slice none 0 0, .slice none 0 0, .slice none 0 0, .int .i64 0, .int .u64 0, .int .i64 0, .int .i64 0, .int .i64 0, .int .i64 0] 28)).cell? ⟨w2.heap.size, 6, none⟩ = some (.int .u64 0) := hx.2.2 6 _ rfl
      have x7 : (w3.alloc (.cells #[.int .i64 0, .slice none 0 0, .slice none 0 0, .slice none 0 0, .slice none 0 0, .int .i64 0, .int .u64 0, .int .i64 0, .int .i64 0, .int .i64 0, .int .i64 0] 28)).cell? ⟨w2.heap.size, 7, none⟩ = some (.int .i64 0) := hx.2.2 7 _ rfl
      have x8 : (w3.alloc (.cells #[.int .i64 0, .slice none 0 0, .slice none 0 0, .slice none 0 0, .slice none 0 0, .int .i64 0, .int .u64 0, .int .i64 0, .int .i64 0, .int .i64 0, .int .i64 0] 28)).cell? ⟨w2.heap.size, 8, none⟩ = some (.int .i64 0) := hx.2.2 8 _ rfl
      have x9 : (w3.alloc (.cells #[.int .i64 0, .slice none 0 0, .slice none 0 0, .slice none 0 0, .slice none 0 0, .int .i64 0, .int .u64 0, .int .i64 0, .int .i64 0, .int .i64 0, .int .i64 0] 28)).cell? ⟨w2.heap.size, 9, none⟩ = some (.int .i64 0) := hx.2.2 9 _ rfl
      have x10 : (w3.alloc (.cells #[.int .i64 0, .slice none 0 0, .slice none 0 0, .slice none 0 0, .slice none 0 0, .int .i64 0, .int .u64 0, .int .i64 0, .int .i64 0, .int .i64 0, .int .i64 0] 28)).cell? ⟨w2.heap.size, 10, none⟩ = some (.int .i64 0) := hx.2.2 10 _ rfl
      have y0 : (w3.alloc (.cells #[.int .i64 0, .slice none 0 0, .slice none 0 0, .slice none 0 0, .slice none 0 0, .int .i64 0, .int .u64 0, .int .i64 0, .int .i64 0, .int .i64 0, .int .i64 0] 28)).cell? ⟨w3.heap.size, 0, none⟩ = some (.int .i64 0) := hy.2.2 0 _ rfl
      have y1 : (w3.alloc (.cells #[.int .i64 0, .slice none 0 0, .slice none 0 0, .slice none 0 0, .slice none 0 0, .int .i64 0, .int .u64 0, .int .i64 0, .int .i64 0, .int .i64 0, .int .i64 0] 28)).cell? ⟨w3.heap.size, 1, none⟩ = some (.slice none 0 0) := hy.2.2 1 _ rfl
      have y2 : (w3.alloc (.cells #[.int .i64 0, .slice none 0 0, .slice none 0 0, .slice none 0 0, .slice none 0 0, .int .i64 0, .int .u64 0, .int .i64 0, .int .i64 0, .int .i64 0, .int .i64 0] 28)).cell? ⟨w3.heap.size, 2, none⟩ = some (.slice none 0 0) := hy.2.2 2 _ rfl
      have y3 : (w3.alloc (.cells #[.int .i64 0, .slice none 0 0, .slice none 0 0, .slice none 0 0, .slice none 0 0, .int .i64 0, .int .u64 0, .int .i64 0, .int .i64 0, .int .i64 0, .int .i64 0] 28)).cell? ⟨w3.heap.size, 3, none⟩ = some (.slice none 0 0) := hy.2.2 3 _ rfl
      have y4 : (w3.alloc (.cells #[.int .i64 0, .slice none 0 0, .slice none 0 0, .slice none 0 0, .slice none 0 0, .int .i64 0, .int .u64 0, .int .i64 0, .int .i64 0, .int .i64 0, .int .i64 0] 28)).cell? ⟨w3.heap.size, 4, none⟩ = some (.slice none 0 0) := hy.2.2 4 _ rfl
      have y5 : (w3.alloc (.cells #[.int .i64 0, .slice none 0 0, .slice none 0 0, .slice none 0 0, .slice none 0 0, .int .i64 0, .int .u64 0, .int .i64 0, .int .i64 0, .int .i64 0, .int .i64 0] 28)).cell? ⟨w3.heap.size, 5, none⟩ = some (.int .i64 0) := hy.2.2 5 _ rfl
      have y6 : (w3.alloc (.cells #[.int .i64 0, .slice none 0 0, .slice none 0 0, .slice none 0 0, .slice none 0 0, .int .i64 0, .int .u64 0, .int .i64 0, .int .i64 0, .int .i64 0, .int .i64 0] 28)).cell? ⟨w3.heap.size, 6, none⟩ = some (.int .u64 0) := hy.2.2 6 _ rfl
      have y7 : (w3.alloc (.cells #[.int .i64 0, .slice none 0 0, .slice none 0 0, .slice none 0 0, .slice none 0 0, .int .i64 0, .int .u64 0, .int .i64 0, .int .i64 0, .int .i64 0, .int .i64 0] 28)).cell? ⟨w3.heap.size, 7, none⟩ = some (.int .i64 0) := hy.2.2 7 _ rfl
      have y8 : (w3.alloc (.cells #[.int .i64 0, .slice none 0 0, .slice none 0 0, .slice none 0 0, .slice none 0 0, .int .i64 0, .int .u64 0, .int .i64 0, .int .i64 0, .int .i64 0, .int .i64 0] 28)).cell? ⟨w3.heap.size, 8, none⟩ = some (.int .i64 0) := hy.2.2 8 _ rfl
      have y9 : (w3.alloc (.cells #[.int .i64 0, .slice none 0 0, .slice none 0 0, .slice none 0 0, .slice none 0 0, .int .i64 0, .int .u64 0, .int .i64 0, .int .i64 0, .int .i64 0, .int .i64 0] 28)).cell? ⟨w3.heap.size, 9, none⟩ = some (.int .i64 0) := hy.2.2 9 _ rfl
      have y10 : (w3.alloc (.cells #[.int .i64 0, .slice none 0 0, .slice none 0 0, .slice none 0 0, .slice none 0 0, .int .i64 0, .int .u64 0, .int .i64 0, .int .i64 0, .int .i64 0, .int .i64 0] 28)).cell? ⟨w3.heap.size, 10, none⟩ = some (.int .i64 0) := hy.2.2 10 _ rfl
      have cS := same_any { kind := 0 } { kind := 0 } {} {} (w3.alloc (.cells #[.int .i64 0, .slice none 0 0, .slice none 0 0, .slice none 0 0, .slice none 0 0, .int .i64 0, .int .u64 0, .int .i64 0, .int .i64 0, .int .i64 0, .int .i64 0] 28)) zero_ok (rows_none _ _ _ rfl rfl rfl rfl) (rows_none _ _ _ rfl rfl rfl rfl)
      clear hb hb3 hb4 hx hy cR B2 U2 HX HNO hno
      go_wp2_with fail
      clear x0 y0 x1 y1 x2 y2 x3 y3 x4 y4 x5 y5 x6 y6 x7 y7 x8 y8 x9 y9 x10 y10
      refine cS.mono ?_
      rintro e w4 ⟨r, rfl, hr, hb⟩
      obtain rfl : r = true := (by first | exact hr.2 rfl | exact hr.2 trivial)
      have B4 := Lib.hid (B3.out.trans (hb.mono B3.out.size))
      clear hb hr cS
      go_wp2_with fail
      go_ret
      exact ⟨rfl, B4.out⟩
end Go.Proofs.Ytiebaeahimeedaa.Page
