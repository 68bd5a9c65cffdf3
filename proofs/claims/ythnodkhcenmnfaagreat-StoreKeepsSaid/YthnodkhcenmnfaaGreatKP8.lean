/-
  Texts of one family, one behind the other: PDecode2, PSame1, PSame, PParse, PAwF, PDec.
-/
import Derived.Test.YthnodkhcenmnfaaGreatKP7
import Derived.Laws.StructEq
namespace Go.Proofs.YthnodkhcenmnfaaGreat.Page
open Go.RowKit Gen

set_option maxRecDepth 100000 in
set_option maxHeartbeats 8000000 in
theorem decode_none (s : Int) (A : Option Addr) (n c : Nat) (u : Bs) (w : World) (h : BytesAt w A n c u) (hr : rRead s u = none) : Calls Tryz.prog 89 #[.int .i64 s, .slice A n c] w (DecPost s u w) := by
  have b0 : Below w.heap.size w (w.alloc (.cells (pC 0) 37)) := (Below.refl _ _).alloc (Nat.le_refl _) _
  have cR := read_any s A n c u _ (h.below b0)
  rw [hr] at cR
  have AR := Lib.hid (show At (w.alloc (.cells (pC 0) 37)) w.heap.size (pC 0) from At.of_block (heap_alloc_last w _))
  have SZ := Lib.hid (show w.heap.size < (w.alloc (.cells (pC 0) 37)).heap.size by simp)
  have B0 := Lib.hid b0
  have HN := Lib.hid hr
  clear h b0 hr
  unfold pC pgC at *
  go_enter Tryz.func89, Tryz.ntmps89
  go_wp2_with fail
  refine cR.mono ?_
  rintro e w1 ⟨hb, rfl⟩
  have AZ := Lib.hid ((AR.out.below hb SZ.out).below ((Below.refl w1.heap.size w1).alloc (Nat.le_refl _) (.cells (pC 0) 37)) (Nat.lt_of_lt_of_le SZ.out hb.size))
  have BL := Lib.hid ((B0.out.trans (hb.mono B0.out.size)).alloc (Nat.le_trans B0.out.size hb.size) (.cells (pC 0) 37))
  clear hb cR AR SZ B0
  unfold pC pgC at AZ BL

  have AZ : Hid (At (w1.alloc (.cells #[.int .i64 0, .slice none 0 0, .slice none 0 0, .slice none 0 0, .slice none 0 0, .int .i64 0, .int .u64 0, .int .i64 0, .int .i64 0, .int .i64 0, .int .i64 0] 37)) w.heap.size (pC 0)) := AZ
  have BL : Hid (Below w.heap.size w (w1.alloc (.cells #[.int .i64 0, .slice none 0 0, .slice none 0 0, .slice none 0 0, .slice none 0 0, .int .i64 0, .int .u64 0, .int .i64 0, .int .i64 0, .int .i64 0, .int .i64 0] 37))) := BL
  have r0 : (w1.alloc (.cells #[.int .i64 0, .slice none 0 0, .slice none 0 0, .slice none 0 0, .slice none 0 0, .int .i64 0, .int .u64 0, .int .i64 0, .int .i64 0, .int .i64 0, .int .i64 0] 37)).cell? ⟨w.heap.size, 0, none⟩ = some (.int .i64 0) := AZ.out.2.2 0 _ rfl
  have r1 : (w1.alloc (.cells #[.int .i64 0, .slice none 0 0, .slice none 0 0, .slice none 0 0, .slice none 0 0, .int .i64 0, .int .u64 0, .int .i64 0, .int .i64 0, .int .i64 0, .int .i64 0] 37)).cell? ⟨w.heap.size, 1, none⟩ = some (.slice none 0 0) := AZ.out.2.2 1 _ rfl
  have r2 : (w1.alloc (.cells #[.int .i64 0, .slice none 0 0, .slice none 0 0, .slice none 0 0, .slice none 0 0, .int .i64 0, .int .u64 0, .int .i64 0, .int .i64 0, .int .i64 0, .int .i64 0] 37)).cell? ⟨w.heap.size, 2, none⟩ = some (.slice none 0 0) := AZ.out.2.2 2 _ rfl
  have r3 : (w1.alloc (.cells #[.int .i64 0, .slice none 0 0, .slice none 0 0, .slice none 0 0, .slice none 0 0, .int .i64 0, .int .u64 0, .int .i64 0, .int .i64 0, .int .i64 0, .int .i64 0] 37)).cell? ⟨w.heap.size, 3, none⟩ = some (.slice none 0 0) := AZ.out.2.2 3 _ rfl
  have r4 : (w1.alloc (.cells #[.int .i64 0, .slice none 0 0, .slice none 0 0, .slice none 0 0, .slice none 0 0, .int .i64 0, .int .u64 0, .int .i64 0, .int .i64 0, .int .i64 0, .int .i64 0] 37)).cell? ⟨w.heap.size, 4, none⟩ = some (.slice none 0 0) := AZ.out.2.2 4 _ rfl
  have r5 : (w1.alloc (.cells #[.int .i64 0, .slice none 0 0, .slice none 0 0, .slice none 0 0, .slice none 0 0, .int .i64 0, .int .u64 0, .int .i64 0, .int .i64 0, .int .i64 0, .int .i64 0] 37)).cell? ⟨w.heap.size, 5, none⟩ = some (.int .i64 0) := AZ.out.2.2 5 _ rfl
  have r6 : (w1.alloc (.cells #[.int .i64 0, .slice none 0 0, .slice none 0 0, .slice none 0 0, .slice none 0 0, .int .i64 0, .int .u64 0, .int .i64 0, .int .i64 0, .int .i64 0, .int .i64 0] 37)).cell? ⟨w.heap.size, 6, none⟩ = some (.int .u64 0) := AZ.out.2.2 6 _ rfl
  have r7 : (w1.alloc (.cells #[.int .i64 0, .slice none 0 0, .slice none 0 0, .slice none 0 0, .slice none 0 0, .int .i64 0, .int .u64 0, .int .i64 0, .int .i64 0, .int .i64 0, .int .i64 0] 37)).cell? ⟨w.heap.size, 7, none⟩ = some (.int .i64 0) := AZ.out.2.2 7 _ rfl
  have r8 : (w1.alloc (.cells #[.int .i64 0, .slice none 0 0, .slice none 0 0, .slice none 0 0, .slice none 0 0, .int .i64 0, .int .u64 0, .int .i64 0, .int .i64 0, .int .i64 0, .int .i64 0] 37)).cell? ⟨w.heap.size, 8, none⟩ = some (.int .i64 0) := AZ.out.2.2 8 _ rfl
  have r9 : (w1.alloc (.cells #[.int .i64 0, .slice none 0 0, .slice none 0 0, .slice none 0 0, .slice none 0 0, .int .i64 0, .int .u64 0, .int .i64 0, .int .i64 0, .int .i64 0, .int .i64 0] 37)).cell? ⟨w.heap.size, 9, none⟩ = some (.int .i64 0) := AZ.out.2.2 9 _ rfl
  have r10 : (w1.alloc (.cells #[.int .i64 0, .slice none 0 0, .slice none 0 0, .slice none 0 0, .slice none 0 0, .int .i64 0, .int .u64 0, .int .i64 0, .int .i64 0, .int .i64 0, .int .i64 0] 37)).cell? ⟨w.heap.size, 10, none⟩ = some (.int .i64 0) := AZ.out.2.2 10 _ rfl
  have fz := AZ.out.2.1
  have A3 := Lib.hid (set11_at AZ.out (.int .i64 0) (.slice none 0 0) (.slice none 0 0) (.slice none 0 0) (.slice none 0 0) (.int .i64 0) (.int .u64 0) (.int .i64 0) (.int .i64 0) (.int .i64 0) (.int .i64 0))
  have B3 := Lib.hid (BL.out.grown (set11_only (w1.alloc (.cells #[.int .i64 0, .slice none 0 0, .slice none 0 0, .slice none 0 0, .slice none 0 0, .int .i64 0, .int .u64 0, .int .i64 0, .int .i64 0, .int .i64 0, .int .i64 0] 37)) w.heap.size (.int .i64 0) (.slice none 0 0) (.slice none 0 0) (.slice none 0 0) (.slice none 0 0) (.int .i64 0) (.int .u64 0) (.int .i64 0) (.int .i64 0) (.int .i64 0) (.int .i64 0)) BL.out.size (fun k hk => by cases hk; omega))
  go_wp2_with fail
  change bodyPost _ _ _ _ _ (set11 (w1.alloc (.cells #[.int .i64 0, .slice none 0 0, .slice none 0 0, .slice none 0 0, .slice none 0 0, .int .i64 0, .int .u64 0, .int .i64 0, .int .i64 0, .int .i64 0, .int .i64 0] 37)) w.heap.size (.int .i64 0) (.slice none 0 0) (.slice none 0 0) (.slice none 0 0) (.slice none 0 0) (.int .i64 0) (.int .u64 0) (.int .i64 0) (.int .i64 0) (.int .i64 0) (.int .i64 0))
  generalize set11 (w1.alloc (.cells #[.int .i64 0, .slice none 0 0, .slice none 0 0, .slice none 0 0, .slice none 0 0, .int .i64 0, .int .u64 0, .int .i64 0, .int .i64 0, .int .i64 0, .int .i64 0] 37)) w.heap.size (.int .i64 0) (.slice none 0 0) (.slice none 0 0) (.slice none 0 0) (.slice none 0 0) (.int .i64 0) (.int .u64 0) (.int .i64 0) (.int .i64 0) (.int .i64 0) (.int .i64 0) = W9 at *
  clear r0 r1 r2 r3 r4 r5 r6 r7 r8 r9 r10 fz
  have c0 : W9.cell? ⟨w.heap.size, 0, none⟩ = some (.int .i64 0) := A3.out.2.2 0 _ rfl
  have c1 : W9.cell? ⟨w.heap.size, 1, none⟩ = some (.slice none 0 0) := A3.out.2.2 1 _ rfl
  have c2 : W9.cell? ⟨w.heap.size, 2, none⟩ = some (.slice none 0 0) := A3.out.2.2 2 _ rfl
  have c3 : W9.cell? ⟨w.heap.size, 3, none⟩ = some (.slice none 0 0) := A3.out.2.2 3 _ rfl
  have c4 : W9.cell? ⟨w.heap.size, 4, none⟩ = some (.slice none 0 0) := A3.out.2.2 4 _ rfl
  have c5 : W9.cell? ⟨w.heap.size, 5, none⟩ = some (.int .i64 0) := A3.out.2.2 5 _ rfl
  have c6 : W9.cell? ⟨w.heap.size, 6, none⟩ = some (.int .u64 0) := A3.out.2.2 6 _ rfl
  have c7 : W9.cell? ⟨w.heap.size, 7, none⟩ = some (.int .i64 0) := A3.out.2.2 7 _ rfl
  have c8 : W9.cell? ⟨w.heap.size, 8, none⟩ = some (.int .i64 0) := A3.out.2.2 8 _ rfl
  have c9 : W9.cell? ⟨w.heap.size, 9, none⟩ = some (.int .i64 0) := A3.out.2.2 9 _ rfl
  have c10 : W9.cell? ⟨w.heap.size, 10, none⟩ = some (.int .i64 0) := A3.out.2.2 10 _ rfl
  refine bodyPost_ret (v := .tuple #[pgV { kind := 0 } {}, numV 50]) (by simp [results, Tryz.results89, go_sem, *]) rfl ?_
  exact ⟨B3.out, .inr ⟨rfl, fun p g => by have := HN.out.symm.trans g.1; cases this⟩⟩

set_option maxRecDepth 100000 in
set_option maxHeartbeats 8000000 in
theorem decode_some (s : Int) (A : Option Addr) (n c : Nat) (u : Bs) (w : World) (h : BytesAt w A n c u) (p : Pg) (hr : rRead s u = some p) : Calls Tryz.prog 89 #[.int .i64 s, .slice A n c] w (DecPost s u w) := by
  have b0 : Below w.heap.size w (w.alloc (.cells (pC 0) 37)) := (Below.refl _ _).alloc (Nat.le_refl _) _
  have cR := read_any s A n c u _ (h.below b0)
  rw [hr] at cR
  have AR := Lib.hid (show At (w.alloc (.cells (pC 0) 37)) w.heap.size (pC 0) from At.of_block (heap_alloc_last w _))
  have SZ := Lib.hid (show w.heap.size < (w.alloc (.cells (pC 0) 37)).heap.size by simp)
  have B0 := Lib.hid b0
  have HN := Lib.hid hr
  have HH := Lib.hid h
  clear h b0 hr
  unfold pC pgC at *
  go_enter Tryz.func89, Tryz.ntmps89
  go_wp2_with fail
  refine cR.mono ?_
  rintro e w1 ⟨hb, a, rfl, hrows, hok, hnew⟩
  have hb1 := B0.out.trans (hb.mono B0.out.size)
  have hal : Below w1.heap.size w1 (w1.alloc (.cells (pgC p a) 37)) := (Below.refl _ _).alloc (Nat.le_refl _) _
  have AZ1 := Lib.hid ((AR.out.below hb SZ.out).below hal (Nat.lt_of_lt_of_le SZ.out hb.size))
  have AP1 := Lib.hid (show At (w1.alloc (.cells (pgC p a) 37)) w1.heap.size (pgC p a) from At.of_block (heap_alloc_last w1 _))
  have BL1 := Lib.hid (hb1.trans (hal.mono hb1.size))
  have RW1 := Lib.hid (hrows.below hal)
  have OK := Lib.hid hok
  have SZ1 := Lib.hid (show w.heap.size < (w1.alloc (.cells (pgC p a) 37)).heap.size ∧ w1.heap.size < (w1.alloc (.cells (pgC p a) 37)).heap.size ∧ w.heap.size < w1.heap.size by have := SZ.out; have := hb.size; simp at *; omega)
  have NW := Lib.hid (hnew.mono (show w.heap.size + 1 ≤ _ by simp))
  have cE := encode_any s p a _ hok RW1.out
  clear hb hrows hok hb1 hal cR AR SZ B0 hnew
  unfold pC pgC at *
  go_wp2_with fail
  refine cE.mono ?_
  rintro e w2 (⟨A2, n2, c2', l, rfl, hby, henc, hb⟩ | ⟨rfl, hno, hb⟩)
  rotate_left
  · have AZ := Lib.hid (AZ1.out.below hb SZ1.out.1)
    have BL := Lib.hid (BL1.out.trans (hb.mono BL1.out.size))
    have HE := Lib.hid hno
    clear hb hno cE AZ1 AP1 BL1

    have r0 : w2.cell? ⟨w.heap.size, 0, none⟩ = some (.int .i64 0) := AZ.out.2.2 0 _ rfl
    have r1 : w2.cell? ⟨w.heap.size, 1, none⟩ = some (.slice none 0 0) := AZ.out.2.2 1 _ rfl
    have r2 : w2.cell? ⟨w.heap.size, 2, none⟩ = some (.slice none 0 0) := AZ.out.2.2 2 _ rfl
    have r3 : w2.cell? ⟨w.heap.size, 3, none⟩ = some (.slice none 0 0) := AZ.out.2.2 3 _ rfl
    have r4 : w2.cell? ⟨w.heap.size, 4, none⟩ = some (.slice none 0 0) := AZ.out.2.2 4 _ rfl
    have r5 : w2.cell? ⟨w.heap.size, 5, none⟩ = some (.int .i64 0) := AZ.out.2.2 5 _ rfl
    have r6 : w2.cell? ⟨w.heap.size, 6, none⟩ = some (.int .u64 0) := AZ.out.2.2 6 _ rfl
    have r7 : w2.cell? ⟨w.heap.size, 7, none⟩ = some (.int .i64 0) := AZ.out.2.2 7 _ rfl
    have r8 : w2.cell? ⟨w.heap.size, 8, none⟩ = some (.int .i64 0) := AZ.out.2.2 8 _ rfl
    have r9 : w2.cell? ⟨w.heap.size, 9, none⟩ = some (.int .i64 0) := AZ.out.2.2 9 _ rfl
    have r10 : w2.cell? ⟨w.heap.size, 10, none⟩ = some (.int .i64 0) := AZ.out.2.2 10 _ rfl
    have fz := AZ.out.2.1
    have A3 := Lib.hid (set11_at AZ.out (.int .i64 0) (.slice none 0 0) (.slice none 0 0) (.slice none 0 0) (.slice none 0 0) (.int .i64 0) (.int .u64 0) (.int .i64 0) (.int .i64 0) (.int .i64 0) (.int .i64 0))
    have B3 := Lib.hid (BL.out.grown (set11_only w2 w.heap.size (.int .i64 0) (.slice none 0 0) (.slice none 0 0) (.slice none 0 0) (.slice none 0 0) (.int .i64 0) (.int .u64 0) (.int .i64 0) (.int .i64 0) (.int .i64 0) (.int .i64 0)) BL.out.size (fun k hk => by cases hk; omega))
    go_wp2_with fail
    change bodyPost _ _ _ _ _ (set11 w2 w.heap.size (.int .i64 0) (.slice none 0 0) (.slice none 0 0) (.slice none 0 0) (.slice none 0 0) (.int .i64 0) (.int .u64 0) (.int .i64 0) (.int .i64 0) (.int .i64 0) (.int .i64 0))
    generalize set11 w2 w.heap.size (.int .i64 0) (.slice none 0 0) (.slice none 0 0) (.slice none 0 0) (.slice none 0 0) (.int .i64 0) (.int .u64 0) (.int .i64 0) (.int .i64 0) (.int .i64 0) (.int .i64 0) = W9 at *
    clear r0 r1 r2 r3 r4 r5 r6 r7 r8 r9 r10 fz
    have c0 : W9.cell? ⟨w.heap.size, 0, none⟩ = some (.int .i64 0) := A3.out.2.2 0 _ rfl
    have c1 : W9.cell? ⟨w.heap.size, 1, none⟩ = some (.slice none 0 0) := A3.out.2.2 1 _ rfl
    have c2 : W9.cell? ⟨w.heap.size, 2, none⟩ = some (.slice none 0 0) := A3.out.2.2 2 _ rfl
    have c3 : W9.cell? ⟨w.heap.size, 3, none⟩ = some (.slice none 0 0) := A3.out.2.2 3 _ rfl
    have c4 : W9.cell? ⟨w.heap.size, 4, none⟩ = some (.slice none 0 0) := A3.out.2.2 4 _ rfl
    have c5 : W9.cell? ⟨w.heap.size, 5, none⟩ = some (.int .i64 0) := A3.out.2.2 5 _ rfl
    have c6 : W9.cell? ⟨w.heap.size, 6, none⟩ = some (.int .u64 0) := A3.out.2.2 6 _ rfl
    have c7 : W9.cell? ⟨w.heap.size, 7, none⟩ = some (.int .i64 0) := A3.out.2.2 7 _ rfl
    have c8 : W9.cell? ⟨w.heap.size, 8, none⟩ = some (.int .i64 0) := A3.out.2.2 8 _ rfl
    have c9 : W9.cell? ⟨w.heap.size, 9, none⟩ = some (.int .i64 0) := A3.out.2.2 9 _ rfl
    have c10 : W9.cell? ⟨w.heap.size, 10, none⟩ = some (.int .i64 0) := A3.out.2.2 10 _ rfl
    refine bodyPost_ret (v := .tuple #[pgV { kind := 0 } {}, numV 50]) (by simp [results, Tryz.results89, go_sem, *]) rfl ?_
    exact ⟨B3.out, .inr ⟨rfl, fun q g => by have e := HN.out.symm.trans g.1; cases e; exact HE.out _ g.2⟩⟩

  · have AZ := Lib.hid (AZ1.out.below hb SZ1.out.1)
    have AP := Lib.hid (AP1.out.below hb SZ1.out.2.1)
    have BL := Lib.hid (BL1.out.trans (hb.mono BL1.out.size))
    have RW := Lib.hid (RW1.out.below hb)
    have HE := Lib.hid henc
    have cQ := equal_any A2 A n2 c2' n c l u w2 hby.len HH.out.len hby.row (RowG.below HH.out.row BL.out)
    have HB := Lib.hid hb.size
    clear hb henc hby cE AZ1 AP1 BL1 RW1
    go_wp2_with fail
    refine cQ.mono ?_
    rintro e w' ⟨r, rfl, hq, rfl⟩
    rcases r with _ | _
    · have HQ := Lib.hid hq
      clear hq cQ

      have r0 : w2.cell? ⟨w.heap.size, 0, none⟩ = some (.int .i64 0) := AZ.out.2.2 0 _ rfl
      have r1 : w2.cell? ⟨w.heap.size, 1, none⟩ = some (.slice none 0 0) := AZ.out.2.2 1 _ rfl
      have r2 : w2.cell? ⟨w.heap.size, 2, none⟩ = some (.slice none 0 0) := AZ.out.2.2 2 _ rfl
      have r3 : w2.cell? ⟨w.heap.size, 3, none⟩ = some (.slice none 0 0) := AZ.out.2.2 3 _ rfl
      have r4 : w2.cell? ⟨w.heap.size, 4, none⟩ = some (.slice none 0 0) := AZ.out.2.2 4 _ rfl
      have r5 : w2.cell? ⟨w.heap.size, 5, none⟩ = some (.int .i64 0) := AZ.out.2.2 5 _ rfl
      have r6 : w2.cell? ⟨w.heap.size, 6, none⟩ = some (.int .u64 0) := AZ.out.2.2 6 _ rfl
      have r7 : w2.cell? ⟨w.heap.size, 7, none⟩ = some (.int .i64 0) := AZ.out.2.2 7 _ rfl
      have r8 : w2.cell? ⟨w.heap.size, 8, none⟩ = some (.int .i64 0) := AZ.out.2.2 8 _ rfl
      have r9 : w2.cell? ⟨w.heap.size, 9, none⟩ = some (.int .i64 0) := AZ.out.2.2 9 _ rfl
      have r10 : w2.cell? ⟨w.heap.size, 10, none⟩ = some (.int .i64 0) := AZ.out.2.2 10 _ rfl
      have fz := AZ.out.2.1
      have A3 := Lib.hid (set11_at AZ.out (.int .i64 0) (.slice none 0 0) (.slice none 0 0) (.slice none 0 0) (.slice none 0 0) (.int .i64 0) (.int .u64 0) (.int .i64 0) (.int .i64 0) (.int .i64 0) (.int .i64 0))
      have B3 := Lib.hid (BL.out.grown (set11_only w2 w.heap.size (.int .i64 0) (.slice none 0 0) (.slice none 0 0) (.slice none 0 0) (.slice none 0 0) (.int .i64 0) (.int .u64 0) (.int .i64 0) (.int .i64 0) (.int .i64 0) (.int .i64 0)) BL.out.size (fun k hk => by cases hk; omega))
      go_wp2_with fail
      change bodyPost _ _ _ _ _ (set11 w2 w.heap.size (.int .i64 0) (.slice none 0 0) (.slice none 0 0) (.slice none 0 0) (.slice none 0 0) (.int .i64 0) (.int .u64 0) (.int .i64 0) (.int .i64 0) (.int .i64 0) (.int .i64 0))
      generalize set11 w2 w.heap.size (.int .i64 0) (.slice none 0 0) (.slice none 0 0) (.slice none 0 0) (.slice none 0 0) (.int .i64 0) (.int .u64 0) (.int .i64 0) (.int .i64 0) (.int .i64 0) (.int .i64 0) = W9 at *
      clear r0 r1 r2 r3 r4 r5 r6 r7 r8 r9 r10 fz
      have c0 : W9.cell? ⟨w.heap.size, 0, none⟩ = some (.int .i64 0) := A3.out.2.2 0 _ rfl
      have c1 : W9.cell? ⟨w.heap.size, 1, none⟩ = some (.slice none 0 0) := A3.out.2.2 1 _ rfl
      have c2 : W9.cell? ⟨w.heap.size, 2, none⟩ = some (.slice none 0 0) := A3.out.2.2 2 _ rfl
      have c3 : W9.cell? ⟨w.heap.size, 3, none⟩ = some (.slice none 0 0) := A3.out.2.2 3 _ rfl
      have c4 : W9.cell? ⟨w.heap.size, 4, none⟩ = some (.slice none 0 0) := A3.out.2.2 4 _ rfl
      have c5 : W9.cell? ⟨w.heap.size, 5, none⟩ = some (.int .i64 0) := A3.out.2.2 5 _ rfl
      have c6 : W9.cell? ⟨w.heap.size, 6, none⟩ = some (.int .u64 0) := A3.out.2.2 6 _ rfl
      have c7 : W9.cell? ⟨w.heap.size, 7, none⟩ = some (.int .i64 0) := A3.out.2.2 7 _ rfl
      have c8 : W9.cell? ⟨w.heap.size, 8, none⟩ = some (.int .i64 0) := A3.out.2.2 8 _ rfl
      have c9 : W9.cell? ⟨w.heap.size, 9, none⟩ = some (.int .i64 0) := A3.out.2.2 9 _ rfl
      have c10 : W9.cell? ⟨w.heap.size, 10, none⟩ = some (.int .i64 0) := A3.out.2.2 10 _ rfl
      refine bodyPost_ret (v := .tuple #[pgV { kind := 0 } {}, numV 50]) (by simp [results, Tryz.results89, go_sem, *]) rfl ?_
      exact ⟨B3.out, .inr ⟨rfl, fun q g => by have e := HN.out.symm.trans g.1; cases e; cases (HQ.out.2 (enc_fun HE.out g.2))⟩⟩

    · obtain rfl := hq.1 rfl
      clear hq cQ
      have c0 : w2.cell? ⟨w1.heap.size, 0, none⟩ = some (.int .i64 p.kind) := AP.out.2.2 0 _ rfl
      have c1 : w2.cell? ⟨w1.heap.size, 1, none⟩ = some (.slice a.A1 p.pairs.length a.c1) := AP.out.2.2 1 _ rfl
      have c2 : w2.cell? ⟨w1.heap.size, 2, none⟩ = some (.slice a.A2 p.keys.length a.c2) := AP.out.2.2 2 _ rfl
      have c3 : w2.cell? ⟨w1.heap.size, 3, none⟩ = some (.slice a.A3 p.kids.length a.c3) := AP.out.2.2 3 _ rfl
      have c4 : w2.cell? ⟨w1.heap.size, 4, none⟩ = some (.slice a.A4 p.pages.length a.c4) := AP.out.2.2 4 _ rfl
      have c5 : w2.cell? ⟨w1.heap.size, 5, none⟩ = some (.int .i64 p.next) := AP.out.2.2 5 _ rfl
      have c6 : w2.cell? ⟨w1.heap.size, 6, none⟩ = some (.int .u64 (p.epoch : Int)) := AP.out.2.2 6 _ rfl
      have c7 : w2.cell? ⟨w1.heap.size, 7, none⟩ = some (.int .i64 p.root) := AP.out.2.2 7 _ rfl
      have c8 : w2.cell? ⟨w1.heap.size, 8, none⟩ = some (.int .i64 p.depth) := AP.out.2.2 8 _ rfl
      have c9 : w2.cell? ⟨w1.heap.size, 9, none⟩ = some (.int .i64 p.count) := AP.out.2.2 9 _ rfl
      have c10 : w2.cell? ⟨w1.heap.size, 10, none⟩ = some (.int .i64 p.high) := AP.out.2.2 10 _ rfl
      have r0 : w2.cell? ⟨w.heap.size, 0, none⟩ = some (.int .i64 0) := AZ.out.2.2 0 _ rfl
      have r1 : w2.cell? ⟨w.heap.size, 1, none⟩ = some (.slice none 0 0) := AZ.out.2.2 1 _ rfl
      have r2 : w2.cell? ⟨w.heap.size, 2, none⟩ = some (.slice none 0 0) := AZ.out.2.2 2 _ rfl
      have r3 : w2.cell? ⟨w.heap.size, 3, none⟩ = some (.slice none 0 0) := AZ.out.2.2 3 _ rfl
      have r4 : w2.cell? ⟨w.heap.size, 4, none⟩ = some (.slice none 0 0) := AZ.out.2.2 4 _ rfl
      have r5 : w2.cell? ⟨w.heap.size, 5, none⟩ = some (.int .i64 0) := AZ.out.2.2 5 _ rfl
      have r6 : w2.cell? ⟨w.heap.size, 6, none⟩ = some (.int .u64 0) := AZ.out.2.2 6 _ rfl
      have r7 : w2.cell? ⟨w.heap.size, 7, none⟩ = some (.int .i64 0) := AZ.out.2.2 7 _ rfl
      have r8 : w2.cell? ⟨w.heap.size, 8, none⟩ = some (.int .i64 0) := AZ.out.2.2 8 _ rfl
      have r9 : w2.cell? ⟨w.heap.size, 9, none⟩ = some (.int .i64 0) := AZ.out.2.2 9 _ rfl
      have r10 : w2.cell? ⟨w.heap.size, 10, none⟩ = some (.int .i64 0) := AZ.out.2.2 10 _ rfl
      have fz := AZ.out.2.1
      have A3 := Lib.hid (set11_at AZ.out (.int .i64 p.kind) (.slice a.A1 p.pairs.length a.c1) (.slice a.A2 p.keys.length a.c2) (.slice a.A3 p.kids.length a.c3) (.slice a.A4 p.pages.length a.c4) (.int .i64 p.next) (.int .u64 (p.epoch : Int)) (.int .i64 p.root) (.int .i64 p.depth) (.int .i64 p.count) (.int .i64 p.high))
      have g3 := set11_only w2 w.heap.size (.int .i64 p.kind) (.slice a.A1 p.pairs.length a.c1) (.slice a.A2 p.keys.length a.c2) (.slice a.A3 p.kids.length a.c3) (.slice a.A4 p.pages.length a.c4) (.int .i64 p.next) (.int .u64 (p.epoch : Int)) (.int .i64 p.root) (.int .i64 p.depth) (.int .i64 p.count) (.int .i64 p.high)
      have B3 := Lib.hid (BL.out.grown g3 BL.out.size (fun k hk => by cases hk; omega))
      have NB := Lib.hid (RW.out.apart g3 NW.out (by omega))
      clear g3
      go_wp2_with fail
      change bodyPost _ _ _ _ _ (set11 w2 w.heap.size (.int .i64 p.kind) (.slice a.A1 p.pairs.length a.c1) (.slice a.A2 p.keys.length a.c2) (.slice a.A3 p.kids.length a.c3) (.slice a.A4 p.pages.length a.c4) (.int .i64 p.next) (.int .u64 (p.epoch : Int)) (.int .i64 p.root) (.int .i64 p.depth) (.int .i64 p.count) (.int .i64 p.high))
      generalize set11 w2 w.heap.size (.int .i64 p.kind) (.slice a.A1 p.pairs.length a.c1) (.slice a.A2 p.keys.length a.c2) (.slice a.A3 p.kids.length a.c3) (.slice a.A4 p.pages.length a.c4) (.int .i64 p.next) (.int .u64 (p.epoch : Int)) (.int .i64 p.root) (.int .i64 p.depth) (.int .i64 p.count) (.int .i64 p.high) = W9 at *
      clear r0 r1 r2 r3 r4 r5 r6 r7 r8 r9 r10 c0 c1 c2 c3 c4 c5 c6 c7 c8 c9 c10 fz
      have c0 : W9.cell? ⟨w.heap.size, 0, none⟩ = some (.int .i64 p.kind) := A3.out.2.2 0 _ rfl
      have c1 : W9.cell? ⟨w.heap.size, 1, none⟩ = some (.slice a.A1 p.pairs.length a.c1) := A3.out.2.2 1 _ rfl
      have c2 : W9.cell? ⟨w.heap.size, 2, none⟩ = some (.slice a.A2 p.keys.length a.c2) := A3.out.2.2 2 _ rfl
      have c3 : W9.cell? ⟨w.heap.size, 3, none⟩ = some (.slice a.A3 p.kids.length a.c3) := A3.out.2.2 3 _ rfl
      have c4 : W9.cell? ⟨w.heap.size, 4, none⟩ = some (.slice a.A4 p.pages.length a.c4) := A3.out.2.2 4 _ rfl
      have c5 : W9.cell? ⟨w.heap.size, 5, none⟩ = some (.int .i64 p.next) := A3.out.2.2 5 _ rfl
      have c6 : W9.cell? ⟨w.heap.size, 6, none⟩ = some (.int .u64 (p.epoch : Int)) := A3.out.2.2 6 _ rfl
      have c7 : W9.cell? ⟨w.heap.size, 7, none⟩ = some (.int .i64 p.root) := A3.out.2.2 7 _ rfl
      have c8 : W9.cell? ⟨w.heap.size, 8, none⟩ = some (.int .i64 p.depth) := A3.out.2.2 8 _ rfl
      have c9 : W9.cell? ⟨w.heap.size, 9, none⟩ = some (.int .i64 p.count) := A3.out.2.2 9 _ rfl
      have c10 : W9.cell? ⟨w.heap.size, 10, none⟩ = some (.int .i64 p.high) := A3.out.2.2 10 _ rfl
      refine bodyPost_ret (v := .tuple #[pgV p a, numV 0]) (by simp [results, Tryz.results89, go_sem, *]) rfl ?_
      exact ⟨B3.out, .inl ⟨p, a, rfl, NB.out, OK.out, ⟨HN.out, HE.out⟩, NW.out.mono (by omega)⟩⟩
end Go.Proofs.YthnodkhcenmnfaaGreat.Page
namespace Go.Proofs.YthnodkhcenmnfaaGreat.Page
open Go.RowKit Gen

theorem eq_step {α : Type} {la lb : List α} {k : Nat} (ha : k < la.length) (hb : k < lb.length) (h : la.take k = lb.take k) (e : la[k] = lb[k]) : la.take (k + 1) = lb.take (k + 1) := by
  rw [List.take_succ_eq_append_getElem ha, List.take_succ_eq_append_getElem hb, h, e]
theorem ne_at {α : Type} {la lb : List α} {k : Nat} (ha : k < la.length) (hb : k < lb.length) (e : la[k] ≠ lb[k]) : la ≠ lb := fun h => by subst h; exact e rfl
theorem all_eq {α : Type} {la lb : List α} {k : Nat} (ha : la.length ≤ k) (hl : la.length = lb.length) (h : la.take k = lb.take k) : la = lb := by
  rwa [List.take_of_length_le ha, List.take_of_length_le (by omega)] at h
set_option maxRecDepth 100000 in
theorem ints_any (A B : Option Addr) (n c m d : Nat) (la lb : List Int) (w : World) (hl : la.length = n) (hm : lb.length = m) (hn : n ≤ 9223372036854775807) (hR : IRow w A la) (hS : IRow w B lb) : Calls Tryz.prog 56 #[.slice A n c, .slice B m d] w (TellsD (la = lb) w) := by
  have HR := Lib.hid hR
  have HS := Lib.hid hS
  have HL := Lib.hid hl
  have HM := Lib.hid hm
  clear hR hS hl hm
  by_cases hnm : n = m
  rotate_left
  · have d0 : ((n : Int) != (m : Int)) = true := by simp; omega
    have HN := Lib.hid hnm
    clear hnm
    go_enter Tryz.func56, Tryz.ntmps56
    go_wp2_with fail
    go_ret
    exact ⟨_, rfl, ⟨fun h => (by cases h), fun h => absurd (by rw [← HL.out, ← HM.out, h]) HN.out⟩, Drew.refl _⟩
  subst hnm
  go_enter Tryz.func56, Tryz.ntmps56
  go_wp2_with fail
  go_loopw [5] (fun i wr => ∃ k : Nat, i = .int .i64 (k : Int) ∧ k ≤ n ∧ Hid (la.take k = lb.take k) ∧ Drew w wr) (fun i _ => n - (intOf i).toNat)
  case atStart => exact ⟨0, rfl, Nat.zero_le _, Lib.hid (by simp), Drew.refl _⟩
  case round =>
    obtain ⟨k, rfl, hk, hQ, hD⟩ := hrel
    have HD := Lib.hid hD
    clear hD
    by_cases hlt : k < n
    · have hka : k < la.length := by have := HL.out; omega
      have hkb : k < lb.length := by have := HM.out; omega
      obtain ⟨b1, o1, rfl, -, hc1⟩ := HR.out (by intro e; subst e; simp at hka)
      obtain ⟨b2, o2, rfl, -, hc2⟩ := HS.out (by intro e; subst e; simp at hkb)
      have h1 := hc1 k hka
      have h2 := hc2 k hkb
      rw [← HD.out.cell] at h1 h2
      have HE := Lib.hid (eq_step hka hkb hQ.out)
      have HN := Lib.hid (ne_at hka hkb)
      generalize la[k] = x at *
      generalize lb[k] = y at *
      clear hc1 hc2 hQ
      by_cases hxy : x = y
      · have d0 : (x != y) = false := by simp [hxy]
        have HF := Lib.hid (HE.out hxy)
        clear hxy HE HN
        go_wp2_with fail
        go_quiet (fail)
        go_wp2_with fail
        go_roundw
        case rel => exact ⟨k + 1, by go_num, by omega, HF, HD.out.drewN _⟩
        case measure => simp [intOf]; omega
      · have d0 : (x != y) = true := by simp [hxy]
        have HF := Lib.hid (HN.out hxy)
        clear hxy HE HN
        go_wp2_with fail
        go_quiet (fail)
        go_wp2_with fail
        go_ret
        exact ⟨_, rfl, ⟨fun h => (by cases h), fun h => absurd h HF.out⟩, HD.out.drewN _⟩
    · have HF := Lib.hid (all_eq (k := k) (by have := HL.out; omega) (by rw [HL.out, HM.out]) hQ.out)
      clear hQ
      go_wp2_with fail
      go_ret
      exact ⟨_, rfl, ⟨fun _ => HF.out, fun _ => rfl⟩, HD.out⟩
theorem pair_und : Tryz.prog.underlying 66 = some (.struct (Tryz.prog.fieldsOf 66)) := by kernel_rfl
theorem pair_stood : Tryz.prog.stoodInHeld 66 = false := by kernel_rfl
theorem pair_guard : Tryz.prog.eqGuardType Tryz.prog.depth 66 = false := by kernel_rfl
theorem pair_eq (X1 Y1 X2 Y2 : ByteArray) (W : World) : (Op.equalIn 10000 66 (.agg #[.string X1, .string Y1]) (.agg #[.string X2, .string Y2])).run Tryz.prog W = .ok ((X1.toList == X2.toList) && (Y1.toList == Y2.toList)) W := by
  have u9 := Tryz.underlying9
  have a9 := Tryz.isAgg9
  have z9 := Tryz.sizeOf9
  rw [show (10000 : Nat) = 9999 + 1 from rfl, run_equalIn_agg W 9999 66 _ _ pair_und pair_stood]
  simp only [Program.fieldsOf, Tryz.underlying66]
  go_simp
  by_cases h1 : X1.toList = X2.toList <;> by_cases h2 : Y1.toList = Y2.toList <;> simp [h1, h2]
theorem pair_neq (X1 Y1 X2 Y2 : ByteArray) (W : World) (r : Bool) (h : ((X1.toList == X2.toList) && (Y1.toList == Y2.toList)) = r) : (binOp .neq 66 (.agg #[.string X1, .string Y1]) (.agg #[.string X2, .string Y2])).run Tryz.prog W = .ok (.bool (!r)) W := by
  rw [run_neq_struct, pair_eq, h]
  rfl
theorem pair_grd (x y : Operand) (u v : Array Value) (W : World) : (eqGuard .neq 66 x y (.agg u) (.agg v)).run Tryz.prog W = .ok () W := run_eqGuard_agg W _ _ _ _ _ _ pair_guard
theorem pair_beq (p q : Bs × Bs) : (((strB p.1).toList == (strB q.1).toList) && ((strB p.2).toList == (strB q.2).toList)) = decide (p = q) := by
  rw [strB_beq, strB_beq]
  obtain ⟨a, b⟩ := p
  obtain ⟨c, d⟩ := q
  by_cases h1 : a = c <;> by_cases h2 : b = d <;> simp [h1, h2]
set_option maxRecDepth 100000 in
theorem pairs_any (A B : Option Addr) (n c m d : Nat) (la lb : List (Bs × Bs)) (w : World) (hl : la.length = n) (hm : lb.length = m) (hn : n ≤ 9223372036854775807) (hR : PRow w A la) (hS : PRow w B lb) : Calls Tryz.prog 55 #[.slice A n c, .slice B m d] w (TellsD (la = lb) w) := by
  have HR := Lib.hid hR
  have HS := Lib.hid hS
  have HL := Lib.hid hl
  have HM := Lib.hid hm
  clear hR hS hl hm
  by_cases hnm : n = m
  rotate_left
  · have d0 : ((n : Int) != (m : Int)) = true := by simp; omega
    have HN := Lib.hid hnm
    clear hnm
    go_enter Tryz.func55, Tryz.ntmps55
    go_wp2_with fail
    go_ret
    exact ⟨_, rfl, ⟨fun h => (by cases h), fun h => absurd (by rw [← HL.out, ← HM.out, h]) HN.out⟩, Drew.refl _⟩
  subst hnm
  go_enter Tryz.func55, Tryz.ntmps55
  go_wp2_with fail
  go_loopw [5] (fun i wr => ∃ k : Nat, i = .int .i64 (k : Int) ∧ k ≤ n ∧ Hid (la.take k = lb.take k) ∧ Drew w wr) (fun i _ => n - (intOf i).toNat)
  case atStart => exact ⟨0, rfl, Nat.zero_le _, Lib.hid (by simp), Drew.refl _⟩
  case round =>
    obtain ⟨k, rfl, hk, hQ, hD⟩ := hrel
    have HD := Lib.hid hD
    clear hD
    by_cases hlt : k < n
    · have hka : k < la.length := by have := HL.out; omega
      have hkb : k < lb.length := by have := HM.out; omega
      obtain ⟨b1, o1, rfl, -, hc1⟩ := HR.out (by intro e; subst e; simp at hka)
      obtain ⟨b2, o2, rfl, -, hc2⟩ := HS.out (by intro e; subst e; simp at hkb)
      obtain ⟨h1, h1'⟩ := hc1 k hka
      obtain ⟨h2, h2'⟩ := hc2 k hkb
      rw [← HD.out.cell] at h1 h1' h2 h2'
      have HE := Lib.hid (eq_step hka hkb hQ.out)
      have HN := Lib.hid (ne_at hka hkb)
      have HQ := Lib.hid (pair_beq la[k] lb[k])
      have HE2 := Lib.hid (fun W r => pair_neq (strB la[k].1) (strB la[k].2) (strB lb[k].1) (strB lb[k].2) W r)
      have hg := pair_grd
      obtain ⟨X1, eX1⟩ : ∃ X, strB la[k].1 = X := ⟨_, rfl⟩
      rw [show strV la[k].1 = .string X1 by rw [← eX1]] at h1
      obtain ⟨Y1, eY1⟩ : ∃ X, strB la[k].2 = X := ⟨_, rfl⟩
      rw [show strV la[k].2 = .string Y1 by rw [← eY1]] at h1'
      obtain ⟨X2, eX2⟩ : ∃ X, strB lb[k].1 = X := ⟨_, rfl⟩
      rw [show strV lb[k].1 = .string X2 by rw [← eX2]] at h2
      obtain ⟨Y2, eY2⟩ : ∃ X, strB lb[k].2 = X := ⟨_, rfl⟩
      rw [show strV lb[k].2 = .string Y2 by rw [← eY2]] at h2'
      rw [eX1, eY1, eX2, eY2] at HE2 HQ
      clear eX1 eY1 eX2 eY2
      clear hc1 hc2 hQ
      have t1 : (k : Int) < (n : Int) := by omega
      have t3 : (0 : Int) ≤ (k : Int) := by omega
      by_cases hxy : la[k] = lb[k]
      · have hE := fun W => HE2.out W true (by rw [HQ.out]; simp [hxy])
        have HF := Lib.hid (HE.out hxy)
        clear hxy HE HN HE2 HQ
        go_wp2_with fail
        go_quiet (fail)
        go_wp2_with fail
        go_roundw
        case rel => exact ⟨k + 1, by go_num, by omega, HF, HD.out.drewN _⟩
        case measure => simp [intOf]; omega
      · have hE := fun W => HE2.out W false (by rw [HQ.out]; simp [hxy])
        have HF := Lib.hid (HN.out hxy)
        clear hxy HE HN HE2 HQ
        go_wp2_with fail
        go_quiet (fail)
        go_wp2_with fail
        go_ret
        exact ⟨_, rfl, ⟨fun h => (by cases h), fun h => absurd h HF.out⟩, HD.out.drewN _⟩
    · have HF := Lib.hid (all_eq (k := k) (by have := HL.out; omega) (by rw [HL.out, HM.out]) hQ.out)
      clear hQ
      go_wp2_with fail
      go_ret
      exact ⟨_, rfl, ⟨fun _ => HF.out, fun _ => rfl⟩, HD.out⟩
end Go.Proofs.YthnodkhcenmnfaaGreat.Page
namespace Go.Proofs.YthnodkhcenmnfaaGreat.Page
open Go.RowKit Gen

theorem At.drewn {w w' : World} {b : Nat} {C : Array Value} (h : At w b C) (d : Drew w w') : At w' b C := h.below (d.below w.heap.size) h.1
theorem pg_ext {p q : Pg} (h1 : p.pairs = q.pairs) (h2 : p.keys = q.keys) (h3 : p.kids = q.kids) (h4 : p.pages = q.pages) (g0 : p.kind = q.kind) (g5 : p.next = q.next) (g6 : p.epoch = q.epoch) (g7 : p.root = q.root) (g8 : p.depth = q.depth) (g9 : p.count = q.count) (g10 : p.high = q.high) : p = q := by
  obtain ⟨⟩ := p
  obtain ⟨⟩ := q
  simp_all
set_option maxRecDepth 100000 in
set_option maxHeartbeats 8000000 in
theorem same_any (p q : Pg) (a b : Lay) (w : World) (hp : PgOk p) (hr : PgRows w p a) (hs : PgRows w q b) : Calls Tryz.prog 24 #[pgV p a, pgV q b] w (Tells (p = q) w) := by
  have b1 : Below w.heap.size w (w.alloc (.cells (pgC p a) 37)) := (Below.refl _ _).alloc (Nat.le_refl _) _
  have b2 := b1.alloc b1.size (.cells (pgC q b) 37)
  have s1 : (w.alloc (.cells (pgC p a) 37)).heap.size = w.heap.size + 1 := by simp
  have hA : At ((w.alloc (.cells (pgC p a) 37)).alloc (.cells (pgC q b) 37)) w.heap.size (pgC p a) := (pg_box w p a).below ((Below.refl _ _).alloc (Nat.le_refl _) _) (by simp)
  have hB : At ((w.alloc (.cells (pgC p a) 37)).alloc (.cells (pgC q b) 37)) (w.heap.size + 1) (pgC q b) := by
    have := pg_box (w.alloc (.cells (pgC p a) 37)) q b
    rwa [s1] at this
  have c1 := pairs_any a.A1 b.A1 p.pairs.length a.c1 q.pairs.length b.c1 p.pairs q.pairs _ rfl rfl hp.pairs (hr.below b2).r1 (hs.below b2).r1
  have C2 := Lib.hid (fun W (d : Drew ((w.alloc (.cells (pgC p a) 37)).alloc (.cells (pgC q b) 37)) W) => ints_any a.A3 b.A3 p.kids.length a.c3 q.kids.length b.c3 p.kids q.kids W rfl rfl hp.kids (RowG.below (hr.below b2).r3 (d.below _)) (RowG.below (hs.below b2).r3 (d.below _)))
  have C3 := Lib.hid (fun W (d : Drew ((w.alloc (.cells (pgC p a) 37)).alloc (.cells (pgC q b) 37)) W) => ints_any a.A4 b.A4 p.pages.length a.c4 q.pages.length b.c4 p.pages q.pages W rfl rfl hp.pages (RowG.below (hr.below b2).r4 (d.below _)) (RowG.below (hs.below b2).r4 (d.below _)))
  have HK := Lib.hid (hr.below b2).r2
  have HJ := Lib.hid (hs.below b2).r2
  have HA := Lib.hid hA
  have HB := Lib.hid hB
  have B2 := Lib.hid b2
  have hkl := hp.keys
  clear hp hr hs b1 b2 hA hB s1
  obtain ⟨W0, hW0⟩ : ∃ W0, (w.alloc (.cells (pgC p a) 37)).alloc (.cells (pgC q b) 37) = W0 := ⟨_, rfl⟩
  unfold pgV
  unfold pgC at *
  rw [hW0] at c1 C2 C3 HK HJ HA HB B2
  have x1 : W0.cell? ⟨w.heap.size, 1, none⟩ = some (.slice a.A1 p.pairs.length a.c1) := HA.out.2.2 1 _ rfl
  have y1 : W0.cell? ⟨w.heap.size + 1, 1, none⟩ = some (.slice b.A1 q.pairs.length b.c1) := HB.out.2.2 1 _ rfl
  go_enter Tryz.func24, Tryz.ntmps24
  go_wp2_with fail
  clear hW0 x1 y1
  refine c1.mono ?_
  rintro e w1 ⟨r1, rfl, h1, d1⟩
  have H1 := Lib.hid h1
  have D1 := Lib.hid d1
  have x3 : w1.cell? ⟨w.heap.size, 3, none⟩ = some (.slice a.A3 p.kids.length a.c3) := (HA.out.drewn D1.out).2.2 3 _ rfl
  have y3 : w1.cell? ⟨w.heap.size + 1, 3, none⟩ = some (.slice b.A3 q.kids.length b.c3) := (HB.out.drewn D1.out).2.2 3 _ rfl
  clear h1 d1 c1
  go_wp2_with fail
  refine (C2.out _ D1.out).mono ?_
  rintro e w2 ⟨r2, rfl, h2, d2⟩
  have H2 := Lib.hid h2
  have D2 := Lib.hid (D1.out.trans d2)
  have x4 : w2.cell? ⟨w.heap.size, 4, none⟩ = some (.slice a.A4 p.pages.length a.c4) := (HA.out.drewn D2.out).2.2 4 _ rfl
  have y4 : w2.cell? ⟨w.heap.size + 1, 4, none⟩ = some (.slice b.A4 q.pages.length b.c4) := (HB.out.drewn D2.out).2.2 4 _ rfl
  clear h2 d2 x3 y3
  go_wp2_with fail
  refine (C3.out _ D2.out).mono ?_
  rintro e w3 ⟨r3, rfl, h3, d3⟩
  have H3 := Lib.hid h3
  have D3 := Lib.hid (D2.out.trans d3)
  have BB := Lib.hid (B2.out.trans (D3.out.below _))
  clear h3 d3 x4 y4 C2 C3 B2
  have x2 : w3.cell? ⟨w.heap.size, 2, none⟩ = some (.slice a.A2 p.keys.length a.c2) := (HA.out.drewn D3.out).2.2 2 _ rfl
  have y2 : w3.cell? ⟨w.heap.size + 1, 2, none⟩ = some (.slice b.A2 q.keys.length b.c2) := (HB.out.drewn D3.out).2.2 2 _ rfl

  rcases r1 with _ | _
  · have HN : Hid (¬ p = q) := Lib.hid (fun e => by cases (H1.out.2 (by rw [e])))
    clear x2 y2
    go_wp2_with fail
    go_ret
    exact ⟨_, rfl, ⟨fun h => (by cases h), fun h => absurd h HN.out⟩, BB.out⟩
  rcases r2 with _ | _
  · have HN : Hid (¬ p = q) := Lib.hid (fun e => by cases (H2.out.2 (by rw [e])))
    clear x2 y2
    go_wp2_with fail
    go_ret
    exact ⟨_, rfl, ⟨fun h => (by cases h), fun h => absurd h HN.out⟩, BB.out⟩
  rcases r3 with _ | _
  · have HN : Hid (¬ p = q) := Lib.hid (fun e => by cases (H3.out.2 (by rw [e])))
    clear x2 y2
    go_wp2_with fail
    go_ret
    exact ⟨_, rfl, ⟨fun h => (by cases h), fun h => absurd h HN.out⟩, BB.out⟩
  by_cases hl : p.keys.length = q.keys.length
  rotate_left
  · have d0 : ((p.keys.length : Int) != (q.keys.length : Int)) = true := by simp; omega
    have HN : Hid (¬ p = q) := Lib.hid (fun e => hl (by rw [e]))
    clear hl
    go_wp2_with fail
    go_ret
    exact ⟨_, rfl, ⟨fun h => (by cases h), fun h => absurd h HN.out⟩, BB.out⟩
  have d0 : ((p.keys.length : Int) != (q.keys.length : Int)) = false := by simp; omega
  have HL := Lib.hid hl
  have ST := Lib.hid (Drew.refl w3)
  obtain ⟨n, hn⟩ : ∃ n, p.keys.length = n := ⟨_, rfl⟩
  have HN0 := Lib.hid hn
  have hnq : q.keys.length = n := by rw [← hl, hn]
  have HNQ := Lib.hid hnq
  have hn2 : n ≤ 9223372036854775807 := by omega
  have AA := Lib.hid (HA.out.drewn D3.out)
  have AB := Lib.hid (HB.out.drewn D3.out)
  have KK := Lib.hid (RowG.below HK.out (D3.out.below _))
  have KJ := Lib.hid (RowG.below HJ.out (D3.out.below _))
  rw [hn] at x2 d0 AA
  rw [hnq] at y2 d0 AB
  clear hl hn hnq hkl HA HB HK HJ D1 D2 D3
  generalize a.A2 = Ak at *
  generalize b.A2 = Bk at *
  go_wp2_with fail
  clear x2 y2 d0
  go_loopw [8] (fun i wr => ∃ k : Nat, i = .int .i64 (k : Int) ∧ k ≤ n ∧ Hid (p.keys.take k = q.keys.take k) ∧ Drew w3 wr) (fun i _ => n - (intOf i).toNat)
  case atStart => exact ⟨0, rfl, Nat.zero_le _, Lib.hid (by simp), ST.out⟩
  case round =>
    obtain ⟨k, rfl, hk, hQ, hD⟩ := hrel
    have HD := Lib.hid hD
    have x2 := (AA.out.drewn hD).2.2 2 _ rfl
    have y2 := (AB.out.drewn hD).2.2 2 _ rfl
    clear hD
    by_cases hlt : k < n
    · have hka : k < p.keys.length := by have := HN0.out; omega
      have hkb : k < q.keys.length := by have := HNQ.out; omega
      obtain ⟨b1, o1, rfl, -, hc1⟩ := KK.out (by intro e; rw [e] at hka; simp at hka)
      obtain ⟨b2, o2, rfl, -, hc2⟩ := KJ.out (by intro e; rw [e] at hkb; simp at hkb)
      have h1 := hc1 k hka
      have h2 := hc2 k hkb
      rw [← HD.out.cell] at h1 h2
      have HE := Lib.hid (eq_step hka hkb hQ.out)
      have HN := Lib.hid (ne_at hka hkb)
      have HQ := Lib.hid (strB_beq p.keys[k] q.keys[k])
      obtain ⟨X1, eX1⟩ : ∃ X, strB p.keys[k] = X := ⟨_, rfl⟩
      rw [show strV p.keys[k] = .string X1 by rw [← eX1]] at h1
      obtain ⟨X2, eX2⟩ : ∃ X, strB q.keys[k] = X := ⟨_, rfl⟩
      rw [show strV q.keys[k] = .string X2 by rw [← eX2]] at h2
      rw [eX1, eX2] at HQ
      have t1 : (k : Int) < (n : Int) := by omega
      have t3 : (0 : Int) ≤ (k : Int) := by omega
      clear hc1 hc2 hQ eX1 eX2
      by_cases hxy : p.keys[k] = q.keys[k]
      · have e0 : (X1.toList == X2.toList) = true := by rw [HQ.out]; simp [hxy]
        have e1 : (X1.toList != X2.toList) = false := by simp [bne, e0]
        have HF := Lib.hid (HE.out hxy)
        clear hxy HE HN HQ
        go_wp2_with fail
        go_quiet (fail)
        go_wp2_with fail
        go_roundw
        case rel => exact ⟨k + 1, by go_num, by omega, HF, HD.out.drewN _⟩
        case measure => simp [intOf]; omega
      · have e0 : (X1.toList == X2.toList) = false := by rw [HQ.out]; simp [hxy]
        have e1 : (X1.toList != X2.toList) = true := by simp [bne, e0]
        have HF : Hid (¬ p = q) := Lib.hid (fun e => HN.out hxy (by rw [e]))
        clear hxy HE HN HQ
        go_wp2_with fail
        go_quiet (fail)
        go_wp2_with fail
        go_ret
        exact ⟨_, rfl, ⟨fun h => (by cases h), fun h => absurd h HF.out⟩, BB.out.trans ((HD.out.drewN _).below _)⟩
    · have HF := Lib.hid (all_eq (k := k) (by have := HN0.out; omega) HL.out hQ.out)
      clear hQ
      have x0 : wr.cell? ⟨w.heap.size, 0, none⟩ = some (.int .i64 p.kind) := (AA.out.drewn HD.out).2.2 0 _ rfl
      have x5 : wr.cell? ⟨w.heap.size, 5, none⟩ = some (.int .i64 p.next) := (AA.out.drewn HD.out).2.2 5 _ rfl
      have x6 : wr.cell? ⟨w.heap.size, 6, none⟩ = some (.int .u64 (p.epoch : Int)) := (AA.out.drewn HD.out).2.2 6 _ rfl
      have x7 : wr.cell? ⟨w.heap.size, 7, none⟩ = some (.int .i64 p.root) := (AA.out.drewn HD.out).2.2 7 _ rfl
      have x8 : wr.cell? ⟨w.heap.size, 8, none⟩ = some (.int .i64 p.depth) := (AA.out.drewn HD.out).2.2 8 _ rfl
      have x9 : wr.cell? ⟨w.heap.size, 9, none⟩ = some (.int .i64 p.count) := (AA.out.drewn HD.out).2.2 9 _ rfl
      have x10 : wr.cell? ⟨w.heap.size, 10, none⟩ = some (.int .i64 p.high) := (AA.out.drewn HD.out).2.2 10 _ rfl
      have y0 : wr.cell? ⟨w.heap.size + 1, 0, none⟩ = some (.int .i64 q.kind) := (AB.out.drewn HD.out).2.2 0 _ rfl
      have y5 : wr.cell? ⟨w.heap.size + 1, 5, none⟩ = some (.int .i64 q.next) := (AB.out.drewn HD.out).2.2 5 _ rfl
      have y6 : wr.cell? ⟨w.heap.size + 1, 6, none⟩ = some (.int .u64 (q.epoch : Int)) := (AB.out.drewn HD.out).2.2 6 _ rfl
      have y7 : wr.cell? ⟨w.heap.size + 1, 7, none⟩ = some (.int .i64 q.root) := (AB.out.drewn HD.out).2.2 7 _ rfl
      have y8 : wr.cell? ⟨w.heap.size + 1, 8, none⟩ = some (.int .i64 q.depth) := (AB.out.drewn HD.out).2.2 8 _ rfl
      have y9 : wr.cell? ⟨w.heap.size + 1, 9, none⟩ = some (.int .i64 q.count) := (AB.out.drewn HD.out).2.2 9 _ rfl
      have y10 : wr.cell? ⟨w.heap.size + 1, 10, none⟩ = some (.int .i64 q.high) := (AB.out.drewn HD.out).2.2 10 _ rfl

      by_cases g0 : p.kind = q.kind
      rotate_left
      · have e0 : (p.kind == q.kind) = false := beq_eq_false_iff_ne.2 (by exact g0)
        have HX : Hid (¬ p = q) := Lib.hid (fun e => g0 (by rw [e]))
        clear g0
        go_wp2_with fail
        go_ret
        exact ⟨_, rfl, ⟨fun h => (by cases h), fun h => absurd h HX.out⟩, BB.out.trans (HD.out.below _)⟩
      have e0 : (p.kind == q.kind) = true := by rw [g0]; simp
      have G0 := Lib.hid g0
      clear g0
      by_cases g5 : p.next = q.next
      rotate_left
      · have e0 : (p.next == q.next) = false := beq_eq_false_iff_ne.2 (by exact g5)
        have HX : Hid (¬ p = q) := Lib.hid (fun e => g5 (by rw [e]))
        clear g5
        go_wp2_with fail
        go_ret
        exact ⟨_, rfl, ⟨fun h => (by cases h), fun h => absurd h HX.out⟩, BB.out.trans (HD.out.below _)⟩
      have e5 : (p.next == q.next) = true := by rw [g5]; simp
      have G5 := Lib.hid g5
      clear g5
      by_cases g6 : p.epoch = q.epoch
      rotate_left
      · have e0 : ((p.epoch : Int) == (q.epoch : Int)) = false := beq_eq_false_iff_ne.2 (by omega)
        have HX : Hid (¬ p = q) := Lib.hid (fun e => g6 (by rw [e]))
        clear g6
        go_wp2_with fail
        go_ret
        exact ⟨_, rfl, ⟨fun h => (by cases h), fun h => absurd h HX.out⟩, BB.out.trans (HD.out.below _)⟩
      have e6 : ((p.epoch : Int) == (q.epoch : Int)) = true := by rw [g6]; simp
      have G6 := Lib.hid g6
      clear g6
      by_cases g7 : p.root = q.root
      rotate_left
      · have e0 : (p.root == q.root) = false := beq_eq_false_iff_ne.2 (by exact g7)
        have HX : Hid (¬ p = q) := Lib.hid (fun e => g7 (by rw [e]))
        clear g7
        go_wp2_with fail
        go_ret
        exact ⟨_, rfl, ⟨fun h => (by cases h), fun h => absurd h HX.out⟩, BB.out.trans (HD.out.below _)⟩
      have e7 : (p.root == q.root) = true := by rw [g7]; simp
      have G7 := Lib.hid g7
      clear g7
      by_cases g8 : p.depth = q.depth
      rotate_left
      · have e0 : (p.depth == q.depth) = false := beq_eq_false_iff_ne.2 (by exact g8)
        have HX : Hid (¬ p = q) := Lib.hid (fun e => g8 (by rw [e]))
        clear g8
        go_wp2_with fail
        go_ret
        exact ⟨_, rfl, ⟨fun h => (by cases h), fun h => absurd h HX.out⟩, BB.out.trans (HD.out.below _)⟩
      have e8 : (p.depth == q.depth) = true := by rw [g8]; simp
      have G8 := Lib.hid g8
      clear g8
      by_cases g9 : p.count = q.count
      rotate_left
      · have e0 : (p.count == q.count) = false := beq_eq_false_iff_ne.2 (by exact g9)
        have HX : Hid (¬ p = q) := Lib.hid (fun e => g9 (by rw [e]))
        clear g9
        go_wp2_with fail
        go_ret
        exact ⟨_, rfl, ⟨fun h => (by cases h), fun h => absurd h HX.out⟩, BB.out.trans (HD.out.below _)⟩
      have e9 : (p.count == q.count) = true := by rw [g9]; simp
      have G9 := Lib.hid g9
      clear g9
      by_cases g10 : p.high = q.high
      rotate_left
      · have e0 : (p.high == q.high) = false := beq_eq_false_iff_ne.2 (by exact g10)
        have HX : Hid (¬ p = q) := Lib.hid (fun e => g10 (by rw [e]))
        clear g10
        go_wp2_with fail
        go_ret
        exact ⟨_, rfl, ⟨fun h => (by cases h), fun h => absurd h HX.out⟩, BB.out.trans (HD.out.below _)⟩
      have e10 : (p.high == q.high) = true := by rw [g10]; simp
      have G10 := Lib.hid g10
      clear g10
      go_wp2_with fail
      go_ret
      exact ⟨_, rfl, ⟨fun _ => pg_ext (H1.out.1 trivial) HF.out (H2.out.1 trivial) (H3.out.1 trivial) G0.out G5.out G6.out G7.out G8.out G9.out G10.out, fun _ => rfl⟩, BB.out.trans (HD.out.below _)⟩
end Go.Proofs.YthnodkhcenmnfaaGreat.Page
namespace Go.Proofs.YthnodkhcenmnfaaGreat.Page
open Go.RowKit Gen

theorem fold_be (n : Nat) : ∀ (k acc : Nat), (be k n).foldl (fun n b => n * 256 + b.toNat) acc = acc * 256 ^ k + n % 256 ^ k
  | 0, acc => by simp [be, Nat.mod_one]
  | k + 1, acc => by
    have e1 : n % 256 ^ (k + 1) = n % 256 ^ k + 256 ^ k * (n / 256 ^ k % 256) := by rw [Nat.pow_succ, Nat.mod_mul]
    have e2 : (UInt8.ofNat (n / 256 ^ k)).toNat = n / 256 ^ k % 256 := UInt8.toNat_ofNat'
    rw [be, List.foldl_cons, fold_be n k, e1, e2, Nat.add_mul, Nat.pow_succ, Nat.mul_assoc acc, Nat.mul_comm 256, Nat.mul_comm (n / 256 ^ k % 256)]
    omega
theorem ofBe_be (k n : Nat) (h : n < 256 ^ k) : ofBe (be k n) = n := by
  rw [ofBe, fold_be, Nat.zero_mul, Nat.zero_add, Nat.mod_eq_of_lt h]
theorem rWide_be (k n : Nat) (r : Bs) (h : n < 256 ^ k) : rWide k (be k n ++ r) = some (n, r) := by
  rw [rWide, if_pos (by rw [List.length_append, be_len]; omega), List.take_left' (be_len k n), List.drop_left' (be_len k n), ofBe_be k n h]
theorem rNum_be (x : Int) (r : Bs) (h0 : 0 ≤ x) (h1 : x < 65536) : rNum (num2 x ++ r) = some (x, r) := by
  rw [rNum, num2, rWide_be 2 x.toNat r (by omega)]
  simp [Int.toNat_of_nonneg h0]
theorem rText_txt (s r : Bs) (h : s.length < 256) : rText (txt s ++ r) = some (s, r) := by
  rw [rText, txt, List.append_assoc, rWide_be 1 s.length _ (by omega)]
  simp
theorem rPairs_body : ∀ (l : List (Bs × Bs)) (r : Bs), (∀ x ∈ l, x.1.length < 256 ∧ x.2.length < 256) → rPairs l.length ((l.flatMap fun x => txt x.1 ++ txt x.2) ++ r) = some (l, r)
  | [], _, _ => rfl
  | x :: l, r, h => by
    have h1 := h x (List.mem_cons_self ..)
    rw [List.flatMap_cons, List.length_cons, rPairs, List.append_assoc, List.append_assoc, rText_txt _ _ h1.1]
    simp only [Option.bind_some]
    rw [rText_txt _ _ h1.2]
    simp only [Option.bind_some]
    rw [rPairs_body l r (fun y hy => h y (List.mem_cons_of_mem _ hy))]
    rfl
theorem rKids_body : ∀ (l : List (Bs × Int)) (r : Bs), (∀ x ∈ l, x.1.length < 256 ∧ 0 ≤ x.2 ∧ x.2 < 65536) → rKids l.length ((l.flatMap fun x => txt x.1 ++ num2 x.2) ++ r) = some (l, r)
  | [], _, _ => rfl
  | x :: l, r, h => by
    have h1 := h x (List.mem_cons_self ..)
    rw [List.flatMap_cons, List.length_cons, rKids, List.append_assoc, List.append_assoc, rText_txt _ _ h1.1]
    simp only [Option.bind_some]
    rw [rNum_be _ _ h1.2.1 h1.2.2]
    simp only [Option.bind_some]
    rw [rKids_body l r (fun y hy => h y (List.mem_cons_of_mem _ hy))]
    rfl
theorem rInts_body : ∀ (l : List Int) (r : Bs), (∀ x ∈ l, 0 ≤ x ∧ x < 65536) → rInts l.length ((l.flatMap num2) ++ r) = some (l, r)
  | [], _, _ => rfl
  | x :: l, r, h => by
    have h1 := h x (List.mem_cons_self ..)
    rw [List.flatMap_cons, List.length_cons, rInts, List.append_assoc, rNum_be _ _ h1.1 h1.2]
    simp only [Option.bind_some]
    rw [rInts_body l r (fun y hy => h y (List.mem_cons_of_mem _ hy))]
    rfl
theorem place16 {x : Int} (h : Place x) : 0 ≤ x ∧ x < 65536 := by unfold Place at h; omega
theorem rBody_leaf {p : Pg} (g : LeafOk p) (r : Bs) : rLeaf (bodyLeaf p ++ r) = some ({ kind := 1, pairs := p.pairs }, r) := by
  have := g.len.2
  rw [rLeaf, bodyLeaf, List.append_assoc, rNum_be _ _ (by omega) (by omega)]
  simp only [Option.bind_some, Int.toNat_natCast]
  rw [rPairs_body p.pairs r (fun x hx => ⟨by have := (g.all x.1 (List.mem_map_of_mem hx)).2; omega, by have := g.vals x hx; omega⟩)]
  rfl
theorem rBody_branch {p : Pg} (g : BranchOk p) (r : Bs) : rBranch (bodyBranch p ++ r) = some ({ kind := 2, keys := p.keys, kids := p.kids }, r) := by
  have := g.len.2
  have hk := g.kids
  rcases hd : p.kids with _ | ⟨z, ds⟩
  · rw [hd] at hk; simp at hk
  have hz := place16 (g.places z (by rw [hd]; exact List.mem_cons_self ..))
  have hlen : ds.length = p.keys.length := by rw [hd] at hk; simpa using hk
  rw [rBranch, bodyBranch, hd, List.headD_cons, List.tail_cons, List.append_assoc, List.append_assoc, rNum_be _ _ (by omega) (by omega)]
  simp only [Option.bind_some, Int.toNat_natCast]
  rw [rNum_be _ _ hz.1 hz.2]
  simp only [Option.bind_some]
  have h := rKids_body (p.keys.zip ds) r (fun x hx => ⟨by have := (g.all x.1 (List.of_mem_zip hx).1).2; omega, place16 (g.places x.2 (by rw [hd]; exact List.mem_cons_of_mem _ (List.of_mem_zip hx).2))⟩)
  rw [show (p.keys.zip ds).length = p.keys.length by rw [List.length_zip]; omega] at h
  rw [h]
  simp only [Option.map_some]
  rw [List.map_fst_zip (by omega), List.map_snd_zip (by omega)]
theorem rBody_free {p : Pg} (g : FreeOk p) (r : Bs) : rFree (bodyFree p ++ r) = some ({ kind := 3, pages := p.pages, next := p.next }, r) := by
  have := g.len
  have hx : 0 ≤ p.next ∧ p.next < 65536 := by rcases g.next with h | h; omega; exact place16 h
  rw [rFree, bodyFree, List.append_assoc, List.append_assoc, rNum_be _ _ (by omega) (by omega)]
  simp only [Option.bind_some, Int.toNat_natCast]
  rw [rInts_body p.pages _ (fun x hx => place16 (g.all x hx))]
  simp only [Option.bind_some]
  rw [rNum_be _ _ hx.1 hx.2]
  rfl
theorem rBody_super {p : Pg} (g : SuperOk p) (r : Bs) : rSuper (bodySuper p ++ r) = some ({ kind := 4, root := p.root, depth := p.depth, count := p.count, high := p.high, next := p.next }, r) := by
  have hr : 0 ≤ p.root ∧ p.root < 65536 := by rcases g.root with h | h; omega; exact place16 h
  have hx : 0 ≤ p.next ∧ p.next < 65536 := by rcases g.next with h | h; omega; exact place16 h
  have hd := g.depth
  have hc := g.count
  have hh := g.high
  rw [rSuper, bodySuper, List.append_assoc, List.append_assoc, List.append_assoc, List.append_assoc, rNum_be _ _ hr.1 hr.2]
  simp only [Option.bind_some]
  rw [rNum_be _ _ (by omega) (by omega)]
  simp only [Option.bind_some]
  rw [rWide_be 4 _ _ (by omega)]
  simp only [Option.bind_some]
  rw [rNum_be _ _ (by omega) (by omega)]
  simp only [Option.bind_some]
  rw [rNum_be _ _ hx.1 hx.2]
  simp [Int.toNat_of_nonneg hc.1]
/-- A page's bytes are read as it, but for its Epoch. -/
theorem rPage_back {s : Int} {p : Pg} (h : Fine p) (r : Bs) : rPage (pageBs s p ++ r) = some ({ p with epoch := 0 }, r) := by
  have hk : 0 ≤ p.kind ∧ p.kind ≤ 4 := by rcases h with ⟨h, _⟩ | ⟨h, _⟩ | ⟨h, _⟩ | ⟨h, _⟩ <;> omega
  rw [rPage, pageBs, List.append_assoc, List.append_assoc, rWide_be 1 _ _ (by omega)]
  simp only [Option.bind_some]
  rw [if_pos (by rw [List.length_append, num2_len]; omega), List.drop_left' (num2_len s)]
  unfold rBody bodyOf
  rcases h with ⟨hk, g, a1, a2, a3, a4, b1, b2, b3, b4, b5⟩ | ⟨hk, g, a1, a2, a3, b1, b2, b3, b4, b5⟩ | ⟨hk, g, a1, a2, a3, b1, b2, b3, b4, b5⟩ | ⟨hk, g, a1, a2, a3, a4⟩
  · rw [if_pos (by rw [hk]; rfl), if_pos hk, rBody_leaf g r]
    exact congrArg (fun q => some (q, r)) (pg_ext rfl (List.eq_nil_of_length_eq_zero a1).symm (List.eq_nil_of_length_eq_zero a2).symm (List.eq_nil_of_length_eq_zero a3).symm hk.symm a4.symm rfl b2.symm b3.symm b4.symm b5.symm)
  · rw [if_neg (by rw [hk]; decide), if_pos (by rw [hk]; rfl), if_neg (by omega), if_pos hk, rBody_branch g r]
    exact congrArg (fun q => some (q, r)) (pg_ext (List.eq_nil_of_length_eq_zero a1).symm rfl rfl (List.eq_nil_of_length_eq_zero a2).symm hk.symm a3.symm rfl b2.symm b3.symm b4.symm b5.symm)
  · rw [if_neg (by rw [hk]; decide), if_neg (by rw [hk]; decide), if_pos (by rw [hk]; rfl), if_neg (by omega), if_neg (by omega), if_pos hk, rBody_free g r]
    exact congrArg (fun q => some (q, r)) (pg_ext (List.eq_nil_of_length_eq_zero a1).symm (List.eq_nil_of_length_eq_zero a2).symm (List.eq_nil_of_length_eq_zero a3).symm rfl hk.symm rfl rfl b2.symm b3.symm b4.symm b5.symm)
  · rw [if_neg (by rw [hk]; decide), if_neg (by rw [hk]; decide), if_neg (by rw [hk]; decide), if_pos (by rw [hk]; rfl), if_neg (by omega), if_neg (by omega), if_neg (by omega), rBody_super g r]
    exact congrArg (fun q => some (q, r)) (pg_ext (List.eq_nil_of_length_eq_zero a1).symm (List.eq_nil_of_length_eq_zero a2).symm (List.eq_nil_of_length_eq_zero a3).symm (List.eq_nil_of_length_eq_zero a4).symm hk.symm rfl rfl rfl rfl rfl rfl)
/-- What Encode makes is read as what it was made of. -/
theorem dec_of_enc {s : Int} {p : Pg} {l : Bs} (h : Enc s p l) (hep : p.epoch < 18446744073709551616) : IsDec s l p := by
  refine ⟨?_, h⟩
  obtain ⟨hf, ⟨hk, hs, rfl⟩ | ⟨hk, hs, rfl⟩⟩ := h
  · rw [rRead, if_pos hs, doubledBs, rWide_be 8 _ _ (by omega)]
    simp only [Option.bind_some, padTo, List.append_assoc]
    rw [rPage_back hf]
    rfl
  · have hs2 : ¬ (s = 0 ∨ s = 1) := by unfold Place at hs; omega
    rw [rRead, if_neg hs2, summedBs, padTo, List.append_assoc, rPage_back hf]
    have e : p.epoch = 0 := by
      rcases hf with ⟨_, _, _, _, _, _, e, _⟩ | ⟨_, _, _, _, _, e, _⟩ | ⟨_, _, _, _, _, e, _⟩ | ⟨h, _⟩
      · exact e
      · exact e
      · exact e
      · exact absurd h hk
    exact congrArg some (pg_ext rfl rfl rfl rfl rfl rfl e.symm rfl rfl rfl rfl)
theorem enc_len {s : Int} {p : Pg} {l : Bs} (h : Enc s p l) : l.length = 1024 := by
  obtain ⟨hf, ⟨hk, _, rfl⟩ | ⟨hk, _, rfl⟩⟩ := h
  · have := page_len4 (s := s) hk
    simp [doubledBs, be_len, zeros, pad_len (n := 496) (l := pageBs s p) (by omega)]
  · simp [summedBs, be_len, pad_len (n := 1016) (l := pageBs s p) (page_len hf)]
end Go.Proofs.YthnodkhcenmnfaaGreat.Page
namespace Go.Proofs.YthnodkhcenmnfaaGreat.Page
open Go.RowKit Gen

def pg0 : Pg := { kind := 1, pairs := [([97], [120, 121])] }
theorem fine0 : Fine pg0 := by
  refine (fine1 rfl).2 ⟨⟨by decide, fun x hx => ?_, fun s hs => ?_, fun j hj => ?_⟩, rfl, rfl, rfl, rfl, rfl, rfl, rfl, rfl, rfl⟩
  · simp only [pg0, List.mem_singleton] at hx; subst hx; decide
  · simp only [pg0, List.map_cons, List.map_nil, List.mem_singleton] at hs; subst hs; exact ⟨by decide, by decide⟩
  · simp [pg0] at hj
def L0 : Bs := summedBs (be 1 1 ++ (num2 5 ++ (num2 1 ++ (txt [97] ++ txt [120, 121]))))
theorem page0 : pageBs 5 pg0 = be 1 1 ++ (num2 5 ++ (num2 1 ++ (txt [97] ++ txt [120, 121]))) := by
  unfold pageBs bodyOf
  rw [if_pos (show pg0.kind = 1 from rfl)]
  simp [pg0, bodyLeaf]
theorem enc0 : Enc 5 pg0 L0 := ⟨fine0, .inr ⟨by decide, ⟨by decide, by decide⟩, by rw [page0]; rfl⟩⟩
theorem dec0 : IsDec 5 L0 pg0 := dec_of_enc enc0 (by decide)
/-- The second and the third byte of a page that is no superblock are its sector. -/
theorem enc_sector {s : Int} {p : Pg} {l : Bs} (h : Enc s p l) (hs : ¬ (s = 0 ∨ s = 1)) : (l.drop 1).take 2 = num2 s := by
  obtain ⟨hf, ⟨_, h1, _⟩ | ⟨_, _, rfl⟩⟩ := h
  · exact absurd h1 hs
  · rw [summedBs, padTo, pageBs, List.append_assoc, List.append_assoc, List.append_assoc, List.drop_left' (be_len 1 _), List.take_left' (num2_len s)]
theorem not6 (q : Pg) : ¬ IsDec 6 L0 q := fun h => by
  have h1 := enc_sector h.2 (by decide)
  have h2 := enc_sector enc0 (by decide)
  rw [h1] at h2
  exact absurd h2 (by decide)
theorem not0 (l : Bs) : ¬ Enc 0 pg0 l := fun h => by
  obtain ⟨_, ⟨h, _⟩ | ⟨_, h, _⟩⟩ := h
  · exact absurd h (by decide)
  · unfold Place at h; omega
theorem bare1 : ¬ Fine { kind := 1 } := fun h => by
  have := ((fine1 rfl).1 h).1.len
  simp at this
theorem heads0 : L0.length = 1024 ∧ L0[0]? = some 1 ∧ L0[2]? = some 5 ∧ L0[4]? = some 1 ∧ L0[6]? = some 97 := by
  refine ⟨enc_len enc0, ?_⟩
  have e : ∃ r, L0 = [1, 0, 5, 0, 1, 1, 97] ++ r := ⟨_, by unfold L0 summedBs padTo; rw [show be 1 1 ++ (num2 5 ++ (num2 1 ++ (txt [97] ++ txt [120, 121]))) = [1, 0, 5, 0, 1, 1, 97] ++ [2, 120, 121] by decide, List.append_assoc, List.append_assoc]⟩
  obtain ⟨r, e⟩ := e
  rw [e]
  exact ⟨rfl, rfl, rfl, rfl⟩
end Go.Proofs.YthnodkhcenmnfaaGreat.Page
namespace Go.Proofs.YthnodkhcenmnfaaGreat.Page
open Go.RowKit Gen

theorem decode_any (s : Int) (A : Option Addr) (n c : Nat) (u : Bs) (w : World) (h : BytesAt w A n c u) : Calls Tryz.prog 89 #[.int .i64 s, .slice A n c] w (DecPost s u w) := by
  rcases hr : rRead s u with _ | p
  · exact decode_none s A n c u w h hr
  · exact decode_some s A n c u w h p hr
theorem dec_fun {s : Int} {u : Bs} {p q : Pg} (h : IsDec s u p) (g : IsDec s u q) : p = q := by
  have := h.1.symm.trans g.1
  cases this
  rfl
theorem dec_back {s : Int} {p : Pg} {l : Bs} {w w' : World} {e : Ending} (h : Enc s p l) (hok : p.epoch < 18446744073709551616) (hd : DecPost s l w e w') : Below w.heap.size w w' ∧ ∃ a, e = .returned (.tuple #[pgV p a, numV 0]) ∧ PgRows w' p a ∧ PgOk p ∧ New a w.heap.size := by
  obtain ⟨hb, ⟨q, a, rfl, hr, ho, hq, hw⟩ | ⟨_, hno⟩⟩ := hd
  · obtain rfl := dec_fun (dec_of_enc h hok) hq
    exact ⟨hb, a, rfl, hr, ho, hw⟩
  · exact absurd (dec_of_enc h hok) (hno p)
end Go.Proofs.YthnodkhcenmnfaaGreat.Page
