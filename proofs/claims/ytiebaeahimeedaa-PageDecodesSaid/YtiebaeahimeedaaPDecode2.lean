/-
  Contract of page's Decode, whole.
-/
import Derived.Test.YtiebaeahimeedaaPDecode
namespace Go.Proofs.Ytiebaeahimeedaa.Page
open Go.RowKit Gen

set_option maxRecDepth 100000 in
set_option maxHeartbeats 8000000 in
theorem decode_none (s : Int) (A : Option Addr) (n c : Nat) (u : Bs) (w : World) (h : BytesAt w A n c u) (hr : rRead s u = none) : Calls Try.prog 16 #[.int .i64 s, .slice A n c] w (DecPost s u w) := by
  have b0 : Below w.heap.size w (w.alloc (.cells (pC 0) 28)) := (Below.refl _ _).alloc (Nat.le_refl _) _
  have cR := read_any s A n c u _ (h.below b0)
  rw [hr] at cR
  have AR := Lib.hid (show At (w.alloc (.cells (pC 0) 28)) w.heap.size (pC 0) from At.of_block (heap_alloc_last w _))
  have SZ := Lib.hid (show w.heap.size < (w.alloc (.cells (pC 0) 28)).heap.size by simp)
  have B0 := Lib.hid b0
  have HN := Lib.hid hr
  clear h b0 hr
  unfold pC pgC at *
  go_enter Try.func16, Try.ntmps16
  go_wp2_with fail
  refine cR.mono ?_
  rintro e w1 ⟨hb, rfl⟩
  have AZ := Lib.hid ((AR.out.below hb SZ.out).below ((Below.refl w1.heap.size w1).alloc (Nat.le_refl _) (.cells (pC 0) 28)) (Nat.lt_of_lt_of_le SZ.out hb.size))
  have BL := Lib.hid ((B0.out.trans (hb.mono B0.out.size)).alloc (Nat.le_trans B0.out.size hb.size) (.cells (pC 0) 28))
  clear hb cR AR SZ B0
  unfold pC pgC at AZ BL

  have AZ : Hid (At (w1.alloc (.cells #[.int .i64 0, .slice none 0 0, .slice none 0 0, .slice none 0 0, .slice none 0 0, .int .i64 0, .int .u64 0, .int .i64 0, .int .i64 0, .int .i64 0, .int .i64 0] 28)) w.heap.size (pC 0)) := AZ
  have BL : Hid (Below w.heap.size w (w1.alloc (.cells #[.int .i64 0, .slice none 0 0, .slice none 0 0, .slice none 0 0, .slice none 0 0, .int .i64 0, .int .u64 0, .int .i64 0, .int .i64 0, .int .i64 0, .int .i64 0] 28))) := BL
  have r0 : (w1.alloc (.cells #[.int .i64 0, .slice none 0 0, .slice none 0 0, .slice none 0 0, .slice none 0 0, .int .i64 0, .int .u64 0, .int .i64 0, .int .i64 0, .int .i64 0, .int .i64 0] 28)).cell? ⟨w.heap.size, 0, none⟩ = some (.int .i64 0) := AZ.out.2.2 0 _ rfl
  have r1 : (w1.alloc (.cells #[.int .i64 0, .slice none 0 0, .slice none 0 0, .slice none 0 0, .slice none 0 0, .int .i64 0, .int .u64 0, .int .i64 0, .int .i64 0, .int .i64 0, .int .i64 0] 28)).cell? ⟨w.heap.size, 1, none⟩ = some (.slice none 0 0) := AZ.out.2.2 1 _ rfl
  have r2 : (w1.alloc (.cells #[.int .i64 0, .slice none 0 0, .slice none 0 0, .slice none 0 0, .slice none 0 0, .int .i64 0, .int .u64 0, .int .i64 0, .int .i64 0, .int .i64 0, .int .i64 0] 28)).cell? ⟨w.heap.size, 2, none⟩ = some (.slice none 0 0) := AZ.out.2.2 2 _ rfl
  have r3 : (w1.alloc (.cells #[.int .i64 0, .slice none 0 0, .slice none 0 0, .slice none 0 0, .slice none 0 0, .int .i64 0, .int .u64 0, .int .i64 0, .int .i64 0, .int .i64 0, .int .i64 0] 28)).cell? ⟨w.heap.size, 3, none⟩ = some (.slice none 0 0) := AZ.out.2.2 3 _ rfl
  have r4 : (w1.alloc (.cells #[.int .i64 0, .slice none 0 0, .slice none 0 0, .slice none 0 0, .slice none 0 0, .int .i64 0, .int .u64 0, .int .i64 0, .int .i64 0, .int .i64 0, .int .i64 0] 28)).cell? ⟨w.heap.size, 4, none⟩ = some (.slice none 0 0) := AZ.out.2.2 4 _ rfl
  have r5 : (w1.alloc (.cells #[.int .i64 0, .slice none 0 0, .slice none 0 0, .slice none 0 0, .slice none 0 0, .int .i64 0, .int .u64 0, .int .i64 0, .int .i64 0, .int .i64 0, .int .i64 0] 28)).cell? ⟨w.heap.size, 5, none⟩ = some (.int .i64 0) := AZ.out.2.2 5 _ rfl
  have r6 : (w1.alloc (.cells #[.int .i64 0, .slice none 0 0, .slice none 0 0, .slice none 0 0, .slice none 0 0, .int .i64 0, .int .u64 0, .int .i64 0, .int .i64 0, .int .i64 0, .int .i64 0] 28)).cell? ⟨w.heap.size, 6, none⟩ = some (.int .u64 0) := AZ.out.2.2 6 _ rfl
  have r7 : (w1.alloc (.cells #[.int .i64 0, .slice none 0 0, .slice none 0 0, .slice none 0 0, .slice none 0 0, .int .i64 0, .int .u64 0, .int .i64 0, .int .i64 0, .int .i64 0, .int .i64 0] 28)).cell? ⟨w.heap.size, 7, none⟩ = some (.int .i64 0) := AZ.out.2.2 7 _ rfl
  have r8 : (w1.alloc (.cells #[.int .i64 0, .slice none 0 0, .slice none 0 0, .slice none 0 0, .slice none 0 0, .int .i64 0, .int .u64 0, .int .i64 0, .int .i64 0, .int .i64 0, .int .i64 0] 28)).cell? ⟨w.heap.size, 8, none⟩ = some (.int .i64 0) := AZ.out.2.2 8 _ rfl
  have r9 : (w1.alloc (.cells #[.int .i64 0, .slice none 0 0, .slice none 0 0, .slice none 0 0, .slice none 0 0, .int .i64 0, .int .u64 0, .int .i64 0, .int .i64 0, .int .i64 0, .int .i64 0] 28)).cell? ⟨w.heap.size, 9, none⟩ = some (.int .i64 0) := AZ.out.2.2 9 _ rfl
  have r10 : (w1.alloc (.cells #[.int .i64 0, .slice none 0 0, .slice none 0 0, .slice none 0 0, .slice none 0 0, .int .i64 0, .int .u64 0, .int .i64 0, .int .i64 0, .int .i64 0, .int .i64 0] 28)).cell? ⟨w.heap.size, 10, none⟩ = some (.int .i64 0) := AZ.out.2.2 10 _ rfl
  have fz := AZ.out.2.1
  have A3 := Lib.hid (set11_at AZ.out (.int .i64 0) (.slice none 0 0) (.slice none 0 0) (.slice none 0 0) (.slice none 0 0) (.int .i64 0) (.int .u64 0) (.int .i64 0) (.int .i64 0) (.int .i64 0) (.int .i64 0))
  have B3 := Lib.hid (BL.out.grown (set11_only (w1.alloc (.cells #[.int .i64 0, .slice none 0 0, .slice none 0 0, .slice none 0 0, .slice none 0 0, .int .i64 0, .int .u64 0, .int .i64 0, .int .i64 0, .int .i64 0, .int .i64 0] 28)) w.heap.size (.int .i64 0) (.slice none 0 0) (.slice none 0 0) (.slice none 0 0) (.slice none 0 0) (.int .i64 0) (.int .u64 0) (.int .i64 0) (.int .i64 0) (.int .i64 0) (.int .i64 0)) BL.out.size (fun k hk => by cases hk; omega))
  go_wp2_with fail
  change bodyPost _ _ _ _ _ (set11 (w1.alloc (.cells #[.int .i64 0, .slice none 0 0, .slice none 0 0, .slice none 0 0, .slice none 0 0, .int .i64 0, .int .u64 0, .int .i64 0, .int .i64 0, .int .i64 0, .int .i64 0] 28)) w.heap.size (.int .i64 0) (.slice none 0 0) (.slice none 0 0) (.slice none 0 0) (.slice none 0 0) (.int .i64 0) (.int .u64 0) (.int .i64 0) (.int .i64 0) (.int .i64 0) (.int .i64 0))
  generalize set11 (w1.alloc (.cells #[.int .i64 0, .slice none 0 0, .slice none 0 0, .slice none 0 0, .slice none 0 0, .int .i64 0, .int .u64 0, .int .i64 0, .int .i64 0, .int .i64 0, .int .i64 0] 28)) w.heap.size (.int .i64 0) (.slice none 0 0) (.slice none 0 0) (.slice none 0 0) (.slice none 0 0) (.int .i64 0) (.int .u64 0) (.int .i64 0) (.int .i64 0) (.int .i64 0) (.int .i64 0) = W9 at *
  clear r0 r1 r2 r3 r4 r5 r6 r7 r8 r9 r10 fz
  have c0 : W9.cell? ⟨w.heap.size, 0, none⟩ = some (.int .i64 0) := A3.out.2.2 0 _ rfl
  have c1 : W9.cell? ⟨w.heap.size, 1, none⟩ = some (.slice none 0 0) := A3.out.2.2 1 _ rfl
  have c2 : W9.cell? ⟨w.heap.size, 2, none⟩ = some (.slice none 0 0) := A3.out.2.2 2 _ rfl
  have c3 : W9.cell? ⟨w.heap.size, 3, none⟩ = some (.slice none 0 0) := A3.out.2.2 3 _ rfl
  have c4 : W9.cell? ⟨w.heap.size, 4, none⟩ = some (.slice none 0 0) := A3.out.2.2 4 _ rfl
  have c5 : W9.cell? ⟨w.heap.size, 5, none⟩ = some (.int .i64 0) := A3.out.2.2 5 _ rfl
  have c6 : W9.cell? ⟨w.heap.size, 6, none⟩ = some (.int .u64 0) := A3.out.2.2 6 _ rfl
  have c7 : W9.cell? ⟨w.heap.size, 7, none⟩ = some (.int .i64 0) := A3.out.2.2 7 _ rfl
  have c8 : W9.cell? ⟨w.heap.size, 8, none⟩ = some (.int .i64 0) := A3.out.2.2 8 _ rfl
  have c9 : W9.cell? ⟨w.heap.size, 9, none⟩ = some (.int .i64 0) := A3.out.2.2 9 _ rfl
  have c10 : W9.cell? ⟨w.heap.size, 10, none⟩ = some (.int .i64 0) := A3.out.2.2 10 _ rfl
  refine bodyPost_ret (v := .tuple #[pgV { kind := 0 } {}, numV 50]) (by simp [results, Try.results16, go_sem, *]) rfl ?_
  exact ⟨B3.out, .inr ⟨rfl, fun p g => by have := HN.out.symm.trans g.1; cases this⟩⟩

set_option maxRecDepth 100000 in
set_option maxHeartbeats 8000000 in
theorem decode_some (s : Int) (A : Option Addr) (n c : Nat) (u : Bs) (w : World) (h : BytesAt w A n c u) (p : Pg) (hr : rRead s u = some p) : Calls Try.prog 16 #[.int .i64 s, .slice A n c] w (DecPost s u w) := by
  have b0 : Below w.heap.size w (w.alloc (.cells (pC 0) 28)) := (Below.refl _ _).alloc (Nat.le_refl _) _
  have cR := read_any s A n c u _ (h.below b0)
  rw [hr] at cR
  have AR := Lib.hid (show At (w.alloc (.cells (pC 0) 28)) w.heap.size (pC 0) from At.of_block (heap_alloc_last w _))
  have SZ := Lib.hid (show w.heap.size < (w.alloc (.cells (pC 0) 28)).heap.size by simp)
  have B0 := Lib.hid b0
  have HN := Lib.hid hr
  have HH := Lib.hid h
  clear h b0 hr
  unfold pC pgC at *
  go_enter Try.func16, Try.ntmps16
  go_wp2_with fail
  refine cR.mono ?_
  rintro e w1 ⟨hb, a, rfl, hrows, hok, hnew⟩
  have hb1 := B0.out.trans (hb.mono B0.out.size)
  have hal : Below w1.heap.size w1 (w1.alloc (.cells (pgC p a) 28)) := (Below.refl _ _).alloc (Nat.le_refl _) _
  have AZ1 := Lib.hid ((AR.out.below hb SZ.out).below hal (Nat.lt_of_lt_of_le SZ.out hb.size))
  have AP1 := Lib.hid (show At (w1.alloc (.cells (pgC p a) 28)) w1.heap.size (pgC p a) from At.of_block (heap_alloc_last w1 _))
  have BL1 := Lib.hid (hb1.trans (hal.mono hb1.size))
  have RW1 := Lib.hid (hrows.below hal)
  have OK := Lib.hid hok
  have SZ1 := Lib.hid (show w.heap.size < (w1.alloc (.cells (pgC p a) 28)).heap.size ∧ w1.heap.size < (w1.alloc (.cells (pgC p a) 28)).heap.size ∧ w.heap.size < w1.heap.size by have := SZ.out; have := hb.size; simp at *; omega)
  have NW := Lib.hid (hnew.mono (show w.heap.size + 1 ≤ _ by simp))
  have cE := encode_any s p a _ hok RW1.out
  clear hb hrows hok hb1 hal cR AR SZ B0 hnew
  unfold pC pgC at *
  go_wp2_with fail
  refine cE.mono ?_
  rintro e w2 (⟨A2, n2, c2', l, rfl, hby, henc, hb⟩ | ⟨rfl, hno, hb⟩)
  rotate_left
  · have AZ := Lib.hid (AZ1.out.below hb SZ1.out.1)
    have BL := Lib.hid (BL1.out.trans (hb.mono BL1.out.size))
    have HE := Lib.hid hno
    clear hb hno cE AZ1 AP1 BL1

    have r0 : w2.cell? ⟨w.heap.size, 0, none⟩ = some (.int .i64 0) := AZ.out.2.2 0 _ rfl
    have r1 : w2.cell? ⟨w.heap.size, 1, none⟩ = some (.slice none 0 0) := AZ.out.2.2 1 _ rfl
    have r2 : w2.cell? ⟨w.heap.size, 2, none⟩ = some (.slice none 0 0) := AZ.out.2.2 2 _ rfl
    have r3 : w2.cell? ⟨w.heap.size, 3, none⟩ = some (.slice none 0 0) := AZ.out.2.2 3 _ rfl
    have r4 : w2.cell? ⟨w.heap.size, 4, none⟩ = some (.slice none 0 0) := AZ.out.2.2 4 _ rfl
    have r5 : w2.cell? ⟨w.heap.size, 5, none⟩ = some (.int .i64 0) := AZ.out.2.2 5 _ rfl
    have r6 : w2.cell? ⟨w.heap.size, 6, none⟩ = some (.int .u64 0) := AZ.out.2.2 6 _ rfl
    have r7 : w2.cell? ⟨w.heap.size, 7, none⟩ = some (.int .i64 0) := AZ.out.2.2 7 _ rfl
    have r8 : w2.cell? ⟨w.heap.size, 8, none⟩ = some (.int .i64 0) := AZ.out.2.2 8 _ rfl
    have r9 : w2.cell? ⟨w.heap.size, 9, none⟩ = some (.int .i64 0) := AZ.out.2.2 9 _ rfl
    have r10 : w2.cell? ⟨w.heap.size, 10, none⟩ = some (.int .i64 0) := AZ.out.2.2 10 _ rfl
    have fz := AZ.out.2.1
    have A3 := Lib.hid (set11_at AZ.out (.int .i64 0) (.slice none 0 0) (.slice none 0 0) (.slice none 0 0) (.slice none 0 0) (.int .i64 0) (.int .u64 0) (.int .i64 0) (.int .i64 0) (.int .i64 0) (.int .i64 0))
    have B3 := Lib.hid (BL.out.grown (set11_only w2 w.heap.size (.int .i64 0) (.slice none 0 0) (.slice none 0 0) (.slice none 0 0) (.slice none 0 0) (.int .i64 0) (.int .u64 0) (.int .i64 0) (.int .i64 0) (.int .i64 0) (.int .i64 0)) BL.out.size (fun k hk => by cases hk; omega))
    go_wp2_with fail
    change bodyPost _ _ _ _ _ (set11 w2 w.heap.size (.int .i64 0) (.slice none 0 0) (.slice none 0 0) (.slice none 0 0) (.slice none 0 0) (.int .i64 0) (.int .u64 0) (.int .i64 0) (.int .i64 0) (.int .i64 0) (.int .i64 0))
    generalize set11 w2 w.heap.size (.int .i64 0) (.slice none 0 0) (.slice none 0 0) (.slice none 0 0) (.slice none 0 0) (.int .i64 0) (.int .u64 0) (.int .i64 0) (.int .i64 0) (.int .i64 0) (.int .i64 0) = W9 at *
    clear r0 r1 r2 r3 r4 r5 r6 r7 r8 r9 r10 fz
    have c0 : W9.cell? ⟨w.heap.size, 0, none⟩ = some (.int .i64 0) := A3.out.2.2 0 _ rfl
    have c1 : W9.cell? ⟨w.heap.size, 1, none⟩ = some (.slice none 0 0) := A3.out.2.2 1 _ rfl
    have c2 : W9.cell? ⟨w.heap.size, 2, none⟩ = some (.slice none 0 0) := A3.out.2.2 2 _ rfl
    have c3 : W9.cell? ⟨w.heap.size, 3, none⟩ = some (.slice none 0 0) := A3.out.2.2 3 _ rfl
    have c4 : W9.cell? ⟨w.heap.size, 4, none⟩ = some (.slice none 0 0) := A3.out.2.2 4 _ rfl
    have c5 : W9.cell? ⟨w.heap.size, 5, none⟩ = some (.int .i64 0) := A3.out.2.2 5 _ rfl
    have c6 : W9.cell? ⟨w.heap.size, 6, none⟩ = some (.int .u64 0) := A3.out.2.2 6 _ rfl
    have c7 : W9.cell? ⟨w.heap.size, 7, none⟩ = some (.int .i64 0) := A3.out.2.2 7 _ rfl
    have c8 : W9.cell? ⟨w.heap.size, 8, none⟩ = some (.int .i64 0) := A3.out.2.2 8 _ rfl
    have c9 : W9.cell? ⟨w.heap.size, 9, none⟩ = some (.int .i64 0) := A3.out.2.2 9 _ rfl
    have c10 : W9.cell? ⟨w.heap.size, 10, none⟩ = some (.int .i64 0) := A3.out.2.2 10 _ rfl
    refine bodyPost_ret (v := .tuple #[pgV { kind := 0 } {}, numV 50]) (by simp [results, Try.results16, go_sem, *]) rfl ?_
    exact ⟨B3.out, .inr ⟨rfl, fun q g => by have e := HN.out.symm.trans g.1; cases e; exact HE.out _ g.2⟩⟩

  · have AZ := Lib.hid (AZ1.out.below hb SZ1.out.1)
    have AP := Lib.hid (AP1.out.below hb SZ1.out.2.1)
    have BL := Lib.hid (BL1.out.trans (hb.mono BL1.out.size))
    have RW := Lib.hid (RW1.out.below hb)
    have HE := Lib.hid henc
    have cQ := equal_any A2 A n2 c2' n c l u w2 hby.len HH.out.len hby.row (RowG.below HH.out.row BL.out)
    have HB := Lib.hid hb.size
    clear hb henc hby cE AZ1 AP1 BL1 RW1
    go_wp2_with fail
    refine cQ.mono ?_
    rintro e w' ⟨r, rfl, hq, rfl⟩
    rcases r with _ | _
    · have HQ := Lib.hid hq
      clear hq cQ

      have r0 : w2.cell? ⟨w.heap.size, 0, none⟩ = some (.int .i64 0) := AZ.out.2.2 0 _ rfl
      have r1 : w2.cell? ⟨w.heap.size, 1, none⟩ = some (.slice none 0 0) := AZ.out.2.2 1 _ rfl
      have r2 : w2.cell? ⟨w.heap.size, 2, none⟩ = some (.slice none 0 0) := AZ.out.2.2 2 _ rfl
      have r3 : w2.cell? ⟨w.heap.size, 3, none⟩ = some (.slice none 0 0) := AZ.out.2.2 3 _ rfl
      have r4 : w2.cell? ⟨w.heap.size, 4, none⟩ = some (.slice none 0 0) := AZ.out.2.2 4 _ rfl
      have r5 : w2.cell? ⟨w.heap.size, 5, none⟩ = some (.int .i64 0) := AZ.out.2.2 5 _ rfl
      have r6 : w2.cell? ⟨w.heap.size, 6, none⟩ = some (.int .u64 0) := AZ.out.2.2 6 _ rfl
      have r7 : w2.cell? ⟨w.heap.size, 7, none⟩ = some (.int .i64 0) := AZ.out.2.2 7 _ rfl
      have r8 : w2.cell? ⟨w.heap.size, 8, none⟩ = some (.int .i64 0) := AZ.out.2.2 8 _ rfl
      have r9 : w2.cell? ⟨w.heap.size, 9, none⟩ = some (.int .i64 0) := AZ.out.2.2 9 _ rfl
      have r10 : w2.cell? ⟨w.heap.size, 10, none⟩ = some (.int .i64 0) := AZ.out.2.2 10 _ rfl
      have fz := AZ.out.2.1
      have A3 := Lib.hid (set11_at AZ.out (.int .i64 0) (.slice none 0 0) (.slice none 0 0) (.slice none 0 0) (.slice none 0 0) (.int .i64 0) (.int .u64 0) (.int .i64 0) (.int .i64 0) (.int .i64 0) (.int .i64 0))
      have B3 := Lib.hid (BL.out.grown (set11_only w2 w.heap.size (.int .i64 0) (.slice none 0 0) (.slice none 0 0) (.slice none 0 0) (.slice none 0 0) (.int .i64 0) (.int .u64 0) (.int .i64 0) (.int .i64 0) (.int .i64 0) (.int .i64 0)) BL.out.size (fun k hk => by cases hk; omega))
      go_wp2_with fail
      change bodyPost _ _ _ _ _ (set11 w2 w.heap.size (.int .i64 0) (.slice none 0 0) (.slice none 0 0) (.slice none 0 0) (.slice none 0 0) (.int .i64 0) (.int .u64 0) (.int .i64 0) (.int .i64 0) (.int .i64 0) (.int .i64 0))
      generalize set11 w2 w.heap.size (.int .i64 0) (.slice none 0 0) (.slice none 0 0) (.slice none 0 0) (.slice none 0 0) (.int .i64 0) (.int .u64 0) (.int .i64 0) (.int .i64 0) (.int .i64 0) (.int .i64 0) = W9 at *
      clear r0 r1 r2 r3 r4 r5 r6 r7 r8 r9 r10 fz
      have c0 : W9.cell? ⟨w.heap.size, 0, none⟩ = some (.int .i64 0) := A3.out.2.2 0 _ rfl
      have c1 : W9.cell? ⟨w.heap.size, 1, none⟩ = some (.slice none 0 0) := A3.out.2.2 1 _ rfl
      have c2 : W9.cell? ⟨w.heap.size, 2, none⟩ = some (.slice none 0 0) := A3.out.2.2 2 _ rfl
      have c3 : W9.cell? ⟨w.heap.size, 3, none⟩ = some (.slice none 0 0) := A3.out.2.2 3 _ rfl
      have c4 : W9.cell? ⟨w.heap.size, 4, none⟩ = some (.slice none 0 0) := A3.out.2.2 4 _ rfl
      have c5 : W9.cell? ⟨w.heap.size, 5, none⟩ = some (.int .i64 0) := A3.out.2.2 5 _ rfl
      have c6 : W9.cell? ⟨w.heap.size, 6, none⟩ = some (.int .u64 0) := A3.out.2.2 6 _ rfl
      have c7 : W9.cell? ⟨w.heap.size, 7, none⟩ = some (.int .i64 0) := A3.out.2.2 7 _ rfl
      have c8 : W9.cell? ⟨w.heap.size, 8, none⟩ = some (.int .i64 0) := A3.out.2.2 8 _ rfl
      have c9 : W9.cell? ⟨w.heap.size, 9, none⟩ = some (.int .i64 0) := A3.out.2.2 9 _ rfl
      have c10 : W9.cell? ⟨w.heap.size, 10, none⟩ = some (.int .i64 0) := A3.out.2.2 10 _ rfl
      refine bodyPost_ret (v := .tuple #[pgV { kind := 0 } {}, numV 50]) (by simp [results, Try.results16, go_sem, *]) rfl ?_
      exact ⟨B3.out, .inr ⟨rfl, fun q g => by have e := HN.out.symm.trans g.1; cases e; cases (HQ.out.2 (enc_fun HE.out g.2))⟩⟩

    · obtain rfl := hq.1 rfl
      clear hq cQ
      have c0 : w2.cell? ⟨w1.heap.size, 0, none⟩ = some (.int .i64 p.kind) := AP.out.2.2 0 _ rfl
      have c1 : w2.cell? ⟨w1.heap.size, 1, none⟩ = some (.slice a.A1 p.pairs.length a.c1) := AP.out.2.2 1 _ rfl
      have c2 : w2.cell? ⟨w1.heap.size, 2, none⟩ = some (.slice a.A2 p.keys.length a.c2) := AP.out.2.2 2 _ rfl
      have c3 : w2.cell? ⟨w1.heap.size, 3, none⟩ = some (.slice a.A3 p.kids.length a.c3) := AP.out.2.2 3 _ rfl
      have c4 : w2.cell? ⟨w1.heap.size, 4, none⟩ = some (.slice a.A4 p.pages.length a.c4) := AP.out.2.2 4 _ rfl
      have c5 : w2.cell? ⟨w1.heap.size, 5, none⟩ = some (.int .i64 p.next) := AP.out.2.2 5 _ rfl
      have c6 : w2.cell? ⟨w1.heap.size, 6, none⟩ = some (.int .u64 (p.epoch : Int)) := AP.out.2.2 6 _ rfl
      have c7 : w2.cell? ⟨w1.heap.size, 7, none⟩ = some (.int .i64 p.root) := AP.out.2.2 7 _ rfl
      have c8 : w2.cell? ⟨w1.heap.size, 8, none⟩ = some (.int .i64 p.depth) := AP.out.2.2 8 _ rfl
      have c9 : w2.cell? ⟨w1.heap.size, 9, none⟩ = some (.int .i64 p.count) := AP.out.2.2 9 _ rfl
      have c10 : w2.cell? ⟨w1.heap.size, 10, none⟩ = some (.int .i64 p.high) := AP.out.2.2 10 _ rfl
      have r0 : w2.cell? ⟨w.heap.size, 0, none⟩ = some (.int .i64 0) := AZ.out.2.2 0 _ rfl
      have r1 : w2.cell? ⟨w.heap.size, 1, none⟩ = some (.slice none 0 0) := AZ.out.2.2 1 _ rfl
      have r2 : w2.cell? ⟨w.heap.size, 2, none⟩ = some (.slice none 0 0) := AZ.out.2.2 2 _ rfl
      have r3 : w2.cell? ⟨w.heap.size, 3, none⟩ = some (.slice none 0 0) := AZ.out.2.2 3 _ rfl
      have r4 : w2.cell? ⟨w.heap.size, 4, none⟩ = some (.slice none 0 0) := AZ.out.2.2 4 _ rfl
      have r5 : w2.cell? ⟨w.heap.size, 5, none⟩ = some (.int .i64 0) := AZ.out.2.2 5 _ rfl
      have r6 : w2.cell? ⟨w.heap.size, 6, none⟩ = some (.int .u64 0) := AZ.out.2.2 6 _ rfl
      have r7 : w2.cell? ⟨w.heap.size, 7, none⟩ = some (.int .i64 0) := AZ.out.2.2 7 _ rfl
      have r8 : w2.cell? ⟨w.heap.size, 8, none⟩ = some (.int .i64 0) := AZ.out.2.2 8 _ rfl
      have r9 : w2.cell? ⟨w.heap.size, 9, none⟩ = some (.int .i64 0) := AZ.out.2.2 9 _ rfl
      have r10 : w2.cell? ⟨w.heap.size, 10, none⟩ = some (.int .i64 0) := AZ.out.2.2 10 _ rfl
      have fz := AZ.out.2.1
      have A3 := Lib.hid (set11_at AZ.out (.int .i64 p.kind) (.slice a.A1 p.pairs.length a.c1) (.slice a.A2 p.keys.length a.c2) (.slice a.A3 p.kids.length a.c3) (.slice a.A4 p.pages.length a.c4) (.int .i64 p.next) (.int .u64 (p.epoch : Int)) (.int .i64 p.root) (.int .i64 p.depth) (.int .i64 p.count) (.int .i64 p.high))
      have g3 := set11_only w2 w.heap.size (.int .i64 p.kind) (.slice a.A1 p.pairs.length a.c1) (.slice a.A2 p.keys.length a.c2) (.slice a.A3 p.kids.length a.c3) (.slice a.A4 p.pages.length a.c4) (.int .i64 p.next) (.int .u64 (p.epoch : Int)) (.int .i64 p.root) (.int .i64 p.depth) (.int .i64 p.count) (.int .i64 p.high)
      have B3 := Lib.hid (BL.out.grown g3 BL.out.size (fun k hk => by cases hk; omega))
      have NB := Lib.hid (RW.out.apart g3 NW.out (by omega))
      clear g3
      go_wp2_with fail
      change bodyPost _ _ _ _ _ (set11 w2 w.heap.size (.int .i64 p.kind) (.slice a.A1 p.pairs.length a.c1) (.slice a.A2 p.keys.length a.c2) (.slice a.A3 p.kids.length a.c3) (.slice a.A4 p.pages.length a.c4) (.int .i64 p.next) (.int .u64 (p.epoch : Int)) (.int .i64 p.root) (.int .i64 p.depth) (.int .i64 p.count) (.int .i64 p.high))
      generalize set11 w2 w.heap.size (.int .i64 p.kind) (.slice a.A1 p.pairs.length a.c1) (.slice a.A2 p.keys.length a.c2) (.slice a.A3 p.kids.length a.c3) (.slice a.A4 p.pages.length a.c4) (.int .i64 p.next) (.int .u64 (p.epoch : Int)) (.int .i64 p.root) (.int .i64 p.depth) (.int .i64 p.count) (.int .i64 p.high) = W9 at *
      clear r0 r1 r2 r3 r4 r5 r6 r7 r8 r9 r10 c0 c1 c2 c3 c4 c5 c6 c7 c8 c9 c10 fz
      have c0 : W9.cell? ⟨w.heap.size, 0, none⟩ = some (.int .i64 p.kind) := A3.out.2.2 0 _ rfl
      have c1 : W9.cell? ⟨w.heap.size, 1, none⟩ = some (.slice a.A1 p.pairs.length a.c1) := A3.out.2.2 1 _ rfl
      have c2 : W9.cell? ⟨w.heap.size, 2, none⟩ = some (.slice a.A2 p.keys.length a.c2) := A3.out.2.2 2 _ rfl
      have c3 : W9.cell? ⟨w.heap.size, 3, none⟩ = some (.slice a.A3 p.kids.length a.c3) := A3.out.2.2 3 _ rfl
      have c4 : W9.cell? ⟨w.heap.size, 4, none⟩ = some (.slice a.A4 p.pages.length a.c4) := A3.out.2.2 4 _ rfl
      have c5 : W9.cell? ⟨w.heap.size, 5, none⟩ = some (.int .i64 p.next) := A3.out.2.2 5 _ rfl
      have c6 : W9.cell? ⟨w.heap.size, 6, none⟩ = some (.int .u64 (p.epoch : Int)) := A3.out.2.2 6 _ rfl
      have c7 : W9.cell? ⟨w.heap.size, 7, none⟩ = some (.int .i64 p.root) := A3.out.2.2 7 _ rfl
      have c8 : W9.cell? ⟨w.heap.size, 8, none⟩ = some (.int .i64 p.depth) := A3.out.2.2 8 _ rfl
      have c9 : W9.cell? ⟨w.heap.size, 9, none⟩ = some (.int .i64 p.count) := A3.out.2.2 9 _ rfl
      have c10 : W9.cell? ⟨w.heap.size, 10, none⟩ = some (.int .i64 p.high) := A3.out.2.2 10 _ rfl
      refine bodyPost_ret (v := .tuple #[pgV p a, numV 0]) (by simp [results, Try.results16, go_sem, *]) rfl ?_
      exact ⟨B3.out, .inl ⟨p, a, rfl, NB.out, OK.out, HN.out, HE.out⟩⟩
end Go.Proofs.Ytiebaeahimeedaa.Page
