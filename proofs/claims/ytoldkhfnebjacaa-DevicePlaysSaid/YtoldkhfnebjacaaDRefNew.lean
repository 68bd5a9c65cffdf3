/-
  The document's device: New.
-/
import Derived.Test.YtoldkhfnebjacaaDRefTold
namespace Go.Proofs.Ytoldkhfnebjacaa.Disk
open Go.RowKit Go.Maps Gen

theorem rnew_bad (n : Int) (w : World) (h : n < 2 ∨ 4096 < n) : Calls Try.prog 12 #[.int .i64 n] w fun e w' => e = .returned (.tuple #[.pointer none, .int .i64 1]) ∧ w = w' := by
  rcases h with h | h
  · have b0 : decide (n < 2) = true := by simpa using h
    go_enter Try.func12, Try.ntmps12
    go_wp2_with fail
    go_ret2
    exact ⟨rfl, rfl⟩
  · have b0 : decide (n < 2) = false := by simp; omega
    have b1 : decide (4096 < n) = true := by simpa using h
    go_enter Try.func12, Try.ntmps12
    go_wp2_with fail
    go_ret2
    exact ⟨rfl, rfl⟩
theorem bytes_info : (Try.prog.info? 32).map (fun i => (i.zero, i.size, i.bytes)) = some (some (.slice none 0 0), 1, 24) := by kernel_rfl
theorem bool_info : (Try.prog.info? 4).map (fun i => (i.zero, i.size, i.bytes)) = some (some (.bool false), 1, 1) := by kernel_rfl
theorem byte_info3 : (Try.prog.info? 5).map (fun i => (i.zero, i.size, i.bytes)) = some (some (.int .u8 0), 1, 1) := by kernel_rfl
theorem made_get (z : Value) (n i : Nat) (h : i < n) : (madeCells #[z] n)[i]? = some z := by
  rw [← Array.getElem?_toList, toList_madeCells_one]
  simp [h]
theorem made_size (z : Value) (n : Nat) : (madeCells #[z] n).size = n := by
  rw [← Array.length_toList, toList_madeCells_one]
  simp
/-- At the head of each round. -/
def NewRel (w : World) (rb N : Nat) (i : Value) (wr : World) : Prop := ∃ k : Nat, k ≤ N ∧ i = .int .i64 (k : Int) ∧ ∃ lb cb ib, wr.heap[rb]? = some (.cells (refC lb cb ib N false false 0) 64 (0, 0)) ∧ SlRow wr lb N (fun i => if i < k then some zeros else none) ∧ SlRow wr cb N (fun _ => none) ∧ IsRow wr ib N (fun _ => false) ∧ lb ≠ cb ∧
  Below w.heap.size w wr ∧ w.heap.size ≤ rb ∧ w.heap.size ≤ lb ∧ w.heap.size ≤ cb ∧ w.heap.size ≤ ib
theorem slrow_made {w : World} {b n : Nat} (h : w.heap[b]? = some (.cells (madeCells #[.slice none 0 0] n) 32 (0, 0))) : SlRow w b n (fun _ => none) :=
  ⟨_, h, made_size _ _, fun _ hi => ⟨none, 0, 0, made_get _ _ _ hi, fun l e => by cases e⟩⟩
theorem isrow_made {w : World} {b n : Nat} (h : w.heap[b]? = some (.cells (madeCells #[.bool false] n) 4 (0, 0))) : IsRow w b n (fun _ => false) := ⟨_, h, made_size _ _, fun _ hi => made_get _ _ _ hi⟩
theorem new_rel {w wr : World} {rb lb cb ib N : Nat} (h0 : wr.heap[rb]? = some (.cells (refC lb cb ib N false false 0) 64 (0, 0))) (h1 : wr.heap[lb]? = some (.cells (madeCells #[.slice none 0 0] N) 32 (0, 0))) (h2 : wr.heap[cb]? = some (.cells (madeCells #[.slice none 0 0] N) 32 (0, 0))) (h3 : wr.heap[ib]? = some (.cells (madeCells #[.bool false] N) 4 (0, 0)))
    (hne : lb ≠ cb) (hb : Below w.heap.size w wr) (b0 : w.heap.size ≤ rb) (b1 : w.heap.size ≤ lb) (b2 : w.heap.size ≤ cb) (b3 : w.heap.size ≤ ib) : NewRel w rb N (.int .i64 0) wr :=
  ⟨0, Nat.zero_le _, rfl, lb, cb, ib, h0, (slrow_made h1).congr (fun i _ l e => by simp at e), slrow_made h2, isrow_made h3, hne, hb, b0, b1, b2, b3⟩
section
variable (w : World) (X Y Z B : Obj)
abbrev four : World := ((((w.alloc X).alloc Y).alloc Z).alloc B).drew
theorem blk1 : (four w X Y Z B).heap[w.heap.size]? = some X := by
  show ((((w.alloc X).alloc Y).alloc Z).alloc B).heap[w.heap.size]? = some X
  rw [Below.heap_alloc _ _ _ (by simp <;> omega), Below.heap_alloc _ _ _ (by simp <;> omega), Below.heap_alloc _ _ _ (by simp)]
  exact heap_alloc_new w X
theorem blk2 : (four w X Y Z B).heap[w.heap.size + 1]? = some Y := by
  show ((((w.alloc X).alloc Y).alloc Z).alloc B).heap[w.heap.size + 1]? = some Y
  rw [Below.heap_alloc _ _ _ (by simp <;> omega), Below.heap_alloc _ _ _ (by simp)]
  simpa using heap_alloc_new (w.alloc X) Y
theorem blk3 : (four w X Y Z B).heap[w.heap.size + 1 + 1]? = some Z := by
  show ((((w.alloc X).alloc Y).alloc Z).alloc B).heap[w.heap.size + 1 + 1]? = some Z
  rw [Below.heap_alloc _ _ _ (by simp)]
  simpa using heap_alloc_new ((w.alloc X).alloc Y) Z
theorem blk4 : (four w X Y Z B).heap[w.heap.size + 1 + 1 + 1]? = some B := by
  show ((((w.alloc X).alloc Y).alloc Z).alloc B).heap[w.heap.size + 1 + 1 + 1]? = some B
  simpa using heap_alloc_new (((w.alloc X).alloc Y).alloc Z) B
theorem blkB : Below w.heap.size w (four w X Y Z B) := (((((Below.refl _ _).alloc (Nat.le_refl _) _).alloc (by simp) _).alloc (by simp <;> omega) _).alloc (by simp <;> omega) _).drew
end
theorem zeros_made (W : World) : BRow (W.alloc (.cells (madeCells #[.int .u8 0] 1024) 5)) (some ⟨W.heap.size, 0, none⟩) zeros := fun _ =>
  ⟨W.heap.size, 0, rfl, by simp, fun k hk => by
    rw [zeros_len] at hk
    rw [Nat.zero_add, cell_of_row _ _ k _ _ _ (heap_alloc_last W _), made_get _ _ _ hk]
    have : zeros[k]'(by rw [zeros_len]; exact hk) = 0 := List.getElem_replicate ..
    rw [this]; rfl⟩
set_option maxRecDepth 100000 in
set_option maxHeartbeats 4000000 in
theorem rnew_ref (N : Nat) (w : World) (h0 : 2 ≤ N) (h1 : N ≤ 4096) : Calls Try.prog 12 #[.int .i64 (N : Int)] w fun e w' =>
    ∃ rb lb cb ib, e = .returned (.tuple #[ptr rb, .int .i64 0]) ∧ RefOn w w' rb lb cb ib (St.fresh N) := by
  have b0 : decide ((N : Int) < 2) = false := by simp; omega
  have b1 : decide (4096 < (N : Int)) = false := by simp; omega
  have hm1 := fun W => run_make_row' (P := Try.prog) 61 32 (.slice none 0 0) 24 Try.underlying61 bytes_info rfl .i64 .i64 N (by omega) (by omega) W
  have hm2 := fun W => run_make_row' (P := Try.prog) 62 4 (.bool false) 1 Try.underlying62 bool_info rfl .i64 .i64 N (by omega) (by omega) W
  have hm3 : ∀ W, (Instr.makeSlice 32 (.int .i64 1024) (.int .i64 1024)).run Try.prog W = .ok (.slice (some ⟨W.heap.size, 0, none⟩) 1024 1024) (W.alloc (.cells (madeCells #[.int .u8 0] 1024) 5)) := fun W =>
    run_make_row' (P := Try.prog) 32 5 (.int .u8 0) 1 Try.underlying32 byte_info3 rfl .i64 .i64 1024 (by omega) (by omega) W
  go_enter Try.func12, Try.ntmps12
  go_wp2_with fail
  go_region
  all_goals
    go_wp2_with fail
    go_loopw [5] (fun i wr => NewRel w (w.heap.size + 1 + 1 + 1) N i wr) (fun i _ => N - (intOf i).toNat)
    case atStart =>
      first
        | exact new_rel (blk4 w _ _ _ _) (blk1 w _ _ _ _) (blk2 w _ _ _ _) (blk3 w _ _ _ _) (by omega) (blkB w _ _ _ _) (by omega) (by omega) (by omega) (by omega)
        | exact new_rel (blk4 w _ _ _ _) (blk1 w _ _ _ _) (blk3 w _ _ _ _) (blk2 w _ _ _ _) (by omega) (blkB w _ _ _ _) (by omega) (by omega) (by omega) (by omega)
        | exact new_rel (blk4 w _ _ _ _) (blk2 w _ _ _ _) (blk1 w _ _ _ _) (blk3 w _ _ _ _) (by omega) (blkB w _ _ _ _) (by omega) (by omega) (by omega) (by omega)
        | exact new_rel (blk4 w _ _ _ _) (blk2 w _ _ _ _) (blk3 w _ _ _ _) (blk1 w _ _ _ _) (by omega) (blkB w _ _ _ _) (by omega) (by omega) (by omega) (by omega)
        | exact new_rel (blk4 w _ _ _ _) (blk3 w _ _ _ _) (blk1 w _ _ _ _) (blk2 w _ _ _ _) (by omega) (blkB w _ _ _ _) (by omega) (by omega) (by omega) (by omega)
        | exact new_rel (blk4 w _ _ _ _) (blk3 w _ _ _ _) (blk2 w _ _ _ _) (blk1 w _ _ _ _) (by omega) (blkB w _ _ _ _) (by omega) (by omega) (by omega) (by omega)
    case round =>
      obtain ⟨k, hk, rfl, lb, cb, ib, hbx, hl, hc, hi, hne, hb, g0, g1, g2, g3⟩ := hrel
      by_cases hlt : k < N
      · have b2 : decide ((k : Int) < (N : Int)) = true := by simp; omega
        have hk0 : (0 : Int) ≤ (k : Int) := by omega
        have hk1 : (k : Int) < (N : Int) := by omega
        have mA : Mod [] wr (wr.drew.alloc (.cells (madeCells #[.int .u8 0] 1024) 5)) := (Mod.refl _ _).drew.alloc _
        have hrb : w.heap.size + 1 + 1 + 1 < wr.heap.size := (Array.getElem?_eq_some_iff.1 hbx).1
        have c0 : wr.cell? ⟨w.heap.size + 1 + 1 + 1, 0, none⟩ = some (hdr lb N) := cell_of_row _ _ 0 _ _ _ hbx
        have hl2 := hl.kept mA (by simp) (fun _ _ _ _ _ _ => by simp)
        obtain ⟨v0, hv0, hv1⟩ := hl2.any hlt
        have hz : BRow (wr.drew.alloc (.cells (madeCells #[.int .u8 0] 1024) 5)) (some ⟨wr.heap.size, 0, none⟩) zeros := zeros_made wr.drew
        have m3 := mod_set (wr.drew.alloc (.cells (madeCells #[.int .u8 0] 1024) 5)) lb k (.slice (some ⟨wr.heap.size, 0, none⟩) 1024 1024)
        have hnl : w.heap.size + 1 + 1 + 1 ≠ lb := fun e => by
          obtain ⟨cur, hh, _⟩ := hl
          rw [← e, hbx] at hh; cases hh
        have hil : ib ≠ lb := fun e => by
          obtain ⟨cur, hh, _⟩ := hl
          obtain ⟨cur2, hh2, _⟩ := hi
          rw [← e, hh2] at hh; cases hh
        have hl3 := (hl2.set hlt zeros_len (Nat.le_refl _) (by simp [maxLen]) hz).congr (g := fun i => if i < k + 1 then some zeros else none) (fun j hj l e => by
          have e' : (if j < k + 1 then some zeros else none) = some l := e
          show (if j = k then some zeros else if j < k then some zeros else none) = some l
          by_cases ej : j = k
          · rw [if_pos ej]; rw [if_pos (by omega)] at e'; exact e'
          · rw [if_neg ej]
            by_cases e2 : j < k
            · rw [if_pos (by omega)] at e'; rw [if_pos e2]; exact e'
            · rw [if_neg (by omega)] at e'; cases e')
        have hnb := hl2.noByte
        have hc3 := (hc.kept mA (by simp) (fun _ _ _ _ _ _ => by simp)).kept m3 (by simp; exact hne.symm) (fun A l hR hne a e => by simp; exact hnb.ne hR hne a e)
        have hi3 := (hi.kept mA (by simp)).kept m3 (by simp; exact hil)
        have hbx3 := (m3.block (w.heap.size + 1 + 1 + 1) (by simp <;> omega) (by simp; exact hnl)).trans ((mA.block (w.heap.size + 1 + 1 + 1) hrb (by simp)).trans hbx)
        have hb3 := ((hb.drew).alloc hb.size (.cells (madeCells #[.int .u8 0] 1024) 5)).setCell (p := ⟨lb, k, none⟩) g1 (.slice (some ⟨wr.heap.size, 0, none⟩) 1024 1024)
        have HREL := Lib.hid (show NewRel w (w.heap.size + 1 + 1 + 1) N (.int .i64 ((k + 1 : Nat) : Int)) _ from ⟨k + 1, hlt, rfl, lb, cb, ib, hbx3, hl3, hc3, hi3, hne, hb3, g0, g1, g2, g3⟩)
        have K1 : Hid (wr.drew.cell? ⟨w.heap.size + 1 + 1 + 1, 0, none⟩ = some (hdr lb N)) := Lib.hid c0
        have K2 : Hid ((wr.drew.alloc (.cells (madeCells #[.int .u8 0] 1024) 5)).cell? ⟨w.heap.size + 1 + 1 + 1, 0, none⟩ = some (hdr lb N)) := Lib.hid ((mA.cell (p := ⟨w.heap.size + 1 + 1 + 1, 0, none⟩) hrb (by simp)).trans c0)
        have K3 := Lib.hid ((m3.cell (p := ⟨w.heap.size + 1 + 1 + 1, 0, none⟩) (by simp <;> omega) (by simp; exact hnl)).trans K2.out)
        have hv2 : (wr.alloc (.cells (madeCells #[.int .u8 0] 1024) 5)).cell? ⟨lb, k, none⟩ = some v0 := hv0
        have hv3 : (wr.alloc (.cells (madeCells #[.int .u8 0] 1024) 5)).frozen? ⟨lb, k, none⟩ = false := hv1
        clear hbx hl hc hi hb mA hl2 hz m3 hnl hil hl3 hnb hc3 hi3 hbx3 hb3 hrb hv0 hv1
        go_wp2_with fail
        go_region_held3 (fun w' => w'.cell? ⟨w.heap.size + 1 + 1 + 1, 0, none⟩ = some (hdr lb N)) (first | exact K1.out | exact K2.out | exact K3.out | exact c0) (fail)
        go_wp2_with fail
        go_roundw
        case rel => exact HREL.out
        case measure => simp [intOf]; omega
      · obtain rfl : k = N := by omega
        have b2 : decide ((k : Int) < (k : Int)) = false := by simp
        have HR : Hid (RefOn w wr (w.heap.size + 1 + 1 + 1) lb cb ib (St.fresh k)) := Lib.hid ⟨⟨⟨0, hbx, fun e => by cases e⟩, hl.congr (fun j hj l e => by simp only [if_pos hj]; simpa [St.fresh] using e), hc, hi, hne, h1, by show 0 < k; omega⟩, hb, g0, g1, g2, g3⟩
        clear hbx hl hc hi hb
        go_wp2_with fail
        go_ret2
        exact ⟨_, lb, cb, ib, rfl, HR.out⟩
end Go.Proofs.Ytoldkhfnebjacaa.Disk
