/-
  tear.
-/
import Derived.Test.YtoldkhfnebjacaaDSync
namespace Go.Proofs.Ytoldkhfnebjacaa.Disk
open Go.RowKit Go.Maps Gen

/-- A sector of which the first k bytes are those that were written. -/
def torn (l m : Bs) (k : Nat) : Bs := over (l.take k) m
theorem torn_len {l m : Bs} {k : Nat} (hl : l.length = 1024) (hm : m.length = 1024) (hk : k ≤ 1024) : (torn l m k).length = 1024 := by
  rw [torn, over_len (by simp; omega), hm]
theorem BRow.take {w : World} {A : Option Addr} {l : Bs} (h : BRow w A l) (k : Nat) : BRow w A (l.take k) := fun hne => by
  obtain ⟨b, off, e, hlt, hc⟩ := h (fun e => hne (by rw [e]; simp))
  refine ⟨b, off, e, hlt, fun j hj => ?_⟩
  rw [List.length_take] at hj
  rw [hc j (by omega), List.getElem_take]
theorem wpStill_slice_eq {P : Program} {ops : Array Oper} {rest : List Oper} {o : Oper} {a : Act} {Q : Act → Prop} {w : World} {v : Value} (hgd : o.guard = none) (t : TypeId) (x y : Operand) (ho : o.op = .slice t x none (some y) none) (p u : Value) (hx : a.eval x = p) (hy : a.eval y = u) (hrun : (Instr.sliceAt t p none (some u) none).run P w = .ok v w)
    (h : wpStill P ops w Q rest (a.put o.dst v)) : wpStill P ops w Q (o :: rest) a := by
  have hw : Region.wanted o (yielded ops a.tmps) = true := by simp [Region.wanted, hgd]
  refine wpStill_step (fun K hK => ?_)
  rw [if_pos hw]
  simp [Oper.still, Oper.stillUpon, execOp, ho, hx, hy, hrun, Result.andThen]
  exact hK _ h
theorem slice_run (b k : Nat) (hk : k ≤ 1024) (w : World) : (Instr.sliceAt 66 (.pointer (some ⟨b, 0, none⟩)) none (some (.int .i64 (k : Int))) none).run Try.prog w = .ok (.slice (some ⟨b, 0, none⟩) k 1024) w := by
  have eh : ∀ code, (Instr.sliceBound (.int .i64 (k : Int)) 1024 code).run Try.prog w = .ok k w := fun code => by
    have h0 : (0 : Int) ≤ (k : Int) := by omega
    have h1 : ¬ (1024 : Int) < (k : Int) := by omega
    have := (show (Instr.sliceBound (.int .i64 (k : Int)) 1024 code).run Try.prog w = .ok (k : Int).toNat w by simp [Instr.sliceBound, asIntOf, h0, h1, go_sem])
    simpa using this
  have e0 : (⟨b, 0, none⟩ : Addr).add 0 = ⟨b, 0, none⟩ := by unfold Addr.add; split <;> simp_all
  simp [Instr.sliceAt, run_underlying Try.underlying66, Instr.sureAddr, Instr.sliceBounds, eh, Try.sizeOf5, Result.andThen, e0]
set_option maxRecDepth 100000 in
set_option maxHeartbeats 1000000 in
theorem tear_dev (w : World) (sb bl bc : Nat) (s : St) (n : Int) (l m : Bs) (k : Nat) (hl : l.length = 1024) (hk : k ≤ 1024) (h : Dev w sb bl bc s) (h0 : 0 ≤ n) (h1 : n < s.n) (hm : (s.L n).getD zeros = m) : Calls Try.prog 37 #[ptr sb, .int .i64 n, .agg (secC l), .int .i64 (k : Int)] w fun e w' =>
    e = .returned (.tuple #[]) ∧ Dev w' sb bl bc (s.lay n (torn l m k)) ∧ Mod [sb, bl, bc] w w' := by
  have hle := h.nle
  have hml := h.last.getD_len n
  rw [hm] at hml
  have hD1 := h.alloc (.cells (secC l) 66)
  have LL := hD1.last.lookup n (by omega) (by omega)
  rw [hm] at LL
  have LL := Lib.hid LL
  have ZZ := Lib.hid (zero_sec (w.alloc (.cells (secC l) 66)))
  have hlen : (w.alloc (.cells (secC l) 66)).heap.size = w.heap.size + 1 := by simp
  have SS := Lib.hid (store_sec_new (w.alloc (.cells (secC l) 66)) (secC zeros) m hml zeros_size)
  have SS2 := SS
  rw [hlen] at SS2
  have hg1 : ((w.alloc (.cells (secC l) 66)).alloc (.cells (secC m) 66)).heap[w.heap.size]? = some (.cells (secC l) 66 (0, 0)) :=
    (Below.heap_alloc _ _ _ (by simp)).trans (heap_alloc_last w _)
  have hg2 := heap_alloc_last (w.alloc (.cells (secC l) 66)) (.cells (secC m) 66)
  rw [hlen] at hg2
  have CR := copy_run ((w.alloc (.cells (secC l) 66)).alloc (.cells (secC m) 66)).drew (w.heap.size + 1) m (l.take k) (some ⟨w.heap.size, 0, none⟩) k 1024 k 1024 3 _ hg2 (by simp; omega) (Nat.le_refl _) (by omega) (BRow.take (sec_row hg1) k)
  have e2 : ((w.alloc (.cells (secC l) 66)).alloc (.cells (secC m) 66)).drew.setRow (w.heap.size + 1) (secC (over (l.take k) m)) = ((w.alloc (.cells (secC l) 66)).alloc (.cells (secC (over (l.take k) m)) 66)).drew := by
    have := World.setRow_alloc_new (w.alloc (.cells (secC l) 66)) (secC m) (secC (over (l.take k) m)) 66
    rw [hlen] at this
    rw [← this]; rfl
  rw [e2] at CR
  have CR := Lib.hid CR
  have htl : (over (l.take k) m).length = 1024 := torn_len hl hml hk
  have hg3 := heap_alloc_last (w.alloc (.cells (secC l) 66)) (.cells (secC (over (l.take k) m)) 66)
  rw [hlen] at hg3
  have LD := Lib.hid (load_sec (w := ((w.alloc (.cells (secC l) 66)).alloc (.cells (secC (over (l.take k) m)) 66)).drew) (b := w.heap.size + 1) htl hg3)
  have hD2 := (hD1.alloc (.cells (secC (over (l.take k) m)) 66)).kept (Mod.refl [] _).drew (by simp) (by simp) (by simp)
  have cY := Lib.hid (lay_dev _ sb bl bc s n _ htl hD2 h0 h1)
  have MM := Lib.hid (((Mod.refl [sb, bl, bc] w).alloc (.cells (secC l) 66)).alloc (.cells (secC (over (l.take k) m)) 66)).drew
  have S1 := Lib.hid (slice_run w.heap.size k hk)
  have S2 := Lib.hid (slice_run (w.heap.size + 1) k hk)
  obtain ⟨c0, c1, c2, c3, c4, c5⟩ := h.cells
  have hlt := h.lt
  clear h h0 h1 hle hml hm hD1 hD2 hlen hg1 hg2 hg3 htl c0 c2 c3 c4 c5 e2 hl
  unfold torn
  generalize over (l.take k) m = u at *
  generalize zeros = z at *
  go_enter Try.func37, Try.ntmps37
  go_wp2_with (first
    | ((with_reducible refine wpList_box_eq rfl 66 (.tmp 2) rfl (secC l) ?_ ?_); (next => rfl))
    | ((with_reducible refine wpList_lookup_eq rfl 58 (.tmp 12) (.tmp 13) false rfl _ _ ?_ ?_ LL.out ?_); (next => rfl); (next => rfl))
    | ((with_reducible refine wpList_alloc_eq (o := ⟨some 8, _, _, _, _, _⟩) rfl 66 rfl _ ZZ.out ?_))
    | ((with_reducible refine wpList_store_eq rfl 66 (.tmp 8) (.tmp 14) rfl _ _ ?_ ?_ SS.out ?_); (next => rfl); (next => rfl))
    | ((with_reducible refine wpList_store_eq rfl 66 (.tmp 8) (.tmp 14) rfl _ _ ?_ ?_ SS2.out ?_); (next => rfl); (next => rfl)))
  refine region_tail 4 (by kernel_rfl) (by kernel_rfl) ?_
  intro w2 hw2
  simp only [List.take_succ_cons, List.take_zero, List.drop_succ_cons, List.drop_zero]
  have CR2 := CR.out
  rw [← hw2] at CR2
  have CR3 := Lib.hid CR2
  clear CR CR2 hw2 c1 LL ZZ SS SS2
  repeat (first | (refine wpStill_slice_eq rfl 66 (.tmp 8) (.tmp 15) rfl _ _ rfl rfl (S2.out _) ?_) | (refine wpStill_slice_eq rfl 66 (.tmp 6) (.tmp 17) rfl _ _ rfl rfl (S1.out _) ?_) | still_step)
  refine wpStill_nil ?_
  go_wp2_with (first
    | ((with_reducible refine wpList_copy_eq rfl 32 32 (.tmp 16) (.tmp 18) rfl _ _ ?_ ?_ CR3.out ?_); (next => rfl); (next => rfl))
    | ((with_reducible refine wpList_load_eq rfl 66 (.tmp 8) rfl _ ?_ LD.out ?_); (next => rfl))
    | (go_at_call 36; refine cY.out.mono ?_; rintro e w3 ⟨rfl, HD, HM⟩))
  go_end0
  exact ⟨rfl, HD, MM.out.trans (HM.mono (by simp))⟩
end Go.Proofs.Ytoldkhfnebjacaa.Disk
