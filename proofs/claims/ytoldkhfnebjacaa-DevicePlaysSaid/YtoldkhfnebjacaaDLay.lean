/-
  A sector that is laid so that it lasts.
-/
import Derived.Test.YtoldkhfnebjacaaDSmall
import Derived.StillTailTactics
namespace Go.Proofs.Ytoldkhfnebjacaa.Disk
open Go.RowKit Go.Maps

/-- A region that draws its order, all of it but the last operation reads; the world behind the draw under a letter. -/
theorem region_tail {P : Program} {id : Nat} {Q : Exit → Act → World → Prop} {a : Act} {w : World} {l : List Oper} (n : Nat) (hm : P.follows .mixedOrders = true) (hB : Region.lexTailB .any l.toArray n = true)
    (h : ∀ w1, w1 = w.drew → wpStill P l.toArray w1 (fun a' => wpList P l.toArray Q (l.drop n) a' w1) (l.take n) a) : (Code.region id l.toArray true).wp P Q a w := wp_region_still_tail n hm hB (h _ rfl)
theorem wpStill_load_eq {P : Program} {ops : Array Oper} {rest : List Oper} {o : Oper} {a : Act} {Q : Act → Prop} {w : World} {v : Value} (hgd : o.guard = none) (t : TypeId) (x : Operand) (ho : o.op = .load t x) (p : Value) (hx : a.eval x = p) (hrun : (Instr.loadAt t p).run P w = .ok v w)
    (h : wpStill P ops w Q rest (a.put o.dst v)) : wpStill P ops w Q (o :: rest) a := by
  have hw : Region.wanted o (yielded ops a.tmps) = true := by simp [Region.wanted, hgd]
  refine wpStill_step (fun K hK => ?_)
  rw [if_pos hw]
  simp [Oper.still, Oper.stillUpon, execOp, ho, hx, hrun, Result.andThen]
  exact hK _ h
theorem load_sec {w : World} {b : Nat} {l : Bs} (hl : l.length = 1024) (hb : w.heap[b]? = some (.cells (secC l) 66 (0, 0))) : (Instr.loadAt 66 (.pointer (some ⟨b, 0, none⟩))).run Try.prog w = .ok (.agg (secC l)) w := by
  simp only [Instr.loadAt, Instr.sureAddr, Sem.run_bind, Sem.run_pure, Result.andThen]
  exact run_loadVar_row w b _ _ _ _ _ hb Try.underlying66 rfl (by rw [secC_size, hl]; kernel_rfl)
theorem Dev.withL {w w' : World} {sb bl bc : Nat} {s : St} (h : Dev w sb bl bc s) (g : w.grownBy w' (some bl)) {f : Int → Option Bs} (hm : SMap w' bl s.n f) (hz : ∀ x, f x ≠ some zeros) : Dev w' sb bl bc { s with L := f } :=
  ⟨(g.block _ h.lt (by simp; exact h.sbl)).trans h.box, hm, h.cache.kept g (by simp; exact h.ne.symm), h.ne, hz, h.nle, h.f0, h.f1⟩
theorem Dev.withC {w w' : World} {sb bl bc : Nat} {s : St} (h : Dev w sb bl bc s) (g : w.grownBy w' (some bc)) {f : Int → Option Bs} (hm : SMap w' bc s.n f) : Dev w' sb bl bc { s with C := f } :=
  ⟨(g.block _ h.lt (by simp; exact h.sbc)).trans h.box, h.last.kept g (by simp; exact h.ne), hm, h.ne, h.nz, h.nle, h.f0, h.f1⟩
theorem Dev.alloc {w : World} {sb bl bc : Nat} {s : St} (h : Dev w sb bl bc s) (o : Obj) : Dev (w.alloc o) sb bl bc s := h.kept ((Mod.refl [] w).alloc o) (by simp) (by simp) (by simp)

set_option maxRecDepth 100000 in
theorem lay_zero (w : World) (sb bl bc : Nat) (s : St) (n : Int) (h : Dev w sb bl bc s) (h0 : 0 ≤ n) (h1 : n < s.n) : Calls Try.prog 36 #[ptr sb, .int .i64 n, .agg (secC zeros)] w fun e w' =>
    e = .returned (.tuple #[]) ∧ Dev w' sb bl bc (s.lay n zeros) ∧ Mod [bl] w w' := by
  have hle := h.nle
  have h' := h.alloc (.cells (secC zeros) 66)
  obtain ⟨w2, hrun, hm, hg⟩ := h'.last.drop n (by omega) (by omega) 0
  have HD : Hid (Dev w2 sb bl bc (s.lay n zeros) ∧ Mod [bl] w w2) := Lib.hid ⟨by
    rw [St.lay, if_pos rfl]
    exact h'.withL hg hm (fun x => by
      by_cases e : x = n
      · subst e; rw [upd_same]; simp
      · rw [upd_other _ _ e]; exact h.nz x), ((Mod.refl _ w).alloc _).grown hg (fun k e => .inl (by cases e; simp))⟩
  have R := Lib.hid hrun
  have hld := load_sec (w := w.alloc (.cells (secC zeros) 66)) (b := w.heap.size) zeros_len (heap_alloc_last _ _)
  have LD := Lib.hid hld
  have heq := run_eql_sec zeros zeros (w.alloc (.cells (secC zeros) 66)) zeros_len zeros_len
  rw [show decide (zeros = zeros) = true from decide_eq_true rfl] at heq
  have EQ := Lib.hid heq
  obtain ⟨c0, c1, c2, c3, c4, c5⟩ := h.cells
  have hlt := h.lt
  clear h h' hm hg hrun hld heq c0 c2 c3 c4 c5 hle h1 h0
  have BD := Lib.hid (run_build_sec (w.alloc (.cells (secC zeros) 66)))
  generalize zeros = z at *
  go_enter Try.func36, Try.ntmps36
  go_wp2_with (first
    | (refine wpList_box_eq rfl 66 (.tmp 2) rfl (secC z) rfl ?_)
    | (refine wpList_load_eq rfl 66 (.tmp 5) rfl _ rfl LD.out ?_)
    | (refine wpList_build_eq rfl 66 rfl BD.out ?_)
    | (refine wpList_binop_eq rfl .eql 66 66 (.tmp 6) (.tmp 7) rfl _ _ rfl rfl (run_guard_sec _ _ _ _ _) EQ.out ?_)
    | (refine wpList_delete_eq rfl 58 3 (.tmp 12) (.tmp 13) rfl _ _ rfl rfl R.out ?_))
  refine bodyPost_ret (results_none rfl _ _ _) rfl ?_
  exact ⟨rfl, HD.out⟩
set_option maxRecDepth 100000 in
theorem lay_some (w : World) (sb bl bc : Nat) (s : St) (n : Int) (l : Bs) (hl : l.length = 1024) (hne : l ≠ zeros) (h : Dev w sb bl bc s) (h0 : 0 ≤ n) (h1 : n < s.n) : Calls Try.prog 36 #[ptr sb, .int .i64 n, .agg (secC l)] w fun e w' =>
    e = .returned (.tuple #[]) ∧ Dev w' sb bl bc (s.lay n l) ∧ Mod [bl] w w' := by
  have hle := h.nle
  have h' := h.alloc (.cells (secC l) 66)
  have HR : Hid (∃ w2, (Instr.mapUpdate 58 (.map (some bl)) (.int .i64 n) (.agg (secC l))).run Try.prog (w.alloc (.cells (secC l) 66)).drew = .ok () w2 ∧ Dev w2 sb bl bc (s.lay n l) ∧ Mod [bl] w w2) := Lib.hid <| by
    have h2 := h'.kept (Mod.refl [] _).drew (by simp) (by simp) (by simp)
    obtain ⟨w2, hrun, hm, hg⟩ := h2.last.store hle n h0 h1 l hl
    refine ⟨w2, hrun, ?_, ((Mod.refl _ w).alloc _).drew.grown hg (fun k e => .inl (by cases e; simp))⟩
    rw [St.lay, if_neg hne]
    exact h2.withL hg hm (fun x => by
      by_cases e : x = n
      · subst e; rw [upd_same]; simpa using hne
      · rw [upd_other _ _ e]; exact h.nz x)
  have hld := load_sec (w := w.alloc (.cells (secC l) 66)) (b := w.heap.size) hl (heap_alloc_last _ _)
  have LD := Lib.hid hld
  have LD2 := Lib.hid (load_sec (w := (w.alloc (.cells (secC l) 66)).drew) (b := w.heap.size) hl (heap_alloc_last _ _))
  have heq := run_eql_sec l zeros (w.alloc (.cells (secC l) 66)) hl zeros_len
  rw [show decide (l = zeros) = false from decide_eq_false hne] at heq
  have EQ := Lib.hid heq
  obtain ⟨c0, c1, c2, c3, c4, c5⟩ := h.cells
  have hlt := h.lt
  clear h h' hld heq c0 c2 c3 c4 c5 hle h1 h0 hne hl
  have BD := Lib.hid (run_build_sec (w.alloc (.cells (secC l) 66)))
  generalize zeros = z at *
  go_enter Try.func36, Try.ntmps36
  go_wp2_with (first
    | (refine wpList_box_eq rfl 66 (.tmp 2) rfl (secC l) rfl ?_)
    | (refine wpList_load_eq rfl 66 (.tmp 5) rfl _ rfl LD.out ?_)
    | (refine wpList_build_eq rfl 66 rfl BD.out ?_)
    | (refine wpList_binop_eq rfl .eql 66 66 (.tmp 6) (.tmp 7) rfl _ _ rfl rfl (run_guard_sec _ _ _ _ _) EQ.out ?_))
  refine region_tail 6 (by kernel_rfl) (by kernel_rfl) ?_
  intro w1 hw1
  simp only [List.take_succ_cons, List.take_zero, List.drop_succ_cons, List.drop_zero]
  have hc1 : w1.cell? ⟨sb, 1, none⟩ = some (.map (some bl)) := by rw [hw1]; exact (World.cell?_of_block (Below.heap_alloc w _ sb hlt)).trans c1
  obtain ⟨w2, hrun, HD⟩ := HR.out
  have HD' := Lib.hid HD
  rw [← hw1] at hrun
  have R := Lib.hid hrun
  have LD3 := LD2.out
  rw [← hw1] at LD3
  have LD4 := Lib.hid LD3
  clear hrun c1 LD EQ BD HR HD hw1 LD2 LD3
  repeat (first | (refine wpStill_load_eq rfl 66 (.tmp 5) rfl _ rfl LD4.out ?_) | still_step)
  refine wpStill_nil ?_
  go_wp2_with (refine wpList_mapUpdate_eq rfl 58 (.tmp 17) (.tmp 18) (.tmp 19) rfl _ _ _ rfl rfl rfl R.out ?_)
  go_end0
  exact ⟨rfl, HD'.out⟩
theorem lay_dev (w : World) (sb bl bc : Nat) (s : St) (n : Int) (l : Bs) (hl : l.length = 1024) (h : Dev w sb bl bc s) (h0 : 0 ≤ n) (h1 : n < s.n) : Calls Try.prog 36 #[ptr sb, .int .i64 n, .agg (secC l)] w fun e w' =>
    e = .returned (.tuple #[]) ∧ Dev w' sb bl bc (s.lay n l) ∧ Mod [bl] w w' := by
  by_cases e : l = zeros
  · subst e; exact lay_zero w sb bl bc s n h h0 h1
  · exact lay_some w sb bl bc s n l hl e h h0 h1
end Go.Proofs.Ytoldkhfnebjacaa.Disk
