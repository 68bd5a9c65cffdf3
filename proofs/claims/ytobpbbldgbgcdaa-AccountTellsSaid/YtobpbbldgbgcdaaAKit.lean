/-
  Structs that are read and written whole, as equations on runs; results that lie in a cell.
-/
import Derived.Test.YtobpbbldgbgcdaaAClone
import Derived.Deep.MidRow
namespace Go.Proofs.Ytobpbbldgbgcdaa.Acc
open Go.RowKit Go.Sort

/-- A block's cells. -/
def At (w : World) (b : Nat) (C : Array Value) : Prop := b < w.heap.size ∧ (∀ j, w.frozen? ⟨b, j, none⟩ = false) ∧ ∀ j v, C[j]? = some v → w.cell? ⟨b, j, none⟩ = some v
theorem At.of_block {w : World} {b : Nat} {C : Array Value} {t : TypeId} (h : w.heap[b]? = some (.cells C t (0, 0))) : At w b C :=
  ⟨(Array.getElem?_eq_some_iff.1 h).1, fun j => frozen_of_row w b j C t h, fun j v hv => by rw [cell_of_row w b j C _ _ h]; exact hv⟩
theorem At.below {w w' : World} {b : Nat} {C : Array Value} {n : Nat} (h : At w b C) (hb : Below n w w') (hn : b < n) : At w' b C :=
  ⟨Nat.lt_of_lt_of_le h.1 hb.size, fun j => (hb.frozen (p := ⟨b, j, none⟩) hn).trans (h.2.1 j), fun j v hv => (hb.cell (p := ⟨b, j, none⟩) hn).trans (h.2.2 j v hv)⟩
theorem At.set {w : World} {b : Nat} {C : Array Value} (h : At w b C) (i : Nat) (v : Value) (hi : i < C.size) : At (w.setCell ⟨b, i, none⟩ v) b (C.setIfInBounds i v) := by
  have hc := h.2.2 i _ (Array.getElem?_eq_getElem hi)
  refine ⟨by simpa using h.1, fun j => ?_, fun j u hu => ?_⟩
  · rw [World.frozen?_setCell]; exact h.2.1 j
  · rw [Array.getElem?_setIfInBounds] at hu
    by_cases e : i = j
    · subst e
      rw [if_pos rfl, if_pos hi] at hu
      cases hu
      exact World.cell?_setCell_same _ _ _ hc
    · rw [if_neg e] at hu
      rw [World.cell?_setCell_other _ _ _ _ (by intro h; injection h; contradiction)]
      exact h.2.2 j u hu
def puts (C : Array Value) : Nat → List Value → Array Value
  | _, [] => C
  | o, v :: r => puts (C.setIfInBounds o v) (o + 1) r
theorem at_putsA : ∀ (vs : List Value) (o : Nat) (w : World) (b : Nat) (C : Array Value), At w b C → o + vs.length ≤ C.size → At (w.setCells b o vs) b (puts C o vs)
  | [], _, _, _, _, h, _ => h
  | v :: r, o, w, b, C, h, hs => by
    rw [List.length_cons] at hs
    exact at_putsA r (o + 1) _ b _ (h.set o v (by omega)) (by simp; omega)
theorem at_over {w : World} {b o : Nat} {C C' : Array Value} {vs : List Value} (h : At w b C) (hs : o + vs.length ≤ C.size) (he : C'.toList = C.toList.take o ++ (vs ++ C.toList.drop (o + vs.length))) : At (w.setCells b o vs) b C' := by
  have h0 := at_putsA vs o w b C h hs
  refine ⟨h0.1, h0.2.1, fun j v hv => ?_⟩
  rw [← Array.getElem?_toList, he] at hv
  have hC : C.toList.length = C.size := by simp
  have hcell : ∀ k u, C[k]? = some u → w.cell? ⟨b, k, none⟩ = some u := h.2.2
  have hlo : (C.toList.take o).length = o := by rw [List.length_take]; omega
  by_cases h1 : j < o
  · rw [List.getElem?_append_left (by omega), List.getElem?_take, if_pos h1, Array.getElem?_toList] at hv
    rw [World.cell?_setCells_out b vs o w ⟨b, j, none⟩ (fun _ _ => .inl h1)]
    exact hcell j v hv
  · rw [List.getElem?_append_right (by omega), hlo] at hv
    by_cases h2 : j - o < vs.length
    · rw [List.getElem?_append_left h2] at hv
      have := World.cell?_setCells_in b vs o w (fun i hi => by rw [hcell (o + i) _ (Array.getElem?_eq_getElem (show o + i < C.size by omega))]; rfl) (j - o) h2
      rw [show o + (j - o) = j by omega] at this
      rw [this, ← hv, List.getElem?_eq_getElem h2]
    · rw [List.getElem?_append_right (by omega), List.getElem?_drop, Array.getElem?_toList] at hv
      rw [World.cell?_setCells_out b vs o w ⟨b, j, none⟩ (fun _ _ => .inr (by show o + vs.length ≤ j; omega))]
      exact hcell j v (by rw [← hv]; congr 1; omega)
theorem at_there {w : World} {b : Nat} {C : Array Value} (h : At w b C) {o n : Nat} (hs : o + n ≤ C.size) : w.there b o n := fun j hj => by
  have hc := h.2.2 (o + j) _ (Array.getElem?_eq_getElem (show o + j < C.size by omega))
  exact ⟨by rw [hc]; rfl, h.2.1 _⟩
theorem at_cells {w : World} {b : Nat} {C : Array Value} (h : At w b C) {o : Nat} {cs : List Value} (hx : (C.toList.drop o).take cs.length = cs) : w.rangeAt b o cs := fun j v hv => by
  refine h.2.2 (o + j) v ?_
  have hj : j < cs.length := (List.getElem?_eq_some_iff.1 hv).1
  rw [← hx, List.getElem?_take, if_pos hj, List.getElem?_drop, Array.getElem?_toList] at hv
  exact hv
/-- A struct is read out of a block. -/
theorem load_at {w : World} {b o : Nat} {C : Array Value} (h : At w b C) {ty : TypeId} {c : Array Value} {d : TypeDesc} (hu : Try.prog.underlying ty = some d) (hd : d.isRow = true) (hi : (Try.prog.info? ty).map (·.size) = some c.size) (hx : (C.toList.drop o).take c.toList.length = c.toList) :
    (Instr.loadAt ty (.pointer (some ⟨b, o, none⟩))).run Try.prog w = .ok (.agg c) w := by
  have := run_loadAt_mid (P := Try.prog) w b o ty c.toList d (at_cells h hx) hu hd (by simpa using hi)
  simpa using this
theorem var_at {w : World} {b o : Nat} {C : Array Value} (h : At w b C) {ty : TypeId} {c : Array Value} {d : TypeDesc} (hu : Try.prog.underlying ty = some d) (hd : d.isRow = true) (hi : (Try.prog.info? ty).map (·.size) = some c.size) (hx : (C.toList.drop o).take c.toList.length = c.toList) :
    (loadVar ty ⟨b, o, none⟩).run Try.prog w = .ok (.agg c) w := by
  have := run_loadVar_mid (P := Try.prog) w b o ty c.toList d (at_cells h hx) hu hd (by simpa using hi)
  simpa using this
/-- .. and written. -/
theorem store_at {w : World} {b o : Nat} {C : Array Value} (h : At w b C) {ty : TypeId} {c : Array Value} (hs : o + c.size ≤ C.size) (hi : (Try.prog.info? ty).map (·.size) = some c.size) (h1 : c.all (·.oneCell') = true) :
    (Instr.storeAt ty (.pointer (some ⟨b, o, none⟩)) (.agg c)).run Try.prog w = .ok () (w.setCells b o c.toList) :=
  run_storeAt_mid (P := Try.prog) w b o ty c (at_there h hs) hi h1
theorem at_new (W : World) (C : Array Value) (t : TypeId) : At (W.alloc (.cells C t)) W.heap.size C := At.of_block (heap_alloc_last W _)
/-- A store whose run is known, in a region that draws. -/
theorem step_store_eq {P : Program} {ops : Array Oper} {o : Oper} {a : Act} {K : Act → World → Prop} {Q : Exit → Act → World → Prop} {X : Prop} {w w' : World} {p u : Value} (hgd : o.guard = none) (t : TypeId) (x y : Operand)
    (ho : o.op = .store t x y) (hx : a.eval x = p) (hy : a.eval y = u) (hrun : (Instr.storeAt t p u).run P w = .ok () w')
    (h : K (a.put o.dst undef) w') : if Region.wanted o (yielded ops a.tmps) = true then Oper.wp P o a w K Q else X := by
  have hw : Region.wanted o (yielded ops a.tmps) = true := by simp [Region.wanted, hgd]
  rw [if_pos hw]
  unfold Oper.wp
  simp [execOp, ho, hx, hy, hrun, Result.andThen]
  exact h
/-- Results of which the first lies in a cell. -/
theorem results_c {fn : Func} {tmps : Array Value} {a : Nat} {t : TypeId} {x : Addr} {v : Value} {w : World} (hr : fn.results = #[.cell a t]) (ha : tmps.getD a undef = .pointer (some x)) (h : (loadVar t x).run Try.prog w = .ok v w) : (results fn tmps).run Try.prog w = .ok v w := by
  have ha' : tmps[a]?.getD undef = .pointer (some x) := by simpa using ha
  simp [results, hr, ha', asAddr, h]
theorem results_ct {fn : Func} {tmps : Array Value} {a s : Nat} {t : TypeId} {x : Addr} {v : Value} {w : World} (hr : fn.results = #[.cell a t, .tmp s]) (ha : tmps.getD a undef = .pointer (some x)) (h : (loadVar t x).run Try.prog w = .ok v w) : (results fn tmps).run Try.prog w = .ok (.tuple #[v, tmps.getD s undef]) w := by
  have ha' : tmps[a]?.getD undef = .pointer (some x) := by simpa using ha
  simp [results, hr, ha', asAddr, h]
theorem results_t3 {fn : Func} {tmps : Array Value} {a b c : Nat} {w : World} (hr : fn.results = #[.tmp a, .tmp b, .tmp c]) : (results fn tmps).run Try.prog w = .ok (.tuple #[tmps.getD a undef, tmps.getD b undef, tmps.getD c undef]) w := by
  simp [results, hr]
section
variable {P : Program} {ops : Array Oper} {rest : List Oper} {o : Oper} {a : Act} {Q : Exit → Act → World → Prop} {w w' : World} {v : Value}
theorem wpList_box_eq (hgd : o.guard = none) (t : TypeId) (x : Operand) (ho : o.op = .box t x) (c : Array Value) (hx : a.eval x = .agg c)
    (h : wpList P ops Q rest (a.put o.dst (.pointer (some ⟨w.heap.size, 0, none⟩))) (w.alloc (.cells c t))) : wpList P ops Q (o :: rest) a w := by
  refine wpList_plain hgd fun K hK => ?_
  unfold Oper.wp
  have hr : (Instr.box t (.agg c)).run P w = .ok (.pointer (some ⟨w.heap.size, 0, none⟩)) (w.alloc (.cells c t)) := by
    simp [Instr.box, newVar, newRow, Value.cells, Result.andThen]
  simp [execOp, ho, hx, hr, Result.andThen]
  exact hK _ _ h
theorem wpList_load_eq (hgd : o.guard = none) (t : TypeId) (x : Operand) (ho : o.op = .load t x) (p : Value) (hx : a.eval x = p) (hrun : (Instr.loadAt t p).run P w = .ok v w)
    (h : wpList P ops Q rest (a.put o.dst v) w) : wpList P ops Q (o :: rest) a w := by
  refine wpList_plain hgd fun K hK => ?_
  unfold Oper.wp
  simp [execOp, ho, hx, hrun, Result.andThen]
  exact hK _ _ h
theorem wpList_store_eq (hgd : o.guard = none) (t : TypeId) (x y : Operand) (ho : o.op = .store t x y) (p u : Value) (hx : a.eval x = p) (hy : a.eval y = u) (hrun : (Instr.storeAt t p u).run P w = .ok () w')
    (h : wpList P ops Q rest (a.put o.dst undef) w') : wpList P ops Q (o :: rest) a w := by
  refine wpList_plain hgd fun K hK => ?_
  unfold Oper.wp
  simp [execOp, ho, hx, hy, hrun, Result.andThen]
  exact hK _ _ h
end
end Go.Proofs.Ytobpbbldgbgcdaa.Acc
