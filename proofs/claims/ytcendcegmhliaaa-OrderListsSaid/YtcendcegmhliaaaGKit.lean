/-
  Structs that are read and written whole, as equations on runs; blocks that have come.
-/
import Derived.Test.YtcendcegmhliaaaGBase
import Derived.WalkKit
import Derived.WalkSpells
import Derived.StillTactics
import Derived.IntWalk
import Derived.Laws.Pointers
import Derived.Laws.Externs
import Derived.Deep.RegionHeld3
import Derived.RowKit3
import Derived.Outline
import Derived.Deep.MidRow
import Derived.Deep.WholeRow
import Derived.Deep.OwnRows
import Derived.Shelf.Abstract
import Derived.Deep.Draws
import Derived.Maps.AppendAt
import Derived.Laws.AppendOwnNone
namespace Go.Proofs.Ytcendcegmhliaaa.Gnd
open Go.RowKit Go.Sort
/-- A block's cells. -/
def At (w : World) (b : Nat) (C : Array Value) : Prop := b < w.heap.size ∧ (∀ j, w.frozen? ⟨b, j, none⟩ = false) ∧ ∀ j v, C[j]? = some v → w.cell? ⟨b, j, none⟩ = some v
theorem At.of_block {w : World} {b : Nat} {C : Array Value} {t : TypeId} (h : w.heap[b]? = some (.cells C t (0, 0))) : At w b C :=
  ⟨(Array.getElem?_eq_some_iff.1 h).1, fun j => frozen_of_row w b j C t h, fun j v hv => by rw [cell_of_row w b j C _ _ h]; exact hv⟩
theorem At.below {w w' : World} {b : Nat} {C : Array Value} {n : Nat} (h : At w b C) (hb : Below n w w') (hn : b < n) : At w' b C :=
  ⟨Nat.lt_of_lt_of_le h.1 hb.size, fun j => (hb.frozen (p := ⟨b, j, none⟩) hn).trans (h.2.1 j), fun j v hv => (hb.cell (p := ⟨b, j, none⟩) hn).trans (h.2.2 j v hv)⟩
theorem At.set {w : World} {b : Nat} {C : Array Value} (h : At w b C) (i : Nat) (v : Value) (hi : i < C.size) : At (w.setCell ⟨b, i, none⟩ v) b (C.setIfInBounds i v) := by
  have hc := h.2.2 i _ (Array.getElem?_eq_getElem hi)
  refine ⟨by simpa using h.1, fun j => ?_, fun j u hu => ?_⟩
  · rw [World.frozen?_setCell]; exact h.2.1 j
  · rw [Array.getElem?_setIfInBounds] at hu
    by_cases e : i = j
    · subst e
      rw [if_pos rfl, if_pos hi] at hu
      cases hu
      exact World.cell?_setCell_same _ _ _ hc
    · rw [if_neg e] at hu
      rw [World.cell?_setCell_other _ _ _ _ (by intro h; injection h; contradiction)]
      exact h.2.2 j u hu
def puts (C : Array Value) : Nat → List Value → Array Value
  | _, [] => C
  | o, v :: r => puts (C.setIfInBounds o v) (o + 1) r
theorem at_putsA : ∀ (vs : List Value) (o : Nat) (w : World) (b : Nat) (C : Array Value), At w b C → o + vs.length ≤ C.size → At (w.setCells b o vs) b (puts C o vs)
  | [], _, _, _, _, h, _ => h
  | v :: r, o, w, b, C, h, hs => by
    rw [List.length_cons] at hs
    exact at_putsA r (o + 1) _ b _ (h.set o v (by omega)) (by simp; omega)
theorem at_over {w : World} {b o : Nat} {C C' : Array Value} {vs : List Value} (h : At w b C) (hs : o + vs.length ≤ C.size) (he : C'.toList = C.toList.take o ++ (vs ++ C.toList.drop (o + vs.length))) : At (w.setCells b o vs) b C' := by
  have h0 := at_putsA vs o w b C h hs
  refine ⟨h0.1, h0.2.1, fun j v hv => ?_⟩
  rw [← Array.getElem?_toList, he] at hv
  have hC : C.toList.length = C.size := by simp
  have hcell : ∀ k u, C[k]? = some u → w.cell? ⟨b, k, none⟩ = some u := h.2.2
  have hlo : (C.toList.take o).length = o := by rw [List.length_take]; omega
  by_cases h1 : j < o
  · rw [List.getElem?_append_left (by omega), List.getElem?_take, if_pos h1, Array.getElem?_toList] at hv
    rw [World.cell?_setCells_out b vs o w ⟨b, j, none⟩ (fun _ _ => .inl h1)]
    exact hcell j v hv
  · rw [List.getElem?_append_right (by omega), hlo] at hv
    by_cases h2 : j - o < vs.length
    · rw [List.getElem?_append_left h2] at hv
      have := World.cell?_setCells_in b vs o w (fun i hi => by rw [hcell (o + i) _ (Array.getElem?_eq_getElem (show o + i < C.size by omega))]; rfl) (j - o) h2
      rw [show o + (j - o) = j by omega] at this
      rw [this, ← hv, List.getElem?_eq_getElem h2]
    · rw [List.getElem?_append_right (by omega), List.getElem?_drop, Array.getElem?_toList] at hv
      rw [World.cell?_setCells_out b vs o w ⟨b, j, none⟩ (fun _ _ => .inr (by show o + vs.length ≤ j; omega))]
      exact hcell j v (by rw [← hv]; congr 1; omega)
theorem at_there {w : World} {b : Nat} {C : Array Value} (h : At w b C) {o n : Nat} (hs : o + n ≤ C.size) : w.there b o n := fun j hj => by
  have hc := h.2.2 (o + j) _ (Array.getElem?_eq_getElem (show o + j < C.size by omega))
  exact ⟨by rw [hc]; rfl, h.2.1 _⟩
theorem at_cells {w : World} {b : Nat} {C : Array Value} (h : At w b C) {o : Nat} {cs : List Value} (hx : (C.toList.drop o).take cs.length = cs) : w.rangeAt b o cs := fun j v hv => by
  refine h.2.2 (o + j) v ?_
  have hj : j < cs.length := (List.getElem?_eq_some_iff.1 hv).1
  rw [← hx, List.getElem?_take, if_pos hj, List.getElem?_drop, Array.getElem?_toList] at hv
  exact hv
/-- A struct is read out of a block. -/
theorem load_at {w : World} {b o : Nat} {C : Array Value} (h : At w b C) {ty : TypeId} {c : Array Value} {d : TypeDesc} (hu : Try.prog.underlying ty = some d) (hd : d.isRow = true) (hi : (Try.prog.info? ty).map (·.size) = some c.size) (hx : (C.toList.drop o).take c.toList.length = c.toList) :
    (Instr.loadAt ty (.pointer (some ⟨b, o, none⟩))).run Try.prog w = .ok (.agg c) w := by
  have := run_loadAt_mid (P := Try.prog) w b o ty c.toList d (at_cells h hx) hu hd (by simpa using hi)
  simpa using this
theorem var_at {w : World} {b o : Nat} {C : Array Value} (h : At w b C) {ty : TypeId} {c : Array Value} {d : TypeDesc} (hu : Try.prog.underlying ty = some d) (hd : d.isRow = true) (hi : (Try.prog.info? ty).map (·.size) = some c.size) (hx : (C.toList.drop o).take c.toList.length = c.toList) :
    (loadVar ty ⟨b, o, none⟩).run Try.prog w = .ok (.agg c) w := by
  have := run_loadVar_mid (P := Try.prog) w b o ty c.toList d (at_cells h hx) hu hd (by simpa using hi)
  simpa using this
/-- .. and written. -/
theorem store_at {w : World} {b o : Nat} {C : Array Value} (h : At w b C) {ty : TypeId} {c : Array Value} (hs : o + c.size ≤ C.size) (hi : (Try.prog.info? ty).map (·.size) = some c.size) (h1 : c.all (·.oneCell') = true) :
    (Instr.storeAt ty (.pointer (some ⟨b, o, none⟩)) (.agg c)).run Try.prog w = .ok () (w.setCells b o c.toList) :=
  run_storeAt_mid (P := Try.prog) w b o ty c (at_there h hs) hi h1
theorem at_new (W : World) (C : Array Value) (t : TypeId) : At (W.alloc (.cells C t)) W.heap.size C := At.of_block (heap_alloc_last W _)
/-- A store whose run is known, in a region that draws. -/
theorem step_store_eq {P : Program} {ops : Array Oper} {o : Oper} {a : Act} {K : Act → World → Prop} {Q : Exit → Act → World → Prop} {X : Prop} {w w' : World} {p u : Value} (hgd : o.guard = none) (t : TypeId) (x y : Operand)
    (ho : o.op = .store t x y) (hx : a.eval x = p) (hy : a.eval y = u) (hrun : (Instr.storeAt t p u).run P w = .ok () w')
    (h : K (a.put o.dst undef) w') : if Region.wanted o (yielded ops a.tmps) = true then Oper.wp P o a w K Q else X := by
  have hw : Region.wanted o (yielded ops a.tmps) = true := by simp [Region.wanted, hgd]
  rw [if_pos hw]
  unfold Oper.wp
  simp [execOp, ho, hx, hy, hrun, Result.andThen]
  exact h
/-- Results of which the first lies in a cell. -/
theorem results_c {fn : Func} {tmps : Array Value} {a : Nat} {t : TypeId} {x : Addr} {v : Value} {w : World} (hr : fn.results = #[.cell a t]) (ha : tmps.getD a undef = .pointer (some x)) (h : (loadVar t x).run Try.prog w = .ok v w) : (results fn tmps).run Try.prog w = .ok v w := by
  have ha' : tmps[a]?.getD undef = .pointer (some x) := by simpa using ha
  simp [results, hr, ha', asAddr, h]
theorem results_ct {fn : Func} {tmps : Array Value} {a s : Nat} {t : TypeId} {x : Addr} {v : Value} {w : World} (hr : fn.results = #[.cell a t, .tmp s]) (ha : tmps.getD a undef = .pointer (some x)) (h : (loadVar t x).run Try.prog w = .ok v w) : (results fn tmps).run Try.prog w = .ok (.tuple #[v, tmps.getD s undef]) w := by
  have ha' : tmps[a]?.getD undef = .pointer (some x) := by simpa using ha
  simp [results, hr, ha', asAddr, h]
theorem results_t3 {fn : Func} {tmps : Array Value} {a b c : Nat} {w : World} (hr : fn.results = #[.tmp a, .tmp b, .tmp c]) : (results fn tmps).run Try.prog w = .ok (.tuple #[tmps.getD a undef, tmps.getD b undef, tmps.getD c undef]) w := by
  simp [results, hr]
theorem range_below {w w' : World} {b o : Nat} {vs : List Value} (h : w.rangeAt b o vs) (hb : Below w.heap.size w w') (hlt : b < w.heap.size) : w'.rangeAt b o vs := fun i v hv => (hb.cell (p := ⟨b, o + i, none⟩) hlt).trans (h i v hv)
theorem info_parts' {t : TypeId} {z : Value} {n b : Nat} (h : (Try.prog.info? t).map (fun i => (i.zero, i.size, i.bytes)) = some (some z, n, b)) : ∃ i, Try.prog.info? t = some i ∧ i.zero = some z ∧ i.size = n ∧ i.bytes = b := by
  obtain ⟨i, hi, hzz⟩ := Option.map_eq_some_iff.1 h
  simp only [Prod.mk.injEq] at hzz
  exact ⟨i, hi, hzz.1, hzz.2.1, hzz.2.2⟩
theorem below_box (w : World) (o : Obj) : Below w.heap.size w (w.alloc o) := (Below.refl _ _).alloc (Nat.le_refl _) o
/-- Only blocks have come. -/
def Grw (w W : World) : Prop := ∃ q os, W = grow (w.drewN q) os
theorem Grw.below {w W : World} (h : Grw w W) : Below w.heap.size w W := by
  obtain ⟨q, os, rfl⟩ := h
  exact ⟨rfl, rfl, rfl, by simp, fun k hk => heap_grow_old _ _ (by simpa using hk)⟩
theorem Grw.box (w : World) (o : Obj) : Grw w (w.alloc o) := ⟨0, #[o], by rw [alloc_eq_grow]; rfl⟩
theorem Grw.trans {a b c : World} (h : Grw a b) (k : Grw b c) : Grw a c := by
  obtain ⟨q, os, rfl⟩ := h
  obtain ⟨p, ot, rfl⟩ := k
  refine ⟨q + p, os ++ ot, ?_⟩
  rw [show (grow (a.drewN q) os).drewN p = grow ((a.drewN q).drewN p) os from rfl, grow_grow, World.drewN_drewN]
theorem tl_iff (a c : ByteArray) : (a.toList = c.toList) = (a = c) := by
  apply propext
  refine ⟨fun h => ?_, fun h => by rw [h]⟩
  rw [ByteArray.toList_eq, ByteArray.toList_eq] at h
  cases a; cases c
  simp only [ByteArray.mk.injEq]
  exact Array.toList_inj.1 h
theorem drewN_below (w : World) (q : Nat) : Below w.heap.size w (w.drewN q) := ⟨rfl, rfl, rfl, Nat.le_refl _, fun _ _ => rfl⟩
theorem lists_step {α : Type} {la lb : List α} {k : Nat} (ha : k < la.length) (hb : k < lb.length) (h : la.take k = lb.take k) (e : la[k] = lb[k]) : la.take (k + 1) = lb.take (k + 1) := by
  rw [List.take_succ_eq_append_getElem ha, List.take_succ_eq_append_getElem hb, h, e]
def SameE (p : Prop) (w : World) (e : Ending) (w' : World) : Prop := ∃ r : Bool, e = .returned (.bool r) ∧ (r = true ↔ p) ∧ Below w.heap.size w w'
theorem SameE.yes {p : Prop} {w w' : World} (h : p) (b : Below w.heap.size w w') : SameE p w (.returned (.bool true)) w' := ⟨true, rfl, ⟨fun _ => h, fun _ => rfl⟩, b⟩
theorem SameE.no {p : Prop} {w w' : World} (h : ¬ p) (b : Below w.heap.size w w') : SameE p w (.returned (.bool false)) w' := ⟨false, rfl, ⟨fun e => (by cases e), fun e => absurd e h⟩, b⟩
/-- A list out of what there is of each number. -/
theorem list_of {α : Type} (p : Nat → α → Prop) : ∀ n, (∀ j, j < n → ∃ x, p j x) → ∃ l : List α, l.length = n ∧ ∀ j (h : j < l.length), p j l[j]
  | 0, _ => ⟨[], rfl, fun j h => by simp at h⟩
  | n + 1, h => by
    obtain ⟨l, hl, hp⟩ := list_of p n (fun j hj => h j (by omega))
    obtain ⟨x, hx⟩ := h n (by omega)
    refine ⟨l ++ [x], by simp [hl], fun j hj => ?_⟩
    rw [List.length_append, List.length_singleton] at hj
    by_cases e : j < l.length
    · rw [List.getElem_append_left e]; exact hp j e
    · obtain rfl : j = l.length := by omega
      rw [List.getElem_append_right (Nat.le_refl _)]
      simp only [Nat.sub_self, List.getElem_singleton]
      rw [hl]; exact hx
theorem addr_add (b off j : Nat) : (⟨b, off, none⟩ : Addr).add j = ⟨b, off + j, none⟩ := by unfold Addr.add; split <;> simp_all
theorem str_of (s : ByteArray) : ∃ l : Bs, Value.string s = strV l := ⟨s.data.toList, by cases s; simp [strB]⟩
section
variable {P : Program} {ops : Array Oper} {rest : List Oper} {o : Oper} {a : Act} {Q : Exit → Act → World → Prop} {w w' : World} {v : Value}
theorem wpList_box_eq (hgd : o.guard = none) (t : TypeId) (x : Operand) (ho : o.op = .box t x) (c : Array Value) (hx : a.eval x = .agg c)
    (h : wpList P ops Q rest (a.put o.dst (.pointer (some ⟨w.heap.size, 0, none⟩))) (w.alloc (.cells c t))) : wpList P ops Q (o :: rest) a w := by
  refine wpList_plain hgd fun K hK => ?_
  unfold Oper.wp
  have hr : (Instr.box t (.agg c)).run P w = .ok (.pointer (some ⟨w.heap.size, 0, none⟩)) (w.alloc (.cells c t)) := by
    simp [Instr.box, newVar, newRow, Value.cells, Result.andThen]
  simp [execOp, ho, hx, hr, Result.andThen]
  exact hK _ _ h
theorem wpList_load_eq (hgd : o.guard = none) (t : TypeId) (x : Operand) (ho : o.op = .load t x) (p : Value) (hx : a.eval x = p) (hrun : (Instr.loadAt t p).run P w = .ok v w)
    (h : wpList P ops Q rest (a.put o.dst v) w) : wpList P ops Q (o :: rest) a w := by
  refine wpList_plain hgd fun K hK => ?_
  unfold Oper.wp
  simp [execOp, ho, hx, hrun, Result.andThen]
  exact hK _ _ h
theorem wpList_store_eq (hgd : o.guard = none) (t : TypeId) (x y : Operand) (ho : o.op = .store t x y) (p u : Value) (hx : a.eval x = p) (hy : a.eval y = u) (hrun : (Instr.storeAt t p u).run P w = .ok () w')
    (h : wpList P ops Q rest (a.put o.dst undef) w') : wpList P ops Q (o :: rest) a w := by
  refine wpList_plain hgd fun K hK => ?_
  unfold Oper.wp
  simp [execOp, ho, hx, hy, hrun, Result.andThen]
  exact hK _ _ h
end
/-- An append whose run is known, in a walk. -/
theorem wpList_append_eq {P : Program} {ops : Array Oper} {rest : List Oper} {o : Oper} {a : Act} {Q : Exit → Act → World → Prop} {w w' : World} {v u v' : Value} (hgd : o.guard = none) (s x : Operand) (t : TypeId)
    (ho : o.op = .call { callee := .builtin .append, args := #[s, x], argTypes := #[t, t] }) (hs : a.eval s = v) (hx : a.eval x = u) (hrun : (Builtin.append_ #[t, t] o.type #[v, u]).run P w = .ok v' w')
    (h : wpList P ops Q rest (a.put o.dst v') w') : wpList P ops Q (o :: rest) a w := by
  refine wpList_plain hgd fun K hK => ?_
  unfold Oper.wp
  simp [execOp, ho, resolve, invoke, builtin, hs, hx, hrun, Result.andThen]
  exact hK _ _ h
end Go.Proofs.Ytcendcegmhliaaa.Gnd
