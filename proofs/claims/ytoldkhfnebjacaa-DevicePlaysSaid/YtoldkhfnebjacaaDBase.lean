/-
  A sector's bytes as a value, how a map's element reads as them, and operations whose run is known, in a walk.
-/
import Derived.WalkKit
import Derived.Maps.RangeWalk
import Derived.Deep.WholeRow
import Derived.Laws.StructEq
import Derived.Laws.CopyOwn
import Derived.Lib.Hide
import Derived.Lib.Walk
import Derived.Test.YtoldkhfnebjacaaProg
namespace Go.Proofs.Ytoldkhfnebjacaa.Disk
open Go.RowKit Go.Maps

abbrev Bs := List UInt8
abbrev byteV (c : UInt8) : Value := .int .u8 (c.toNat : Int)
def secC (l : Bs) : Array Value := (l.map byteV).toArray
def zeros : Bs := List.replicate 1024 0
theorem zeros_len : zeros.length = 1024 := List.length_replicate
theorem secC_size (l : Bs) : (secC l).size = l.length := by simp [secC]
theorem secC_get (l : Bs) (k : Nat) (h : k < l.length) : (secC l)[k]? = some (byteV l[k]) := by simp [secC, h]
theorem secC_one (l : Bs) : (secC l).all (·.oneCell') = true := by
  rw [Array.all_eq_true']
  intro x hx
  simp only [secC, List.mem_toArray, List.mem_map] at hx
  obtain ⟨c, _, rfl⟩ := hx
  rfl
theorem zero_cells : Try.zeroCells66 = secC zeros := by kernel_rfl
theorem byteV_inj {a b : UInt8} (h : byteV a = byteV b) : a = b := by
  injection h with _ h
  exact UInt8.toNat_inj.1 (by omega)
theorem secC_inj {l m : Bs} (h : secC l = secC m) : l = m := by
  have h2 : l.map byteV = m.map byteV := by simpa [secC] using congrArg Array.toList h
  exact (List.map_inj_right (fun a b => byteV_inj)).1 h2

def isB : Value → Bool
  | .int .u8 n => decide (0 ≤ n) && decide (n < 256)
  | _ => false
def byteOf : Value → UInt8
  | .int _ n => UInt8.ofNat n.toNat
  | _ => 0
/-- How a sector in a map reads: as a text of its bytes. -/
def SecR : Value → Option (DataW Unit × List MemPlace)
  | .agg cs => if cs.size = 1024 ∧ cs.toList.all isB = true then some (.lit (.string (cs.toList.map byteOf)), []) else none
  | _ => none
theorem byteOf_byteV (c : UInt8) : byteOf (byteV c) = c := by simp [byteOf]
theorem byteV_byteOf {v : Value} (h : isB v = true) : byteV (byteOf v) = v := by
  unfold isB at h
  split at h
  · simp at h
    have e : (UInt8.ofNat (Int.toNat ‹Int›)).toNat = (Int.toNat ‹Int›) := by rw [UInt8.toNat_ofNat']; omega
    simp only [byteOf, byteV]
    rw [e, Int.toNat_of_nonneg h.1]
  · cases h
theorem secR_mk {l : Bs} (h : l.length = 1024) : SecR (.agg (secC l)) = some (.lit (.string l), []) := by
  have h1 : (secC l).toList.all isB = true := by
    rw [List.all_eq_true]
    intro x hx
    simp only [secC, List.mem_map] at hx
    obtain ⟨c, _, rfl⟩ := hx
    have := c.toNat_lt
    simp [isB]
    omega
  have h2 : (secC l).toList.map byteOf = l := by
    simp only [secC, List.map_map]
    conv => rhs; rw [← List.map_id l]
    exact List.map_congr_left (fun c _ => byteOf_byteV c)
  rw [SecR, if_pos ⟨by rw [secC_size, h], h1⟩, h2]
theorem secR_inv {v : Value} {z : DataW Unit × List MemPlace} (h : SecR v = some z) : ∃ l : Bs, l.length = 1024 ∧ v = .agg (secC l) ∧ z = (.lit (.string l), []) := by
  unfold SecR at h
  split at h
  · rename_i cs
    split at h
    · rename_i hc
      obtain ⟨hs, ha⟩ := hc
      refine ⟨cs.toList.map byteOf, by simp [hs], ?_, by cases h; rfl⟩
      congr 1
      apply Array.ext'
      simp only [secC, List.map_map]
      conv => lhs; rw [← List.map_id cs.toList]
      exact List.map_congr_left (fun x hx => (byteV_byteOf (List.all_eq_true.1 ha x hx)).symm)
    · cases h
  · cases h

/-! ### two sectors compared -/
theorem run_part_byte (l : Bs) (k : Nat) (h : k < l.length) (w : World) : (part 5 (secC l) (k * 1)).run Try.prog w = .ok (byteV l[k]) w := by
  simp [part, Try.isAgg5, Result.andThen, secC_get l k h]
theorem run_equal_list (l m : Bs) (d : Nat) (w : World) : ∀ (ks : List Nat), (∀ k ∈ ks, k < l.length ∧ k < m.length) →
    (forIn (m := Sem) ks ((none : Option Bool), ()) fun i __s => do
        let x ← part 5 (secC l) (i * 1)
        let y ← part 5 (secC m) (i * 1)
        let b ← Op.equalIn (d + 1) 5 x y
        if (!b) = true then pure (ForInStep.done (some false, ())) else pure (ForInStep.yield (none, ()))).run Try.prog w = .ok (if ∀ k ∈ ks, l[k]? = m[k]? then none else some false, ()) w
  | [], _ => by simp
  | k :: ks, h => by
    obtain ⟨h1, h2⟩ := h k (List.mem_cons_self ..)
    have ih := run_equal_list l m d w ks (fun j hj => h j (List.mem_cons_of_mem _ hj))
    simp only [List.forIn_cons, Sem.run_bind, run_part_byte l k h1, run_part_byte m k h2, Result.andThen_ok, run_equalIn_int w d 5 .u8 .u8 _ _ Try.underlying5]
    by_cases e : l[k] = m[k]
    · have e1 : (((l[k].toNat : Int)) == (m[k].toNat : Int)) = true := by rw [e]; simp
      have e2 : l[k]? = m[k]? := by rw [List.getElem?_eq_getElem h1, List.getElem?_eq_getElem h2, e]
      simp only [e1, Bool.not_true, Bool.false_eq_true, if_false, Sem.run_pure, Result.andThen_ok]
      rw [ih]
      simp [e2]
    · have e1 : (((l[k].toNat : Int)) == (m[k].toNat : Int)) = false := beq_eq_false_iff_ne.2 (fun h => e (UInt8.toNat_inj.1 (by omega)))
      have e2 : ¬ l[k]? = m[k]? := by rw [List.getElem?_eq_getElem h1, List.getElem?_eq_getElem h2]; simpa using e
      simp only [e1, Bool.not_false, if_true, Sem.run_pure, Result.andThen_ok]
      rw [if_neg (fun h => e2 (h k (List.mem_cons_self ..)))]
theorem run_equalIn_sec (l m : Bs) (d : Nat) (w : World) (hl : l.length = 1024) (hm : m.length = 1024) : (Op.equalIn (d + 2) 66 (.agg (secC l)) (.agg (secC m))).run Try.prog w = .ok (decide (l = m)) w := by
  simp only [Op.equalIn, Sem.run_bind, run_underlying Try.underlying66, Result.andThen_ok, Try.sizeOf5]
  have h := run_equal_list l m d w (List.range' 0 1024) (fun k hk => by rw [hl, hm]; simp at hk; exact ⟨hk, hk⟩)
  rw [Std.Legacy.Range.forIn_eq_forIn_range']
  simp only [Std.Legacy.Range.size, Nat.sub_zero, Nat.add_sub_cancel, Nat.div_one]
  simp only [Op.equalIn] at h ⊢
  rw [h]
  by_cases e : l = m
  · subst e; simp
  · have : ¬ ∀ k ∈ List.range' 0 1024, l[k]? = m[k]? := fun hh => e (by
      apply List.ext_getElem?
      intro k
      by_cases hk : k < 1024
      · exact hh k (by simp; exact hk)
      · rw [List.getElem?_eq_none (by omega), List.getElem?_eq_none (by omega)])
    rw [if_neg this]
    simp [e]
theorem run_eql_sec (l m : Bs) (w : World) (hl : l.length = 1024) (hm : m.length = 1024) : (binOp .eql 66 (.agg (secC l)) (.agg (secC m))).run Try.prog w = .ok (.bool (decide (l = m))) w := by
  rw [run_eql_struct, run_equalIn_sec l m 9998 w hl hm]; rfl
theorem run_guard_sec (x y : Operand) (l m : Bs) (w : World) : (eqGuard .eql 66 x y (.agg (secC l)) (.agg (secC m))).run Try.prog w = .ok () w := run_eqGuard_agg w .eql _ x y _ _ (by kernel_rfl)
theorem run_build_sec (w : World) : (Instr.build 66 #[]).run Try.prog w = .ok (.agg (secC zeros)) w := by
  simp [Instr.build, Try.zeroValue66, run_underlying Try.underlying66, Try.sizeOf5, Result.andThen, Value.cells, Instr.fill, zero_cells]

/-! ### operations whose run is known -/
section
variable {P : Program} {ops : Array Oper} {rest : List Oper} {o : Oper} {a : Act} {Q : Exit → Act → World → Prop} {w w' : World} {v : Value}
theorem wpList_box_eq (hgd : o.guard = none) (t : TypeId) (x : Operand) (ho : o.op = .box t x) (c : Array Value) (hx : a.eval x = .agg c)
    (h : wpList P ops Q rest (a.put o.dst (.pointer (some ⟨w.heap.size, 0, none⟩))) (w.alloc (.cells c t))) : wpList P ops Q (o :: rest) a w := by
  refine wpList_plain hgd fun K hK => ?_
  unfold Oper.wp
  have hr : (Instr.box t (.agg c)).run P w = .ok (.pointer (some ⟨w.heap.size, 0, none⟩)) (w.alloc (.cells c t)) := by
    simp [Instr.box, newVar, newRow, Value.cells, Result.andThen]
  simp [execOp, ho, hx, hr, Result.andThen]
  exact hK _ _ h
theorem wpList_alloc_eq (hgd : o.guard = none) (t : TypeId) (ho : o.op = .alloc t) (c : Array Value) (hz : (zeroValue t).run P w = .ok (.agg c) w)
    (h : wpList P ops Q rest (a.put o.dst (.pointer (some ⟨w.heap.size, 0, none⟩))) (w.alloc (.cells c t))) : wpList P ops Q (o :: rest) a w := by
  refine wpList_plain hgd fun K hK => ?_
  unfold Oper.wp
  have hr : (Instr.alloc t true (.tuple #[])).run P w = .ok (.pointer (some ⟨w.heap.size, 0, none⟩)) (w.alloc (.cells c t)) := by
    simp [Instr.alloc, hz, newVar, newRow, Value.cells, Result.andThen]
  simp [execOp, ho, hr, Result.andThen]
  exact hK _ _ h
theorem wpList_load_eq (hgd : o.guard = none) (t : TypeId) (x : Operand) (ho : o.op = .load t x) (p : Value) (hx : a.eval x = p) (hrun : (Instr.loadAt t p).run P w = .ok v w)
    (h : wpList P ops Q rest (a.put o.dst v) w) : wpList P ops Q (o :: rest) a w := by
  refine wpList_plain hgd fun K hK => ?_
  unfold Oper.wp
  simp [execOp, ho, hx, hrun, Result.andThen]
  exact hK _ _ h
theorem wpList_store_eq (hgd : o.guard = none) (t : TypeId) (x y : Operand) (ho : o.op = .store t x y) (p u : Value) (hx : a.eval x = p) (hy : a.eval y = u) (hrun : (Instr.storeAt t p u).run P w = .ok () w')
    (h : wpList P ops Q rest (a.put o.dst undef) w') : wpList P ops Q (o :: rest) a w := by
  refine wpList_plain hgd fun K hK => ?_
  unfold Oper.wp
  simp [execOp, ho, hx, hy, hrun, Result.andThen]
  exact hK _ _ h
theorem wpList_lookup_eq (hgd : o.guard = none) (t : TypeId) (x y : Operand) (ok : Bool) (ho : o.op = .lookup t x y ok) (p u : Value) (hx : a.eval x = p) (hy : a.eval y = u) (hrun : (Instr.lookup t p u ok).run P w = .ok v w)
    (h : wpList P ops Q rest (a.put o.dst v) w) : wpList P ops Q (o :: rest) a w := by
  refine wpList_plain hgd fun K hK => ?_
  unfold Oper.wp
  simp [execOp, ho, hx, hy, hrun, Result.andThen]
  exact hK _ _ h
theorem wpList_mapUpdate_eq (hgd : o.guard = none) (t : TypeId) (x y z : Operand) (ho : o.op = .mapUpdate t x y z) (p u q : Value) (hx : a.eval x = p) (hy : a.eval y = u) (hz : a.eval z = q) (hrun : (Instr.mapUpdate t p u q).run P w = .ok () w')
    (h : wpList P ops Q rest (a.put o.dst undef) w') : wpList P ops Q (o :: rest) a w := by
  refine wpList_plain hgd fun K hK => ?_
  unfold Oper.wp
  simp [execOp, ho, hx, hy, hz, hrun, Result.andThen]
  exact hK _ _ h
theorem wpList_delete_eq (hgd : o.guard = none) (t k : TypeId) (x y : Operand) (ho : o.op = .call { callee := .builtin .delete, args := #[x, y], argTypes := #[t, k] }) (p u : Value) (hx : a.eval x = p) (hy : a.eval y = u)
    (hrun : (Builtin.delete_ #[t, k] o.type #[p, u]).run P w = .ok (.tuple #[]) w') (h : wpList P ops Q rest (a.put o.dst (.tuple #[])) w') : wpList P ops Q (o :: rest) a w := by
  refine wpList_plain hgd fun K hK => ?_
  unfold Oper.wp
  simp [execOp, ho, resolve, invoke, builtin, hx, hy, hrun, Result.andThen]
  exact hK _ _ h
theorem wpList_clear_eq (hgd : o.guard = none) (t : TypeId) (x : Operand) (ho : o.op = .call { callee := .builtin .clear, args := #[x], argTypes := #[t] }) (p : Value) (hx : a.eval x = p)
    (hrun : (Builtin.clear_ #[t] o.type #[p]).run P w = .ok (.tuple #[]) w') (h : wpList P ops Q rest (a.put o.dst (.tuple #[])) w') : wpList P ops Q (o :: rest) a w := by
  refine wpList_plain hgd fun K hK => ?_
  unfold Oper.wp
  simp [execOp, ho, resolve, invoke, builtin, hx, hrun, Result.andThen]
  exact hK _ _ h
theorem wpList_binop_eq (hgd : o.guard = none) (op : BinOp) (t t' : TypeId) (x y : Operand) (ho : o.op = .binOp op t x y t') (p u : Value) (hx : a.eval x = p) (hy : a.eval y = u) (hg : (eqGuard op t x y p u).run P w = .ok () w) (hrun : (binOp op t p u).run P w = .ok v w)
    (h : wpList P ops Q rest (a.put o.dst v) w) : wpList P ops Q (o :: rest) a w := by
  refine wpList_plain hgd fun K hK => ?_
  unfold Oper.wp
  simp [execOp, ho, hx, hy, hg, hrun, Result.andThen]
  exact hK _ _ h
theorem wpList_build_eq (hgd : o.guard = none) (t : TypeId) (ho : o.op = .build t #[]) (hrun : (Instr.build t #[]).run P w = .ok v w)
    (h : wpList P ops Q rest (a.put o.dst v) w) : wpList P ops Q (o :: rest) a w := by
  refine wpList_plain hgd fun K hK => ?_
  unfold Oper.wp
  simp [execOp, ho, hrun, Result.andThen]
  exact hK _ _ h
end
end Go.Proofs.Ytoldkhfnebjacaa.Disk
