/-
  Bytes with bytes 0 behind them, in a row of the call's own: append(append([]byte{}, b...), make([]byte, n)...).
-/
import Derived.Test.YtoldkhfnebjacaaDSame
import Derived.Lib.AppendZerosOnto
namespace Go.Proofs.Ytoldkhfnebjacaa.Disk
open Go.RowKit Go.Maps Gen

theorem zeroCells_byte (m : Nat) : Builtin.zeroCells #[Value.int .u8 0] m = ((List.replicate m (0 : UInt8)).map byteV).toArray := by
  apply Array.ext
  · simp [Builtin.zeroCells]
  · intro i h1 h2
    simp [Builtin.zeroCells, Nat.mod_one]
theorem take_two (a b c : List Value) (n : Nat) (h : n = a.length + b.length) : (a ++ (b ++ c)).take n = a ++ b := by
  rw [← List.append_assoc]
  exact List.take_left' (by simp [h])
theorem bytes_elem : Elem Try.prog 32 5 byteV :=
  ⟨Try.underlying32, ⟨_, _, 1, rfl, rfl, rfl, rfl, rfl, by omega⟩, fun _ => rfl⟩
theorem own_none (W : World) : OwnG (W.alloc (.cells #[] 5)) 5 byteV W.heap.size (.slice (some ⟨W.heap.size, 0, none⟩) 0 0) [] :=
  ⟨rfl, .inr ⟨W.heap.size, 0, #[], rfl, Nat.le_refl _, heap_alloc_new _ _, Nat.le_refl _, Nat.zero_le _, rfl, rfl⟩⟩
theorem byte_info : ∃ i, Try.prog.info? 5 = some i ∧ i.zero = some (.int .u8 0) ∧ i.size = 1 ∧ i.bytes = 1 := ⟨_, rfl, rfl, rfl, rfl⟩
/-- Bytes 0 behind bytes of the call's own. -/
theorem append_zeros (W : World) (B : Nat) (v : Value) (ys : Bs) (hown : OwnG W 5 byteV B v ys) (m : Nat) (k : IntKind) (hn : ys.length + m ≤ 1000000000000) (hB : B ≤ W.heap.size) :
    ∃ v' W', (Builtin.append_ #[32, 3] 32 #[v, .int k (m : Int)]).run Try.prog W = .ok v' W' ∧ OwnG W' 5 byteV B v' (ys ++ List.replicate m 0) ∧ W.grownBy W' v.ownBlock ∧ (v'.ownBlock = v.ownBlock ∨ v'.ownBlock = some W.heap.size) := by
  obtain ⟨i, hi, hz, hsz, hby⟩ := byte_info
  have ht := Try.underlying32
  have htn := Try.underlying3
  have h0 := hown
  obtain ⟨hl, ⟨rfl, hz0⟩ | ⟨g, cap, cur, rfl, hg, hh, hnc, hcm, hcs, htk⟩⟩ := h0
  · obtain rfl : ys = [] := List.eq_nil_of_length_eq_zero hz0
    rcases Nat.eq_zero_or_pos m with hm | hm
    · subst hm
      refine ⟨.slice none 0 0, W, ?_, by simpa using hown, World.grownBy.refl W _, .inl rfl⟩
      simp [Builtin.append_, run_underlying ht, run_underlying htn, sizeOf, typeInfo, hi, asInt, asIntOf, show IntKind.i64.wrap 0 = 0 by rfl]
    · have hr := Lib.run_append_nil_zeros (P := Try.prog) W _ _ 32 _ i _ k .i64 ht htn hi hz m hm (by omega) (by simp at hn; omega) (by rw [hby]; simp at hn; omega)
      refine ⟨_, _, hr, ?_, ⟨rfl, rfl, rfl, by simp, fun j hj _ => Below.heap_alloc W.drew _ j hj⟩, .inr rfl⟩
      refine ⟨by simp, .inr ⟨W.heap.size, _, _, by simp only [List.nil_append, List.length_replicate], hB, heap_alloc_new W.drew _, by simpa using grownCap_ge W m 0 5, grownCap_le_maxLen W m 0 5 (by simp only [maxLen]; simp at hn; omega), ?_, ?_⟩⟩
      · have := grownCap_ge W m 0 5
        simp [size_zeroCells, Value.cells]
        omega
      · rw [show (Value.int .u8 0).cells = #[.int .u8 0] by rfl, zeroCells_byte m]
        simp
  · by_cases hroom : ys.length + m ≤ cap
    · have hst := run_storeCells_at Try.prog g ys.length 5 ((List.replicate m (0 : UInt8)).map byteV) 0 cur W hh (by simp; omega) (fun u hu => by
        obtain ⟨x, _, rfl⟩ := List.mem_map.1 hu; rfl)
      simp only [Nat.add_zero] at hst
      have hw : IntKind.i64.wrap (m : Int) = m := by rw [IntKind.wrap_i64]; omega
      have hneg : ¬ ((m : Int) < 0) := by omega
      have h48i : ¬ (281474976710656 < (m : Int)) := by omega
      have hr : (Builtin.append_ #[32, 3] 32 #[.slice (some ⟨g, 0, none⟩) ys.length cap, .int k (m : Int)]).run Try.prog W =
          .ok (.slice (some ⟨g, 0, none⟩) (ys.length + m) cap) (W.setRow g (cur.toList.take ys.length ++ ((List.replicate m (0 : UInt8)).map byteV) ++ cur.toList.drop (ys.length + ((List.replicate m (0 : UInt8)).map byteV).length)).toArray) := by
        have hcc : (Value.int .u8 0).cells = #[.int .u8 0] := rfl
        by_cases hm : m = 0
        · subst hm
          have he : cur.toList.take ys.length ++ ((List.replicate 0 (0 : UInt8)).map byteV) ++ cur.toList.drop (ys.length + ((List.replicate 0 (0 : UInt8)).map byteV).length) = cur.toList := by simp
          rw [he]
          simp [Builtin.append_, run_underlying ht, run_underlying htn, sizeOf, typeInfo, hi, hby, asInt, asIntOf, show IntKind.i64.wrap 0 = 0 by rfl, hnc, storeCells, setRow_self W g _ _ _ hh]
        · simp [Builtin.append_, run_underlying ht, run_underlying htn, sizeOf, typeInfo, zeroValue, hi, hz, hsz, hby, asInt, asIntOf, hw, hneg, h48i, hroom, hm, hcc, zeroCells_byte, Addr.add_lit]
          simp at hst
          rw [hst]
          rfl
      refine ⟨_, _, hr, ⟨by simp [Nat.mul_one], .inr ⟨g, cap, _, by simp, hg, setRow_heap W g cur _ _ _ hh, by simpa using hroom, hcm, ?_, ?_⟩⟩, ⟨rfl, rfl, rfl, by simp, fun j _ hj => setRow_other W g j _ (fun e => hj (by simp [Value.ownBlock, e]))⟩, .inl rfl⟩
      · simp; omega
      · have e1 : cur.toList.take ys.length = ys.map byteV := by simpa using htk
        rw [e1]
        simp only [List.append_assoc, Nat.mul_one, List.map_append]
        exact take_two _ _ _ _ (by simp)
    · have hm : 0 < m := by omega
      have hold : (Builtin.firstCells i.size ys.length (.slice (some ⟨g, 0, none⟩) ys.length cap)).run Try.prog W.drew = .ok (ys.map byteV).toArray W.drew := by
        rw [hsz]
        exact run_firstCells_some W.drew 1 ys.length ⟨g, 0, none⟩ ys.length cap (ys.map byteV) (by simp) (fun j u hu => by
          have e : (⟨g, 0, none⟩ : Addr).add j = ⟨g, j, none⟩ := by unfold Addr.add; split <;> simp_all
          rw [e]
          show W.cell? _ = _
          rw [cell_of_row W g j cur _ _ hh, ← Array.getElem?_toList]
          have hj : j < ys.length := by simpa using (List.getElem?_eq_some_iff.1 hu).1
          rw [← hu, ← htk, List.getElem?_take_of_lt (by simpa using hj)])
      have hr := Lib.run_append_grow_zeros (P := Try.prog) W _ _ 32 _ i _ k .i64 ht htn hi hz (some ⟨g, 0, none⟩) ys.length cap (ys.map byteV) hold m hm (by omega) (by omega) (by omega) (by rw [hby]; omega) (by
        rw [hby]; exact growslice_fits (by omega) (by omega))
      refine ⟨_, _, hr, ?_, ⟨rfl, rfl, rfl, by simp, fun j hj _ => Below.heap_alloc W.drew _ j hj⟩, .inr rfl⟩
      refine ⟨by simp, .inr ⟨W.heap.size, _, _, by simp only [List.length_append, List.length_replicate], hB, heap_alloc_new W.drew _, by simpa using grownCap_ge W (ys.length + m) cap 5, grownCap_le_maxLen W (ys.length + m) cap 5 (by simp only [maxLen]; omega), ?_, ?_⟩⟩
      · have := grownCap_ge W (ys.length + m) cap 5
        simp [size_zeroCells, Value.cells]
        omega
      · rw [show (Value.int .u8 0).cells = #[.int .u8 0] by rfl, zeroCells_byte m]
        simp only [Array.toList_append, List.append_assoc, Nat.mul_one, List.map_append]
        exact take_two _ _ _ _ (by simp)
/-- Bytes, padded, in a row of the call's own. -/
theorem pad_row2 (W : World) (A : Option Addr) (n c : Nat) (l : Bs) (hl : l.length = n) (hA : A = none → c = 0) (hR : BRow W A l) (hn : n ≤ 1024) :
    ∃ v1 W1 A2 c2 W2, (Builtin.append_ #[32, 32] 32 #[.slice (some ⟨W.heap.size, 0, none⟩) 0 0, .slice A n c]).run Try.prog (W.alloc (.cells #[] 5)) = .ok v1 W1 ∧
      (Builtin.append_ #[32, 3] 32 #[v1, .int .i64 (1024 - (n : Int))]).run Try.prog W1 = .ok (.slice A2 1024 c2) W2 ∧ 1024 ≤ c2 ∧ c2 ≤ maxLen ∧ BRow W2 A2 (pad l) ∧ (∀ a, A2 = some a → W.heap.size ≤ a.block) ∧ Below W.heap.size W W2 ∧ Below W.heap.size W W1 := by
  have hb0 : Below W.heap.size W (W.alloc (.cells #[] 5)) := (Below.refl _ _).alloc (Nat.le_refl _) _
  obtain ⟨v1, W1, r1, o1, g1, e1⟩ := append_row bytes_elem (W.alloc (.cells #[] 5)) W.heap.size (.slice (some ⟨W.heap.size, 0, none⟩) 0 0) [] (own_none W) A n c l hl hA (RowG.below hR hb0) (by simp; omega) (by simp)
  have hb1 : Below W.heap.size W W1 := hb0.grown g1 hb0.size (fun j hj => by simp [Value.ownBlock] at hj; omega)
  rw [List.nil_append] at o1
  obtain ⟨v2, W2, r2, o2, g2, e2⟩ := append_zeros W1 W.heap.size v1 l o1 (1024 - n) .i64 (by omega) hb1.size
  have hb2 : Below W.heap.size W W2 := below_grown hb1 o1 g2 hb1.size
  have hp : l ++ List.replicate (1024 - n) 0 = pad l := by rw [pad, hl]
  rw [hp] at o2
  have o3 := o2
  obtain ⟨A2, c2, rfl, _, hlc, hcm, hrow⟩ := o2.row
  rw [pad_len (by omega)] at hlc r2
  refine ⟨v1, W1, A2, c2, W2, r1, ?_, hlc, hcm, hrow, fun a ha => ?_, hb2, hb1⟩
  · rw [show (1024 : Int) - (n : Int) = ((1024 - n : Nat) : Int) by omega]
    exact r2
  · subst ha
    exact (World.ownsRow.lt o3 a.block rfl).1
theorem pad_row (W : World) (A : Option Addr) (n c : Nat) (l : Bs) (hl : l.length = n) (hA : A = none → c = 0) (hR : BRow W A l) (hn : n ≤ 1024) :
    ∃ v1 W1 A2 c2 W2, (Builtin.append_ #[32, 32] 32 #[.slice (some ⟨W.heap.size, 0, none⟩) 0 0, .slice A n c]).run Try.prog (W.alloc (.cells #[] 5)) = .ok v1 W1 ∧
      (Builtin.append_ #[32, 3] 32 #[v1, .int .i64 (1024 - (n : Int))]).run Try.prog W1 = .ok (.slice A2 1024 c2) W2 ∧ 1024 ≤ c2 ∧ c2 ≤ maxLen ∧ BRow W2 A2 (pad l) ∧ (∀ a, A2 = some a → W.heap.size ≤ a.block) ∧ Below W.heap.size W W2 := by
  obtain ⟨v1, W1, A2, c2, W2, h1, h2, h3, h4, h5, h6, h7, _⟩ := pad_row2 W A n c l hl hA hR hn
  exact ⟨v1, W1, A2, c2, W2, h1, h2, h3, h4, h5, h6, h7⟩
/-- An append of whatever is given, whose run is known, in a walk. -/
theorem wpList_append2_eq {P : Program} {ops : Array Oper} {rest : List Oper} {o : Oper} {a : Act} {Q : Exit → Act → World → Prop} {w w' : World} {v u v' : Value} (hgd : o.guard = none) (s x : Operand) (t t' : TypeId)
    (ho : o.op = .call { callee := .builtin .append, args := #[s, x], argTypes := #[t, t'] }) (hs : a.eval s = v) (hx : a.eval x = u) (hrun : (Builtin.append_ #[t, t'] o.type #[v, u]).run P w = .ok v' w')
    (h : wpList P ops Q rest (a.put o.dst v') w') : wpList P ops Q (o :: rest) a w := by
  refine wpList_plain hgd fun K hK => ?_
  unfold Oper.wp
  simp [execOp, ho, resolve, invoke, builtin, hs, hx, hrun, Result.andThen]
  exact hK _ _ h
/-- .. and in a region that draws its order. -/
theorem step_append2_eq {P : Program} {ops : Array Oper} {o : Oper} {a : Act} {K : Act → World → Prop} {Q : Exit → Act → World → Prop} {X : Prop} {w w' : World} {v u v' : Value} (hgd : o.guard = none) (s x : Operand) (t t' : TypeId)
    (ho : o.op = .call { callee := .builtin .append, args := #[s, x], argTypes := #[t, t'] }) (hs : a.eval s = v) (hx : a.eval x = u) (hrun : (Builtin.append_ #[t, t'] o.type #[v, u]).run P w = .ok v' w')
    (h : K (a.put o.dst v') w') : if Region.wanted o (yielded ops a.tmps) = true then Oper.wp P o a w K Q else X := by
  have hw : Region.wanted o (yielded ops a.tmps) = true := by simp [Region.wanted, hgd]
  rw [if_pos hw]
  unfold Oper.wp
  simp [execOp, ho, resolve, invoke, builtin, hs, hx, hrun, Result.andThen]
  exact h
end Go.Proofs.Ytoldkhfnebjacaa.Disk
