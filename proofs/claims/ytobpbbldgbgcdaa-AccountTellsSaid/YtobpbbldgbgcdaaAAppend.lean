/-
  Lists of amounts that a statement joins: what append does to one of the call's own.
-/
import Derived.Test.YtobpbbldgbgcdaaASum
import Derived.Maps.AppendAt
import Derived.Laws.AppendOwnNone
namespace Go.Proofs.Ytobpbbldgbgcdaa.Coin
open Go.RowKit

/-- Amounts as cells. -/
def cellsOf (zs : List Int) : List Value := zs.map (Value.int .i64)
/-- The call's own list of just these amounts, in a block from B on. -/
def Own (w : World) (B : Nat) (v : Value) (zs : List Int) : Prop := w.ownsRow B 2 1 v zs.length (cellsOf zs)

theorem i64_info : (Try.prog.info? 2).map (fun i => (i.zero, i.size, i.bytes)) = some (some (.int .i64 0), 1, 8) := by kernel_rfl

theorem cells_get (zs : List Int) (j : Nat) (u : Value) (h : (cellsOf zs)[j]? = some u) : j < zs.length ∧ u = .int .i64 (zs.getD j 0) := by
  unfold cellsOf at h
  rw [List.getElem?_map, Option.map_eq_some_iff] at h
  obtain ⟨z, hz, rfl⟩ := h
  exact ⟨(List.getElem?_eq_some_iff.1 hz).1, by simp [hz]⟩

theorem append_row (W : World) (B : Nat) (v : Value) (ys : List Int) (hown : Own W B v ys) (A : Option Addr) (m c : Nat) (zs : List Int) (hz : zs.length = m) (hA : A = none → c = 0) (hrow : Row W A zs)
    (hn : ys.length + m ≤ 1000000000000) (hB : B ≤ W.heap.size) :
    ∃ v' W', (Builtin.append_ #[40, 40] 40 #[v, .slice A m c]).run Try.prog W = .ok v' W' ∧ Own W' B v' (ys ++ zs) ∧ W.grownBy W' v.ownBlock ∧ (v'.ownBlock = v.ownBlock ∨ v'.ownBlock = some W.heap.size) := by
  obtain ⟨i0, hi, hz0, hz1, hz2⟩ := info_parts i64_info
  rcases A with _ | a
  · have hm : zs = [] := by
      rcases zs with _ | ⟨z, zs⟩
      · rfl
      · obtain ⟨b, o, h, _⟩ := hrow (by simp); cases h
    subst hm
    obtain rfl : c = 0 := hA rfl
    obtain rfl : m = 0 := hz.symm
    refine ⟨v, W, run_append_owned_none (P := Try.prog) (w := W) B _ _ 2 i0 1 Try.underlying40 hi v _ _ hown, by rw [List.append_nil]; exact hown, World.grownBy.refl W _, .inl rfl⟩
  · obtain ⟨v', w', h1, h2, h3, _, h5⟩ := run_append_own_at (P := Try.prog) W B 40 40 2 i0 (.int .i64 0) 1 8 Try.underlying40 hi hz0 hz1 hz2 rfl (by decide) v _ _ hown a m c (cellsOf zs) (by simp [cellsOf, hz])
      (fun j u hu => by
        obtain ⟨hj, rfl⟩ := cells_get zs j u hu
        obtain ⟨b, o, h, _, hc⟩ := hrow (by intro e; subst e; simp at hj)
        injection h with h
        subst h
        have e : (⟨b, o, none⟩ : Addr).add j = ⟨b, o + j, none⟩ := by unfold Addr.add; split <;> simp_all
        rw [e]; exact hc j hj)
      (fun u hu => by
        obtain ⟨z, _, rfl⟩ := List.mem_map.1 hu
        rfl)
      (by simp only [maxLen]; omega) (by omega) hB
    refine ⟨v', w', h1, ?_, h3, h5⟩
    unfold Own
    rw [List.length_append, hz]
    have e : cellsOf (ys ++ zs) = cellsOf ys ++ cellsOf zs := by simp [cellsOf]
    rw [e]; exact h2

/-- An append whose run is known, in a walk. -/
theorem wpList_append_eq {P : Program} {ops : Array Oper} {rest : List Oper} {o : Oper} {a : Act} {Q : Exit → Act → World → Prop} {w w' : World} {v u v' : Value} (hgd : o.guard = none) (s x : Operand) (t : TypeId)
    (ho : o.op = .call { callee := .builtin .append, args := #[s, x], argTypes := #[t, t] }) (hs : a.eval s = v) (hx : a.eval x = u) (hrun : (Builtin.append_ #[t, t] o.type #[v, u]).run P w = .ok v' w')
    (h : wpList P ops Q rest (a.put o.dst v') w') : wpList P ops Q (o :: rest) a w := by
  refine wpList_plain hgd fun K hK => ?_
  unfold Oper.wp
  simp [execOp, ho, resolve, invoke, builtin, hs, hx, hrun, Result.andThen]
  exact hK _ _ h

/-- .. and in a region that draws its order; of a row that came in, or was made. -/
theorem step_append_row {ops : Array Oper} {o : Oper} {a : Act} {K : Act → World → Prop} {Q : Exit → Act → World → Prop} {E : Prop} {w : World} (hgd : o.guard = none) (s x : Operand)
    (ho : o.op = .call { callee := .builtin .append, args := #[s, x], argTypes := #[40, 40] }) (hty : o.type = 40)
    (B : Nat) (v : Value) (ys : List Int) (A : Option Addr) (m c : Nat) (zs : List Int) (hs : a.eval s = v) (hx : a.eval x = .slice A m c) (hown : Own w B v ys) (hz : zs.length = m) (hA : A = none → c = 0) (hrow : Row w A zs)
    (hn : ys.length + m ≤ 1000000000000) (hB : B ≤ w.heap.size)
    (h : ∀ v' w', Own w' B v' (ys ++ zs) → w.grownBy w' v.ownBlock → (v'.ownBlock = v.ownBlock ∨ v'.ownBlock = some w.heap.size) → K (a.put o.dst v') w') :
    if Region.wanted o (yielded ops a.tmps) = true then Oper.wp Try.prog o a w K Q else E := by
  have hw : Region.wanted o (yielded ops a.tmps) = true := by simp [Region.wanted, hgd]
  rw [if_pos hw]
  obtain ⟨v', w', hrun, h1, h2, h3⟩ := append_row w B v ys hown A m c zs hz hA hrow hn hB
  unfold Oper.wp
  simp [execOp, ho, hty, resolve, invoke, builtin, hs, hx, hrun, Result.andThen]
  exact h v' w' h1 h2 h3
/-- .. and in one that does not. -/
theorem wpList_append_row {ops : Array Oper} {rest : List Oper} {o : Oper} {a : Act} {Q : Exit → Act → World → Prop} {w : World} (hgd : o.guard = none) (s x : Operand)
    (ho : o.op = .call { callee := .builtin .append, args := #[s, x], argTypes := #[40, 40] }) (hty : o.type = 40)
    (B : Nat) (v : Value) (ys : List Int) (A : Option Addr) (m c : Nat) (zs : List Int) (hs : a.eval s = v) (hx : a.eval x = .slice A m c) (hown : Own w B v ys) (hz : zs.length = m) (hA : A = none → c = 0) (hrow : Row w A zs)
    (hn : ys.length + m ≤ 1000000000000) (hB : B ≤ w.heap.size)
    (h : ∀ v' w', Own w' B v' (ys ++ zs) → w.grownBy w' v.ownBlock → (v'.ownBlock = v.ownBlock ∨ v'.ownBlock = some w.heap.size) → wpList Try.prog ops Q rest (a.put o.dst v') w') : wpList Try.prog ops Q (o :: rest) a w := by
  obtain ⟨v', w', hrun, h1, h2, h3⟩ := append_row w B v ys hown A m c zs hz hA hrow hn hB
  exact wpList_append_eq hgd s x 40 ho hs hx (by rw [hty]; exact hrun) (h v' w' h1 h2 h3)

/-- Such a list can be summed. -/
theorem Own.row {w : World} {B : Nat} {v : Value} {zs : List Int} (h : Own w B v zs) : ∃ A c, v = .slice A zs.length c ∧ (A = none → c = 0) ∧ Row w A zs := by
  obtain ⟨hl, ⟨rfl, hn⟩ | ⟨g, cap, cur, rfl, hg, hh, hnc, _, _, ht⟩⟩ := h
  · obtain rfl : zs = [] := List.eq_nil_of_length_eq_zero hn
    exact ⟨none, 0, rfl, fun _ => rfl, fun hne => absurd rfl hne⟩
  · refine ⟨some ⟨g, 0, none⟩, cap, rfl, fun h => (by cases h), fun _ => ⟨g, 0, rfl, ?_, fun k hk => ?_⟩⟩
    · rcases Nat.lt_or_ge g w.heap.size with h' | h'
      · exact h'
      · rw [Array.getElem?_eq_none h'] at hh; cases hh
    · rw [Nat.zero_add, cell_of_row w g k cur _ _ hh]
      have e : (cur.toList.take (zs.length * 1))[k]? = (cellsOf zs)[k]? := by rw [ht]
      rw [List.getElem?_take_of_lt (by omega)] at e
      rw [← Array.getElem?_toList, e]
      simp [cellsOf, hk]
end Go.Proofs.Ytobpbbldgbgcdaa.Coin
