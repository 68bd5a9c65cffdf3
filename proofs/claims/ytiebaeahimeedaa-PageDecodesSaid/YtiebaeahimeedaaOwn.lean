/-
  Lists whose elements are a cell each: how they lie in memory, and what append does to one of the call's own. Over any program.
-/
import Derived.WalkKit
import Derived.Maps.AppendAt
import Derived.Laws.AppendOwnNone
import Derived.Lib.Hide
namespace Go.Proofs.Ytiebaeahimeedaa.Gen
open Go.RowKit
variable {P : Program} {α : Type}

/-- What is asked of a slice's type and its elements'. -/
structure Elem (P : Program) (t e : TypeId) (enc : α → Value) : Prop where
  ht : P.underlying t = some (.slice e)
  info : ∃ (i : TypeInfo) (z : Value) (by8 : Nat), P.info? e = some i ∧ i.zero = some z ∧ i.size = 1 ∧ i.bytes = by8 ∧ z.cells.size = 1 ∧ by8 ≤ 64
  one : ∀ x, (enc x).oneCell' = true
/-- Elements that lie in a slice's cells. -/
def RowG (w : World) (enc : α → Value) (A : Option Addr) (l : List α) : Prop := l ≠ [] → ∃ b off, A = some ⟨b, off, none⟩ ∧ b < w.heap.size ∧ ∀ k (h : k < l.length), w.cell? ⟨b, off + k, none⟩ = some (enc l[k])
/-- The call's own list of just these elements, in a block from B on. -/
def OwnG (w : World) (e : TypeId) (enc : α → Value) (B : Nat) (v : Value) (l : List α) : Prop := w.ownsRow B e 1 v l.length (l.map enc)

theorem RowG.below {w w' : World} {enc : α → Value} {A : Option Addr} {l : List α} (h : RowG w enc A l) (hb : Below w.heap.size w w') : RowG w' enc A l := fun hne => by
  obtain ⟨b, off, e, hlt, hc⟩ := h hne
  refine ⟨b, off, e, Nat.lt_of_lt_of_le hlt hb.size, fun k hk => ?_⟩
  rw [hb.cell (p := ⟨b, off + k, none⟩) hlt]; exact hc k hk
theorem OwnG.nil (w : World) (e : TypeId) (enc : α → Value) (B : Nat) : OwnG w e enc B (.slice none 0 0) [] := ⟨rfl, Or.inl ⟨rfl, rfl⟩⟩

theorem append_row {t e : TypeId} {enc : α → Value} (E : Elem P t e enc) (W : World) (B : Nat) (v : Value) (ys : List α) (hown : OwnG W e enc B v ys) (A : Option Addr) (m c : Nat) (zs : List α) (hz : zs.length = m) (hA : A = none → c = 0) (hrow : RowG W enc A zs)
    (hn : ys.length + m ≤ 1000000000000) (hB : B ≤ W.heap.size) :
    ∃ v' W', (Builtin.append_ #[t, t] t #[v, .slice A m c]).run P W = .ok v' W' ∧ OwnG W' e enc B v' (ys ++ zs) ∧ W.grownBy W' v.ownBlock ∧ (v'.ownBlock = v.ownBlock ∨ v'.ownBlock = some W.heap.size) := by
  obtain ⟨i0, z, by8, hi, hz0, hz1, hz2, hz3, hby⟩ := E.info
  rcases A with _ | a
  · have hm : zs = [] := by
      rcases zs with _ | ⟨z, zs⟩
      · rfl
      · obtain ⟨b, o, h, _⟩ := hrow (by simp); cases h
    subst hm
    obtain rfl : c = 0 := hA rfl
    obtain rfl : m = 0 := hz.symm
    refine ⟨v, W, run_append_owned_none (P := P) (w := W) B _ _ e i0 1 E.ht hi v _ _ hown, by rw [List.append_nil]; exact hown, World.grownBy.refl W _, .inl rfl⟩
  · obtain ⟨v', w', h1, h2, h3, _, h5⟩ := run_append_own_at (P := P) W B t t e i0 z 1 by8 E.ht hi hz0 hz1 hz2 hz3 (by decide) v _ _ hown a m c (zs.map enc) (by simp [hz])
      (fun j u hu => by
        rw [List.getElem?_map, Option.map_eq_some_iff] at hu
        obtain ⟨x, hx, rfl⟩ := hu
        obtain ⟨hj, hx⟩ := List.getElem?_eq_some_iff.1 hx
        obtain ⟨b, o, h, _, hc⟩ := hrow (by intro e; subst e; simp at hj)
        injection h with h
        subst h
        have e : (⟨b, o, none⟩ : Addr).add j = ⟨b, o + j, none⟩ := by unfold Addr.add; split <;> simp_all
        rw [e, hc j hj, hx])
      (fun u hu => by
        obtain ⟨x, _, rfl⟩ := List.mem_map.1 hu
        exact E.one x)
      (by simp only [maxLen]; omega) (by
        have : (ys.length + m) * by8 ≤ (ys.length + m) * 64 := Nat.mul_le_mul_left _ hby
        omega) hB
    refine ⟨v', w', h1, ?_, h3, h5⟩
    unfold OwnG
    rw [List.length_append, hz, List.map_append]; exact h2

/-- An append whose run is known, in a walk. -/
theorem wpList_append_eq {ops : Array Oper} {rest : List Oper} {o : Oper} {a : Act} {Q : Exit → Act → World → Prop} {w w' : World} {v u v' : Value} (hgd : o.guard = none) (s x : Operand) (t : TypeId)
    (ho : o.op = .call { callee := .builtin .append, args := #[s, x], argTypes := #[t, t] }) (hs : a.eval s = v) (hx : a.eval x = u) (hrun : (Builtin.append_ #[t, t] o.type #[v, u]).run P w = .ok v' w')
    (h : wpList P ops Q rest (a.put o.dst v') w') : wpList P ops Q (o :: rest) a w := by
  refine wpList_plain hgd fun K hK => ?_
  unfold Oper.wp
  simp [execOp, ho, resolve, invoke, builtin, hs, hx, hrun, Result.andThen]
  exact hK _ _ h
/-- .. of a row that came in, or was made. -/
theorem wpList_append_row {t e : TypeId} {enc : α → Value} (E : Elem P t e enc) {ops : Array Oper} {rest : List Oper} {o : Oper} {a : Act} {Q : Exit → Act → World → Prop} {w : World} (hgd : o.guard = none) (s x : Operand)
    (ho : o.op = .call { callee := .builtin .append, args := #[s, x], argTypes := #[t, t] }) (hty : o.type = t)
    (B : Nat) (v : Value) (ys : List α) (A : Option Addr) (m c : Nat) (zs : List α) (hs : a.eval s = v) (hx : a.eval x = .slice A m c) (hown : OwnG w e enc B v ys) (hz : zs.length = m) (hA : A = none → c = 0) (hrow : RowG w enc A zs)
    (hn : ys.length + m ≤ 1000000000000) (hB : B ≤ w.heap.size)
    (h : ∀ v' w', OwnG w' e enc B v' (ys ++ zs) → w.grownBy w' v.ownBlock → (v'.ownBlock = v.ownBlock ∨ v'.ownBlock = some w.heap.size) → wpList P ops Q rest (a.put o.dst v') w') : wpList P ops Q (o :: rest) a w := by
  obtain ⟨v', w', hrun, h1, h2, h3⟩ := append_row E w B v ys hown A m c zs hz hA hrow hn hB
  exact wpList_append_eq hgd s x t ho hs hx (by rw [hty]; exact hrun) (h v' w' h1 h2 h3)
/-- .. and in a region that draws its order. -/
theorem step_append_row {t e : TypeId} {enc : α → Value} (E : Elem P t e enc) {ops : Array Oper} {o : Oper} {a : Act} {K : Act → World → Prop} {Q : Exit → Act → World → Prop} {X : Prop} {w : World} (hgd : o.guard = none) (s x : Operand)
    (ho : o.op = .call { callee := .builtin .append, args := #[s, x], argTypes := #[t, t] }) (hty : o.type = t)
    (B : Nat) (v : Value) (ys : List α) (A : Option Addr) (m c : Nat) (zs : List α) (hs : a.eval s = v) (hx : a.eval x = .slice A m c) (hown : OwnG w e enc B v ys) (hz : zs.length = m) (hA : A = none → c = 0) (hrow : RowG w enc A zs)
    (hn : ys.length + m ≤ 1000000000000) (hB : B ≤ w.heap.size)
    (h : ∀ v' w', OwnG w' e enc B v' (ys ++ zs) → w.grownBy w' v.ownBlock → (v'.ownBlock = v.ownBlock ∨ v'.ownBlock = some w.heap.size) → K (a.put o.dst v') w') :
    if Region.wanted o (yielded ops a.tmps) = true then Oper.wp P o a w K Q else X := by
  have hw : Region.wanted o (yielded ops a.tmps) = true := by simp [Region.wanted, hgd]
  rw [if_pos hw]
  obtain ⟨v', w', hrun, h1, h2, h3⟩ := append_row E w B v ys hown A m c zs hz hA hrow hn hB
  unfold Oper.wp
  simp [execOp, ho, hty, resolve, invoke, builtin, hs, hx, hrun, Result.andThen]
  exact h v' w' h1 h2 h3

/-- Where such a list lies. -/
theorem OwnG.row {w : World} {e : TypeId} {enc : α → Value} {B : Nat} {v : Value} {l : List α} (h : OwnG w e enc B v l) : ∃ A c, v = .slice A l.length c ∧ (A = none → c = 0) ∧ l.length ≤ c ∧ c ≤ maxLen ∧ RowG w enc A l := by
  obtain ⟨hl, ⟨rfl, hn⟩ | ⟨g, cap, cur, rfl, hg, hh, hnc, hcm, _, ht⟩⟩ := h
  · obtain rfl : l = [] := List.eq_nil_of_length_eq_zero hn
    exact ⟨none, 0, rfl, fun _ => rfl, Nat.le_refl _, Nat.zero_le _, fun hne => absurd rfl hne⟩
  · refine ⟨some ⟨g, 0, none⟩, cap, rfl, fun h => (by cases h), hnc, hcm, fun _ => ⟨g, 0, rfl, ?_, fun k hk => ?_⟩⟩
    · rcases Nat.lt_or_ge g w.heap.size with h' | h'
      · exact h'
      · rw [Array.getElem?_eq_none h'] at hh; cases hh
    · rw [Nat.zero_add, cell_of_row w g k cur _ _ hh]
      have e : (cur.toList.take (l.length * 1))[k]? = (l.map enc)[k]? := by rw [ht]
      rw [List.getElem?_take_of_lt (by omega)] at e
      rw [← Array.getElem?_toList, e]
      simp [hk]
/-- Such a list, behind what leaves its block alone. -/
theorem OwnG.kept {w w' : World} {e : TypeId} {enc : α → Value} {B : Nat} {v : Value} {l : List α} (h : OwnG w e enc B v l) (hb : Below w.heap.size w w') : OwnG w' e enc B v l := by
  obtain ⟨hl, h | ⟨g, cap, cur, hv, hg, hh, h4, h5, h6, h7⟩⟩ := h
  · exact ⟨hl, Or.inl h⟩
  · refine ⟨hl, Or.inr ⟨g, cap, cur, hv, hg, ?_, h4, h5, h6, h7⟩⟩
    have hlt : g < w.heap.size := by
      rcases Nat.lt_or_ge g w.heap.size with h' | h'
      · exact h'
      · rw [Array.getElem?_eq_none h'] at hh; cases hh
    rw [hb.block g hlt]; exact hh
/-- What lay below the call's own blocks is as it was behind an append to one of them. -/
theorem below_grown {w w' w0 : World} {B : Nat} {v : Value} {e : TypeId} {enc : α → Value} {l : List α} (hb : Below B w0 w) (h : OwnG w e enc B v l) (hg : w.grownBy w' v.ownBlock) (hB : B ≤ w.heap.size) : Below B w0 w' :=
  hb.grown hg hB (fun k hk => (World.ownsRow.lt h k hk).1)
end Go.Proofs.Ytiebaeahimeedaa.Gen
