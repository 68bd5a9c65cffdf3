/-
  What slices.DeleteFunc at accounts needs: clearing, cutting; the closure that asks for a balance of 0.
-/
import Derived.Test.YtobpbbldgbgcdaaALeg
import Derived.Lib.SliceRun
namespace Go.Proofs.Ytobpbbldgbgcdaa.Acc
open Go.RowKit Go.Sort

theorem own_puts {B g n cap q : Nat} : ∀ (zs : List Value) (o : Nat) (w : World) (xs : List Value), w.ownsRow B 35 4 (.slice (some ⟨g, 0, none⟩) n cap) n xs → q ≤ o → ∃ ys, (w.setCells g o zs).ownsRow B 35 4 (.slice (some ⟨g, 0, none⟩) n cap) n ys ∧ ys.take q = xs.take q
  | [], _, _, xs, h, _ => ⟨xs, h, rfl⟩
  | v :: zs, o, w, xs, h, hq => by
    obtain ⟨ys, h1, h2⟩ := own_puts (q := q) zs (o + 1) (w.setCell ⟨g, o, none⟩ v) (xs.set o v) (World.ownsRow.stored h o v).1 (by omega)
    exact ⟨ys, h1, by rw [h2, List.take_set_of_le hq]⟩
theorem flat_take (l : List Ac) (i : Nat) (hi : i ≤ l.length) : flatA (l.take i) = (flatA l).take (i * 4) := by
  have hl : (flatA (l.take i)).length = i * 4 := by rw [flatA_len, List.length_take]; omega
  have hf : flatA l = flatA (l.take i) ++ flatA (l.drop i) := by simp only [flatA]; rw [← List.flatMap_append, List.take_append_drop]
  rw [hf]
  exact (List.take_left' hl).symm
/-- A row of the call's own is cut, and what lies behind is written over. -/
theorem cut_own {w : World} {B g n cap : Nat} {l : List Ac} (h : OwnA w B (.slice (some ⟨g, 0, none⟩) n cap) l) (i : Nat) (hi : i ≤ l.length) (zs : List Value) : OwnA (w.setCells g (i * 4) zs) B (.slice (some ⟨g, 0, none⟩) i cap) (l.take i) := by
  obtain ⟨A, c, e, _, _⟩ := h.at
  injection e with e1 e2 e3
  subst e1 e2 e3
  obtain ⟨ys, h1, h2⟩ := own_puts (q := i * 4) zs (i * 4) w _ h (Nat.le_refl _)
  obtain ⟨hl, ⟨h', _⟩ | ⟨g', cap', cur, h', hg, hh, hnc, hcm, hcs, ht⟩⟩ := h1
  · simp at h'
  · simp only [Value.slice.injEq, Option.some.injEq, Addr.mk.injEq, and_true, true_and] at h'
    obtain ⟨rfl, rfl⟩ := h'
    have e : flatA (l.take i) = ys.take (i * 4) := by rw [h2]; exact flat_take l i hi
    have hle : (l.take i).length = i := by rw [List.length_take]; omega
    refine ⟨by rw [flatA_len], .inr ⟨g, cap, cur, by rw [hle], hg, hh, by omega, hcm, hcs, ?_⟩⟩
    rw [e, ← ht, List.take_take, hle, Nat.min_eq_left (by omega)]
theorem run_clear_acs (ty : TypeId) (w : World) (b o n c : Nat) (hn : 0 < n) (hc : ∀ j, j < n * 4 → (w.cell? ⟨b, o + j, none⟩).isSome = true) (hf : ∀ j, j < n * 4 → w.frozen? ⟨b, o + j, none⟩ = false) :
    ∃ zs : List Value, (Builtin.clear_ #[23] ty #[.slice (some ⟨b, o, none⟩) n c]).run Try.prog w = .ok (.tuple #[]) (w.setCells b o zs) := by
  refine ⟨(Builtin.zeroCells #[.string ⟨#[]⟩, .string ⟨#[]⟩, .int .i64 0, .int .i64 0] n).toList, ?_⟩
  have hsz : (Builtin.zeroCells #[.string ⟨#[]⟩, .string ⟨#[]⟩, .int .i64 0, .int .i64 0] n).size = n * 4 := by simp [Builtin.zeroCells]
  have hst := run_storeCells_cells (P := Try.prog) b o (Builtin.zeroCells #[.string ⟨#[]⟩, .string ⟨#[]⟩, .int .i64 0, .int .i64 0] n).toList 0 w (by simpa [hsz] using hc) (by simpa [hsz] using hf) (by
    intro v hv
    simp [Builtin.zeroCells] at hv
    obtain ⟨i, hi, rfl⟩ := hv
    have : i % 4 < 4 := Nat.mod_lt _ (by decide)
    rcases (show i % 4 = 0 ∨ i % 4 = 1 ∨ i % 4 = 2 ∨ i % 4 = 3 by omega) with e | e | e | e <;> simp [e, Value.oneCell'])
  simp only [Nat.add_zero] at hst
  obtain ⟨m, rfl⟩ : ∃ m, n = m + 1 := ⟨n - 1, by omega⟩
  have hz := Try.zeroValue35
  simp [Builtin.clear_, run_underlying Try.underlying23, hz, Value.cells, hst]
theorem own_cells {w : World} {B g n cap : Nat} {l : List Ac} (h : OwnA w B (.slice (some ⟨g, 0, none⟩) n cap) l) (m : Nat) (hm : m < l.length * 4) : (w.cell? ⟨g, m, none⟩).isSome = true := by
  obtain ⟨A, c, e, ha, _⟩ := h.at
  injection e with e1 e2 e3
  subst e1 e2 e3
  obtain ⟨b, off, e, _, hc⟩ := ha.row (by intro e; rw [e] at hm; simp at hm)
  simp only [Option.some.injEq, Addr.mk.injEq, and_true] at e
  obtain ⟨rfl, rfl⟩ := e
  have hr := hc (m / 4) (by omega)
  rw [Nat.zero_add] at hr
  have hq : m % 4 < (encA (l[m / 4]'(by omega))).length := by rw [encA_len]; omega
  have := hr (m % 4) _ (List.getElem?_eq_getElem hq)
  rw [show m / 4 * 4 + m % 4 = m by omega] at this
  rw [this]; rfl
theorem own_cap {w : World} {B g n cap : Nat} {l : List Ac} (h : OwnA w B (.slice (some ⟨g, 0, none⟩) n cap) l) : n ≤ cap ∧ n = l.length := by
  obtain ⟨A, c, e, ha, _⟩ := h.at
  injection e with e1 e2 e3
  subst e1 e2 e3
  exact ⟨ha.cap, rfl⟩
theorem own_frozen {w : World} {B g n cap : Nat} {l : List Ac} (h : OwnA w B (.slice (some ⟨g, 0, none⟩) n cap) l) (m : Nat) : w.frozen? ⟨g, m, none⟩ = false := by
  obtain ⟨_, e⟩ := own_cap h
  subst e
  exact World.ownsRow.frozenAt h m
theorem wpList_clear_eq {P : Program} {ops : Array Oper} {rest : List Oper} {o : Oper} {a : Act} {Q : Exit → Act → World → Prop} {w w' : World} (hgd : o.guard = none) (t : TypeId) (x : Operand) (ho : o.op = .call { callee := .builtin .clear, args := #[x], argTypes := #[t] }) (p : Value) (hx : a.eval x = p)
    (hrun : (Builtin.clear_ #[t] o.type #[p]).run P w = .ok (.tuple #[]) w') (h : wpList P ops Q rest (a.put o.dst (.tuple #[])) w') : wpList P ops Q (o :: rest) a w := by
  refine wpList_plain hgd fun K hK => ?_
  unfold Oper.wp
  simp [execOp, ho, resolve, invoke, builtin, hx, hrun, Result.andThen]
  exact hK _ _ h
def zeroB (x : Ac) : Bool := x.bal == 0
set_option maxRecDepth 100000 in
theorem zero_any (x : Ac) (w : World) : Calls Try.prog 38 #[.agg (encA x).toArray] w (fun e w' => e = .returned (.bool (zeroB x)) ∧ Below w.heap.size w w') := by
  have b1 := below_box w (.cells (encA x).toArray 35)
  have a1 := at_new w (encA x).toArray 35
  obtain ⟨W1, hW1⟩ : ∃ W1, w.alloc (.cells (encA x).toArray 35) = W1 := ⟨_, rfl⟩
  rw [hW1] at b1 a1
  have c2 : W1.cell? ⟨w.heap.size, 2, none⟩ = some (.int .i64 x.bal) := a1.2.2 2 _ rfl
  have hs : zeroB x = (x.bal == 0) := rfl
  generalize zeroB x = r at *
  generalize x.bal = b at *
  obtain ⟨C, hC⟩ : ∃ C, (encA x).toArray = C := ⟨_, rfl⟩
  rw [hC] at hW1 ⊢
  have HW := Lib.hid hW1
  have HS := Lib.hid hs
  have B1 := Lib.hid b1
  clear hC hW1 a1 b1 hs
  go_enter Try.func38, Try.ntmps38
  go_wp2_with ((with_reducible refine wpList_box_eq rfl 35 (.tmp 0) rfl C ?_ ?_); (next => rfl); rw [HW.out])
  go_ret
  exact ⟨by rw [HS.out]; rfl, B1.out⟩
theorem ent_post2 : Enters Try.prog 38 := enters_of Try.func38 (by kernel_rfl) rfl
end Go.Proofs.Ytobpbbldgbgcdaa.Acc
