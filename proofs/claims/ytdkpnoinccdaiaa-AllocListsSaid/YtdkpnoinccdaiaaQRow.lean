/-
  What the rows of stage 6 share: a pool, and lists of numbers, that came in; few; the walk of AllocNames.
-/
import Derived.Test.YtdkpnoinccdaiaaQAwake
import Derived.ProofKit
import Derived.OpenShut
import Derived.ChangeOld
import Derived.Below
import Derived.Deep.Slices
import Derived.Deep.MidRow
namespace Go.Proofs.Ytdkpnoinccdaiaa.Pool
open Go.ChangeShapes Go.WideShapes Go.ChangeAt Go.WideMaps Go.WideElems Go.RowKit Go.Deep Gen

theorem own : ownKnob Try.prog.godebug = none := by kernel_rfl
theorem laidOut : laidOutB Try.prog = true := by kernel_rfl
theorem add_none' (b o j : Nat) : (⟨b, o, none⟩ : Addr).add j = ⟨b, o + j, none⟩ := by unfold Addr.add; split <;> simp_all
/-- A list out of what there is of each number. -/
theorem list_of {α : Type} (p : Nat → α → Prop) : ∀ n, (∀ j, j < n → ∃ x, p j x) → ∃ l : List α, l.length = n ∧ ∀ j (h : j < l.length), p j l[j]
  | 0, _ => ⟨[], rfl, fun j h => by simp at h⟩
  | n + 1, h => by
    obtain ⟨l, hl, hp⟩ := list_of p n (fun j hj => h j (by omega))
    obtain ⟨x, hx⟩ := h n (by omega)
    refine ⟨l ++ [x], by simp [hl], fun j hj => ?_⟩
    rw [List.length_append, List.length_singleton] at hj
    by_cases e : j < l.length
    · rw [List.getElem_append_left e]; exact hp j e
    · obtain rfl : j = l.length := by omega
      rw [List.getElem_append_right (Nat.le_refl _)]
      simp only [Nat.sub_self, List.getElem_singleton]
      rw [hl]; exact hx
/-- Cells one behind the other are a row. -/
theorem row_of {α : Type} {enc : α → Value} {W : World} {a : Addr} {l : List α} (h : ∀ j (hj : j < l.length), W.cell? (a.add j) = some (enc l[j])) : RowG W enc (some a) l := fun hne => by
  have h0 : 0 < l.length := List.length_pos_iff.2 hne
  obtain ⟨b, off, spot⟩ := a
  have hspot : spot = none := by simpa [Addr.add] using World.cell?_spot (h 0 h0)
  subst hspot
  have e0 := h 0 h0
  rw [add_none'] at e0
  refine ⟨b, off, rfl, block_lt_of_cell e0, fun j hj => ?_⟩
  rw [← add_none']
  exact h j hj
section
variable {H : Type} {enc : TypeId × Value → H} {W : World} {fuel : Nat} {cs : List Value} {x : DataW H × List MemPlace}
theorem open_ints1 (hf : DataW.trod enc Try.prog W 0 (fun _ => true) true fuel 23 cs = some x) : ∃ (A : Option Addr) (c : Nat) (l : List Int), cs = [.slice A l.length c] ∧ NAt W A l.length c l := by
  rcases open_ints Try.underlying23 Try.underlying3 (by kernel_rfl) hf with ⟨rfl, _⟩ | ⟨x, len, cap, zs, rfl, _, hl, hm, hz, _, hcell, hwz⟩
  · exact ⟨none, 0, [], rfl, NAt.none W⟩
  · have hz' : zs.length = cap := by simpa using hz
    have hlen : (zs.take len).length = len := by rw [List.length_take]; omega
    refine ⟨some x, cap, zs.take len, by rw [hlen], ⟨rfl, by omega, hm, fun e => (by cases e), row_of fun j hj => ?_⟩⟩
    rw [hlen] at hj
    rw [hcell j (by omega)]
    have hk' : j < zs.length := by omega
    simp only [List.getElem_take, List.getD_eq_getElem?_getD, List.getElem?_eq_getElem hk', Option.getD_some]
theorem cells_pool : Try.prog.cellsOf 25 = 3 := by kernel_rfl
end
set_option maxRecDepth 100000 in
/-- A pool that came in. -/
theorem open_pool {H : Type} {enc : TypeId × Value → H} {W : World} {base : Nat} {v : Value} {d : DataW H} {ps : List MemPlace} (hval : Value.okWide Try.prog W .any base 25 v)
    (h : DataW.Trod enc Try.prog W 0 (fun _ => true) true 25 v d ps) : ∃ (p : Po) (a : La), v = poV p a ∧ I64 p.high ∧ PoAt W p a := by
  obtain ⟨cs, rfl, hsz⟩ := okWide_struct Try.underlying25 hval
  obtain ⟨fuel, hf⟩ := h
  obtain ⟨xs, n, _, _, hlen, hxl, hg⟩ := DataW.trod_struct Try.underlying25 hf
  rw [cells_pool] at hlen
  have h0 := hg 0 _ rfl
  have h1 := hg 1 _ rfl
  have h2 := hg 2 _ rfl
  obtain ⟨l, hl⟩ : ∃ l, cs.toList = l := ⟨_, rfl⟩
  have hcs : cs = l.toArray := by rw [← hl]
  subst hcs
  simp only [Value.cells] at hlen h0 h1 h2
  match l, hlen, xs, hxl with
  | [v0, v1, v2], _, [y0, y1, y2], _ =>
    simp only [List.getElem?_cons_succ, List.getElem?_cons_zero] at h0 h1 h2
    obtain ⟨m0, e0, _, w0⟩ := DataW.trod_int Try.underlying3 h0
    obtain ⟨A1, c1, l1, e1, r1⟩ := open_ints1 h1
    obtain ⟨A2, c2, l2, e2, r2⟩ := open_ints1 h2
    refine ⟨⟨m0, l1, l2⟩, ⟨A1, c1, A2, c2⟩, ?_, bounds_i64 w0, ⟨r1, r2⟩⟩
    rw [(List.cons.inj e0).1, (List.cons.inj e1).1, (List.cons.inj e2).1]
/-- Lists of numbers that came in. -/
theorem open_lists {H : Type} {enc : TypeId × Value → H} {W : World} {base : Nat} {v : Value} {d : DataW H} {ps : List MemPlace} (hval : Value.okWide Try.prog W .any base 36 v)
    (h : DataW.Trod enc Try.prog W 0 (fun _ => true) true 36 v d ps) : ∃ (A : Option Addr) (n c : Nat) (l : List Part), v = .slice A n c ∧ l.length = n ∧ RowG W encS A l ∧ PartsIn W l := by
  obtain ⟨a0, len, cap, rfl⟩ := okWide_slice Try.underlying36 hval
  obtain ⟨fuel, hf⟩ := h
  rcases open_slice1 Try.underlying36 (by kernel_rfl) hf with ⟨hcs, _⟩ | ⟨a, len', cap', m, n, V, D, Pl, hcs, _, hl, hm, hmm, _, hi⟩
  · simp [Value.cells] at hcs
    obtain ⟨rfl, rfl, rfl⟩ := hcs
    exact ⟨none, 0, 0, [], rfl, rfl, fun h => absurd rfl h, fun x hx => by simp at hx⟩
  · simp [Value.cells] at hcs
    obtain ⟨rfl, rfl, rfl⟩ := hcs
    have hmc : m = cap := by simpa using hmm
    subst hmc
    obtain ⟨l, hll, hp⟩ := list_of (fun j (y : Part) => W.cell? (a.add j) = some (encS y) ∧ NAt W y.1 y.2.2.length y.2.1 y.2.2) len (fun j hj => by
      obtain ⟨h1, h2⟩ := hi j (by omega)
      obtain ⟨A, c, l, e, hr⟩ := open_ints1 h2
      rw [(List.cons.inj e).1] at h1
      exact ⟨(A, c, l), h1, hr⟩)
    exact ⟨some a, len, m, l, rfl, hll, row_of fun j hj => (hp j hj).1, fun x hx => by
      obtain ⟨j, hj, rfl⟩ := List.getElem_of_mem hx
      exact (hp j hj).2⟩
theorem names_walk (w : World) : Calls Try.prog 3 #[] w fun e w' => e = .returned (.bool true) ∧ Below w.heap.size w w' := by
  go_enter Try.func3, Try.ntmps3
  go_wp2_with fail
  refine (awake_any w).mono ?_
  rintro e w1 ⟨rfl, b1⟩
  go_wp2_with fail
  go_ret
  exact ⟨rfl, b1⟩
theorem few_any (p : Po) (a : La) (w : World) : Calls Try.prog 11 #[poV p a] w (Tells (p.free.length ≤ 600 ∧ p.limbo.length ≤ 600) w) := by
  have B1 := Lib.hid (below_box w (.cells (poC p a) 25))
  obtain ⟨c0, c1, c2⟩ := po_cells (po_box w p a)
  unfold poV
  by_cases h1 : p.free.length ≤ 600
  · have d1 : decide ((p.free.length : Int) ≤ 600) = true := by simp; omega
    have HR : Hid (decide ((p.limbo.length : Int) ≤ 600) = true ↔ p.free.length ≤ 600 ∧ p.limbo.length ≤ 600) := Lib.hid (by rw [decide_eq_true_iff]; omega)
    clear h1
    go_enter Try.func11, Try.ntmps11
    go_wp2_with fail
    go_ret
    exact ⟨_, rfl, HR.out, B1.out⟩
  · have d1 : decide ((p.free.length : Int) ≤ 600) = false := by simp; omega
    have HN : Hid (¬ (p.free.length ≤ 600 ∧ p.limbo.length ≤ 600)) := Lib.hid (fun g => h1 g.1)
    clear h1
    go_enter Try.func11, Try.ntmps11
    go_wp2_with fail
    go_ret
    exact ⟨_, rfl, ⟨fun h => (by cases h), fun h => absurd h HN.out⟩, B1.out⟩
end Go.Proofs.Ytdkpnoinccdaiaa.Pool
