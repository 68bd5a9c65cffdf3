/-
  What the rows of stage 11 share: accounts and legs that came in.
-/
import Derived.Test.YtobpbbldgbgcdaaRows
import Derived.Test.YtobpbbldgbgcdaaALeg
import Derived.ProofKit
import Derived.OpenShut
import Derived.ChangeOld
import Derived.Below
import Derived.Deep.Slices
import Derived.Deep.MidRow
namespace Go.Proofs.Ytobpbbldgbgcdaa.Acc
open Go.ChangeShapes Go.WideShapes Go.ChangeAt Go.WideMaps Go.WideElems Go.RowKit Go.Maps Go.Deep

theorem own : ownKnob Try.prog.godebug = none := by kernel_rfl
theorem laidOut : laidOutB Try.prog = true := by kernel_rfl
/-- Its numbers are those of 64 bits. -/
structure AcIn (x : Ac) : Prop where
  b0 : -9223372036854775808 ≤ x.bal
  b1 : x.bal ≤ 9223372036854775807
  h0 : -9223372036854775808 ≤ x.held
  h1 : x.held ≤ 9223372036854775807
def LgIn (x : Lg) : Prop := -9223372036854775808 ≤ x.amt ∧ x.amt ≤ 9223372036854775807
/-- A list out of what there is of each number. -/
theorem list_of {α : Type} (p : Nat → α → Prop) : ∀ n, (∀ j, j < n → ∃ x, p j x) → ∃ l : List α, l.length = n ∧ ∀ j (h : j < l.length), p j l[j]
  | 0, _ => ⟨[], rfl, fun j h => by simp at h⟩
  | n + 1, h => by
    obtain ⟨l, hl, hp⟩ := list_of p n (fun j hj => h j (by omega))
    obtain ⟨x, hx⟩ := h n (by omega)
    refine ⟨l ++ [x], by simp [hl], fun j hj => ?_⟩
    rw [List.length_append, List.length_singleton] at hj
    by_cases e : j < l.length
    · rw [List.getElem_append_left e]; exact hp j e
    · obtain rfl : j = l.length := by omega
      rw [List.getElem_append_right (Nat.le_refl _)]
      simp only [Nat.sub_self, List.getElem_singleton]
      rw [hl]; exact hx
theorem addr_add (b off j : Nat) : (⟨b, off, none⟩ : Addr).add j = ⟨b, off + j, none⟩ := by unfold Addr.add; split <;> simp_all
theorem str_of (s : ByteArray) : ∃ l : Bs, Value.string s = strV l := ⟨s.data.toList, by cases s; simp [strB]⟩
section
variable {H : Type} {enc : TypeId × Value → H} {W : World} {fuel : Nat} {x : DataW H × List MemPlace}
theorem cells_ac : Try.prog.cellsOf 35 = 4 := by kernel_rfl
theorem cells_lg : Try.prog.cellsOf 39 = 3 := by kernel_rfl
set_option maxRecDepth 100000 in
theorem open_ac {cs' : List Value} (hf : DataW.trod enc Try.prog W 0 (fun _ => true) true fuel 35 cs' = some x) : ∃ a : Ac, cs' = encA a ∧ AcIn a := by
  obtain ⟨xs, n, _, _, hlen, hxl, hg⟩ := DataW.trod_struct Try.underlying35 hf
  rw [cells_ac] at hlen
  have h0 := hg 0 _ rfl
  have h1 := hg 1 _ rfl
  have h2 := hg 2 _ rfl
  have h3 := hg 3 _ rfl
  match cs', hlen, xs, hxl with
  | [v0, v1, v2, v3], _, [y0, y1, y2, y3], _ =>
    simp only [List.getElem?_cons_succ, List.getElem?_cons_zero] at h0 h1 h2 h3
    obtain ⟨s0, e0, _, _⟩ := DataW.trod_string Try.underlying9 h0
    obtain ⟨s1, e1, _, _⟩ := DataW.trod_string Try.underlying9 h1
    obtain ⟨m2, e2, _, w2⟩ := DataW.trod_int Try.underlying2 h2
    obtain ⟨m3, e3, _, w3⟩ := DataW.trod_int Try.underlying2 h3
    have b2 := bounds_i64 w2
    have b3 := bounds_i64 w3
    obtain ⟨l0, g0⟩ := str_of s0
    obtain ⟨l1, g1⟩ := str_of s1
    refine ⟨⟨l0, l1, m2, m3⟩, ?_, ⟨b2.1, b2.2, b3.1, b3.2⟩⟩
    unfold encA
    rw [(List.cons.inj e0).1, (List.cons.inj e1).1, (List.cons.inj e2).1, (List.cons.inj e3).1, g0, g1]
set_option maxRecDepth 100000 in
theorem open_lg {cs' : List Value} (hf : DataW.trod enc Try.prog W 0 (fun _ => true) true fuel 39 cs' = some x) : ∃ a : Lg, cs' = encL a ∧ LgIn a := by
  obtain ⟨xs, n, _, _, hlen, hxl, hg⟩ := DataW.trod_struct Try.underlying39 hf
  rw [cells_lg] at hlen
  have h0 := hg 0 _ rfl
  have h1 := hg 1 _ rfl
  have h2 := hg 2 _ rfl
  match cs', hlen, xs, hxl with
  | [v0, v1, v2], _, [y0, y1, y2], _ =>
    simp only [List.getElem?_cons_succ, List.getElem?_cons_zero] at h0 h1 h2
    obtain ⟨s0, e0, _, _⟩ := DataW.trod_string Try.underlying9 h0
    obtain ⟨s1, e1, _, _⟩ := DataW.trod_string Try.underlying9 h1
    obtain ⟨m2, e2, _, w2⟩ := DataW.trod_int Try.underlying2 h2
    have b2 := bounds_i64 w2
    obtain ⟨l0, g0⟩ := str_of s0
    obtain ⟨l1, g1⟩ := str_of s1
    refine ⟨⟨l0, l1, m2⟩, ?_, b2⟩
    unfold encL
    rw [(List.cons.inj e0).1, (List.cons.inj e1).1, (List.cons.inj e2).1, g0, g1]
end
/-- Accounts that came in. -/
def AcsIn (W : World) (A : Option Addr) (n c : Nat) (l : List Ac) : Prop := AAt W A n c l ∧ ∀ x ∈ l, AcIn x
/-- Legs that came in. -/
structure LgsIn (W : World) (A : Option Addr) (n c : Nat) (l : List Lg) : Prop where
  len : l.length = n
  cap : n ≤ c
  max : c ≤ maxLen
  nil : A = none → c = 0
  row : RowL W A l
  ins : ∀ x ∈ l, LgIn x
theorem LgsIn.below {w w' : World} {A : Option Addr} {n c : Nat} {l : List Lg} (h : LgsIn w A n c l) (hb : Below w.heap.size w w') : LgsIn w' A n c l := ⟨h.len, h.cap, h.max, h.nil, h.row.below hb, h.ins⟩
set_option maxRecDepth 100000 in
theorem open_acs {H : Type} {enc : TypeId × Value → H} {W : World} {base : Nat} {v : Value} {d : DataW H} {ps : List MemPlace} (hval : Value.okWide Try.prog W .any base 23 v)
    (h : DataW.Trod enc Try.prog W 0 (fun _ => true) true 23 v d ps) : ∃ (A : Option Addr) (n c : Nat) (l : List Ac), v = .slice A n c ∧ l.length = n ∧ n ≤ c ∧ c ≤ maxLen ∧ AcsIn W A n c l := by
  obtain ⟨a0, len, cap, rfl⟩ := okWide_slice Try.underlying23 hval
  obtain ⟨fuel, hf⟩ := h
  rcases open_slice Try.underlying23 hf with ⟨hcs, _⟩ | ⟨a, len', cap', m, n, D, Pl, hcs, _, hl, hm, hmm, _, hi⟩
  · simp [Value.cells] at hcs
    obtain ⟨rfl, rfl, rfl⟩ := hcs
    exact ⟨none, 0, 0, [], rfl, rfl, Nat.le_refl _, Nat.zero_le _, AAt.none W, fun x h => by cases h⟩
  · simp [Value.cells] at hcs
    obtain ⟨rfl, rfl, rfl⟩ := hcs
    have hmc : m = cap := by simpa using hmm
    subst hmc
    obtain ⟨l, hll, hp⟩ := list_of (fun j d => W.cells? 0 (a.add (j * 4)) 4 = some (encA d) ∧ AcIn d) len (fun j hj => by
      obtain ⟨cs', hc, ht⟩ := hi j (by omega)
      rw [cells_ac] at hc
      obtain ⟨d, rfl, hok⟩ := open_ac ht
      exact ⟨d, hc, hok⟩)
    refine ⟨some a, len, m, l, rfl, hll, hl, hm, ⟨hll, hl, hm, fun e => (by cases e), fun hne => ?_⟩, fun d hd => ?_⟩
    · have h0 : 0 < l.length := List.length_pos_iff.2 hne
      obtain ⟨b, off, spot⟩ := a
      have g0 := (World.cells?_some (hp 0 h0).1).2.2 0 (by simp)
      have hspot : spot = none := by simpa [Addr.add] using World.cell?_spot g0
      subst hspot
      rw [addr_add, addr_add] at g0
      refine ⟨b, off, rfl, block_lt_of_cell g0, fun j hj i u hu => ?_⟩
      have hi4 := encA_lt hu
      have g := (World.cells?_some (hp j hj).1).2.2 i hi4
      rw [addr_add, addr_add] at g
      exact g.trans hu
    · obtain ⟨j, hj, rfl⟩ := List.getElem_of_mem hd
      exact (hp j hj).2
set_option maxRecDepth 100000 in
theorem open_legs {H : Type} {enc : TypeId × Value → H} {W : World} {base : Nat} {v : Value} {d : DataW H} {ps : List MemPlace} (hval : Value.okWide Try.prog W .any base 24 v)
    (h : DataW.Trod enc Try.prog W 0 (fun _ => true) true 24 v d ps) : ∃ (A : Option Addr) (n c : Nat) (l : List Lg), v = .slice A n c ∧ l.length = n ∧ n ≤ c ∧ c ≤ maxLen ∧ LgsIn W A n c l := by
  obtain ⟨a0, len, cap, rfl⟩ := okWide_slice Try.underlying24 hval
  obtain ⟨fuel, hf⟩ := h
  rcases open_slice Try.underlying24 hf with ⟨hcs, _⟩ | ⟨a, len', cap', m, n, D, Pl, hcs, _, hl, hm, hmm, _, hi⟩
  · simp [Value.cells] at hcs
    obtain ⟨rfl, rfl, rfl⟩ := hcs
    exact ⟨none, 0, 0, [], rfl, rfl, Nat.le_refl _, Nat.zero_le _, rfl, Nat.le_refl _, Nat.zero_le _, fun _ => rfl, fun h => absurd rfl h, fun x h => by cases h⟩
  · simp [Value.cells] at hcs
    obtain ⟨rfl, rfl, rfl⟩ := hcs
    have hmc : m = cap := by simpa using hmm
    subst hmc
    obtain ⟨l, hll, hp⟩ := list_of (fun j d => W.cells? 0 (a.add (j * 3)) 3 = some (encL d) ∧ LgIn d) len (fun j hj => by
      obtain ⟨cs', hc, ht⟩ := hi j (by omega)
      rw [cells_lg] at hc
      obtain ⟨d, rfl, hok⟩ := open_lg ht
      exact ⟨d, hc, hok⟩)
    refine ⟨some a, len, m, l, rfl, hll, hl, hm, hll, hl, hm, fun e => (by cases e), fun hne => ?_, fun d hd => ?_⟩
    · have h0 : 0 < l.length := List.length_pos_iff.2 hne
      obtain ⟨b, off, spot⟩ := a
      have g0 := (World.cells?_some (hp 0 h0).1).2.2 0 (by simp)
      have hspot : spot = none := by simpa [Addr.add] using World.cell?_spot g0
      subst hspot
      rw [addr_add, addr_add] at g0
      refine ⟨b, off, rfl, block_lt_of_cell g0, fun j hj i u hu => ?_⟩
      have hi4 : i < (encL l[j]).length := (List.getElem?_eq_some_iff.1 hu).1
      have g := (World.cells?_some (hp j hj).1).2.2 i hi4
      rw [addr_add, addr_add] at g
      exact g.trans hu
    · obtain ⟨j, hj, rfl⟩ := List.getElem_of_mem hd
      exact (hp j hj).2
end Go.Proofs.Ytobpbbldgbgcdaa.Acc
