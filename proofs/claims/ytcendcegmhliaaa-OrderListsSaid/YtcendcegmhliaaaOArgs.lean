/-
  What the rows of stage 13 share: orders that came in.
-/
import Derived.Test.YtcendcegmhliaaaRows
import Derived.Test.YtcendcegmhliaaaORow
import Derived.ProofKit
import Derived.OpenShut
import Derived.ChangeOld
import Derived.Below
import Derived.Deep.Slices
import Derived.Deep.MidRow
import Derived.SizedLaws
namespace Go.Proofs.Ytcendcegmhliaaa.Ord
open Go.ChangeShapes Go.WideShapes Go.ChangeAt Go.WideMaps Go.WideElems Go.RowKit Go.Maps Go.Deep _root_.Go.Proofs.Ytcendcegmhliaaa.Gnd

theorem own : ownKnob Try.prog.godebug = none := by kernel_rfl
theorem laidOut : laidOutB Try.prog = true := by kernel_rfl
/-- Its numbers are those of 64 bits. -/
structure OrIn (x : Or) : Prop where
  n0 : 0 ≤ x.num
  n1 : x.num ≤ 18446744073709551615
  p0 : -9223372036854775808 ≤ x.price
  p1 : x.price ≤ 9223372036854775807
  l0 : -9223372036854775808 ≤ x.left
  l1 : x.left ≤ 9223372036854775807
section
variable {H : Type} {enc : TypeId × Value → H} {W : World} {fuel : Nat} {x : DataW H × List MemPlace}
theorem cells_or : Try.prog.cellsOf 25 = 6 := by kernel_rfl
set_option maxRecDepth 100000 in
theorem open_or2 {cs' : List Value} (hf : DataW.trod enc Try.prog W 0 (fun _ => true) true fuel 25 cs' = some x) : ∃ a : Or, cs' = encA a ∧ OrIn a ∧ ∃ e, x.1 = .agg [.lit (.int .u64 a.num), .lit (.string a.who), .lit (.string a.mkt), e, .lit (.int .i64 a.price), .lit (.int .i64 a.left)] := by
  obtain ⟨xs, n, _, hx, hlen, hxl, hg⟩ := DataW.trod_struct Try.underlying25 hf
  rw [cells_or] at hlen
  have h0 := hg 0 _ rfl
  have h1 := hg 1 _ rfl
  have h2 := hg 2 _ rfl
  have h3 := hg 3 _ rfl
  have h4 := hg 4 _ rfl
  have h5 := hg 5 _ rfl
  match cs', hlen, xs, hxl with
  | [v0, v1, v2, v3, v4, v5], _, [y0, y1, y2, y3, y4, y5], _ =>
    simp only [List.getElem?_cons_succ, List.getElem?_cons_zero] at h0 h1 h2 h3 h4 h5
    obtain ⟨m0, e0, _, w0⟩ := DataW.trod_int Try.underlying23 h0
    obtain ⟨s1, e1, d1, _⟩ := DataW.trod_string Try.underlying9 h1
    obtain ⟨s2, e2, d2, _⟩ := DataW.trod_string Try.underlying9 h2
    obtain ⟨b3, e3, _⟩ := DataW.trod_bool Try.underlying4 h3
    obtain ⟨m4, e4, _, w4⟩ := DataW.trod_int Try.underlying2 h4
    obtain ⟨m5, e5, _, w5⟩ := DataW.trod_int Try.underlying2 h5
    have b0 := bounds_u64 w0
    have b4 := bounds_i64 w4
    have b5 := bounds_i64 w5
    obtain ⟨l1, g1⟩ := str_of s1
    obtain ⟨l2, g2⟩ := str_of s2
    have i1 : s1 = strB l1 := by injection g1
    have i2 : s2 = strB l2 := by injection g2
    subst i1 i2
    have k1 : (strB l1).data.toList = l1 := strB_data l1
    have k2 : (strB l2).data.toList = l2 := strB_data l2
    rw [k1] at d1
    rw [k2] at d2
    refine ⟨⟨m0, l1, l2, b3, m4, m5⟩, ?_, ⟨b0.1, b0.2, b4.1, b4.2, b5.1, b5.2⟩, y3.1, ?_⟩
    · unfold encA
      rw [(List.cons.inj e0).1, (List.cons.inj e1).1, (List.cons.inj e2).1, (List.cons.inj e3).1, (List.cons.inj e4).1, (List.cons.inj e5).1]
    · rw [hx]
      simp [*]
theorem open_or1 {cs' : List Value} (hf : DataW.trod enc Try.prog W 0 (fun _ => true) true fuel 25 cs' = some x) : ∃ a : Or, cs' = encA a ∧ OrIn a := by
  obtain ⟨a, h1, h2, _⟩ := open_or2 hf
  exact ⟨a, h1, h2⟩
end
set_option maxRecDepth 100000 in
/-- An order that came in, by value. -/
theorem open_or {H : Type} {enc : TypeId × Value → H} {W : World} {base : Nat} {v : Value} {d : DataW H} {ps : List MemPlace} (hval : Value.okWide Try.prog W .any base 25 v) (h : DataW.Trod enc Try.prog W 0 (fun _ => true) true 25 v d ps) :
    ∃ a : Or, v = .agg (encA a).toArray ∧ OrIn a ∧ ∃ e, d = .agg [.lit (.int .u64 a.num), .lit (.string a.who), .lit (.string a.mkt), e, .lit (.int .i64 a.price), .lit (.int .i64 a.left)] := by
  obtain ⟨cs, rfl, hsz⟩ := okWide_struct Try.underlying25 hval
  obtain ⟨fuel, hf⟩ := h
  obtain ⟨a, h1, h2, e, h3⟩ := open_or2 hf
  refine ⟨a, ?_, h2, e, h3⟩
  rw [← h1]
  simp [Value.cells]
theorem sized_or {H : Type} {ts : List TypeId} {ds : List (DataW H)} (h : (DataW.weightsEach Try.prog ts ds).all (· ≤ reachBytes) = true) {j : Nat} {a : Or} {e : DataW H} (ht : ts[j]? = some 25) (hd : ds[j]? = some (.agg [.lit (.int .u64 a.num), .lit (.string a.who), .lit (.string a.mkt), e, .lit (.int .i64 a.price), .lit (.int .i64 a.left)])) : a.who.length ≤ 140737488355328 ∧ a.mkt.length ≤ 140737488355328 := by
  have key : ∀ n ∈ DataW.weights Try.prog 25 (DataW.agg [.lit (.int .u64 a.num), .lit (.string a.who), .lit (.string a.mkt), e, .lit (.int .i64 a.price), .lit (.int .i64 a.left)]), n ≤ reachBytes := fun n hn => by
    have := List.all_eq_true.1 h n (DataW.weights_mem_each ht hd n hn)
    simpa using this
  have h2 := reachBytes_lt
  unfold DataW.weights at key
  rw [Try.underlying25] at key
  simp only [List.map_cons, List.map_nil, DataW.weightsEach, DataW.weights] at key
  have k1 := key a.who.length (by simp)
  have k2 := key a.mkt.length (by simp)
  omega
/-- Orders that came in. -/
def OrsIn (W : World) (A : Option Addr) (n c : Nat) (l : List Or) : Prop := AAt W A n c l ∧ ∀ x ∈ l, OrIn x
set_option maxRecDepth 100000 in
theorem open_ors {H : Type} {enc : TypeId × Value → H} {W : World} {base : Nat} {v : Value} {d : DataW H} {ps : List MemPlace} (hval : Value.okWide Try.prog W .any base 33 v)
    (h : DataW.Trod enc Try.prog W 0 (fun _ => true) true 33 v d ps) : ∃ (A : Option Addr) (n c : Nat) (l : List Or), v = .slice A n c ∧ l.length = n ∧ n ≤ c ∧ c ≤ maxLen ∧ OrsIn W A n c l := by
  obtain ⟨a0, len, cap, rfl⟩ := okWide_slice Try.underlying33 hval
  obtain ⟨fuel, hf⟩ := h
  rcases open_slice Try.underlying33 hf with ⟨hcs, _⟩ | ⟨a, len', cap', m, n, D, Pl, hcs, _, hl, hm, hmm, _, hi⟩
  · simp [Value.cells] at hcs
    obtain ⟨rfl, rfl, rfl⟩ := hcs
    exact ⟨none, 0, 0, [], rfl, rfl, Nat.le_refl _, Nat.zero_le _, AAt.none W, fun x h => by cases h⟩
  · simp [Value.cells] at hcs
    obtain ⟨rfl, rfl, rfl⟩ := hcs
    have hmc : m = cap := by simpa using hmm
    subst hmc
    obtain ⟨l, hll, hp⟩ := list_of (fun j d => W.cells? 0 (a.add (j * 6)) 6 = some (encA d) ∧ OrIn d) len (fun j hj => by
      obtain ⟨cs', hc, ht⟩ := hi j (by omega)
      rw [cells_or] at hc
      obtain ⟨d, rfl, hok⟩ := open_or1 ht
      exact ⟨d, hc, hok⟩)
    refine ⟨some a, len, m, l, rfl, hll, hl, hm, ⟨hll, hl, hm, fun e => (by cases e), fun hne => ?_⟩, fun d hd => ?_⟩
    · have h0 : 0 < l.length := List.length_pos_iff.2 hne
      obtain ⟨b, off, spot⟩ := a
      have g0 := (World.cells?_some (hp 0 h0).1).2.2 0 (by simp)
      have hspot : spot = none := by simpa [Addr.add] using World.cell?_spot g0
      subst hspot
      rw [addr_add, addr_add] at g0
      refine ⟨b, off, rfl, block_lt_of_cell g0, fun j hj i u hu => ?_⟩
      have hi4 := encA_lt hu
      have g := (World.cells?_some (hp j hj).1).2.2 i hi4
      rw [addr_add, addr_add] at g
      exact g.trans hu
    · obtain ⟨j, hj, rfl⟩ := List.getElem_of_mem hd
      exact (hp j hj).2
end Go.Proofs.Ytcendcegmhliaaa.Ord
