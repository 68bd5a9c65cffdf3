/-
  Scripts of calls that came in: how they lie in memory.
-/
import Derived.Test.YtoldkhfnebjacaaDSame
import Derived.ProofKit
import Derived.OpenShut
import Derived.ChangeOld
import Derived.Below
import Derived.Deep.Slices
import Derived.Deep.MidRow
namespace Go.Proofs.Ytoldkhfnebjacaa.Disk
open Go.ChangeShapes Go.WideShapes Go.ChangeAt Go.WideMaps Go.WideElems Go.RowKit Go.Maps Go.Deep Gen

/-- A call of a script, as plain data. -/
structure CallD where
  kind : Int
  n : Int
  bs : Bs
  ks : List Int
  cut : Int
  by8 : UInt8
structure CallOk (d : CallD) : Prop where
  k0 : -9223372036854775808 ≤ d.kind
  k1 : d.kind ≤ 9223372036854775807
  n0 : -9223372036854775808 ≤ d.n
  n1 : d.n ≤ 9223372036854775807
  c0 : -9223372036854775808 ≤ d.cut
  c1 : d.cut ≤ 9223372036854775807
  ks : ∀ x ∈ d.ks, -9223372036854775808 ≤ x ∧ x ≤ 9223372036854775807
  kl : d.ks.length ≤ 9223372036854775807
  bl : d.bs.length ≤ 9223372036854775807
/-- A call in a struct's six cells. -/
def CallAt (w : World) (b off : Nat) (d : CallD) (A1 : Option Addr) (c1 : Nat) (A2 : Option Addr) (c2 : Nat) : Prop :=
  w.cell? ⟨b, off, none⟩ = some (.int .i64 d.kind) ∧ w.cell? ⟨b, off + 1, none⟩ = some (.int .i64 d.n) ∧ w.cell? ⟨b, off + 2, none⟩ = some (.slice A1 d.bs.length c1) ∧ w.cell? ⟨b, off + 3, none⟩ = some (.slice A2 d.ks.length c2) ∧
    w.cell? ⟨b, off + 4, none⟩ = some (.int .i64 d.cut) ∧ w.cell? ⟨b, off + 5, none⟩ = some (byteV d.by8)
/-- Where its bytes and its numbers lie. -/
structure CallRows (w : World) (d : CallD) (A1 : Option Addr) (c1 : Nat) (A2 : Option Addr) : Prop where
  rb : BRow w A1 d.bs
  nb : A1 = none → c1 = 0
  rk : IRow w A2 d.ks
theorem CallAt.below {w w' : World} {b off : Nat} {d : CallD} {A1 A2 : Option Addr} {c1 c2 : Nat} (h : CallAt w b off d A1 c1 A2 c2) (hb : b < w.heap.size) (m : Below w.heap.size w w') : CallAt w' b off d A1 c1 A2 c2 := by
  obtain ⟨h0, h1, h2, h3, h4, h5⟩ := h
  exact ⟨(m.cell (p := ⟨b, off, none⟩) hb).trans h0, (m.cell (p := ⟨b, off + 1, none⟩) hb).trans h1, (m.cell (p := ⟨b, off + 2, none⟩) hb).trans h2, (m.cell (p := ⟨b, off + 3, none⟩) hb).trans h3, (m.cell (p := ⟨b, off + 4, none⟩) hb).trans h4, (m.cell (p := ⟨b, off + 5, none⟩) hb).trans h5⟩
theorem CallRows.below {w w' : World} {d : CallD} {A1 A2 : Option Addr} {c1 : Nat} (h : CallRows w d A1 c1 A2) (m : Below w.heap.size w w') : CallRows w' d A1 c1 A2 := ⟨RowG.below h.rb m, h.nb, RowG.below h.rk m⟩
/-- A script: its calls lie one behind the other. -/
def Script (w : World) (A : Option Addr) (l : List CallD) : Prop := (∀ d ∈ l, CallOk d) ∧ (l ≠ [] → ∃ b off, A = some ⟨b, off, none⟩ ∧ b < w.heap.size ∧ ∀ j (h : j < l.length), ∃ A1 c1 A2 c2, CallAt w b (off + j * 6) l[j] A1 c1 A2 c2 ∧ CallRows w l[j] A1 c1 A2)
theorem Script.below {w w' : World} {A : Option Addr} {l : List CallD} (h : Script w A l) (m : Below w.heap.size w w') : Script w' A l := ⟨h.1, fun hne => by
  obtain ⟨b, off, e, hb, hc⟩ := h.2 hne
  refine ⟨b, off, e, Nat.lt_of_lt_of_le hb m.size, fun j hj => ?_⟩
  obtain ⟨A1, c1, A2, c2, h1, h2⟩ := hc j hj
  exact ⟨A1, c1, A2, c2, h1.below hb m, h2.below m⟩⟩
/-- The script's call number j. -/
theorem Script.at_ {w : World} {A : Option Addr} {l : List CallD} (h : Script w A l) {j : Nat} (hj : j < l.length) : ∃ b off A1 c1 A2 c2, A = some ⟨b, off, none⟩ ∧ b < w.heap.size ∧ CallAt w b (off + j * 6) l[j] A1 c1 A2 c2 ∧ CallRows w l[j] A1 c1 A2 ∧ CallOk l[j] := by
  obtain ⟨b, off, e, hb, hc⟩ := h.2 (fun e => by rw [e] at hj; simp at hj)
  obtain ⟨A1, c1, A2, c2, h1, h2⟩ := hc j hj
  exact ⟨b, off, A1, c1, A2, c2, e, hb, h1, h2, h.1 _ (List.getElem_mem hj)⟩
/-- A list out of what there is of each number. -/
theorem list_of {α : Type} (p : Nat → α → Prop) : ∀ n, (∀ j, j < n → ∃ x, p j x) → ∃ l : List α, l.length = n ∧ ∀ j (h : j < l.length), p j l[j]
  | 0, _ => ⟨[], rfl, fun j h => by simp at h⟩
  | n + 1, h => by
    obtain ⟨l, hl, hp⟩ := list_of p n (fun j hj => h j (by omega))
    obtain ⟨x, hx⟩ := h n (by omega)
    refine ⟨l ++ [x], by simp [hl], fun j hj => ?_⟩
    rw [List.length_append, List.length_singleton] at hj
    by_cases e : j < l.length
    · rw [List.getElem_append_left e]; exact hp j e
    · obtain rfl : j = l.length := by omega
      rw [List.getElem_append_right (Nat.le_refl _)]
      simp only [Nat.sub_self, List.getElem_singleton]
      rw [hl]; exact hx
section
variable {H : Type} {enc : TypeId × Value → H} {W : World} {fuel : Nat} {cs : List Value} {x : DataW H × List MemPlace}
theorem open_bytes1 (hf : DataW.trod enc Try.prog W 0 (fun _ => true) true fuel 32 cs = some x) : ∃ (A : Option Addr) (c : Nat) (l : List UInt8), cs = [.slice A l.length c] ∧ l.length ≤ c ∧ c ≤ maxLen ∧ (A = none → c = 0) ∧ BRow W A l := by
  rcases open_ints Try.underlying32 Try.underlying5 (by kernel_rfl) hf with ⟨rfl, _⟩ | ⟨x, len, cap, zs, rfl, _, hl, hm, hz, _, hcell, hwz⟩
  · exact ⟨none, 0, [], rfl, Nat.le_refl _, Nat.zero_le _, fun _ => rfl, fun h => absurd rfl h⟩
  · have hz' : zs.length = cap := by simpa using hz
    have hlen : ((zs.take len).map fun z => UInt8.ofNat z.toNat).length = len := by rw [List.length_map, List.length_take]; omega
    refine ⟨some x, cap, (zs.take len).map (fun z => UInt8.ofNat z.toNat), by rw [hlen], by omega, hm, fun h => (by cases h), fun hne => ?_⟩
    have hl0 : 0 < len := by
      rcases Nat.eq_zero_or_pos len with h0 | h0
      · subst h0; simp at hne
      · exact h0
    obtain ⟨b, off, spot⟩ := x
    have hspot : spot = none := by simpa [Addr.add] using World.cell?_spot (hcell 0 (by omega))
    subst hspot
    have hadd : ∀ j, (⟨b, off, none⟩ : Addr).add j = ⟨b, off + j, none⟩ := fun j => by unfold Addr.add; split <;> simp_all
    refine ⟨b, off, rfl, ?_, fun k hk => ?_⟩
    · have h0 := hcell 0 (by omega)
      rw [hadd] at h0
      exact block_lt_of_cell h0
    · rw [hlen] at hk
      have h1 := hcell k (by omega)
      rw [hadd] at h1
      rw [h1]
      have hk' : k < zs.length := by omega
      have hb := bounds_u8 (hwz zs[k] (List.getElem_mem hk'))
      simp only [List.getElem_map, List.getElem_take, List.getD_eq_getElem?_getD, List.getElem?_eq_getElem hk', Option.getD_some]
      congr 2
      rw [UInt8.toNat_ofNat']; omega
theorem open_ints1 (hf : DataW.trod enc Try.prog W 0 (fun _ => true) true fuel 33 cs = some x) : ∃ (A : Option Addr) (c : Nat) (l : List Int), cs = [.slice A l.length c] ∧ l.length ≤ c ∧ c ≤ maxLen ∧ (A = none → c = 0) ∧ IRow W A l ∧ ∀ z ∈ l, -9223372036854775808 ≤ z ∧ z ≤ 9223372036854775807 := by
  rcases open_ints Try.underlying33 Try.underlying3 (by kernel_rfl) hf with ⟨rfl, _⟩ | ⟨x, len, cap, zs, rfl, _, hl, hm, hz, _, hcell, hwz⟩
  · exact ⟨none, 0, [], rfl, Nat.le_refl _, Nat.zero_le _, fun _ => rfl, fun h => absurd rfl h, fun z h => by cases h⟩
  · have hz' : zs.length = cap := by simpa using hz
    have hlen : (zs.take len).length = len := by rw [List.length_take]; omega
    refine ⟨some x, cap, zs.take len, by rw [hlen], by omega, hm, fun h => (by cases h), fun hne => ?_, fun z hz => bounds_i64 (hwz z (List.mem_of_mem_take hz))⟩
    have hl0 : 0 < len := by
      rcases Nat.eq_zero_or_pos len with h0 | h0
      · subst h0; simp at hne
      · exact h0
    obtain ⟨b, off, spot⟩ := x
    have hspot : spot = none := by simpa [Addr.add] using World.cell?_spot (hcell 0 (by omega))
    subst hspot
    have hadd : ∀ j, (⟨b, off, none⟩ : Addr).add j = ⟨b, off + j, none⟩ := fun j => by unfold Addr.add; split <;> simp_all
    refine ⟨b, off, rfl, ?_, fun k hk => ?_⟩
    · have h0 := hcell 0 (by omega)
      rw [hadd] at h0
      exact block_lt_of_cell h0
    · rw [hlen] at hk
      have h1 := hcell k (by omega)
      rw [hadd] at h1
      rw [h1]
      have hk' : k < zs.length := by omega
      simp only [List.getElem_take, List.getD_eq_getElem?_getD, List.getElem?_eq_getElem hk', Option.getD_some]
theorem cells_call : Try.prog.cellsOf 35 = 6 := by kernel_rfl
theorem addr_add (b off j : Nat) : (⟨b, off, none⟩ : Addr).add j = ⟨b, off + j, none⟩ := by unfold Addr.add; split <;> simp_all
set_option maxRecDepth 100000 in
theorem open_call {cs' : List Value} (hf : DataW.trod enc Try.prog W 0 (fun _ => true) true fuel 35 cs' = some x) :
    ∃ d A1 c1 A2 c2, cs' = [.int .i64 d.kind, .int .i64 d.n, .slice A1 d.bs.length c1, .slice A2 d.ks.length c2, .int .i64 d.cut, byteV d.by8] ∧ CallRows W d A1 c1 A2 ∧ CallOk d := by
  obtain ⟨xs, n, _, _, hlen, hxl, hg⟩ := DataW.trod_struct Try.underlying35 hf
  rw [cells_call] at hlen
  have h0 := hg 0 _ rfl
  have h1 := hg 1 _ rfl
  have h2 := hg 2 _ rfl
  have h3 := hg 3 _ rfl
  have h4 := hg 4 _ rfl
  have h5 := hg 5 _ rfl
  match cs', hlen, xs, hxl with
  | [v0, v1, v2, v3, v4, v5], _, [y0, y1, y2, y3, y4, y5], _ =>
    simp only [List.getElem?_cons_succ, List.getElem?_cons_zero] at h0 h1 h2 h3 h4 h5
    obtain ⟨k, e0, _, w0⟩ := DataW.trod_int Try.underlying3 h0
    obtain ⟨m, e1, _, w1⟩ := DataW.trod_int Try.underlying3 h1
    obtain ⟨A1, c1, bs, e2, l2, m2, n2, r2⟩ := open_bytes1 h2
    obtain ⟨A2, c2, ks, e3, l3, m3, _, r3, b3⟩ := open_ints1 h3
    obtain ⟨cut, e4, _, w4⟩ := DataW.trod_int Try.underlying3 h4
    obtain ⟨y, e5, _, w5⟩ := DataW.trod_int Try.underlying5 h5
    have b0 := bounds_i64 w0
    have b1 := bounds_i64 w1
    have b4 := bounds_i64 w4
    have b5 := bounds_u8 w5
    have m2' := Nat.le_trans l2 m2
    have m3' := Nat.le_trans l3 m3
    unfold maxLen at m2' m3'
    refine ⟨⟨k, m, bs, ks, cut, UInt8.ofNat y.toNat⟩, A1, c1, A2, c2, ?_, ⟨r2, n2, r3⟩, ⟨b0.1, b0.2, b1.1, b1.2, b4.1, b4.2, b3, Nat.le_trans m3' (by omega), Nat.le_trans m2' (by omega)⟩⟩
    have e6 : byteV (UInt8.ofNat y.toNat) = .int .u8 y := by
      show Value.int .u8 _ = _
      congr 1
      rw [UInt8.toNat_ofNat']; omega
    rw [(List.cons.inj e0).1, (List.cons.inj e1).1, (List.cons.inj e2).1, (List.cons.inj e3).1, (List.cons.inj e4).1, (List.cons.inj e5).1, e6]
end
set_option maxRecDepth 100000 in
theorem open_script {H : Type} {enc : TypeId × Value → H} {W : World} {base : Nat} {v : Value} {d : DataW H} {ps : List MemPlace} (hval : Value.okWide Try.prog W .any base 23 v)
    (h : DataW.Trod enc Try.prog W 0 (fun _ => true) true 23 v d ps) : ∃ (A : Option Addr) (n c : Nat) (l : List CallD), v = .slice A n c ∧ l.length = n ∧ n ≤ c ∧ c ≤ maxLen ∧ Script W A l := by
  obtain ⟨a0, len, cap, rfl⟩ := okWide_slice Try.underlying23 hval
  obtain ⟨fuel, hf⟩ := h
  rcases open_slice Try.underlying23 hf with ⟨hcs, _⟩ | ⟨a, len', cap', m, n, D, Pl, hcs, _, hl, hm, hmm, _, hi⟩
  · simp [Value.cells] at hcs
    obtain ⟨rfl, rfl, rfl⟩ := hcs
    exact ⟨none, 0, 0, [], rfl, rfl, Nat.le_refl _, Nat.zero_le _, fun d h => (by cases h), fun h => absurd rfl h⟩
  · simp [Value.cells] at hcs
    obtain ⟨rfl, rfl, rfl⟩ := hcs
    have hmc : m = cap := by simpa using hmm
    subst hmc
    obtain ⟨l, hll, hp⟩ := list_of (fun j d => (∃ A1 c1 A2 c2, W.cells? 0 (a.add (j * 6)) 6 = some [.int .i64 d.kind, .int .i64 d.n, .slice A1 d.bs.length c1, .slice A2 d.ks.length c2, .int .i64 d.cut, byteV d.by8] ∧ CallRows W d A1 c1 A2) ∧ CallOk d) len (fun j hj => by
      obtain ⟨cs', hc, ht⟩ := hi j (by omega)
      rw [cells_call] at hc
      obtain ⟨d, A1, c1, A2, c2, rfl, hr, hok⟩ := open_call ht
      exact ⟨d, ⟨A1, c1, A2, c2, hc, hr⟩, hok⟩)
    refine ⟨some a, len, m, l, rfl, hll, hl, hm, fun d hd => ?_, fun hne => ?_⟩
    · obtain ⟨j, hj, rfl⟩ := List.getElem_of_mem hd
      exact (hp j hj).2
    · have h0 : 0 < l.length := List.length_pos_iff.2 hne
      obtain ⟨b, off, spot⟩ := a
      obtain ⟨⟨_, _, _, _, hc0, _⟩, _⟩ := hp 0 h0
      have g0 := (World.cells?_some hc0).2.2 0 (by omega)
      have hspot : spot = none := by simpa [Addr.add] using World.cell?_spot g0
      subst hspot
      rw [addr_add, addr_add] at g0
      refine ⟨b, off, rfl, block_lt_of_cell g0, fun j hj => ?_⟩
      obtain ⟨⟨A1, c1, A2, c2, hc, hr⟩, _⟩ := hp j hj
      have g := (World.cells?_some hc).2.2
      simp only [addr_add] at g
      exact ⟨A1, c1, A2, c2, ⟨g 0 (by omega), g 1 (by omega), g 2 (by omega), g 3 (by omega), g 4 (by omega), g 5 (by omega)⟩, hr⟩
/-- Numbers that came in. -/
theorem open_numbers {H : Type} {enc : TypeId × Value → H} {W : World} {base : Nat} {v : Value} {d : DataW H} {ps : List MemPlace} (hval : Value.okWide Try.prog W .any base 33 v)
    (h : DataW.Trod enc Try.prog W 0 (fun _ => true) true 33 v d ps) : ∃ (A : Option Addr) (n c : Nat) (l : List Int), v = .slice A n c ∧ l.length = n ∧ n ≤ c ∧ c ≤ maxLen ∧ IRow W A l ∧ ∀ z ∈ l, -9223372036854775808 ≤ z ∧ z ≤ 9223372036854775807 := by
  obtain ⟨a0, len, cap, rfl⟩ := okWide_slice Try.underlying33 hval
  obtain ⟨fuel, hf⟩ := h
  obtain ⟨A, c, l, e, h1, h2, _, h4, h5⟩ := open_ints1 hf
  simp [Value.cells] at e
  obtain ⟨rfl, rfl, rfl⟩ := e
  exact ⟨_, _, _, l, rfl, rfl, h1, h2, h4, h5⟩
end Go.Proofs.Ytoldkhfnebjacaa.Disk
