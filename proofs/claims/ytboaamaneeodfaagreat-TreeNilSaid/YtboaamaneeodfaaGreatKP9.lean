/-
  Texts of one family, one behind the other: PRow.
-/
import Derived.Test.YtboaamaneeodfaaGreatKP8
import Derived.ProofKit
import Derived.OpenShut
import Derived.ChangeOld
import Derived.Below
import Derived.Deep.Slices
import Derived.Deep.MidRow
namespace Go.Proofs.YtboaamaneeodfaaGreat.Page
open Go.ChangeShapes Go.WideShapes Go.ChangeAt Go.WideMaps Go.WideElems Go.RowKit Go.Deep Gen

theorem laidOut : laidOutB Tryz.prog = true := by kernel_rfl
/-- A list out of what there is of each number. -/
theorem list_of {α : Type} (p : Nat → α → Prop) : ∀ n, (∀ j, j < n → ∃ x, p j x) → ∃ l : List α, l.length = n ∧ ∀ j (h : j < l.length), p j l[j]
  | 0, _ => ⟨[], rfl, fun j h => by simp at h⟩
  | n + 1, h => by
    obtain ⟨l, hl, hp⟩ := list_of p n (fun j hj => h j (by omega))
    obtain ⟨x, hx⟩ := h n (by omega)
    refine ⟨l ++ [x], by simp [hl], fun j hj => ?_⟩
    rw [List.length_append, List.length_singleton] at hj
    by_cases e : j < l.length
    · rw [List.getElem_append_left e]; exact hp j e
    · obtain rfl : j = l.length := by omega
      rw [List.getElem_append_right (Nat.le_refl _)]
      simp only [Nat.sub_self, List.getElem_singleton]
      rw [hl]; exact hx
/-- Cells one behind the other are a row. -/
theorem row_of {α : Type} {enc : α → Value} {W : World} {a : Addr} {l : List α} (h : ∀ j (hj : j < l.length), W.cell? (a.add j) = some (enc l[j])) : RowG W enc (some a) l := fun hne => by
  have h0 : 0 < l.length := List.length_pos_iff.2 hne
  obtain ⟨b, off, spot⟩ := a
  have hspot : spot = none := by simpa [Addr.add] using World.cell?_spot (h 0 h0)
  subst hspot
  have e0 := h 0 h0
  rw [add_none] at e0
  refine ⟨b, off, rfl, block_lt_of_cell e0, fun j hj => ?_⟩
  rw [← add_none]
  exact h j hj
section
variable {H : Type} {enc : TypeId × Value → H} {W : World} {fuel : Nat} {cs : List Value} {x : DataW H × List MemPlace}
set_option maxRecDepth 100000 in
theorem open_str1 (hf : DataW.trod enc Tryz.prog W 0 (fun _ => true) true fuel 9 cs = some x) : ∃ l : Bs, cs = [strV l] := by
  obtain ⟨s, rfl, _, _⟩ := DataW.trod_string Tryz.underlying9 hf
  refine ⟨s.data.toList, ?_⟩
  cases s
  simp [strB]
set_option maxRecDepth 100000 in
theorem open_strs1 (hf : DataW.trod enc Tryz.prog W 0 (fun _ => true) true fuel 57 cs = some x) : ∃ (A : Option Addr) (c : Nat) (l : List Bs), cs = [.slice A l.length c] ∧ l.length ≤ c ∧ c ≤ maxLen ∧ SRow W A l := by
  rcases open_slice1 Tryz.underlying57 (by kernel_rfl) hf with ⟨rfl, _⟩ | ⟨a, len, cap, m, n, V, D, Pl, rfl, _, hl, hm, hmm, _, hi⟩
  · exact ⟨none, 0, [], rfl, Nat.le_refl _, Nat.zero_le _, fun h => absurd rfl h⟩
  · have hmc : m = cap := by simpa using hmm
    subst hmc
    obtain ⟨l, hll, hp⟩ := list_of (fun j l => W.cell? (a.add j) = some (strV l)) len (fun j hj => by
      obtain ⟨h1, h2⟩ := hi j (by omega)
      obtain ⟨l, e⟩ := open_str1 h2
      rw [(List.cons.inj e).1] at h1
      exact ⟨l, h1⟩)
    exact ⟨some a, m, l, by rw [hll], by omega, hm, row_of hp⟩
set_option maxRecDepth 100000 in
theorem open_ints1 (hf : DataW.trod enc Tryz.prog W 0 (fun _ => true) true fuel 68 cs = some x) : ∃ (A : Option Addr) (c : Nat) (l : List Int), cs = [.slice A l.length c] ∧ l.length ≤ c ∧ c ≤ maxLen ∧ IRow W A l := by
  rcases open_ints Tryz.underlying68 Tryz.underlying3 (by kernel_rfl) hf with ⟨rfl, _⟩ | ⟨x, len, cap, zs, rfl, _, hl, hm, hz, _, hcell, hwz⟩
  · exact ⟨none, 0, [], rfl, Nat.le_refl _, Nat.zero_le _, fun h => absurd rfl h⟩
  · have hz' : zs.length = cap := by simpa using hz
    have hlen : (zs.take len).length = len := by rw [List.length_take]; omega
    refine ⟨some x, cap, zs.take len, by rw [hlen], by omega, hm, row_of fun j hj => ?_⟩
    rw [hlen] at hj
    rw [hcell j (by omega)]
    have hk' : j < zs.length := by omega
    simp only [List.getElem_take, List.getD_eq_getElem?_getD, List.getElem?_eq_getElem hk', Option.getD_some]
theorem cells_pair : Tryz.prog.cellsOf 36 = 2 := by kernel_rfl
set_option maxRecDepth 100000 in
theorem open_pairs1 (hf : DataW.trod enc Tryz.prog W 0 (fun _ => true) true fuel 27 cs = some x) : ∃ (A : Option Addr) (c : Nat) (l : List (Bs × Bs)), cs = [.slice A l.length c] ∧ l.length ≤ c ∧ c ≤ maxLen ∧ PRow W A l := by
  rcases open_slice Tryz.underlying27 hf with ⟨rfl, _⟩ | ⟨a, len, cap, m, n, D, Pl, rfl, _, hl, hm, hmm, _, hi⟩
  · exact ⟨none, 0, [], rfl, Nat.le_refl _, Nat.zero_le _, fun h => absurd rfl h⟩
  · have hmc : m = cap := by simpa using hmm
    subst hmc
    obtain ⟨l, hll, hp⟩ := list_of (fun j (x : Bs × Bs) => W.cells? 0 (a.add (j * 2)) 2 = some [strV x.1, strV x.2]) len (fun j hj => by
      obtain ⟨cs', h1, h2⟩ := hi j (by omega)
      rw [cells_pair] at h1
      obtain ⟨xs, k, _, _, hlen, hxl, hg⟩ := DataW.trod_struct Tryz.underlying36 h2
      rw [cells_pair] at hlen
      have g0 := hg 0 _ rfl
      have g1 := hg 1 _ rfl
      match cs', hlen, xs, hxl with
      | [v0, v1], _, [y0, y1], _ =>
        simp only [List.getElem?_cons_succ, List.getElem?_cons_zero] at g0 g1
        obtain ⟨s0, e0⟩ := open_str1 g0
        obtain ⟨s1, e1⟩ := open_str1 g1
        rw [(List.cons.inj e0).1, (List.cons.inj e1).1] at h1
        exact ⟨(s0, s1), h1⟩)
    refine ⟨some a, m, l, by rw [hll], by omega, hm, fun hne => ?_⟩
    have h0 : 0 < l.length := List.length_pos_iff.2 hne
    obtain ⟨b, off, spot⟩ := a
    have g0 := (World.cells?_some (hp 0 h0)).2.2 0 (by simp)
    have hspot : spot = none := by simpa [Addr.add] using World.cell?_spot g0
    subst hspot
    rw [add_none, add_none] at g0
    refine ⟨b, off, rfl, block_lt_of_cell g0, fun j hj => ?_⟩
    have g := (World.cells?_some (hp j hj)).2.2
    simp only [add_none] at g
    exact ⟨g 0 (by simp), g 1 (by simp)⟩
end
theorem cells_page : Tryz.prog.cellsOf 82 = 11 := by kernel_rfl
set_option maxRecDepth 100000 in
/-- A page that came in. -/
theorem open_page {H : Type} {enc : TypeId × Value → H} {W : World} {base : Nat} {v : Value} {d : DataW H} {ps : List MemPlace} (hval : Value.okWide Tryz.prog W .any base 82 v)
    (h : DataW.Trod enc Tryz.prog W 0 (fun _ => true) true 82 v d ps) : ∃ (p : Pg) (a : Lay), v = pgV p a ∧ PgOk p ∧ PgRows W p a := by
  obtain ⟨cs, rfl, hsz⟩ := okWide_struct Tryz.underlying82 hval
  obtain ⟨fuel, hf⟩ := h
  obtain ⟨xs, n, _, _, hlen, hxl, hg⟩ := DataW.trod_struct Tryz.underlying82 hf
  rw [cells_page] at hlen
  have h0 := hg 0 _ rfl
  have h1 := hg 1 _ rfl
  have h2 := hg 2 _ rfl
  have h3 := hg 3 _ rfl
  have h4 := hg 4 _ rfl
  have h5 := hg 5 _ rfl
  have h6 := hg 6 _ rfl
  have h7 := hg 7 _ rfl
  have h8 := hg 8 _ rfl
  have h9 := hg 9 _ rfl
  have h10 := hg 10 _ rfl
  obtain ⟨l, hl⟩ : ∃ l, cs.toList = l := ⟨_, rfl⟩
  have hcs : cs = l.toArray := by rw [← hl]
  subst hcs
  simp only [Value.cells] at hlen h0 h1 h2 h3 h4 h5 h6 h7 h8 h9 h10
  match l, hlen, xs, hxl with
  | [v0, v1, v2, v3, v4, v5, v6, v7, v8, v9, v10], _, [y0, y1, y2, y3, y4, y5, y6, y7, y8, y9, y10], _ =>
    simp only [List.getElem?_cons_succ, List.getElem?_cons_zero] at h0 h1 h2 h3 h4 h5 h6 h7 h8 h9 h10
    obtain ⟨m0, e0, _, w0⟩ := DataW.trod_int Tryz.underlying3 h0
    obtain ⟨A1, c1, l1, e1, g1, x1, r1⟩ := open_pairs1 h1
    obtain ⟨A2, c2, l2, e2, g2, x2, r2⟩ := open_strs1 h2
    obtain ⟨A3, c3, l3, e3, g3, x3, r3⟩ := open_ints1 h3
    obtain ⟨A4, c4, l4, e4, g4, x4, r4⟩ := open_ints1 h4
    obtain ⟨m5, e5, _, w5⟩ := DataW.trod_int Tryz.underlying3 h5
    obtain ⟨m6, e6, _, w6⟩ := DataW.trod_int Tryz.underlying80 h6
    obtain ⟨m7, e7, _, w7⟩ := DataW.trod_int Tryz.underlying3 h7
    obtain ⟨m8, e8, _, w8⟩ := DataW.trod_int Tryz.underlying3 h8
    obtain ⟨m9, e9, _, w9⟩ := DataW.trod_int Tryz.underlying3 h9
    obtain ⟨m10, e10, _, w10⟩ := DataW.trod_int Tryz.underlying3 h10
    have b6 := bounds_u64 w6
    unfold maxLen at x1 x2 x3 x4
    refine ⟨⟨m0, l1, l2, l3, l4, m5, m6.toNat, m7, m8, m9, m10⟩, ⟨A1, c1, A2, c2, A3, c3, A4, c4⟩, ?_, ⟨bounds_i64 w0, by show l1.length ≤ _; omega, by show l2.length ≤ _; omega, by show l3.length ≤ _; omega, by show l4.length ≤ _; omega, bounds_i64 w5, by show m6.toNat < _; omega, bounds_i64 w7, bounds_i64 w8, bounds_i64 w9, bounds_i64 w10⟩, ⟨r1, r2, r3, r4⟩⟩
    rw [(List.cons.inj e0).1, (List.cons.inj e1).1, (List.cons.inj e2).1, (List.cons.inj e3).1, (List.cons.inj e4).1, (List.cons.inj e5).1, (List.cons.inj e6).1, (List.cons.inj e7).1, (List.cons.inj e8).1, (List.cons.inj e9).1, (List.cons.inj e10).1]
    show _ = Value.agg #[.int .i64 m0, .slice A1 l1.length c1, .slice A2 l2.length c2, .slice A3 l3.length c3, .slice A4 l4.length c4, .int .i64 m5, .int .u64 ((m6.toNat : Nat) : Int), .int .i64 m7, .int .i64 m8, .int .i64 m9, .int .i64 m10]
    rw [show ((m6.toNat : Nat) : Int) = m6 by omega]
set_option maxRecDepth 100000 in
/-- Bytes that came in, nil or not. -/
theorem open_bytes {H : Type} {enc : TypeId × Value → H} {W : World} {base : Nat} {v : Value} {d : DataW H} {ps : List MemPlace} (hval : Value.okWide Tryz.prog W .any base 129 v)
    (h : DataW.Trod enc Tryz.prog W 0 (fun _ => true) true 129 v d ps) :
    ∃ (A : Option Addr) (n c : Nat) (l : List UInt8), v = .slice A n c ∧ l.length = n ∧ n ≤ c ∧ c ≤ maxLen ∧ (A = none → c = 0) ∧ BRow W A l := by
  obtain ⟨a0, len, cap, rfl⟩ := okWide_slice Tryz.underlying129 hval
  obtain ⟨fuel, hf⟩ := h
  rcases open_ints Tryz.underlying129 Tryz.underlying5 (by kernel_rfl) hf with ⟨hcs, _⟩ | ⟨x, l, c, zs, hcs, _, hl, hm, hz, _, hcell, hwz⟩
  · simp [Value.cells] at hcs
    obtain ⟨rfl, rfl, rfl⟩ := hcs
    exact ⟨none, 0, 0, [], rfl, rfl, Nat.le_refl _, Nat.zero_le _, fun _ => rfl, fun h => absurd rfl h⟩
  · simp [Value.cells] at hcs
    obtain ⟨rfl, rfl, rfl⟩ := hcs
    have hz' : zs.length = cap := by simpa using hz
    have hlen : ((zs.take len).map fun z => UInt8.ofNat z.toNat).length = len := by rw [List.length_map, List.length_take]; omega
    refine ⟨_, len, cap, (zs.take len).map (fun z => UInt8.ofNat z.toNat), rfl, hlen, hl, hm, fun h => (by cases h), row_of fun k hk => ?_⟩
    rw [hlen] at hk
    rw [hcell k (by omega)]
    have hk' : k < zs.length := by omega
    have hb := bounds_u8 (hwz zs[k] (List.getElem_mem hk'))
    simp only [List.getElem_map, List.getElem_take, List.getD_eq_getElem?_getD, List.getElem?_eq_getElem hk', Option.getD_some]
    congr 2
    rw [UInt8.toNat_ofNat']; omega
end Go.Proofs.YtboaamaneeodfaaGreat.Page
