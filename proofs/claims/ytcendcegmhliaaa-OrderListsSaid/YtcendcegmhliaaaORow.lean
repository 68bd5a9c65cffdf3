/-
  How orders lie in memory.
-/
import Derived.Test.YtcendcegmhliaaaOStable
import Derived.Test.YtcendcegmhliaaaGKit
namespace Go.Proofs.Ytcendcegmhliaaa.Ord
open Go.RowKit Go.Sort Go.Shelf Go.Lib _root_.Go.Proofs.Ytcendcegmhliaaa.Gnd
/-- A row of accounts. -/
def RowA (w : World) (A : Option Addr) (l : List Or) : Prop := l ≠ [] → ∃ b off, A = some ⟨b, off, none⟩ ∧ b < w.heap.size ∧ ∀ j (h : j < l.length), w.rangeAt b (off + j * 6) (encA l[j])
theorem RowA.below {w w' : World} {A : Option Addr} {l : List Or} (h : RowA w A l) (hb : Below w.heap.size w w') : RowA w' A l := fun hne => by
  obtain ⟨b, o, e, hlt, hc⟩ := h hne
  exact ⟨b, o, e, Nat.lt_of_lt_of_le hlt hb.size, fun j hj => range_below (hc j hj) hb hlt⟩
/-- A slice of accounts. -/
structure AAt (w : World) (A : Option Addr) (n c : Nat) (l : List Or) : Prop where
  len : l.length = n
  cap : n ≤ c
  max : c ≤ maxLen
  nil : A = none → c = 0
  row : RowA w A l
theorem AAt.below {w w' : World} {A : Option Addr} {n c : Nat} {l : List Or} (h : AAt w A n c l) (hb : Below w.heap.size w w') : AAt w' A n c l := ⟨h.len, h.cap, h.max, h.nil, h.row.below hb⟩
theorem AAt.none (w : World) : AAt w none 0 0 [] := ⟨rfl, Nat.le_refl _, Nat.zero_le _, fun _ => rfl, fun h => absurd rfl h⟩
theorem size_ac : (Try.prog.info? 25).map (·.size) = some 6 := by kernel_rfl
theorem load_ac {w : World} {b o : Nat} {x : Or} (h : w.rangeAt b o (encA x)) : (Instr.loadAt 25 (.pointer (some ⟨b, o, none⟩))).run Try.prog w = .ok (.agg (encA x).toArray) w := by
  have := run_loadAt_mid (P := Try.prog) w b o 25 (encA x) _ h Try.underlying25 rfl (by simpa [encA] using size_ac)
  simpa using this
/-- Cells of accounts, one behind the other. -/
abbrev flatA (l : List Or) : List Value := l.flatMap encA
theorem flatA_len : ∀ (l : List Or), (flatA l).length = l.length * 6
  | [] => rfl
  | x :: l => by
    have := flatA_len l
    simp only [flatA, List.flatMap_cons, List.length_append, List.length_cons, encA_len] at this ⊢
    omega
theorem flatA_get : ∀ (l : List Or) (j : Nat) (h : j < l.length) (i : Nat), i < 6 → (flatA l)[j * 6 + i]? = (encA l[j])[i]?
  | [], _, h, _, _ => by simp at h
  | x :: l, 0, _, i, hi => by
    show (encA x ++ flatA l)[0 * 6 + i]? = (encA x)[i]?
    rw [Nat.zero_mul, Nat.zero_add, List.getElem?_append_left (by rw [encA_len]; exact hi)]
  | x :: l, j + 1, h, i, hi => by
    have := flatA_get l j (by simpa using h) i hi
    show (encA x ++ flatA l)[(j + 1) * 6 + i]? = (encA (l[j]'(by simpa using h)))[i]?
    rw [List.getElem?_append_right (by rw [encA_len]; omega), encA_len, show (j + 1) * 6 + i - 6 = j * 6 + i by omega]
    exact this
theorem encA_lt {x : Or} {i : Nat} {v : Value} (h : (encA x)[i]? = some v) : i < 6 := by
  have := (List.getElem?_eq_some_iff.1 h).1
  rw [encA_len] at this; exact this
/-- Accounts in a row of the call's own. -/
def OwnA (w : World) (B : Nat) (v : Value) (l : List Or) : Prop := w.ownsRow B 25 6 v l.length (flatA l)
theorem OwnA.at {w : World} {B : Nat} {v : Value} {l : List Or} (h : OwnA w B v l) : ∃ A c, v = .slice A l.length c ∧ AAt w A l.length c l ∧ ∀ a, A = some a → B ≤ a.block ∧ a.block < w.heap.size := by
  obtain ⟨hl, ⟨rfl, hn⟩ | ⟨g, cap, cur, rfl, hg, hh, hnc, hcm, _, ht⟩⟩ := h
  · exact ⟨none, 0, by rw [hn], ⟨rfl, by omega, Nat.zero_le _, fun _ => rfl, fun hne => absurd (List.eq_nil_of_length_eq_zero hn) hne⟩, fun a h => by cases h⟩
  · have hlt := (Array.getElem?_eq_some_iff.1 hh).1
    refine ⟨some ⟨g, 0, none⟩, cap, rfl, ⟨rfl, hnc, hcm, fun h => (by cases h), fun _ => ⟨g, 0, rfl, hlt, fun j hj i v hv => ?_⟩⟩, fun a h => by cases h; exact ⟨hg, hlt⟩⟩
    have hi := encA_lt hv
    rw [← flatA_get l j hj i hi] at hv
    have hb : j * 6 + i < l.length * 6 := by omega
    rw [Nat.zero_add, cell_of_row w g (j * 6 + i) cur _ _ hh, ← Array.getElem?_toList, ← hv, ← ht, List.getElem?_take_of_lt hb]
theorem OwnA.nil (w : World) (B : Nat) : OwnA w B (.slice none 0 0) [] := ⟨rfl, .inl ⟨rfl, rfl⟩⟩
theorem ac_info : (Try.prog.info? 25).map (fun i => (i.zero, i.size, i.bytes)) = some (some (.agg #[.int .u64 0, .string ⟨#[]⟩, .string ⟨#[]⟩, .bool false, .int .i64 0, .int .i64 0]), 6, 64) := by kernel_rfl
/-- A row more. -/
theorem append_acs (W : World) (B : Nat) (v : Value) (ys : List Or) (h : OwnA W B v ys) (A : Option Addr) (m c : Nat) (zs : List Or) (hz : zs.length = m) (hA : A = none → c = 0) (hR : RowA W A zs) (hn : ys.length + m ≤ 1000000) (hB : B ≤ W.heap.size) :
    ∃ v' W', (Builtin.append_ #[33, 33] 33 #[v, .slice A m c]).run Try.prog W = .ok v' W' ∧ OwnA W' B v' (ys ++ zs) ∧ W.grownBy W' v.ownBlock ∧ (∀ k, v.ownBlock = some k → B ≤ k) := by
  obtain ⟨i0, hi, hz0, hz1, hz2⟩ := info_parts' ac_info
  have h0 := h
  rcases A with _ | a
  · have hzs : zs = [] := by
      rcases zs with _ | ⟨z, zs⟩
      · rfl
      · obtain ⟨b, o, h, _⟩ := hR (by simp); cases h
    subst hzs
    obtain rfl : c = 0 := hA rfl
    obtain rfl : m = 0 := hz.symm
    exact ⟨v, W, run_append_owned_none (P := Try.prog) (w := W) B _ _ 25 i0 6 Try.underlying33 hi v _ _ h, by rw [List.append_nil]; exact h, World.grownBy.refl W _, fun k hk => (World.ownsRow.lt h0 k hk).1⟩
  · obtain ⟨v', W', h1, h2, h3, _, _⟩ := run_append_own_at (P := Try.prog) W B 33 33 25 i0 _ 6 64 Try.underlying33 hi hz0 hz1 hz2 rfl (by decide) v _ _ h a m c (flatA zs) (by rw [flatA_len, hz]) (fun j u hu => by
        have hjl : j < zs.length * 6 := by rw [← flatA_len]; exact (List.getElem?_eq_some_iff.1 hu).1
        obtain ⟨b, o, e, _, hc⟩ := hR (by intro e; subst e; simp at hjl)
        injection e with e
        subst e
        have e : (⟨b, o, none⟩ : Addr).add j = ⟨b, o + j, none⟩ := by unfold Addr.add; split <;> simp_all
        rw [e]
        obtain ⟨q, hq⟩ : ∃ q, q = j / 6 := ⟨_, rfl⟩
        have hql : q < zs.length := by omega
        have f := flatA_get zs q hql (j - q * 6) (by omega)
        rw [show q * 6 + (j - q * 6) = j by omega, hu] at f
        have := hc q hql (j - q * 6) u f.symm
        rw [show o + q * 6 + (j - q * 6) = o + j by omega] at this
        exact this)
      (fun u hu => by
        obtain ⟨x, _, hx⟩ := List.mem_flatMap.1 hu
        exact encA_one x u hx) (by simp only [maxLen]; omega) (by omega) hB
    refine ⟨v', W', h1, ?_, h3, fun k hk => (World.ownsRow.lt h0 k hk).1⟩
    unfold OwnA
    rw [List.length_append, hz]
    have e : flatA (ys ++ zs) = flatA ys ++ flatA zs := by simp [flatA]
    rw [e]; exact h2
theorem flat_take (l : List Or) (i : Nat) (hi : i ≤ l.length) : flatA (l.take i) = (flatA l).take (i * 6) := by
  have hl : (flatA (l.take i)).length = i * 6 := by rw [flatA_len, List.length_take]; omega
  have hf : flatA l = flatA (l.take i) ++ flatA (l.drop i) := by simp only [flatA]; rw [← List.flatMap_append, List.take_append_drop]
  rw [hf]
  exact (List.take_left' hl).symm
theorem own_cap {w : World} {B g n cap : Nat} {l : List Or} (h : OwnA w B (.slice (some ⟨g, 0, none⟩) n cap) l) : n ≤ cap ∧ n = l.length := by
  obtain ⟨A, c, e, ha, _⟩ := h.at
  injection e with e1 e2 e3
  subst e1 e2 e3
  exact ⟨ha.cap, rfl⟩
theorem own_frozen {w : World} {B g n cap : Nat} {l : List Or} (h : OwnA w B (.slice (some ⟨g, 0, none⟩) n cap) l) (m : Nat) : w.frozen? ⟨g, m, none⟩ = false := by
  obtain ⟨_, e⟩ := own_cap h
  subst e
  exact World.ownsRow.frozenAt h m
theorem flatK_get (l : List Or) (j : Nat) (hj : j < l.length * 6) : some (flatK encA 6 l.toArray)[j]! = (flatA l)[j]? := by
  have hq : j / 6 < l.length := by omega
  rw [get_flatK encA 6 l.toArray j (by simpa using hj)]
  have h := flatA_get l (j / 6) hq (j % 6) (Nat.mod_lt _ (by omega))
  rw [show j / 6 * 6 + j % 6 = j by omega] at h
  rw [h]
  have e : l.toArray[j / 6]! = l[j / 6] := by simp [hq]
  rw [e]
  have hl : j % 6 < (encA l[j / 6]).length := by rw [encA_len]; exact Nat.mod_lt _ (by omega)
  rw [List.getElem!_eq_getElem?_getD, List.getElem?_eq_getElem hl]
  rfl
theorem own_holds {w : World} {B g n cap : Nat} {l : List Or} (h : OwnA w B (.slice (some ⟨g, 0, none⟩) n cap) l) : HoldsK encA 6 w g 0 l.toArray := fun j hj => by
  have hj : j < l.length * 6 := by simpa using hj
  obtain ⟨_, rfl⟩ := own_cap h
  refine ⟨?_, own_frozen h _⟩
  rw [Nat.zero_add, World.ownsRow.cellAt h j hj]
  exact (flatK_get l j hj).symm
theorem own_put {w : World} {B g n cap : Nat} {l : List Or} (h : OwnA w B (.slice (some ⟨g, 0, none⟩) n cap) l) (m : Nat) (d : Array Or) (os : Array Obj) (hd : d.size = l.length) :
    OwnA (sortWorldK encA 6 w g 0 m d os) B (.slice (some ⟨g, 0, none⟩) n cap) d.toList ∧ ∀ C, C ≤ g → C ≤ w.heap.size → RowKit.Below C w (sortWorldK encA 6 w g 0 m d os) := by
  have H0 := own_holds h
  obtain ⟨_, hnl⟩ := own_cap h
  obtain ⟨hl, ⟨h', _⟩ | ⟨g', cap', cur, h', hg, hh, hnc, hcm, hcs, ht⟩⟩ := h
  · simp at h'
  · simp only [Value.slice.injEq, Option.some.injEq, Addr.mk.injEq, and_true] at h'
    obtain ⟨rfl, _, rfl⟩ := h'
    have hlt : g < w.heap.size := (Array.getElem?_eq_some_iff.1 hh).1
    have e1 : (sortWorldK encA 6 w g 0 m d os).heap[g]? = some (.cells (putCells id 0 (flatK encA 6 d) cur) 25 (0, 0)) := by
      unfold sortWorldK putRowK putRow mapBlock
      rw [heap_grow_old _ _ (by simpa using hlt)]
      simp [Array.getElem?_modify, hh, onCells]
    refine ⟨⟨flatA_len _, .inr ⟨g, cap, _, by rw [hnl]; simp [hd], hg, e1, by simpa [hd] using hnc, hcm, by simpa [putCells] using hcs, ?_⟩⟩, fun C hC hC2 => ⟨rfl, rfl, rfl, ?_, fun k hk => ?_⟩⟩
    · apply List.ext_getElem?
      intro j
      by_cases hj : j < d.toList.length * 6
      · have hjl : j < l.length * 6 := by rw [← hd]; simpa using hj
        rw [List.getElem?_take_of_lt hj, Array.getElem?_toList]
        have hjc : j < cur.size := by rw [hcs]; have : l.length * 6 ≤ cap * 6 := Nat.mul_le_mul_right 6 hnc; omega
        have := flatK_get d.toList j hj
        simp only [Array.toArray_toList] at this
        rw [← this]
        have hs : j < d.size * 6 := by simpa using hj
        simp [putCells, hjc, hs]
      · rw [List.getElem?_eq_none (by rw [List.length_take]; omega), List.getElem?_eq_none (by rw [flatA_len]; omega)]
    · unfold sortWorldK
      rw [size_grow, size_putRowK]
      exact Nat.le_add_right _ _
    · unfold sortWorldK putRowK putRow mapBlock
      rw [heap_grow_old _ _ (by simp; omega)]
      have hne : ¬ g = k := by omega
      simp [Array.getElem?_modify, hne]
theorem OwnA.below {w w' : World} {B : Nat} {v : Value} {l : List Or} (h : OwnA w B v l) (hb : Below w.heap.size w w') : OwnA w' B v l := by
  obtain ⟨hl, ⟨rfl, hn⟩ | ⟨g, cap, cur, rfl, hg, hh, h1⟩⟩ := h
  · exact ⟨hl, .inl ⟨rfl, hn⟩⟩
  · exact ⟨hl, .inr ⟨g, cap, cur, rfl, hg, (hb.block g (Array.getElem?_eq_some_iff.1 hh).1).trans hh, h1⟩⟩
theorem OwnA.some {w : World} {B : Nat} {v : Value} {l : List Or} (h : OwnA w B v l) (hne : l ≠ []) : ∃ g cap, v = .slice (some ⟨g, 0, none⟩) l.length cap ∧ B ≤ g ∧ g < w.heap.size := by
  obtain ⟨hl, ⟨rfl, hn⟩ | ⟨g, cap, cur, rfl, hg, hh, h1⟩⟩ := h
  · exact absurd (List.eq_nil_of_length_eq_zero hn) hne
  · exact ⟨g, cap, rfl, hg, (Array.getElem?_eq_some_iff.1 hh).1⟩
theorem OwnA.down {w : World} {B B' : Nat} {v : Value} {l : List Or} (h : OwnA w B v l) (hb : B' ≤ B) : OwnA w B' v l := by
  obtain ⟨hl, ⟨rfl, hn⟩ | ⟨g, cap, cur, rfl, hg, hh, h1⟩⟩ := h
  · exact ⟨hl, .inl ⟨rfl, hn⟩⟩
  · exact ⟨hl, .inr ⟨g, cap, cur, rfl, by omega, hh, h1⟩⟩
theorem own_at {w : World} {B g n cap : Nat} {l : List Or} (h : OwnA w B (.slice (some ⟨g, 0, none⟩) n cap) l) {k : Nat} (hk : k < l.length) (i : Nat) (v : Value) (hv : (encA l[k])[i]? = some v) : w.cell? ⟨g, k * 6 + i, none⟩ = some v := by
  obtain ⟨A, c, e, ha, _⟩ := h.at
  obtain ⟨b, off, e', hbl, hc⟩ := ha.row (by intro e; rw [e] at hk; simp at hk)
  injection e with e4 e5 e9
  rw [← e4] at e'
  injection e' with e6
  injection e6 with e7 e8 _
  subst e7 e8
  have hr := hc k hk i v hv
  rwa [Nat.zero_add] at hr
theorem own_aat {w : World} {B g n cap : Nat} {l : List Or} (h : OwnA w B (.slice (some ⟨g, 0, none⟩) n cap) l) : AAt w (some ⟨g, 0, none⟩) n cap l := by
  obtain ⟨A, c, e, ha, _⟩ := h.at
  injection e with e4 e5 e9
  subst e4 e5 e9
  exact ha
/-- Accounts are handed back, in memory of the call's own. -/
def AcsN (l : List Or) (w : World) (e : Ending) (w' : World) : Prop := ∃ v, e = .returned v ∧ OwnA w' w.heap.size v l ∧ Below w.heap.size w w'
theorem eql_nil (w : World) : (binOp .eql 33 (.slice none 0 0) (.slice none 0 0)).run Try.prog w = .ok (.bool true) w := by kernel_rfl
theorem eql_some (x : Addr) (n c : Nat) (w : World) : (binOp .eql 33 (.slice (some x) n c) (.slice none 0 0)).run Try.prog w = .ok (.bool false) w := by kernel_rfl
theorem own_empty (w : World) : OwnA (w.alloc (.cells #[] 25)) w.heap.size (.slice (some ⟨w.heap.size, 0, none⟩) 0 0) [] := ⟨rfl, .inr ⟨w.heap.size, 0, #[], rfl, Nat.le_refl _, heap_alloc_last w _, Nat.le_refl _, Nat.zero_le _, rfl, rfl⟩⟩
end Go.Proofs.Ytcendcegmhliaaa.Ord
