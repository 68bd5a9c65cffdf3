/-
  How accounts lie in memory.
-/
import Derived.Test.YtobpbbldgbgcdaaAStable
import Derived.Test.YtobpbbldgbgcdaaAOrder
import Derived.Deep.WholeRow
import Derived.Deep.OwnRows
namespace Go.Proofs.Ytobpbbldgbgcdaa.Acc
open Go.RowKit Go.Sort

/-- A row of accounts. -/
def RowA (w : World) (A : Option Addr) (l : List Ac) : Prop := l ≠ [] → ∃ b off, A = some ⟨b, off, none⟩ ∧ b < w.heap.size ∧ ∀ j (h : j < l.length), w.rangeAt b (off + j * 4) (encA l[j])
theorem range_below {w w' : World} {b o : Nat} {vs : List Value} (h : w.rangeAt b o vs) (hb : Below w.heap.size w w') (hlt : b < w.heap.size) : w'.rangeAt b o vs := fun i v hv => (hb.cell (p := ⟨b, o + i, none⟩) hlt).trans (h i v hv)
theorem RowA.below {w w' : World} {A : Option Addr} {l : List Ac} (h : RowA w A l) (hb : Below w.heap.size w w') : RowA w' A l := fun hne => by
  obtain ⟨b, o, e, hlt, hc⟩ := h hne
  exact ⟨b, o, e, Nat.lt_of_lt_of_le hlt hb.size, fun j hj => range_below (hc j hj) hb hlt⟩
/-- A slice of accounts. -/
structure AAt (w : World) (A : Option Addr) (n c : Nat) (l : List Ac) : Prop where
  len : l.length = n
  cap : n ≤ c
  max : c ≤ maxLen
  nil : A = none → c = 0
  row : RowA w A l
theorem AAt.below {w w' : World} {A : Option Addr} {n c : Nat} {l : List Ac} (h : AAt w A n c l) (hb : Below w.heap.size w w') : AAt w' A n c l := ⟨h.len, h.cap, h.max, h.nil, h.row.below hb⟩
theorem AAt.none (w : World) : AAt w none 0 0 [] := ⟨rfl, Nat.le_refl _, Nat.zero_le _, fun _ => rfl, fun h => absurd rfl h⟩
theorem size_ac : (Try.prog.info? 35).map (·.size) = some 4 := by kernel_rfl
theorem load_ac {w : World} {b o : Nat} {x : Ac} (h : w.rangeAt b o (encA x)) : (Instr.loadAt 35 (.pointer (some ⟨b, o, none⟩))).run Try.prog w = .ok (.agg (encA x).toArray) w := by
  have := run_loadAt_mid (P := Try.prog) w b o 35 (encA x) _ h Try.underlying35 rfl (by simpa [encA] using size_ac)
  simpa using this
/-- Cells of accounts, one behind the other. -/
abbrev flatA (l : List Ac) : List Value := l.flatMap encA
theorem flatA_len : ∀ (l : List Ac), (flatA l).length = l.length * 4
  | [] => rfl
  | x :: l => by
    have := flatA_len l
    simp only [flatA, List.flatMap_cons, List.length_append, List.length_cons, encA_len] at this ⊢
    omega
theorem flatA_get : ∀ (l : List Ac) (j : Nat) (h : j < l.length) (i : Nat), i < 4 → (flatA l)[j * 4 + i]? = (encA l[j])[i]?
  | [], _, h, _, _ => by simp at h
  | x :: l, 0, _, i, hi => by
    show (encA x ++ flatA l)[0 * 4 + i]? = (encA x)[i]?
    rw [Nat.zero_mul, Nat.zero_add, List.getElem?_append_left (by rw [encA_len]; exact hi)]
  | x :: l, j + 1, h, i, hi => by
    have := flatA_get l j (by simpa using h) i hi
    show (encA x ++ flatA l)[(j + 1) * 4 + i]? = (encA (l[j]'(by simpa using h)))[i]?
    rw [List.getElem?_append_right (by rw [encA_len]; omega), encA_len, show (j + 1) * 4 + i - 4 = j * 4 + i by omega]
    exact this
theorem encA_lt {x : Ac} {i : Nat} {v : Value} (h : (encA x)[i]? = some v) : i < 4 := by
  have := (List.getElem?_eq_some_iff.1 h).1
  rw [encA_len] at this; exact this
/-- Accounts in a row of the call's own. -/
def OwnA (w : World) (B : Nat) (v : Value) (l : List Ac) : Prop := w.ownsRow B 35 4 v l.length (flatA l)
theorem OwnA.at {w : World} {B : Nat} {v : Value} {l : List Ac} (h : OwnA w B v l) : ∃ A c, v = .slice A l.length c ∧ AAt w A l.length c l ∧ ∀ a, A = some a → B ≤ a.block ∧ a.block < w.heap.size := by
  obtain ⟨hl, ⟨rfl, hn⟩ | ⟨g, cap, cur, rfl, hg, hh, hnc, hcm, _, ht⟩⟩ := h
  · exact ⟨none, 0, by rw [hn], ⟨rfl, by omega, Nat.zero_le _, fun _ => rfl, fun hne => absurd (List.eq_nil_of_length_eq_zero hn) hne⟩, fun a h => by cases h⟩
  · have hlt := (Array.getElem?_eq_some_iff.1 hh).1
    refine ⟨some ⟨g, 0, none⟩, cap, rfl, ⟨rfl, hnc, hcm, fun h => (by cases h), fun _ => ⟨g, 0, rfl, hlt, fun j hj i v hv => ?_⟩⟩, fun a h => by cases h; exact ⟨hg, hlt⟩⟩
    have hi := encA_lt hv
    rw [← flatA_get l j hj i hi] at hv
    have hb : j * 4 + i < l.length * 4 := by omega
    rw [Nat.zero_add, cell_of_row w g (j * 4 + i) cur _ _ hh, ← Array.getElem?_toList, ← hv, ← ht, List.getElem?_take_of_lt hb]
theorem OwnA.nil (w : World) (B : Nat) : OwnA w B (.slice none 0 0) [] := ⟨rfl, .inl ⟨rfl, rfl⟩⟩
theorem ac_info : (Try.prog.info? 35).map (fun i => (i.zero, i.size, i.bytes)) = some (some (.agg #[.string ⟨#[]⟩, .string ⟨#[]⟩, .int .i64 0, .int .i64 0]), 4, 48) := by kernel_rfl
theorem info_parts' {t : TypeId} {z : Value} {n b : Nat} (h : (Try.prog.info? t).map (fun i => (i.zero, i.size, i.bytes)) = some (some z, n, b)) : ∃ i, Try.prog.info? t = some i ∧ i.zero = some z ∧ i.size = n ∧ i.bytes = b := by
  obtain ⟨i, hi, hzz⟩ := Option.map_eq_some_iff.1 h
  simp only [Prod.mk.injEq] at hzz
  exact ⟨i, hi, hzz.1, hzz.2.1, hzz.2.2⟩
/-- A row more. -/
theorem append_acs (W : World) (B : Nat) (v : Value) (ys : List Ac) (h : OwnA W B v ys) (A : Option Addr) (m c : Nat) (zs : List Ac) (hz : zs.length = m) (hA : A = none → c = 0) (hR : RowA W A zs) (hn : ys.length + m ≤ 1000000) (hB : B ≤ W.heap.size) :
    ∃ v' W', (Builtin.append_ #[23, 23] 23 #[v, .slice A m c]).run Try.prog W = .ok v' W' ∧ OwnA W' B v' (ys ++ zs) ∧ W.grownBy W' v.ownBlock ∧ (∀ k, v.ownBlock = some k → B ≤ k) := by
  obtain ⟨i0, hi, hz0, hz1, hz2⟩ := info_parts' ac_info
  have h0 := h
  rcases A with _ | a
  · have hzs : zs = [] := by
      rcases zs with _ | ⟨z, zs⟩
      · rfl
      · obtain ⟨b, o, h, _⟩ := hR (by simp); cases h
    subst hzs
    obtain rfl : c = 0 := hA rfl
    obtain rfl : m = 0 := hz.symm
    exact ⟨v, W, run_append_owned_none (P := Try.prog) (w := W) B _ _ 35 i0 4 Try.underlying23 hi v _ _ h, by rw [List.append_nil]; exact h, World.grownBy.refl W _, fun k hk => (World.ownsRow.lt h0 k hk).1⟩
  · obtain ⟨v', W', h1, h2, h3, _, _⟩ := run_append_own_at (P := Try.prog) W B 23 23 35 i0 _ 4 48 Try.underlying23 hi hz0 hz1 hz2 rfl (by decide) v _ _ h a m c (flatA zs) (by rw [flatA_len, hz]) (fun j u hu => by
        have hjl : j < zs.length * 4 := by rw [← flatA_len]; exact (List.getElem?_eq_some_iff.1 hu).1
        obtain ⟨b, o, e, _, hc⟩ := hR (by intro e; subst e; simp at hjl)
        injection e with e
        subst e
        have e : (⟨b, o, none⟩ : Addr).add j = ⟨b, o + j, none⟩ := by unfold Addr.add; split <;> simp_all
        rw [e]
        obtain ⟨q, hq⟩ : ∃ q, q = j / 4 := ⟨_, rfl⟩
        have hql : q < zs.length := by omega
        have f := flatA_get zs q hql (j - q * 4) (by omega)
        rw [show q * 4 + (j - q * 4) = j by omega, hu] at f
        have := hc q hql (j - q * 4) u f.symm
        rw [show o + q * 4 + (j - q * 4) = o + j by omega] at this
        exact this)
      (fun u hu => by
        obtain ⟨x, _, hx⟩ := List.mem_flatMap.1 hu
        exact encA_one x u hx) (by simp only [maxLen]; omega) (by omega) hB
    refine ⟨v', W', h1, ?_, h3, fun k hk => (World.ownsRow.lt h0 k hk).1⟩
    unfold OwnA
    rw [List.length_append, hz]
    have e : flatA (ys ++ zs) = flatA ys ++ flatA zs := by simp [flatA]
    rw [e]; exact h2
end Go.Proofs.Ytobpbbldgbgcdaa.Acc
