/-
  Lists of legs that a statement makes.
-/
import Derived.Test.YtobpbbldgbgcdaaAFew
import Derived.Test.YtobpbbldgbgcdaaASame
import Derived.Deep.RegionHeld3
namespace Go.Proofs.Ytobpbbldgbgcdaa.Acc
open Go.RowKit Go.Sort

abbrev flatL (l : List Lg) : List Value := l.flatMap encL
theorem encL_len (x : Lg) : (encL x).length = 3 := rfl
theorem encL_one (a : Lg) : ∀ v ∈ encL a, v.oneCell' = true := fun v hv => by
  simp only [encL, List.mem_cons, List.not_mem_nil, or_false] at hv
  rcases hv with rfl | rfl | rfl <;> rfl
theorem flatL_len : ∀ (l : List Lg), (flatL l).length = l.length * 3
  | [] => rfl
  | x :: l => by
    have := flatL_len l
    simp only [flatL, List.flatMap_cons, List.length_append, List.length_cons, encL_len] at this ⊢
    omega
theorem flatL_get : ∀ (l : List Lg) (j : Nat) (h : j < l.length) (i : Nat), i < 3 → (flatL l)[j * 3 + i]? = (encL l[j])[i]?
  | [], _, h, _, _ => by simp at h
  | x :: l, 0, _, i, hi => by
    show (encL x ++ flatL l)[0 * 3 + i]? = (encL x)[i]?
    rw [Nat.zero_mul, Nat.zero_add, List.getElem?_append_left (by rw [encL_len]; exact hi)]
  | x :: l, j + 1, h, i, hi => by
    have := flatL_get l j (by simpa using h) i hi
    show (encL x ++ flatL l)[(j + 1) * 3 + i]? = (encL (l[j]'(by simpa using h)))[i]?
    rw [List.getElem?_append_right (by rw [encL_len]; omega), encL_len, show (j + 1) * 3 + i - 3 = j * 3 + i by omega]
    exact this
theorem encL_lt {x : Lg} {i : Nat} {v : Value} (h : (encL x)[i]? = some v) : i < 3 := by
  have := (List.getElem?_eq_some_iff.1 h).1
  rw [encL_len] at this; exact this
/-- Legs in a row of the call's own. -/
def OwnL (w : World) (B : Nat) (v : Value) (l : List Lg) : Prop := w.ownsRow B 39 3 v l.length (flatL l)
theorem OwnL.nil (w : World) (B : Nat) : OwnL w B (.slice none 0 0) [] := ⟨rfl, .inl ⟨rfl, rfl⟩⟩
theorem ownL_new (W : World) : OwnL (W.alloc (.cells #[] 39)) W.heap.size (.slice (some ⟨W.heap.size, 0, none⟩) 0 0) [] := ⟨rfl, .inr ⟨W.heap.size, 0, #[], rfl, Nat.le_refl _, heap_alloc_last W _, Nat.le_refl _, Nat.zero_le _, rfl, rfl⟩⟩
theorem ownL_at {w : World} {B : Nat} {v : Value} {l : List Lg} (h : OwnL w B v l) : ∃ A c, v = .slice A l.length c ∧ RowL w A l ∧ l.length ≤ c ∧ c ≤ maxLen ∧ (A = none → c = 0) ∧ ∀ a, A = some a → B ≤ a.block ∧ a.block < w.heap.size := by
  obtain ⟨hl, ⟨rfl, hn⟩ | ⟨g, cap, cur, rfl, hg, hh, hnc, hcm, _, ht⟩⟩ := h
  · exact ⟨none, 0, by rw [hn], fun hne => absurd (List.eq_nil_of_length_eq_zero hn) hne, by omega, Nat.zero_le _, fun _ => rfl, fun a h => by cases h⟩
  · have hlt := (Array.getElem?_eq_some_iff.1 hh).1
    refine ⟨some ⟨g, 0, none⟩, cap, rfl, fun _ => ⟨g, 0, rfl, hlt, fun j hj i v hv => ?_⟩, hnc, hcm, fun h => (by cases h), fun a h => by cases h; exact ⟨hg, hlt⟩⟩
    have hi := encL_lt hv
    rw [← flatL_get l j hj i hi] at hv
    have hb : j * 3 + i < l.length * 3 := by omega
    rw [Nat.zero_add, cell_of_row w g (j * 3 + i) cur _ _ hh, ← Array.getElem?_toList, ← hv, ← ht, List.getElem?_take_of_lt hb]
theorem OwnL.below {w w' : World} {B : Nat} {v : Value} {l : List Lg} (h : OwnL w B v l) (hb : Below w.heap.size w w') : OwnL w' B v l := by
  obtain ⟨hl, ⟨rfl, hn⟩ | ⟨g, cap, cur, rfl, hg, hh, h1⟩⟩ := h
  · exact ⟨hl, .inl ⟨rfl, hn⟩⟩
  · exact ⟨hl, .inr ⟨g, cap, cur, rfl, hg, (hb.block g (Array.getElem?_eq_some_iff.1 hh).1).trans hh, h1⟩⟩
theorem lg_info : (Try.prog.info? 39).map (fun i => (i.zero, i.size, i.bytes)) = some (some (.agg #[.string ⟨#[]⟩, .string ⟨#[]⟩, .int .i64 0]), 3, 40) := by kernel_rfl
/-- A row more. -/
theorem append_lgs (W : World) (B : Nat) (v : Value) (ys : List Lg) (h : OwnL W B v ys) (A : Option Addr) (m c : Nat) (zs : List Lg) (hz : zs.length = m) (hA : A = none → c = 0) (hR : RowL W A zs) (hn : ys.length + m ≤ 1000000) (hB : B ≤ W.heap.size) :
    ∃ v' W', (Builtin.append_ #[24, 24] 24 #[v, .slice A m c]).run Try.prog W = .ok v' W' ∧ OwnL W' B v' (ys ++ zs) ∧ W.grownBy W' v.ownBlock ∧ (∀ k, v.ownBlock = some k → B ≤ k) := by
  obtain ⟨i0, hi, hz0, hz1, hz2⟩ := info_parts' lg_info
  have h0 := h
  rcases A with _ | a
  · have hzs : zs = [] := by
      rcases zs with _ | ⟨z, zs⟩
      · rfl
      · obtain ⟨b, o, h, _⟩ := hR (by simp); cases h
    subst hzs
    obtain rfl : c = 0 := hA rfl
    obtain rfl : m = 0 := hz.symm
    exact ⟨v, W, run_append_owned_none (P := Try.prog) (w := W) B _ _ 39 i0 3 Try.underlying24 hi v _ _ h, by rw [List.append_nil]; exact h, World.grownBy.refl W _, fun k hk => (World.ownsRow.lt h0 k hk).1⟩
  · obtain ⟨v', W', h1, h2, h3, _, _⟩ := run_append_own_at (P := Try.prog) W B 24 24 39 i0 _ 3 40 Try.underlying24 hi hz0 hz1 hz2 rfl (by decide) v _ _ h a m c (flatL zs) (by rw [flatL_len, hz]) (fun j u hu => by
        have hjl : j < zs.length * 3 := by rw [← flatL_len]; exact (List.getElem?_eq_some_iff.1 hu).1
        obtain ⟨b, o, e, _, hc⟩ := hR (by intro e; subst e; simp at hjl)
        injection e with e
        subst e
        have e : (⟨b, o, none⟩ : Addr).add j = ⟨b, o + j, none⟩ := by unfold Addr.add; split <;> simp_all
        rw [e]
        obtain ⟨q, hq⟩ : ∃ q, q = j / 3 := ⟨_, rfl⟩
        have hql : q < zs.length := by omega
        have f := flatL_get zs q hql (j - q * 3) (by omega)
        rw [show q * 3 + (j - q * 3) = j by omega, hu] at f
        have := hc q hql (j - q * 3) u f.symm
        rw [show o + q * 3 + (j - q * 3) = o + j by omega] at this
        exact this)
      (fun u hu => by
        obtain ⟨x, _, hx⟩ := List.mem_flatMap.1 hu
        exact encL_one x u hx) (by simp only [maxLen]; omega) (by omega) hB
    refine ⟨v', W', h1, ?_, h3, fun k hk => (World.ownsRow.lt h0 k hk).1⟩
    unfold OwnL
    rw [List.length_append, hz]
    have e : flatL (ys ++ zs) = flatL ys ++ flatL zs := by simp [flatL]
    rw [e]; exact h2
/-- An append whose run is known, in a region that draws. -/
theorem step_append_eq {P : Program} {ops : Array Oper} {o : Oper} {a : Act} {K : Act → World → Prop} {Q : Exit → Act → World → Prop} {E : Prop} {w w' : World} {v u v' : Value} (hgd : o.guard = none) (s x : Operand) (t : TypeId)
    (ho : o.op = .call { callee := .builtin .append, args := #[s, x], argTypes := #[t, t] }) (hty : o.type = t) (hs : a.eval s = v) (hx : a.eval x = u) (hrun : (Builtin.append_ #[t, t] t #[v, u]).run P w = .ok v' w')
    (h : K (a.put o.dst v') w') : if Region.wanted o (yielded ops a.tmps) = true then Oper.wp P o a w K Q else E := by
  have hw : Region.wanted o (yielded ops a.tmps) = true := by simp [Region.wanted, hgd]
  rw [if_pos hw]
  unfold Oper.wp
  simp [execOp, ho, hty, resolve, invoke, builtin, hs, hx, hrun, Result.andThen]
  exact h
/-- One leg more. -/
theorem append_one (W : World) (B : Nat) (v : Value) (ys : List Lg) (h : OwnL W B v ys) (x : Lg) (hn : ys.length + 1 ≤ 1000000) (hB : B ≤ W.heap.size) :
    ∃ v' W', (Builtin.append_ #[24, 24] 24 #[v, .slice (some ⟨W.heap.size, 0, none⟩) 1 1]).run Try.prog (W.alloc (.cells (encL x).toArray 39)) = .ok v' W' ∧ OwnL W' B v' (ys ++ [x]) ∧ Below B W W' := by
  have b := below_box W (.cells (encL x).toArray 39)
  have a := at_new W (encL x).toArray 39
  have s : (W.alloc (.cells (encL x).toArray 39)).heap.size = W.heap.size + 1 := by simp
  obtain ⟨W1, hW1⟩ : ∃ W1, W.alloc (.cells (encL x).toArray 39) = W1 := ⟨_, rfl⟩
  rw [hW1] at b a s ⊢
  obtain ⟨v', W', h1, h2, h3, h4⟩ := append_lgs W1 B v ys (h.below b) (some ⟨W.heap.size, 0, none⟩) 1 1 [x] rfl (fun e => by cases e) (fun _ => ⟨W.heap.size, 0, rfl, by omega, fun j hj i u hu => by
    obtain rfl : j = 0 := by simpa using hj
    rw [Nat.zero_mul, Nat.add_zero, Nat.zero_add]
    exact a.2.2 i u (by simpa using hu)⟩) hn (by omega)
  exact ⟨v', W', h1, h2, (b.mono hB).grown h3 (by omega) h4⟩
end Go.Proofs.Ytobpbbldgbgcdaa.Acc
