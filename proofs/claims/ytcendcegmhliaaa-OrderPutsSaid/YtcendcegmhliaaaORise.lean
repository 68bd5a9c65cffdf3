/-
  Plain: orders of unlike numbers, by their numbers.
-/
import Derived.Test.YtcendcegmhliaaaOPut2
import Derived.Test.YtcendcegmhliaaaODrop
namespace Go.Proofs.Ytcendcegmhliaaa.Ord
open Go.RowKit Go.Sort _root_.Go.Proofs.Ytcendcegmhliaaa.Gnd

def lenV : Value → Nat
  | .slice _ n _ => n
  | _ => 0
/-- By their numbers, each once. -/
def Rise (l : List Or) : Prop := l.Pairwise (fun x y => x.num < y.num)
theorem rise_ne {l : List Or} (h : Rise l) {i j : Nat} (hi : i < l.length) (hj : j < l.length) (hij : i ≠ j) : l[i].num ≠ l[j].num := by
  have k := List.pairwise_iff_getElem.1 h
  rcases Nat.lt_or_gt_of_ne hij with g | g
  · have := k i j hi hj g; omega
  · have := k j i hj hi g; omega
theorem idx_rise {l : List Or} (h : Rise l) {k : Nat} (hk : k < l.length) : idxA (numB l[k].num) l = (k : Int) :=
  idx_at hk (fun j hj hjk => by
    unfold numB
    exact beq_eq_false_iff_ne.2 (rise_ne h hj hk (by omega))) (by unfold numB; simp)
theorem drop_rise {l : List Or} (h : Rise l) {k : Nat} (hk : k < l.length) : dropO l l[k].num = (l.take k ++ l.drop (k + 1), l[k], 0) := drop_some hk (idx_rise h hk)
theorem rise_cut {l : List Or} (h : Rise l) (k : Nat) : Rise (l.take k ++ l.drop (k + 1)) := by
  refine h.sublist ?_
  conv => rhs; rw [← List.take_append_drop k l]
  refine List.Sublist.append (List.Sublist.refl _) ?_
  rw [← List.drop_drop (i := 1) (j := k)]
  exact List.drop_sublist 1 _
theorem cut_none {l : List Or} (h : Rise l) {k : Nat} (hk : k < l.length) : idxA (numB l[k].num) (l.take k ++ l.drop (k + 1)) = -1 := by
  refine idx_none (fun j hj => ?_)
  unfold numB
  refine beq_eq_false_iff_ne.2 (fun e => ?_)
  rw [List.length_append, List.length_take, List.length_drop] at hj
  by_cases c : j < k
  · rw [List.getElem_append_left (by rw [List.length_take]; omega), List.getElem_take] at e
    exact rise_ne h (by omega) hk (by omega) e
  · rw [List.getElem_append_right (by rw [List.length_take]; omega), List.getElem_drop] at e
    refine rise_ne h (i := k + 1 + (j - (List.take k l).length)) ?_ hk (by omega) e
    rw [List.length_take]; omega
theorem drop_gone {l : List Or} (h : Rise l) {k : Nat} (hk : k < l.length) : dropO (l.take k ++ l.drop (k + 1)) l[k].num = ([], zeroO, 130) := drop_none (cut_none h hk)
theorem cut_len (l : List Or) {k : Nat} (hk : k < l.length) : (l.take k ++ l.drop (k + 1)).length + 1 = l.length := by
  rw [List.length_append, List.length_take, List.length_drop]; omega
/-- What was put, all of it. -/
structure Puts (l a : List Or) : Prop where
  rise : Rise a
  fit : ∀ x ∈ a, fitO x = true ∧ x.who.length ≤ 100 ∧ x.mkt.length ≤ 100
  len : a.length ≤ l.length
theorem Puts.nil : Puts [] [] := ⟨.nil, fun _ h => absurd h List.not_mem_nil, Nat.le_refl _⟩
theorem ins_before {a : List Or} (m : Int) {j : Nat} (hj : j < a.length) (h : j < insAt a m) : a[j].num ≤ m := by
  unfold insAt at h
  rcases e : a.findIdx? (moreB m) with _ | i
  · have := List.findIdx?_eq_none_iff.1 e a[j] (List.getElem_mem hj)
    unfold moreB at this
    simpa using this
  · rw [e] at h
    obtain ⟨_, _, h2⟩ := List.findIdx?_eq_some_iff_getElem.1 e
    have := h2 j h
    unfold moreB at this
    simpa using this
theorem ins_after {a : List Or} (hr : Rise a) (m : Int) {j : Nat} (hj : j < a.length) (h : insAt a m ≤ j) : m < a[j].num := by
  unfold insAt at h
  rcases e : a.findIdx? (moreB m) with _ | i
  · rw [e] at h; simp only at h; omega
  · rw [e] at h
    simp only at h
    obtain ⟨h0, h1, _⟩ := List.findIdx?_eq_some_iff_getElem.1 e
    have h1 : m < a[i].num := by unfold moreB at h1; simpa using h1
    rcases Nat.eq_or_lt_of_le h with g | g
    · subst g; exact h1
    · have := List.pairwise_iff_getElem.1 hr i j h0 hj g; omega
theorem rise_ins {a : List Or} (hr : Rise a) (x : Or) (hn : a.any (numB x.num) = false) : Rise (insO a x) := by
  have ne : ∀ j (hj : j < a.length), a[j].num ≠ x.num := fun j hj e => by
    have := List.any_eq_false.1 hn a[j] (List.getElem_mem hj)
    unfold numB at this
    exact this (by simp [e])
  unfold insO Rise
  have t1 : ∀ y ∈ a.take (insAt a x.num), y.num < x.num := fun y hy => by
    obtain ⟨j, hj, rfl⟩ := List.getElem_of_mem hy
    rw [List.length_take] at hj
    rw [List.getElem_take]
    have h1 := ins_before x.num (show j < a.length by omega) (by omega)
    have h2 := ne j (by omega)
    omega
  have t2 : ∀ y ∈ a.drop (insAt a x.num), x.num < y.num := fun y hy => by
    obtain ⟨j, hj, rfl⟩ := List.getElem_of_mem hy
    rw [List.length_drop] at hj
    rw [List.getElem_drop]
    exact ins_after hr x.num (by omega) (by omega)
  refine List.pairwise_append.2 ⟨List.pairwise_append.2 ⟨hr.sublist (List.take_sublist _ _), List.pairwise_singleton _ _, fun y hy z hz => ?_⟩, hr.sublist (List.drop_sublist _ _), fun y hy z hz => ?_⟩
  · rw [List.mem_singleton.1 hz]; exact t1 y hy
  · rcases List.mem_append.1 hy with g | g
    · have := t1 y g; have := t2 z hz; omega
    · rw [List.mem_singleton.1 g]; exact t2 z hz
theorem bad_split {a : List Or} {x : Or} (h : badP a x = false) : fitO x = true ∧ a.length < 200 ∧ a.any (numB x.num) = false := by
  unfold badP at h
  simp only [Bool.or_eq_false_iff, Bool.not_eq_false', decide_eq_false_iff_not] at h
  exact ⟨h.1.1, by omega, h.2⟩
theorem ins_mem {a : List Or} {x y : Or} (h : y ∈ insO a x) : y ∈ a ∨ y = x := by
  unfold insO at h
  rcases List.mem_append.1 h with g | g
  · rcases List.mem_append.1 g with g | g
    · exact .inl (List.mem_of_mem_take g)
    · exact .inr (List.mem_singleton.1 g)
  · exact .inl (List.mem_of_mem_drop g)
theorem ins_len (a : List Or) (x : Or) : (insO a x).length = a.length + 1 := by
  have := insAt_le a x.num
  unfold insO
  simp only [List.length_append, List.length_take, List.length_drop, List.length_singleton]
  omega
theorem Puts.more {l a : List Or} (h : Puts l a) (x : Or) (hx : x.who.length ≤ 100 ∧ x.mkt.length ≤ 100) : ((putO a x).2 = 0 → Puts (l ++ [x]) (putO a x).1) ∧ ((putO a x).2 ≠ 0 → (putO a x).2 = 130 ∧ Puts (l ++ [x]) a) := by
  unfold putO
  rcases hb : badP a x with _ | _
  · obtain ⟨f1, _, f3⟩ := bad_split hb
    refine ⟨fun _ => ⟨rise_ins h.rise x f3, fun y hy => ?_, ?_⟩, fun g => absurd rfl g⟩
    · rcases ins_mem hy with g | g
      · exact h.fit y g
      · rw [g]; exact ⟨f1, hx⟩
    · show (insO a x).length ≤ _
      rw [ins_len, List.length_append, List.length_singleton]
      have := h.len; omega
  · refine ⟨fun g => by simp at g, fun _ => ⟨rfl, h.rise, h.fit, ?_⟩⟩
    rw [List.length_append]; have := h.len; omega
end Go.Proofs.Ytcendcegmhliaaa.Ord
