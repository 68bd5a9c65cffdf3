/-
  What the document's own Side makes is sorted, and stable.
-/
import Derived.Test.YtcendcegmhliaaaORSide
namespace Go.Proofs.Ytcendcegmhliaaa.Ord
open Go.RowKit Go.Sort _root_.Go.Proofs.Ytcendcegmhliaaa.Gnd

theorem ahead_asym {b : Bool} {x y : Or} (h : aheadO b x y = true) : aheadO b y x = false := by
  unfold aheadO at *
  cases b <;> simp at * <;> omega
theorem ahead_past {b : Bool} {x y z : Or} (h : aheadO b x y = true) (g : aheadO b z y = false) : aheadO b x z = true := by
  unfold aheadO at *
  cases b <;> simp at * <;> omega
theorem stab_ins {b : Bool} {l acc : List Or} {x : Or} (h : Stab b l acc) (hb : ∀ y ∈ l, y.buy = b) : Stab b (l ++ [x]) (rinsO acc x) := by
  obtain ⟨e, rfl, hp, hs⟩ := h
  have hb' : ∀ u ∈ e, u.1.buy = b := fun u hu => hb _ (by
    have := hp.mem_iff.1 hu
    obtain ⟨v, i⟩ := u
    exact (List.mem_zipIdx' this).2 ▸ List.getElem_mem _)
  have hl : ∀ u ∈ e, u.2 < l.length := fun u hu => by
    have := hp.mem_iff.1 hu
    obtain ⟨v, i⟩ := u
    exact (List.mem_zipIdx' this).1
  obtain ⟨p, hpp⟩ : ∃ p, rposO (e.map (·.1)) x = p := ⟨_, rfl⟩
  have hple : p ≤ e.length := by rw [← hpp]; have := rpos_le (e.map (·.1)) x; simpa using this
  have hlt : ∀ k (hk : k < e.length), k < p → aheadO b x (e[k]).1 = false := fun k hk hkp => by
    have := rpos_lt (acc := e.map (·.1)) (x := x) (k := k) (by rw [hpp]; exact hkp) (by simpa using hk)
    rw [rbet_ahead, List.getElem_map, hb' _ (List.getElem_mem hk)] at this
    simpa using this
  have hge : ∀ (hk : p < e.length), aheadO b x (e[p]).1 = true := fun hk => by
    have := rpos_ge (acc := e.map (·.1)) (x := x) (by rw [hpp]; simpa using hk)
    simp only [hpp] at this
    rw [rbet_ahead, List.getElem_map, hb' _ (List.getElem_mem hk)] at this
    simpa using this
  have hdrop : ∀ v ∈ e.drop p, aheadO b x v.1 = true := fun v hv => by
    obtain ⟨j, hj, rfl⟩ := List.getElem_of_mem hv
    rw [List.getElem_drop]
    have hj' : p + j < e.length := by simpa [Nat.lt_sub_iff_add_lt, Nat.add_comm] using hj
    rcases Nat.eq_zero_or_pos j with rfl | hj0
    · exact hge hj'
    · have := List.pairwise_iff_getElem.1 hs p (p + j) (by omega) hj' (by omega)
      unfold ltN at this
      rw [Bool.or_eq_false_iff] at this
      exact ahead_past (hge (by omega)) this.1
  have htake : ∀ u ∈ e.take p, aheadO b x u.1 = false ∧ u.2 < l.length := fun u hu => by
    obtain ⟨j, hj, rfl⟩ := List.getElem_of_mem hu
    have hj2 : j < p ∧ j < e.length := by have q := hj; rw [List.length_take] at q; omega
    rw [List.getElem_take]
    exact ⟨hlt j hj2.2 hj2.1, hl _ (List.getElem_mem _)⟩
  refine ⟨e.take p ++ [(x, l.length)] ++ e.drop p, ?_, ?_, ?_⟩
  · unfold rinsO
    rw [hpp]
    simp only [List.map_append, List.map_take, List.map_drop, List.map_cons, List.map_nil]
  · rw [List.zipIdx_append]
    have q1 : (e.take p ++ [(x, l.length)] ++ e.drop p).Perm (e.take p ++ e.drop p ++ [(x, l.length)]) := by
      rw [List.append_assoc, List.append_assoc]
      exact List.perm_append_comm.append_left _
    rw [List.take_append_drop] at q1
    refine q1.trans ?_
    have : [x].zipIdx (0 + l.length) = [(x, l.length)] := by simp
    rw [this]
    exact hp.append_right _
  · have hs2 := hs
    rw [← List.take_append_drop p e, List.pairwise_append] at hs2
    obtain ⟨a1, a2, a3⟩ := hs2
    rw [List.pairwise_append, List.pairwise_append]
    refine ⟨⟨a1, List.pairwise_singleton _ _, fun u hu v hv => ?_⟩, a2, fun u hu v hv => ?_⟩
    · rw [List.mem_singleton] at hv
      subst hv
      obtain ⟨h1, h2⟩ := htake u hu
      unfold ltN
      rw [h1, decide_eq_false (show ¬ l.length < u.2 by omega), Bool.and_false, Bool.or_false]
    · rw [List.mem_append, List.mem_singleton] at hu
      rcases hu with hu | rfl
      · exact a3 u hu v hv
      · have h1 := hdrop v hv
        unfold ltN
        rw [h1, ahead_asym h1]
        rfl
theorem rside_stab (mkt : Bs) (buy : Bool) (l : List Or) : Stab buy (l.filter (askB mkt buy)) (rsideO mkt buy l) := by
  have h : ∀ (a d acc : List Or), Stab buy d acc → (∀ y ∈ d, y.buy = buy) → (∀ y ∈ a, y.buy = buy) → Stab buy (d ++ a) (a.foldl rinsO acc) := by
    intro a
    induction a with
    | nil => intro d acc h _ _; rw [List.append_nil]; exact h
    | cons x a ih =>
      intro d acc h hd ha
      have hx := ha x (List.mem_cons_self ..)
      have := ih (d ++ [x]) (rinsO acc x) (stab_ins h hd) (fun y hy => by
        rcases List.mem_append.1 hy with g | g
        · exact hd y g
        · rw [List.mem_singleton.1 g]; exact hx) (fun y hy => ha y (List.mem_cons_of_mem _ hy))
      simpa using this
  have := h (l.filter (askB mkt buy)) [] [] ⟨[], rfl, .refl _, .nil⟩ (fun y hy => by cases hy) (fun y hy => by
    have := (List.mem_filter.1 hy).2
    unfold askB at this
    rw [Bool.and_eq_true] at this
    exact eq_of_beq this.2)
  exact this
end Go.Proofs.Ytcendcegmhliaaa.Ord
