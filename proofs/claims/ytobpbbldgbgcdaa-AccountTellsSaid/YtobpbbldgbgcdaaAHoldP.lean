/-
  What Hold and Free make of accounts that may be: plain.
-/
import Derived.Test.YtobpbbldgbgcdaaAAwake
import Derived.Test.YtobpbbldgbgcdaaAArgs
namespace Go.Proofs.Ytobpbbldgbgcdaa.Acc
open Go.RowKit Go.Sort

theorem place_at (at0 : Int) (n : Nat) (hn : 0 < n) : ∃ k : Nat, k < n ∧ (at0 < 0 ∧ -((at0 + 1).tmod (n : Int)) = (k : Int) ∨ ¬ at0 < 0 ∧ at0 % (n : Int) = (k : Int)) := by
  by_cases h : at0 < 0
  · have h1 := Int.emod_nonneg (-(at0 + 1)) (show (n : Int) ≠ 0 by omega)
    have h2 := Int.emod_lt_of_pos (-(at0 + 1)) (show (0 : Int) < (n : Int) by omega)
    refine ⟨(-((at0 + 1).tmod (n : Int))).toNat, ?_, Or.inl ⟨h, ?_⟩⟩ <;> rw [← Int.neg_tmod, Int.tmod_eq_emod_of_nonneg (by omega)] <;> omega
  · have h1 := Int.emod_nonneg at0 (show (n : Int) ≠ 0 by omega)
    have h2 := Int.emod_lt_of_pos at0 (show (0 : Int) < (n : Int) by omega)
    exact ⟨(at0 % (n : Int)).toNat, by omega, Or.inr ⟨h, by omega⟩⟩
theorem rises_owns (l : List Ac) : RisesA l ↔ (l.map Ac.own).Pairwise (fun a b => ahead a b = true) := by
  rw [List.pairwise_map]
  exact Iff.rfl
/-- One account is in another one's place. -/
theorem with_get {l : List Ac} {x y : Ac} (h : RisesA l) (hx : x ∈ l) (ho : y.own = x.own) : ∃ k, ∃ hk : k < l.length, l[k] = x ∧ withA l y = l.set k y := by
  unfold withA
  split
  · rename_i k hk
    obtain ⟨h1, h2, _⟩ := List.findIdx?_eq_some_iff_getElem.1 hk
    have h2 : l[k].own = y.own := by simpa using h2
    exact ⟨k, h1, rises_own h (List.getElem_mem h1) hx (h2.trans ho), rfl⟩
  · rename_i hk
    rw [List.findIdx?_eq_none_iff] at hk
    exact absurd ho.symm (by simpa using hk x hx)
theorem with_fit {l : List Ac} {x y : Ac} (h : FitA l) (hx : x ∈ l) (ho : y.own = x.own) (hy : mayA y = true) : FitA (withA l y) ∧ y ∈ withA l y ∧ ∀ o, findA (withA l y) o = if o = y.own then y else findA l o := by
  obtain ⟨hm, hr⟩ := (fit_iff l).1 h
  obtain ⟨k, hk, hkx, e⟩ := with_get hr hx ho
  have hr2 : RisesA (l.set k y) := by
    rw [rises_owns] at hr ⊢
    have : (l.set k y).map Ac.own = l.map Ac.own := by
      rw [List.map_set, ho, ← hkx]
      have : (l.map Ac.own)[k]'(by simpa using hk) = l[k].own := by simp
      rw [← this]
      exact List.set_getElem_self _
    rw [this]; exact hr
  have hmem : ∀ z, z ∈ l.set k y → z = y ∨ z ∈ l := fun z hz => (List.mem_or_eq_of_mem_set hz).symm
  have hyk : y ∈ l.set k y := List.mem_set hk y
  rw [e]
  refine ⟨(fit_iff _).2 ⟨fun z hz => (hmem z hz).elim (fun e => e ▸ hy) (hm z), hr2⟩, hyk, fun o => ?_⟩
  by_cases hoo : o = y.own
  · rw [if_pos hoo, hoo]
    exact find_mem hr2 hyk
  · rw [if_neg hoo]
    rcases find_cases l o with ⟨h1, h2⟩ | ⟨h1, h2⟩
    · have : findA l o ∈ l.set k y := by
        obtain ⟨j, hj, e2⟩ := List.getElem_of_mem h1
        have hjk : j ≠ k := fun ejk => by
          subst ejk
          rw [hkx] at e2
          exact hoo (by rw [ho, e2, h2])
        have : (l.set k y)[j]'(by simpa using hj) = l[j] := List.getElem_set_ne (Ne.symm hjk) _
        rw [← e2, ← this]
        exact List.getElem_mem _
      have := find_mem hr2 this
      rwa [h2] at this
    · rw [h2]
      refine find_no (fun z hz e2 => ?_)
      rcases hmem z hz with rfl | hz
      · exact hoo e2.symm
      · exact h1 z hz e2
theorem with_back {l : List Ac} {x y : Ac} (h : FitA l) (hx : x ∈ l) (ho : y.own = x.own) (hy : mayA y = true) : withA (withA l y) x = l := by
  obtain ⟨h1, h2, h3⟩ := with_fit h hx ho hy
  have hxm := ((fit_iff l).1 h).1 x hx
  obtain ⟨g1, g2, g3⟩ := with_fit h1 h2 ho.symm hxm
  refine fit_ext g1 h (fun o => ?_)
  rw [g3, h3, ho]
  by_cases e : o = x.own
  · rw [if_pos e, e, find_mem ((fit_iff l).1 h).2 hx]
  · rw [if_neg e, if_neg e]
section
variable {l : List Ac} {x : Ac} {n : Int}
theorem hold_low (who asset : Bs) (hn : n < 1) : holdA l who asset n = ([], 1) := by
  unfold holdA
  rw [if_neg]
  unfold holdB
  simp; omega
/-- What is known of an account of a participant. -/
theorem may_out (h : FitA l) (hx : x ∈ l) (hi : AcIn x) (hw : x.who ≠ worldB) : namedB x.who x.asset = true ∧ 0 ≤ x.held ∧ x.held ≤ x.bal ∧ x.bal ≤ 9223372036854775807 ∧ IntKind.i64.wrap (x.bal - x.held) = x.bal - x.held := by
  obtain ⟨h1, h2, h3, h4, h5⟩ := may_parts.1 (((fit_iff l).1 h).1 x hx)
  have h6 : x.held ≤ x.bal := by
    unfold shortA at h4
    rcases Bool.and_eq_false_iff.1 h4 with g | g
    · exact absurd (by simpa using g) hw
    · have := of_decide_eq_false g
      omega
  have := hi.b1
  exact ⟨h1, h3, h6, this, IntWalk.i64_in _ (by omega)⟩
theorem hold_b (hn : 1 ≤ n) (hw : x.who ≠ worldB) (h1 : namedB x.who x.asset = true) : holdB x.who x.asset n = true := by
  unfold holdB
  rw [h1]
  simp [hn, hw]
theorem hold_more (h : FitA l) (hx : x ∈ l) (hi : AcIn x) (hw : x.who ≠ worldB) (hn : 1 ≤ n) (hm : x.bal - x.held < n) : holdA l x.who x.asset n = ([], 111) := by
  obtain ⟨h1, h2, h3, h4, h5⟩ := may_out h hx hi hw
  have hf : findA l (x.who, x.asset) = x := find_mem ((fit_iff l).1 h).2 hx
  unfold holdA
  rw [if_pos (hold_b hn hw h1), hf, h5, if_pos hm]
theorem hold_yes (h : FitA l) (hx : x ∈ l) (hi : AcIn x) (hw : x.who ≠ worldB) (hn : 1 ≤ n) (hm : n ≤ x.bal - x.held) : holdA l x.who x.asset n = (withA l (x.hold (x.held + n)), 0) := by
  obtain ⟨h1, h2, h3, h4, h5⟩ := may_out h hx hi hw
  have hf : findA l (x.who, x.asset) = x := find_mem ((fit_iff l).1 h).2 hx
  unfold holdA
  rw [if_pos (hold_b hn hw h1), hf, h5, if_neg (by omega), IntWalk.i64_in _ (by omega)]
theorem held_may (h : FitA l) (hx : x ∈ l) (hw : x.who ≠ worldB) {m : Int} (h0 : 0 ≤ m) (h1 : m ≤ x.bal) : mayA (x.hold m) = true := by
  obtain ⟨g1, g2, g3, g4, g5⟩ := may_parts.1 (((fit_iff l).1 h).1 x hx)
  refine may_parts.2 ⟨g1, g2, h0, ?_, fun e => absurd e hw⟩
  unfold shortA
  simp only [Ac.hold, Bool.and_eq_false_iff]
  exact .inr (decide_eq_false (by omega))
theorem free_yes (h : FitA l) (hx : x ∈ l) (hi : AcIn x) (hw : x.who ≠ worldB) (hn : 1 ≤ n) (hm : n ≤ x.held) : freeA l x.who x.asset n = (withA l (x.hold (x.held - n)), 0) := by
  obtain ⟨h1, h2, h3, h4, h5⟩ := may_out h hx hi hw
  have hf : findA l (x.who, x.asset) = x := find_mem ((fit_iff l).1 h).2 hx
  unfold freeA
  rw [if_pos (hold_b hn hw h1), hf, if_neg (by omega), IntWalk.i64_in _ (by omega)]
end
end Go.Proofs.Ytobpbbldgbgcdaa.Acc
