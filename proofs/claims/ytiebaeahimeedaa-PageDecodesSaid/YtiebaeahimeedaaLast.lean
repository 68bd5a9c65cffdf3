/-
  A region that draws its order and whose last operation, a store that waits for all others, turns what the region has read: the others are walked first, with what they read held, then it. Over any program.
-/
import Derived.WalkKit
import Derived.OrdersHeld
import Derived.StillTail
namespace Go.Proofs.Ytiebaeahimeedaa.Gen
open Go.RowKit
variable {P : Program}

/-- An operation that does nothing, in the place of another one. -/
abbrev nop (o : Oper) : Oper := { o with op := .move (.const (.bool true)) }
/-- Each operation waits for earlier ones alone. -/
def backB (md : Region.Mode) (ops : Array Oper) : Bool := (List.range ops.size).all fun j => match ops[j]? with
  | some o => o.after.all fun e => !Region.binds md e || decide (e.on < j)
  | none => true
/-- What is to be shown where the others are done. -/
def LastQ (P : Program) (o : Oper) (Q : Exit → Act → World → Prop) : Exit → Act → World → Prop
  | .normal, a, w => o.wp P a w (fun a' w' => Q .normal a' w') Q
  | e, a, w => Q e a w
theorem upon_imp {o : Oper} {a : Act} {K K' : Act → World → Prop} {Q Q' : Exit → Act → World → Prop} {r : Result Next} (hK : ∀ a w, K a w → K' a w) (hQ : ∀ c a w, Q (.panic c) a w → Q' (.panic c) a w) (hL : LetsOut Q → LetsOut Q') (h : o.upon P a K Q r) : o.upon P a K' Q' r := by
  unfold Oper.upon at *
  split at h
  · exact hK _ _ h
  · exact hK _ _ h
  · exact hK _ _ h
  · refine h.mono fun e w' he => ?_
    cases e
    · exact hK _ _ he
    · exact hQ _ _ _ he
    · exact hL he
  · exact h.mono fun v w' he => hK _ _ he
  · exact hQ _ _ _ h
  · exact h.elim
section
variable {md : Region.Mode} {ops : Array Oper} {n : Nat} {o : Oper}
def lastOps (ops : Array Oper) (n : Nat) (o : Oper) : Array Oper := ops.setIfInBounds n (nop o)
theorem lastOps_same (ho : ops[n]? = some o) : (lastOps ops n o)[n]? = some (nop o) := by
  have hn : n < ops.size := (Array.getElem?_eq_some_iff.1 ho).1
  simp [lastOps, hn]
theorem lastOps_other {i : Nat} (h : i ≠ n) : (lastOps ops n o)[i]? = ops[i]? := by unfold lastOps; rw [Array.getElem?_setIfInBounds_ne (Ne.symm h)]
theorem lastOps_yielded (ho : ops[n]? = some o) (t : Array Value) : yielded (lastOps ops n o) t = yielded ops t := by
  funext j
  unfold yielded
  by_cases e : j = n
  · subst e; rw [lastOps_same ho, ho]; rfl
  · rw [lastOps_other e]
theorem lastOps_ready (ho : ops[n]? = some o) (listed : Array Bool) : Region.ready md (lastOps ops n o) listed = Region.ready md ops listed := by
  unfold Region.ready
  have hs : (lastOps ops n o).size = ops.size := by simp [lastOps]
  rw [hs]
  refine List.filter_congr (fun i _ => ?_)
  by_cases e : i = n
  · subst e; rw [lastOps_same ho, ho]; rfl
  · rw [lastOps_other e]
/-- What holds of those that have come up. -/
structure Inv (md : Region.Mode) (ops : Array Oper) (n : Nat) (listed : Array Bool) : Prop where
  size : listed.size = ops.size
  closed : ∀ j oj, ops[j]? = some oj → listed.getD j false = true → ∀ e ∈ oj.after, Region.binds md e = true → listed.getD e.on false = true
def unl (listed : Array Bool) (m : Nat) : Nat := ((List.range m).filter fun i => !listed.getD i true).length
theorem getD_set {listed : Array Bool} {i j : Nat} {d : Bool} (hi : i < listed.size) : (listed.setIfInBounds i true).getD j d = if i = j then true else listed.getD j d := by
  simp only [Array.getD_eq_getD_getElem?]
  by_cases e : i = j
  · subst e; simp [hi]
  · rw [Array.getElem?_setIfInBounds_ne e, if_neg e]
theorem getD_any {listed : Array Bool} {i : Nat} (hi : i < listed.size) (d d' : Bool) : listed.getD i d = listed.getD i d' := by
  simp [Array.getD_eq_getD_getElem?, hi]
theorem Inv.set {listed : Array Bool} (h : Inv md ops n listed) {i : Nat} (hr : i ∈ Region.ready md ops listed) : Inv md ops n (listed.setIfInBounds i true) := by
  obtain ⟨_, oi, hoi, hall⟩ := mem_ready.1 hr
  have hi : i < listed.size := by rw [h.size]; exact (Array.getElem?_eq_some_iff.1 hoi).1
  refine ⟨by simpa using h.size, fun j oj hj hl e he hb => ?_⟩
  rw [getD_set hi] at hl ⊢
  by_cases e1 : i = e.on
  · rw [if_pos e1]
  · rw [if_neg e1]
    by_cases e2 : i = j
    · subst e2
      rw [hoi] at hj
      cases hj
      exact hall e he hb
    · rw [if_neg e2] at hl
      exact h.closed j oj hj hl e he hb
theorem unl_set {listed : Array Bool} {i m : Nat} (hi : i < listed.size) (him : i < m) (hl : listed.getD i true = false) : unl (listed.setIfInBounds i true) m < unl listed m := by
  unfold unl
  have hs : ((List.range m).filter fun j => !(listed.setIfInBounds i true).getD j true) = ((List.range m).filter fun j => !listed.getD j true).filter (fun j => decide (j ≠ i)) := by
    rw [List.filter_filter]
    refine List.filter_congr (fun j _ => ?_)
    rw [getD_set hi]
    by_cases e : i = j
    · subst e; simp
    · simp [e, Ne.symm e]
  rw [hs]
  exact List.length_filter_lt_length_iff_exists.2 ⟨i, List.mem_filter.2 ⟨List.mem_range.2 him, by simp [hl]⟩, by simp⟩
/-- Where the last one may come up all others have. -/
theorem all_listed {listed : Array Bool} (hs : Region.sinkB md ops n = true) (hv : Inv md ops n listed) (hr : n ∈ Region.ready md ops listed) : ∀ d i, i < n → n - i ≤ d → listed.getD i false = true := by
  intro d
  induction d with
  | zero => intro i h1 h2; omega
  | succ d ih =>
    intro i h1 h2
    have h3 := List.all_eq_true.1 hs i (List.mem_range.2 h1)
    obtain ⟨j, hj, hj2⟩ := List.any_eq_true.1 h3
    rw [Bool.and_eq_true, decide_eq_true_eq] at hj2
    rw [List.mem_range] at hj
    obtain ⟨oj, hoj, e, he, hb, hon⟩ := Region.waitsFor_spec hj2.2
    subst hon
    by_cases e1 : j = n
    · subst e1
      obtain ⟨_, o2, ho2, hall⟩ := mem_ready.1 hr
      rw [hoj] at ho2
      cases ho2
      exact hall e he hb
    · exact hv.closed j oj hoj (ih j (by omega) (by omega)) e he hb
/-- Someone may come up while the last one has not. -/
theorem some_ready {listed : Array Bool} (hn : ops.size = n + 1) (hb : backB md ops = true) (hv : Inv md ops n listed) (hl : listed.getD n true = false) : Region.ready md ops listed ≠ [] := by
  have key : ∀ d j, j ≤ d → j < ops.size → listed.getD j true = false → ∃ i, i ∈ Region.ready md ops listed := by
    intro d
    induction d with
    | zero =>
      intro j h1 h2 h3
      obtain rfl : j = 0 := by omega
      refine ⟨0, mem_ready.2 ⟨h3, ops[0], Array.getElem?_eq_getElem h2, fun e he hbi => ?_⟩⟩
      have h4 := List.all_eq_true.1 hb 0 (List.mem_range.2 h2)
      rw [Array.getElem?_eq_getElem h2] at h4
      have h5 := Array.all_eq_true'.1 h4 e he
      simp [hbi] at h5
    | succ d ih =>
      intro j h1 h2 h3
      by_cases hall : ∀ e ∈ (ops[j]).after, Region.binds md e = true → listed.getD e.on false = true
      · exact ⟨j, mem_ready.2 ⟨h3, ops[j], Array.getElem?_eq_getElem h2, hall⟩⟩
      · have : ∃ e, e ∈ (ops[j]).after ∧ Region.binds md e = true ∧ listed.getD e.on false ≠ true := by
          refine Classical.byContradiction fun hno => hall fun e he hbi => Classical.byContradiction fun hne => hno ⟨e, he, hbi, hne⟩
        obtain ⟨e, he, hbi, hne⟩ := this
        have h4 := List.all_eq_true.1 hb j (List.mem_range.2 h2)
        rw [Array.getElem?_eq_getElem h2] at h4
        have h5 := Array.all_eq_true'.1 h4 e he
        simp [hbi] at h5
        have h6 : e.on < listed.size := by rw [hv.size]; omega
        refine ih e.on (by omega) (by omega) ?_
        rw [getD_any h6 true false]
        simpa using hne
  obtain ⟨i, hi⟩ := key n n (Nat.le_refl _) (by omega) hl
  intro h
  rw [h] at hi
  cases hi
theorem wpAny_last {Q : Exit → Act → World → Prop} {S : World → Prop} (hn : ops.size = n + 1) (ho : ops[n]? = some o) (hd : o.dst = none) (hg : o.guard = none) (hs : Region.sinkB md ops n = true) (hb : backB md ops = true) :
    ∀ (fuel : Nat) (listed : Array Bool) (a : Act) (w : World), Inv md ops n listed → listed.getD n true = false → unl listed (n + 1) ≤ fuel → wpAnyH P md (lastOps ops n o) (LastQ P o Q) S fuel listed a w → wpAny P md ops Q fuel listed a w := by
  intro fuel
  induction fuel with
  | zero =>
    intro listed a w hv hl hu _
    exfalso
    unfold unl at hu
    have : n ∈ (List.range (n + 1)).filter fun i => !listed.getD i true := List.mem_filter.2 ⟨List.mem_range.2 (by omega), by simp [hl]⟩
    have := List.length_pos_of_mem this
    omega
  | succ fuel ih =>
    intro listed a w hv hl hu H
    refine ⟨fun h => absurd h (some_ready hn hb hv hl), fun i hi => ?_⟩
    have H2 := H.2 i (by rw [lastOps_ready ho]; exact hi)
    obtain ⟨hli, oi, hoi, _⟩ := mem_ready.1 hi
    have his : i < listed.size := by rw [hv.size]; exact (Array.getElem?_eq_some_iff.1 hoi).1
    by_cases e : i = n
    · subst e
      rw [ho] at hoi
      cases hoi
      unfold wpOp at H2 ⊢
      rw [lastOps_same ho] at H2
      rw [ho]
      have hw : Region.wanted o (yielded ops a.tmps) = true := by simp [Region.wanted, hg]
      have hw2 : Region.wanted (nop o) (yielded (lastOps ops i o) a.tmps) = true := by simp [Region.wanted, hg]
      simp only [hw2, hw, if_true] at H2 ⊢
      have hdone : Region.ready md ops (listed.setIfInBounds i true) = [] := by
        rw [List.eq_nil_iff_forall_not_mem]
        intro j hj
        obtain ⟨hlj, oj, hoj, _⟩ := mem_ready.1 hj
        have hjs : j < ops.size := (Array.getElem?_eq_some_iff.1 hoj).1
        rw [getD_set his] at hlj
        by_cases e2 : i = j
        · rw [if_pos e2] at hlj; cases hlj
        · rw [if_neg e2] at hlj
          have := all_listed hs hv hi (i - j) j (by omega) (Nat.le_refl _)
          rw [getD_any (by omega) false true] at this
          rw [this] at hlj; cases hlj
      have hfin : LastQ P o Q .normal a w := by
        rcases H2 with H2 | ⟨H2, _⟩
        · have H3 : S w ∧ wpAnyH P md (lastOps ops i o) (LastQ P o Q) S fuel (listed.setIfInBounds i true) (a.put o.dst (.bool true)) w := H2
          have e3 : a.put o.dst (.bool true) = a := by rw [hd]; rfl
          rw [e3] at H3
          have hd2 : Region.ready md (lastOps ops i o) (listed.setIfInBounds i true) = [] := by rw [lastOps_ready ho]; exact hdone
          cases fuel with
          | zero => exact H3.2.2
          | succ f => exact H3.2.1 hd2
        · exfalso
          have h0 := H2.1
          have h1 : ((execOp a.eval (nop o)).runT P w #[]).2 = #[] := rfl
          rw [h1] at h0
          simp at h0
      refine .inl (upon_imp (Q := Q) (K := fun a' w' => Q .normal a' w') (fun a' w' hq => ?_) (fun _ _ _ h => h) id hfin)
      cases fuel with
      | zero => exact ⟨hdone, hq⟩
      | succ f => exact ⟨fun _ => hq, by rw [hdone]; intro j hj; cases hj⟩
    · unfold wpOp at H2 ⊢
      rw [lastOps_other e, hoi] at H2
      rw [hoi]
      simp only [lastOps_yielded ho] at H2
      have hnext : ∀ a' w', (S w' ∧ wpAnyH P md (lastOps ops n o) (LastQ P o Q) S fuel (listed.setIfInBounds i true) a' w') → wpAny P md ops Q fuel (listed.setIfInBounds i true) a' w' := fun a' w' h =>
        ih _ _ _ (hv.set hi) (by rw [getD_set his, if_neg e]; exact hl) (by have := unl_set (m := n + 1) his (by rw [← hn, ← hv.size]; exact his) hli; omega) h.2
      simp only
      split at H2
      · rename_i hw
        rw [if_pos hw]
        exact H2.imp (upon_imp hnext (fun _ _ _ h => h) id) id
      · rename_i hw
        rw [if_neg hw]
        exact hnext _ _ H2
end
theorem inv_none {md : Region.Mode} {ops : Array Oper} {n : Nat} : Inv md ops n (Array.replicate ops.size false) :=
  ⟨by simp, fun j oj _ hl => by
    rw [Array.getD_eq_getD_getElem?, Array.getElem?_replicate] at hl
    split at hl <;> simp at hl⟩
theorem unl_le (listed : Array Bool) (m : Nat) : unl listed m ≤ m := by
  unfold unl
  exact Nat.le_trans (List.length_filter_le _ _) (by simp)
/-- THE REGION: its last operation behind all others. -/
theorem region_last {id : Nat} {Q : Exit → Act → World → Prop} {S : World → Prop} {a : Act} {w : World} {l : List Oper} {o : Oper} (n : Nat) (hm : P.follows .mixedOrders = true) (ho : l.toArray[n]? = some o) (hn : l.length = n + 1) (hd : o.dst = none) (hg : o.guard = none)
    (hs : Region.sinkB .any l.toArray n = true) (hb : backB .any l.toArray = true) (h : ∀ w1, w1 = w.drew → wpAnyH P .any (l.set n (nop o)).toArray (LastQ P o Q) S (n + 1) (Array.replicate (n + 1) false) a w1) : (Code.region id l.toArray true).wp P Q a w := by
  have hsz : l.toArray.size = n + 1 := by simpa using hn
  refine wp_region_any hm ?_
  have hl : lastOps l.toArray n o = (l.set n (nop o)).toArray := by simp [lastOps]
  refine wpAny_last (S := S) (n := n) (o := o) hsz ho hd hg hs hb _ _ _ _ inv_none ?_ (by rw [hsz]; exact unl_le _ _) ?_
  · simp [Array.getD_eq_getD_getElem?, hsz]
  · rw [hl, hsz]; exact h _ rfl
end Go.Proofs.Ytiebaeahimeedaa.Gen
