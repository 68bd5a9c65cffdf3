/-
  What Post makes of accounts that may be: plain.
-/
import Derived.Test.YtobpbbldgbgcdaaAOpened
namespace Go.Proofs.Ytobpbbldgbgcdaa.Acc
open Go.RowKit Go.Sort

abbrev RisesA (l : List Ac) : Prop := l.Pairwise (fun x y => aheadA x y = true)
theorem aheadA_own {x y x' y' : Ac} (h : x'.own = x.own) (k : y'.own = y.own) : aheadA x' y' = aheadA x y := by unfold aheadA; rw [h, k]
theorem fit_iff (l : List Ac) : FitA l ↔ (∀ x ∈ l, mayA x = true) ∧ RisesA l := by
  constructor
  · intro h
    refine ⟨fun x hx => ?_, ?_⟩
    · obtain ⟨j, hj, rfl⟩ := List.getElem_of_mem hx
      have := (h j hj).1
      rwa [getElem!_pos l j hj] at this
    · rw [RisesA, List.pairwise_iff_getElem]
      have key : ∀ d i (hi : i < l.length) (hj : i + d + 1 < l.length), aheadA l[i] l[i + d + 1] = true := by
        intro d
        induction d with
        | zero =>
          intro i hi hj
          have := (h (i + 1) hj).2 (by omega)
          rw [Nat.add_sub_cancel, getElem!_pos l i hi, getElem!_pos l (i + 1) hj] at this
          exact ordA_neg.1 this
        | succ d ih =>
          intro i hi hj
          have h1 := ih i hi (by omega)
          have := (h (i + d + 1 + 1) hj).2 (by omega)
          rw [Nat.add_sub_cancel, getElem!_pos l (i + d + 1) (by omega), getElem!_pos l (i + d + 1 + 1) hj] at this
          exact ahead_trans h1 (ordA_neg.1 this)
      intro i j hi hj hij
      have := key (j - i - 1) i hi (by omega)
      simpa [show i + (j - i - 1) + 1 = j by omega] using this
  · rintro ⟨h1, h2⟩ j hj
    rw [RisesA, List.pairwise_iff_getElem] at h2
    refine ⟨by rw [getElem!_pos l j hj]; exact h1 _ (List.getElem_mem hj), fun h0 => ?_⟩
    rw [getElem!_pos l (j - 1) (by omega), getElem!_pos l j hj]
    exact ordA_neg.2 (h2 (j - 1) j (by omega) hj (by omega))
theorem rises_ext : ∀ {l l' : List Ac}, RisesA l → RisesA l' → (∀ x, x ∈ l ↔ x ∈ l') → l = l'
  | [], [], _, _, _ => rfl
  | [], y :: l', _, _, h => absurd ((h y).2 (by simp)) (by simp)
  | x :: l, [], _, _, h => absurd ((h x).1 (by simp)) (by simp)
  | x :: l, y :: l', h1, h2, h => by
    obtain ⟨a1, b1⟩ := List.pairwise_cons.1 h1
    obtain ⟨a2, b2⟩ := List.pairwise_cons.1 h2
    obtain rfl : x = y := by
      rcases List.mem_cons.1 ((h x).1 (by simp)) with e | e
      · exact e
      · rcases List.mem_cons.1 ((h y).2 (by simp)) with e2 | e2
        · exact e2.symm
        · have k1 := a2 x e
          have k2 := a1 y e2
          have := ahead_asymm k1
          unfold aheadA at k2
          rw [this] at k2; cases k2
    have ne : ∀ {m : List Ac}, (∀ z ∈ m, aheadA x z = true) → ∀ z ∈ m, z ≠ x := fun hm z hz e => by
      have := hm z hz
      rw [e] at this
      unfold aheadA at this
      rw [ahead_irrefl] at this; cases this
    refine congrArg (x :: ·) (rises_ext b1 b2 (fun z => ⟨fun hz => ?_, fun hz => ?_⟩))
    · exact (List.mem_cons.1 ((h z).1 (List.mem_cons_of_mem _ hz))).resolve_left (ne a1 z hz)
    · exact (List.mem_cons.1 ((h z).2 (List.mem_cons_of_mem _ hz))).resolve_left (ne a2 z hz)
theorem rises_own {l : List Ac} (h : RisesA l) {x y : Ac} (hx : x ∈ l) (hy : y ∈ l) (e : x.own = y.own) : x = y := by
  obtain ⟨i, hi, rfl⟩ := List.getElem_of_mem hx
  obtain ⟨j, hj, rfl⟩ := List.getElem_of_mem hy
  rw [RisesA, List.pairwise_iff_getElem] at h
  have no : ∀ a b : Ac, aheadA a b = true → a.own = b.own → False := fun a b h e => by
    unfold aheadA at h
    rw [e, ahead_irrefl] at h; cases h
  rcases Nat.lt_trichotomy i j with hij | rfl | hij
  · exact (no _ _ (h i j hi hj hij) e).elim
  · rfl
  · exact (no _ _ (h j i hj hi hij) e.symm).elim
theorem find_mem {l : List Ac} (h : RisesA l) {x : Ac} (hx : x ∈ l) : findA l x.own = x := by
  unfold findA
  split
  · rename_i y hy
    have h1 := List.find?_some hy
    have h2 := List.mem_of_find?_eq_some hy
    exact rises_own h h2 hx (by simpa using h1)
  · rename_i hy
    rw [List.find?_eq_none] at hy
    exact absurd (decide_eq_true rfl) (hy x hx)
theorem find_no {l : List Ac} {o : Own} (h : ∀ x ∈ l, x.own ≠ o) : findA l o = zeroOf o := by
  unfold findA
  rw [List.find?_eq_none.2 (fun x hx => by simpa using h x hx)]
  rfl
theorem find_own (l : List Ac) (o : Own) : (findA l o).own = o := by
  unfold findA
  split
  · rename_i y hy
    simpa using List.find?_some hy
  · rfl
theorem find_cases (l : List Ac) (o : Own) : (findA l o ∈ l ∧ (findA l o).own = o) ∨ ((∀ x ∈ l, x.own ≠ o) ∧ findA l o = zeroOf o) := by
  by_cases h : ∃ x ∈ l, x.own = o
  · unfold findA
    split
    · rename_i y hy
      exact .inl ⟨List.mem_of_find?_eq_some hy, by simpa using List.find?_some hy⟩
    · rename_i hy
      rw [List.find?_eq_none] at hy
      obtain ⟨x, hx, e⟩ := h
      exact absurd e (by simpa using hy x hx)
  · have h' : ∀ x ∈ l, x.own ≠ o := fun x hx e => h ⟨x, hx, e⟩
    exact .inr ⟨h', find_no h'⟩
theorem may_parts {x : Ac} : mayA x = true ↔ namedB x.who x.asset = true ∧ x.bal ≠ 0 ∧ 0 ≤ x.held ∧ shortA x = false ∧ (x.who = worldB → x.held = 0) := by
  unfold mayA
  simp only [Bool.and_eq_true, Bool.not_eq_true', beq_eq_false_iff_ne, decide_eq_false_iff_not, Int.not_lt, Bool.or_eq_true, beq_iff_eq, ne_eq]
  constructor
  · rintro ⟨⟨⟨⟨h1, h2⟩, h3⟩, h4⟩, h5⟩
    exact ⟨h1, h2, h3, h4, fun e => h5.resolve_left (fun g => g e)⟩
  · rintro ⟨h1, h2, h3, h4, h5⟩
    refine ⟨⟨⟨⟨h1, h2⟩, h3⟩, h4⟩, ?_⟩
    by_cases e : x.who = worldB
    · exact .inr (h5 e)
    · exact .inl e
/-- What is told of one owner: as plain data accounts are a function. -/
theorem fit_ext {l l' : List Ac} (h : FitA l) (h' : FitA l') (e : ∀ o, findA l o = findA l' o) : l = l' := by
  obtain ⟨m1, r1⟩ := (fit_iff l).1 h
  obtain ⟨m2, r2⟩ := (fit_iff l').1 h'
  have half : ∀ {a b : List Ac}, (∀ x ∈ a, mayA x = true) → RisesA a → (∀ o, findA a o = findA b o) → ∀ x ∈ a, x ∈ b := fun {a b} ma ra e x hx => by
    have h1 := find_mem ra hx
    rw [e] at h1
    rcases find_cases b x.own with ⟨h2, _⟩ | ⟨_, h2⟩
    · rwa [h1] at h2
    · rw [h1] at h2
      have := (may_parts.1 (ma x hx)).2.1
      rw [h2] at this
      exact absurd rfl this
  exact rises_ext r1 r2 (fun x => ⟨half m1 r1 e x, half m2 r2 (fun o => (e o).symm) x⟩)
/-- Whether an owner's account bears its amounts. -/
def errP (l : List Ac) (F : Own → List Int) (o : Own) : Int := (postedA (findA l o) (F o).sum).2
/-- An owner's account behind them. -/
def newA (l : List Ac) (F : Own → List Int) (o : Own) : Ac := if F o = [] then findA l o else (findA l o).bear ((findA l o).bal + (F o).sum)
/-- What Post tells. -/
def PostS (l : List Ac) (F : Own → List Int) (r : List Ac × Int) : Prop :=
  (r.2 = 0 ∧ (∀ o, F o ≠ [] → errP l F o = 0) ∧ FitA r.1 ∧ ∀ o, findA r.1 o = newA l F o) ∨
  (r.1 = [] ∧ r.2 ≠ 0 ∧ ∃ o, F o ≠ [] ∧ r.2 = errP l F o ∧ ∀ o', F o' ≠ [] → ahead o' o = true → errP l F o' = 0)
theorem val_ok {x : Int} (h : Coin.err x = 0) : Coin.val x = x ∧ -9223372036854775808 ≤ x ∧ x ≤ 9223372036854775807 := by
  unfold Coin.err at h
  unfold Coin.val
  split at h
  · rename_i hx
    exact ⟨by rw [if_pos hx], hx⟩
  · cases h
theorem posted_ok {x : Ac} {s : Int} (h : (postedA x s).2 = 0) : (postedA x s).1 = x.bear (x.bal + s) ∧ shortA (x.bear (x.bal + s)) = false ∧ Coin.err s = 0 ∧ Coin.err (x.bal + s) = 0 := by
  unfold postedA at *
  by_cases h1 : Coin.err s = 0
  · rw [if_pos h1, (val_ok h1).1] at *
    by_cases h2 : Coin.err (x.bal + s) = 0
    · rw [if_pos h2, (val_ok h2).1] at *
      rcases h3 : shortA (x.bear (x.bal + s)) with _ | _
      · rw [h3] at h
        exact ⟨rfl, rfl, h1, h2⟩
      · rw [h3] at h; cases h
    · rw [if_neg h2] at h
      exact absurd h h2
  · rw [if_neg h1] at h
    exact absurd h h1
theorem posted_err (x : Ac) (s : Int) : (postedA x s).2 = if Coin.err s = 0 then if Coin.err (x.bal + s) = 0 then if shortA (x.bear (x.bal + s)) = true then 111 else 0 else Coin.err (x.bal + s) else Coin.err s := by
  unfold postedA
  by_cases h1 : Coin.err s = 0
  · rw [if_pos h1, if_pos h1, (val_ok h1).1]
    by_cases h2 : Coin.err (x.bal + s) = 0
    · rw [if_pos h2, if_pos h2, (val_ok h2).1]
      split <;> rfl
    · rw [if_neg h2, if_neg h2]
  · rw [if_neg h1, if_neg h1]
/-- What becomes of one account. -/
def stepA (F : Own → List Int) (x : Ac) : Ac := if F x.own = [] then x else (postedA x (F x.own).sum).1
def OkTo (F : Own → List Int) (l2 : List Ac) (k : Nat) : Prop := ∀ j (hj : j < l2.length), j < k → F l2[j].own ≠ [] → (postedA l2[j] (F l2[j].own).sum).2 = 0
section
variable {l l2 : List Ac} {F : Own → List Int}
/-- What is known of legs that have names. -/
def Named (F : Own → List Int) : Prop := ∀ o, F o ≠ [] → okO o ∧ namedB o.1 o.2 = true
theorem opened_mem (h : Opened l F l2) (hF : Named F) (x : Ac) : x ∈ l2 ↔ x ∈ l ∨ (F x.own ≠ [] ∧ (∀ y ∈ l, y.own ≠ x.own) ∧ x = zeroOf x.own) := by
  obtain ⟨⟨done, hN, hp⟩, _⟩ := h
  rw [hp.mem_iff, List.mem_append, List.mem_map]
  constructor
  · rintro (hx | ⟨o, ho, rfl⟩)
    · exact .inl hx
    · obtain ⟨h1, h2, h3⟩ := (hN.mem o).1 ho
      exact .inr ⟨h2, h3, rfl⟩
  · rintro (hx | ⟨h1, h2, h3⟩)
    · exact .inl hx
    · exact .inr ⟨x.own, (hN.mem _).2 ⟨(hF _ h1).1, h1, h2⟩, h3.symm⟩
theorem opened_find (hl : FitA l) (h : Opened l F l2) (hF : Named F) {x : Ac} (hx : x ∈ l2) : findA l x.own = x := by
  rcases (opened_mem h hF x).1 hx with h1 | ⟨_, h2, h3⟩
  · exact find_mem ((fit_iff l).1 hl).2 h1
  · rw [find_no h2, ← h3]
theorem opened_rises (hl : FitA l) (h : Opened l F l2) (hF : Named F) : RisesA l2 := by
  have hs := h.sorted
  have hn : l2.Nodup := by
    obtain ⟨⟨done, hN, hp⟩, _⟩ := h
    rw [hp.nodup_iff]
    refine List.nodup_append.2 ⟨?_, ?_, ?_⟩
    · refine List.Pairwise.imp ?_ ((fit_iff l).1 hl).2
      intro a b hab e
      rw [e] at hab
      unfold aheadA at hab
      rw [ahead_irrefl] at hab; cases hab
    · rw [List.Nodup, List.pairwise_map]
      refine List.Pairwise.imp ?_ hN.nodup
      intro a b hab e
      exact hab (by have := congrArg Ac.own e; exact this)
    · intro a ha c hc e
      obtain ⟨o, ho, rfl⟩ := List.mem_map.1 hc
      exact ((hN.mem o).1 ho).2.2 a ha (by rw [e]; rfl)
  have h2 := hn.and hs
  refine List.Pairwise.imp_of_mem ?_ h2
  intro a b ha hb hab
  have hne : a.own ≠ b.own := fun e => hab.1 (by rw [← opened_find hl h hF ha, ← opened_find hl h hF hb, e])
  exact ahead_tri hab.2 (Ne.symm hne)
theorem opened_has (h : Opened l F l2) (hF : Named F) {o : Own} (ho : F o ≠ []) : ∃ x ∈ l2, x.own = o := by
  rcases find_cases l o with ⟨h1, h2⟩ | ⟨h1, _⟩
  · exact ⟨_, (opened_mem h hF _).2 (.inl h1), h2⟩
  · exact ⟨zeroOf o, (opened_mem h hF _).2 (.inr ⟨ho, h1, rfl⟩), rfl⟩
theorem step_own (F : Own → List Int) {x : Ac} (h : F x.own ≠ [] → (postedA x (F x.own).sum).2 = 0) : (stepA F x).own = x.own := by
  unfold stepA
  by_cases e : F x.own = []
  · rw [if_pos e]
  · rw [if_neg e, (posted_ok (h e)).1]; rfl
/-- An account that bears its amounts, and is not 0 then, may be. -/
theorem step_may (hl : FitA l) (h : Opened l F l2) (hF : Named F) {x : Ac} (hx : x ∈ l2) (hp : F x.own ≠ [] → (postedA x (F x.own).sum).2 = 0) (hb : (stepA F x).bal ≠ 0) : mayA (stepA F x) = true := by
  have hx' : 0 ≤ x.held ∧ (x.who = worldB → x.held = 0) := by
    rcases (opened_mem h hF x).1 hx with h1 | ⟨_, _, h3⟩
    · have := may_parts.1 (((fit_iff l).1 hl).1 x h1)
      exact ⟨this.2.2.1, this.2.2.2.2⟩
    · rw [h3]; exact ⟨by simp [zeroOf], fun _ => rfl⟩
  unfold stepA at *
  by_cases e : F x.own = []
  · rw [if_pos e] at hb ⊢
    rcases (opened_mem h hF x).1 hx with h1 | ⟨h1, _⟩
    · exact ((fit_iff l).1 hl).1 x h1
    · exact absurd e h1
  · rw [if_neg e] at hb ⊢
    obtain ⟨h1, h2, _⟩ := posted_ok (hp e)
    rw [h1] at hb ⊢
    exact may_parts.2 ⟨(hF _ e).2, hb, hx'.1, h2, hx'.2⟩
theorem step_zero (hl : FitA l) (h : Opened l F l2) (hF : Named F) {x : Ac} (hx : x ∈ l2) (hp : F x.own ≠ [] → (postedA x (F x.own).sum).2 = 0) (hb : (stepA F x).bal = 0) : stepA F x = zeroOf x.own := by
  have hx' : 0 ≤ x.held ∧ (x.who = worldB → x.held = 0) := by
    rcases (opened_mem h hF x).1 hx with h1 | ⟨_, _, h3⟩
    · have := may_parts.1 (((fit_iff l).1 hl).1 x h1)
      exact ⟨this.2.2.1, this.2.2.2.2⟩
    · rw [h3]; exact ⟨by simp [zeroOf], fun _ => rfl⟩
  unfold stepA at *
  by_cases e : F x.own = []
  · rw [if_pos e] at hb ⊢
    rcases (opened_mem h hF x).1 hx with h1 | ⟨h1, _⟩
    · exact absurd hb (may_parts.1 (((fit_iff l).1 hl).1 x h1)).2.1
    · exact absurd e h1
  · rw [if_neg e] at hb ⊢
    obtain ⟨h1, h2, _⟩ := posted_ok (hp e)
    rw [h1] at hb ⊢
    have hb' : x.bal + (F x.own).sum = 0 := hb
    rw [hb'] at h2 ⊢
    have : x.held = 0 := by
      by_cases hw : x.who = worldB
      · exact hx'.2 hw
      · unfold shortA at h2
        rcases Bool.and_eq_false_iff.1 h2 with h3 | h3
        · exact absurd (by simpa [Ac.bear] using h3) hw
        · have := of_decide_eq_false h3
          simp only [Ac.bear] at this
          omega
    unfold Ac.bear zeroOf Ac.own
    rw [this]
theorem post_end (hl : FitA l) (h : Opened l F l2) (hF : Named F) (hok : OkTo F l2 l2.length) : PostS l F ((l2.map (stepA F)).filter keepB, 0) := by
  have hok' : ∀ x ∈ l2, F x.own ≠ [] → (postedA x (F x.own).sum).2 = 0 := fun x hx => by
    obtain ⟨j, hj, rfl⟩ := List.getElem_of_mem hx
    exact hok j hj hj
  have hr := opened_rises hl h hF
  have hmr : RisesA (l2.map (stepA F)) := by
    rw [RisesA, List.pairwise_map]
    refine List.Pairwise.imp_of_mem ?_ hr
    intro a b ha hb hab
    rw [aheadA_own (step_own F (hok' a ha)) (step_own F (hok' b hb))]
    exact hab
  have hfr : RisesA ((l2.map (stepA F)).filter keepB) := List.Pairwise.filter _ hmr
  have hin : ∀ x ∈ l2, keepB (stepA F x) = true → stepA F x ∈ (l2.map (stepA F)).filter keepB := fun x hx hk => List.mem_filter.2 ⟨List.mem_map.2 ⟨x, hx, rfl⟩, hk⟩
  have kb : ∀ y : Ac, keepB y = true ↔ y.bal ≠ 0 := fun y => by unfold keepB zeroB; simp
  have new_of : ∀ x ∈ l2, newA l F x.own = stepA F x := fun x hx => by
    unfold newA stepA
    rw [opened_find hl h hF hx]
    by_cases e : F x.own = []
    · rw [if_pos e, if_pos e]
    · rw [if_neg e, if_neg e, (posted_ok (hok' x hx e)).1]
  refine .inl ⟨rfl, fun o ho => ?_, (fit_iff _).2 ⟨fun y hy => ?_, hfr⟩, fun o => ?_⟩
  · obtain ⟨x, hx, rfl⟩ := opened_has h hF ho
    unfold errP
    rw [opened_find hl h hF hx]
    exact hok' x hx ho
  · obtain ⟨hy, hk⟩ := List.mem_filter.1 hy
    obtain ⟨x, hx, rfl⟩ := List.mem_map.1 hy
    exact step_may hl h hF hx (hok' x hx) ((kb _).1 hk)
  · by_cases hex : ∃ x ∈ l2, x.own = o
    · obtain ⟨x, hx, rfl⟩ := hex
      rw [new_of x hx]
      by_cases hb : (stepA F x).bal = 0
      · rw [step_zero hl h hF hx (hok' x hx) hb]
        refine find_no (fun y hy e => ?_)
        obtain ⟨hy, hk⟩ := List.mem_filter.1 hy
        obtain ⟨z, hz, rfl⟩ := List.mem_map.1 hy
        have e2 : z.own = x.own := by rw [← step_own F (hok' z hz)]; exact e
        obtain rfl := rises_own hr hz hx e2
        exact (kb _).1 hk hb
      · have := find_mem hfr (hin x hx ((kb _).2 hb))
        rwa [step_own F (hok' x hx)] at this
    · have hno : F o = [] := by
        by_cases e : F o = []
        · exact e
        · exact absurd (opened_has h hF e) hex
      have h1 : ∀ x ∈ l, x.own ≠ o := fun x hx e => hex ⟨x, (opened_mem h hF x).2 (.inl hx), e⟩
      unfold newA
      rw [if_pos hno, find_no h1]
      refine find_no (fun y hy e => ?_)
      obtain ⟨hy, _⟩ := List.mem_filter.1 hy
      obtain ⟨z, hz, rfl⟩ := List.mem_map.1 hy
      exact hex ⟨z, hz, by rw [← step_own F (hok' z hz)]; exact e⟩
theorem post_err (hl : FitA l) (h : Opened l F l2) (hF : Named F) {k : Nat} (hk : k < l2.length) (hok : OkTo F l2 k) (hne : F l2[k].own ≠ []) (he : (postedA l2[k] (F l2[k].own).sum).2 ≠ 0) : PostS l F ([], (postedA l2[k] (F l2[k].own).sum).2) := by
  have hr := opened_rises hl h hF
  refine .inr ⟨rfl, he, l2[k].own, hne, ?_, fun o' ho' ha => ?_⟩
  · unfold errP
    rw [opened_find hl h hF (List.getElem_mem hk)]
  · obtain ⟨x, hx, rfl⟩ := opened_has h hF ho'
    unfold errP
    rw [opened_find hl h hF hx]
    obtain ⟨j, hj, rfl⟩ := List.getElem_of_mem hx
    have hjk : j < k := by
      rcases Nat.lt_trichotomy j k with hjk | rfl | hjk
      · exact hjk
      · rw [ahead_irrefl] at ha; cases ha
      · rw [RisesA, List.pairwise_iff_getElem] at hr
        have h1 := ahead_asymm (show ahead l2[k].own l2[j].own = true from hr k j hk hj hjk)
        rw [h1] at ha; cases ha
    exact hok j hj hjk ho'
end
end Go.Proofs.Ytobpbbldgbgcdaa.Acc
