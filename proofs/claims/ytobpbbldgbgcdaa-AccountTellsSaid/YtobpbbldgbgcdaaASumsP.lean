/-
  AccountSums: plain facts.
-/
import Derived.Test.YtobpbbldgbgcdaaALawOrder
import Derived.Test.YtobpbbldgbgcdaaALawBack
namespace Go.Proofs.Ytobpbbldgbgcdaa.Acc
open Go.RowKit Go.Sort

/-- Each leg, and its opposite at another one. -/
def twin (other : Bs) (x : Lg) : List Lg := [x, ⟨other, x.asset, -x.amt⟩]
def twins (legs : List Lg) (other : Bs) : List Lg := legs.flatMap (twin other)
theorem twins_step (legs : List Lg) (other : Bs) {k : Nat} (hk : k < legs.length) : twins (legs.take (k + 1)) other = twins (legs.take k) other ++ twin other legs[k] := by
  unfold twins
  rw [List.take_succ_eq_append_getElem hk, List.flatMap_append]
  simp
theorem twins_len (legs : List Lg) (other : Bs) : (twins legs other).length = 2 * legs.length := by
  induction legs with
  | nil => rfl
  | cons x l ih =>
    have : twins (x :: l) other = twin other x ++ twins l other := by simp [twins]
    rw [this, List.length_append, ih, List.length_cons]
    simp [twin]; omega
theorem owners : ∀ L : List Own, ∃ U : List Own, U.Nodup ∧ ∀ x ∈ L, x ∈ U
  | [] => ⟨[], List.nodup_nil, fun x h => by cases h⟩
  | o :: L => by
    obtain ⟨U, h1, h2⟩ := owners L
    by_cases h : o ∈ U
    · exact ⟨U, h1, fun x hx => (List.mem_cons.1 hx).elim (fun e => e ▸ h) (h2 x)⟩
    · exact ⟨o :: U, List.nodup_cons.2 ⟨h, h1⟩, fun x hx => (List.mem_cons.1 hx).elim (fun e => e ▸ List.mem_cons_self) (fun g => List.mem_cons_of_mem _ (h2 x g))⟩
theorem sum_zero {α : Type} (f : α → Int) : ∀ l : List α, (∀ x ∈ l, f x = 0) → (l.map f).sum = 0
  | [], _ => rfl
  | x :: l, h => by
    rw [List.map_cons, List.sum_cons, h x (by simp), sum_zero f l (fun y hy => h y (List.mem_cons_of_mem _ hy))]
    rfl
theorem sum_one (f : Own → Int) (o : Own) : ∀ U : List Own, U.Nodup → o ∈ U → (U.map (fun u => if o = u then f u else 0)).sum = f o
  | [], _, h => by cases h
  | u :: U, hn, h => by
    obtain ⟨h1, h2⟩ := List.nodup_cons.1 hn
    rw [List.map_cons, List.sum_cons]
    by_cases e : o = u
    · subst e
      rw [if_pos rfl, sum_zero _ U (fun v hv => by rw [if_neg (fun (g : o = v) => h1 (by rw [g]; exact hv))])]
      omega
    · rw [if_neg e, sum_one f o U h2 ((List.mem_cons.1 h).resolve_left e)]
      omega
theorem sum_add {α : Type} (f g : α → Int) : ∀ l : List α, (l.map (fun x => f x + g x)).sum = (l.map f).sum + (l.map g).sum
  | [] => rfl
  | x :: l => by
    rw [List.map_cons, List.sum_cons, sum_add f g l, List.map_cons, List.sum_cons, List.map_cons, List.sum_cons]
    omega
/-- A sum is the sum of its owners' sums. -/
theorem fiber {α : Type} (own : α → Own) (h : α → Int) (U : List Own) (hU : U.Nodup) : ∀ l : List α, (∀ x ∈ l, own x ∈ U) → (l.map h).sum = (U.map (fun o => ((l.filter (fun x => decide (own x = o))).map h).sum)).sum
  | [], _ => by simp [sum_zero]
  | x :: l, hx => by
    rw [List.map_cons, List.sum_cons, fiber own h U hU l (fun y hy => hx y (List.mem_cons_of_mem _ hy))]
    have e : ∀ o, (((x :: l).filter (fun x => decide (own x = o))).map h).sum = (if own x = o then h x else 0) + ((l.filter (fun x => decide (own x = o))).map h).sum := fun o => by
      by_cases g : own x = o
      · rw [List.filter_cons_of_pos (by simpa using g), List.map_cons, List.sum_cons, if_pos g]
      · rw [List.filter_cons_of_neg (by simpa using g), if_neg g, Int.zero_add]
    rw [show (fun o => (((x :: l).filter (fun x => decide (own x = o))).map h).sum) = fun o => (if own x = o then h x else 0) + ((l.filter (fun x => decide (own x = o))).map h).sum from funext e, sum_add]
    rw [sum_one (fun _ => h x) (own x) U hU (hx x (by simp))]
theorem filter_sum {α : Type} (p : α → Bool) (f : α → Int) : ∀ l : List α, ((l.filter p).map f).sum = (l.map (fun x => if p x = true then f x else 0)).sum
  | [] => rfl
  | x :: l => by
    by_cases g : p x = true
    · rw [List.filter_cons_of_pos g, List.map_cons, List.sum_cons, List.map_cons, List.sum_cons, if_pos g, filter_sum p f l]
    · rw [List.filter_cons_of_neg g, List.map_cons, List.sum_cons, if_neg g, filter_sum p f l, Int.zero_add]
/-- An account's balance, of one asset. -/
def hA (asset : Bs) (x : Ac) : Int := if x.asset = asset then x.bal else 0
def hL (asset : Bs) (x : Lg) : Int := if x.asset = asset then x.amt else 0
theorem bals_sum (l : List Ac) (asset : Bs) : (balsA l asset).sum = (l.map (hA asset)).sum := by
  unfold balsA
  rw [filter_sum]
  unfold hA
  congr 1
  refine List.map_congr_left (fun x _ => ?_)
  by_cases e : x.asset = asset <;> simp [e]
theorem find_fiber {l : List Ac} (h : RisesA l) (asset : Bs) (o : Own) : ((l.filter (fun x => decide (x.own = o))).map (hA asset)).sum = if o.2 = asset then (findA l o).bal else 0 := by
  rcases find_cases l o with ⟨h1, h2⟩ | ⟨h1, h2⟩
  · have hf : ∀ x ∈ l.filter (fun x => decide (x.own = o)), x = findA l o := fun x hx => by
      obtain ⟨h3, h4⟩ := List.mem_filter.1 hx
      exact rises_own h h3 h1 ((by simpa using h4 : x.own = o).trans h2.symm)
    have hnd : (l.filter (fun x => decide (x.own = o))).Nodup := by
      have : l.Nodup := by
        refine List.Pairwise.imp ?_ h
        intro a b hab e
        rw [e] at hab
        unfold aheadA at hab
        rw [ahead_irrefl] at hab; cases hab
      exact this.filter _
    have hm : findA l o ∈ l.filter (fun x => decide (x.own = o)) := List.mem_filter.2 ⟨h1, by simpa using h2⟩
    have e : l.filter (fun x => decide (x.own = o)) = [findA l o] := by
      match hl : l.filter (fun x => decide (x.own = o)) with
      | [] => rw [hl] at hm; cases hm
      | [y] => rw [hl] at hf; rw [hl, hf y (by simp)]
      | y :: z :: r =>
        rw [hl] at hf hnd
        have e1 := hf y (by simp)
        have e2 := hf z (by simp)
        exact absurd (by rw [e1, e2]; simp) (List.nodup_cons.1 hnd).1
    rw [e]
    have : (findA l o).asset = o.2 := congrArg Prod.snd h2
    simp [hA, this]
  · rw [h2, List.filter_eq_nil_iff.2 (fun x hx => by simpa using h1 x hx)]
    simp [zeroOf]
theorem amts_fiber (g : List Lg) (asset : Bs) (o : Own) : ((g.filter (fun x => decide (x.own = o))).map (hL asset)).sum = if o.2 = asset then (amtsOf g o).sum else 0 := by
  unfold amtsOf
  have hm : ∀ x ∈ g.filter (fun x => decide (x.own = o)), hL asset x = if o.2 = asset then x.amt else 0 := fun x hx => by
    have h2 : x.own = o := by simpa using (List.mem_filter.1 hx).2
    have : x.asset = o.2 := congrArg Prod.snd h2
    unfold hL
    rw [this]
  rw [List.map_congr_left hm]
  by_cases e : o.2 = asset
  · simp [e]
  · rw [if_neg e, sum_zero _ _ (fun x _ => if_neg e)]
theorem twins_sum (asset other : Bs) : ∀ legs : List Lg, ((twins legs other).map (hL asset)).sum = 0
  | [] => rfl
  | x :: l => by
    have e : twins (x :: l) other = twin other x ++ twins l other := by simp [twins]
    rw [e, List.map_append, List.sum_append, twins_sum asset other l]
    simp only [twin, List.map_cons, List.map_nil, List.sum_cons, List.sum_nil, hL]
    by_cases h : x.asset = asset
    · rw [if_pos h, if_pos h]; omega
    · rw [if_neg h, if_neg h]; rfl
/-- Legs that sum to 0 change no total. -/
theorem total_same {l a : List Ac} {legs : List Lg} {other : Bs} (h : FitA l) (hp : PostS l (amtsOf (twins legs other)) (a, 0)) (asset : Bs) : (balsA l asset).sum = (balsA a asset).sum := by
  rcases hp with ⟨_, h2, h3, h4⟩ | ⟨_, h2, _⟩
  rotate_left
  · exact absurd rfl h2
  have r1 := ((fit_iff l).1 h).2
  have r2 := ((fit_iff a).1 h3).2
  obtain ⟨U, hU, hm⟩ := owners (l.map Ac.own ++ (a.map Ac.own ++ (twins legs other).map Lg.own))
  have m1 : ∀ x ∈ l, x.own ∈ U := fun x hx => hm _ (List.mem_append.2 (.inl (List.mem_map.2 ⟨x, hx, rfl⟩)))
  have m2 : ∀ x ∈ a, x.own ∈ U := fun x hx => hm _ (List.mem_append.2 (.inr (List.mem_append.2 (.inl (List.mem_map.2 ⟨x, hx, rfl⟩)))))
  have m3 : ∀ x ∈ twins legs other, x.own ∈ U := fun x hx => hm _ (List.mem_append.2 (.inr (List.mem_append.2 (.inr (List.mem_map.2 ⟨x, hx, rfl⟩)))))
  have f1 := fiber Ac.own (hA asset) U hU l m1
  have f2 := fiber Ac.own (hA asset) U hU a m2
  have f3 := fiber Lg.own (hL asset) U hU (twins legs other) m3
  rw [twins_sum, show (fun o => (((twins legs other).filter (fun x => decide (x.own = o))).map (hL asset)).sum) = fun o => if o.2 = asset then (amtsOf (twins legs other) o).sum else 0 from funext (amts_fiber _ asset)] at f3
  rw [show (fun o => ((l.filter (fun x => decide (x.own = o))).map (hA asset)).sum) = fun o => if o.2 = asset then (findA l o).bal else 0 from funext (find_fiber r1 asset)] at f1
  rw [show (fun o => ((a.filter (fun x => decide (x.own = o))).map (hA asset)).sum) = fun o => (if o.2 = asset then (findA l o).bal else 0) + (if o.2 = asset then (amtsOf (twins legs other) o).sum else 0) from funext (fun o => by
    rw [find_fiber r2, h4]
    by_cases e : o.2 = asset
    · rw [if_pos e, if_pos e, if_pos e]
      unfold newA
      by_cases g : amtsOf (twins legs other) o = []
      · rw [if_pos g, g]; simp
      · rw [if_neg g]; rfl
    · rw [if_neg e, if_neg e, if_neg e]; rfl), sum_add, ← f3, ← f1] at f2
  rw [bals_sum, bals_sum, f2]
  omega
/-- What an owner of a leg has behind it. -/
theorem twin_own {l a : List Ac} {legs : List Lg} {other : Bs} (hp : PostS l (amtsOf (twins legs other)) (a, 0)) {x : Lg} (hx : x ∈ legs) :
    Coin.err ((amtsOf (twins legs other) x.own ++ [(findA l x.own).bal]).sum) = 0 ∧ Coin.val ((amtsOf (twins legs other) x.own ++ [(findA l x.own).bal]).sum) = (findA a x.own).bal ∧ (findA a x.own).held = (findA l x.own).held := by
  rcases hp with ⟨_, h2, h3, h4⟩ | ⟨_, h2, _⟩
  rotate_left
  · exact absurd rfl h2
  have hm : x ∈ twins legs other := List.mem_flatMap.2 ⟨x, hx, by simp [twin]⟩
  have hne : amtsOf (twins legs other) x.own ≠ [] := by
    unfold amtsOf
    rw [ne_eq, List.map_eq_nil_iff]
    intro e
    have : x ∈ (twins legs other).filter (fun y => decide (y.own = x.own)) := List.mem_filter.2 ⟨hm, by simp⟩
    rw [e] at this; cases this
  have he := (errP_bal (h2 _ hne)).2.2
  have hs : (amtsOf (twins legs other) x.own ++ [(findA l x.own).bal]).sum = (findA l x.own).bal + (amtsOf (twins legs other) x.own).sum := by
    rw [List.sum_append]
    simp
    omega
  rw [hs, h4]
  unfold newA
  rw [if_neg hne]
  exact ⟨he, (val_ok he).1, rfl⟩
/-- Some legs more, as they are written. -/
theorem append_lit (W : World) (B : Nat) (v : Value) (ys : List Lg) (h : OwnL W B v ys) (l : List Lg) (hn : ys.length + l.length ≤ 1000000) (hB : B ≤ W.heap.size) :
    ∃ v' W', (Builtin.append_ #[24, 24] 24 #[v, .slice (some ⟨W.heap.size, 0, none⟩) l.length l.length]).run Try.prog (W.alloc (.cells (l.flatMap encL).toArray 39)) = .ok v' W' ∧ OwnL W' B v' (ys ++ l) ∧ Below B W W' := by
  have b := below_box W (.cells (l.flatMap encL).toArray 39)
  have r := row_legs W l
  have s : (W.alloc (.cells (l.flatMap encL).toArray 39)).heap.size = W.heap.size + 1 := by simp
  obtain ⟨W1, hW1⟩ : ∃ W1, W.alloc (.cells (l.flatMap encL).toArray 39) = W1 := ⟨_, rfl⟩
  rw [hW1] at b r s ⊢
  obtain ⟨v', W', h1, h2, h3, h4⟩ := append_lgs W1 B v ys (h.below b) (some ⟨W.heap.size, 0, none⟩) l.length l.length l rfl (fun e => by cases e) r hn (by omega)
  exact ⟨v', W', h1, h2, (b.mono hB).grown h3 (by omega) h4⟩
end Go.Proofs.Ytobpbbldgbgcdaa.Acc
