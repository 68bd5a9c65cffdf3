/-
  AccountOrder: the walk.
-/
import Derived.Test.YtobpbbldgbgcdaaALegs
import Derived.Test.YtobpbbldgbgcdaaAHoldP
import Derived.Deep.RegionLaw
namespace Go.Proofs.Ytobpbbldgbgcdaa.Acc
open Go.RowKit Go.Sort

theorem PostS_congr {l : List Ac} {F F' : Own → List Int} (h0 : ∀ o, F o = [] ↔ F' o = []) (h1 : ∀ o, (F o).sum = (F' o).sum) {r : List Ac × Int} (h : PostS l F r) : PostS l F' r := by
  have he : ∀ o, errP l F' o = errP l F o := fun o => by unfold errP; rw [h1]
  have hn : ∀ o, newA l F' o = newA l F o := fun o => by
    unfold newA
    rw [h1]
    by_cases e : F o = []
    · rw [if_pos e, if_pos ((h0 o).1 e)]
    · rw [if_neg e, if_neg (fun g => e ((h0 o).2 g))]
  rcases h with ⟨a1, a2, a3, a4⟩ | ⟨a1, a2, o, a3, a4, a5⟩
  · exact .inl ⟨a1, fun o ho => by rw [he]; exact a2 o (fun g => ho ((h0 o).1 g)), a3, fun o => by rw [hn]; exact a4 o⟩
  · exact .inr ⟨a1, a2, o, fun g => a3 ((h0 o).2 g), by rw [he]; exact a4, fun o' ho' ha => by rw [he]; exact a5 o' (fun g => ho' ((h0 o').1 g)) ha⟩
theorem PostR_congr {l : List Ac} {g g' : List Lg} (k1 : 1 ≤ g.length) (k2 : g.length ≤ 200) (k1' : 1 ≤ g'.length) (k2' : g'.length ≤ 200) (ha : g.any namelessB = g'.any namelessB) (h0 : ∀ o, amtsOf g o = [] ↔ amtsOf g' o = []) (h1 : ∀ o, (amtsOf g o).sum = (amtsOf g' o).sum) {r : List Ac × Int} (h : PostR l g r) : PostR l g' r := by
  unfold PostR at *
  rcases hx : g'.any namelessB with _ | _
  · rw [if_neg (by rw [ha, hx]; rintro (e | e | e) <;> first | omega | cases e)] at h
    rw [if_neg (by rintro (e | e | e) <;> first | omega | cases e)]
    exact PostS_congr h0 h1 h
  · rw [if_pos (.inr (.inr (by rw [ha, hx])))] at h
    rw [if_pos (.inr (.inr rfl))]
    exact h
theorem PostR_one {l : List Ac} {g : List Lg} {r r' : List Ac × Int} (h : PostR l g r) (h' : PostR l g r') : r = r' := by
  unfold PostR at *
  split at h
  · rename_i hh
    rw [if_pos hh] at h'
    rw [h, h']
  · rename_i hh
    rw [if_neg hh] at h'
    exact post_unique h h'
theorem amts_app (g g' : List Lg) (o : Own) : amtsOf (g ++ g') o = amtsOf g o ++ amtsOf g' o := by
  unfold amtsOf
  rw [List.filter_append, List.map_append]
theorem turn_nil (g : List Lg) (k : Nat) (o : Own) : amtsOf g o = [] ↔ amtsOf (g.drop k ++ g.take k) o = [] := by
  conv => lhs; rw [← List.take_append_drop k g]
  rw [amts_app, amts_app, List.append_eq_nil_iff, List.append_eq_nil_iff]
  exact And.comm
theorem turn_sum (g : List Lg) (k : Nat) (o : Own) : (amtsOf g o).sum = (amtsOf (g.drop k ++ g.take k) o).sum := by
  conv => lhs; rw [← List.take_append_drop k g]
  rw [amts_app, amts_app, List.sum_append, List.sum_append, Int.add_comm]
theorem turn_any (g : List Lg) (k : Nat) : g.any namelessB = (g.drop k ++ g.take k).any namelessB := by
  conv => lhs; rw [← List.take_append_drop k g]
  rw [List.any_append, List.any_append, Bool.or_comm]
def Lg.part (x : Lg) (p : Int) : List Lg := [⟨x.who, x.asset, x.amt - p⟩, ⟨x.who, x.asset, p⟩]
theorem part_nil (x : Lg) (p : Int) (t : List Lg) (o : Own) : amtsOf (x :: t) o = [] ↔ amtsOf (x.part p ++ t) o = [] := by
  rw [show x :: t = [x] ++ t from rfl, amts_app, amts_app, List.append_eq_nil_iff, List.append_eq_nil_iff]
  have : amtsOf [x] o = [] ↔ amtsOf (x.part p) o = [] := by
    unfold amtsOf Lg.part
    by_cases e : x.own = o
    · have e' : (x.who, x.asset) = o := e
      simp [Lg.own, e']
    · have e' : ¬ (x.who, x.asset) = o := e
      simp [Lg.own, e']
  rw [this]
theorem part_sum (x : Lg) (p : Int) (t : List Lg) (o : Own) : (amtsOf (x :: t) o).sum = (amtsOf (x.part p ++ t) o).sum := by
  rw [show x :: t = [x] ++ t from rfl, amts_app, amts_app, List.sum_append, List.sum_append]
  have : (amtsOf [x] o).sum = (amtsOf (x.part p) o).sum := by
    unfold amtsOf Lg.part
    by_cases e : x.own = o
    · have e' : (x.who, x.asset) = o := e
      simp [Lg.own, e']
    · have e' : ¬ (x.who, x.asset) = o := e
      simp [Lg.own, e']
  rw [this]
theorem part_any (x : Lg) (p : Int) (t : List Lg) : (x :: t).any namelessB = (x.part p ++ t).any namelessB := by
  rw [List.any_append]
  unfold Lg.part
  simp only [List.any_cons, List.any_nil, Bool.or_false]
  have h1 : namelessB ⟨x.who, x.asset, x.amt - p⟩ = namelessB x := rfl
  have h2 : namelessB ⟨x.who, x.asset, p⟩ = namelessB x := rfl
  rw [h1, h2, Bool.or_self]
theorem rowL_drop {w : World} {b o k : Nat} {l : List Lg} (h : RowL w (some ⟨b, o, none⟩) l) (hk : k ≤ l.length) : RowL w (some ⟨b, o + k * 3, none⟩) (l.drop k) := by
  intro hne
  have hlt : k < l.length := by
    rcases Nat.lt_or_ge k l.length with h' | h'
    · exact h'
    · exact absurd (List.drop_eq_nil_of_le h') hne
  obtain ⟨b', o', he, hb, hc⟩ := h (by intro e; subst e; simp at hlt)
  injection he with he
  injection he with e1 e2
  subst e1 e2
  refine ⟨b, o + k * 3, rfl, hb, fun j hj => ?_⟩
  rw [List.length_drop] at hj
  have := hc (k + j) (by omega)
  rw [List.getElem_drop, show o + k * 3 + j * 3 = o + (k + j) * 3 by omega]
  exact this
theorem rowL_take {w : World} {A : Option Addr} {l : List Lg} (h : RowL w A l) (k : Nat) : RowL w A (l.take k) := by
  intro hne
  obtain ⟨b, o, rfl, hb, hc⟩ := h (by intro e; subst e; simp at hne)
  refine ⟨b, o, rfl, hb, fun j hj => ?_⟩
  rw [List.length_take] at hj
  rw [List.getElem_take]
  exact hc j (by omega)
theorem rowL_grown {w w' : World} {A : Option Addr} {l : List Lg} {row : Option Nat} (h : RowL w A l) (hg : w.grownBy w' row) (hr : ∀ b o, A = some ⟨b, o, none⟩ → b < w.heap.size → some b ≠ row) : RowL w' A l := by
  intro hne
  obtain ⟨b, o, rfl, hb, hc⟩ := h hne
  exact ⟨b, o, rfl, Nat.lt_of_lt_of_le hb hg.size, fun k hk i v hv => (World.cell?_of_block (hg.block b hb (hr b o rfl hb))).trans (hc k hk i v hv)⟩
/-- The turned legs are laid in a row of the call's own. -/
theorem turned_row {w w1 : World} {b off m c : Nat} {legs : List Lg} {k : Nat} (hlen : legs.length = m) (hm : m ≤ 1000) (hrow : RowL w (some ⟨b, off, none⟩) legs) (hb : b < w.heap.size) (hk : k < m) (B1 : Below w.heap.size w w1) :
    ∃ v2 W2 v3 W3, (Builtin.append_ #[24, 24] 24 #[.slice (some ⟨w1.heap.size, 0, none⟩) 0 0, .slice (some ⟨b, off + k * 3, none⟩) (m - k) (c - k)]).run Try.prog (w1.alloc (.cells #[] 39)).drew = .ok v2 W2 ∧
      (Builtin.append_ #[24, 24] 24 #[v2, .slice (some ⟨b, off, none⟩) k c]).run Try.prog W2 = .ok v3 W3 ∧ OwnL W3 w1.heap.size v3 (legs.drop k ++ legs.take k) ∧ Below w1.heap.size w1 W3 := by
  have C1 : Below w1.heap.size w1 (w1.alloc (.cells #[] 39)).drew := ((Below.refl _ _).alloc (Nat.le_refl _) _).drew
  have s1 : (w1.alloc (.cells #[] 39)).drew.heap.size = w1.heap.size + 1 := by simp
  have O1 : OwnL (w1.alloc (.cells #[] 39)).drew w1.heap.size (.slice (some ⟨w1.heap.size, 0, none⟩) 0 0) [] := ownL_new w1
  obtain ⟨W1, hW1⟩ : ∃ W1, (w1.alloc (.cells #[] 39)).drew = W1 := ⟨_, rfl⟩
  rw [hW1] at C1 s1 O1 ⊢
  have R1 := (hrow.below B1).below C1
  obtain ⟨v2, W2, r2, o2, g2, h2⟩ := append_lgs W1 w1.heap.size _ [] O1 (some ⟨b, off + k * 3, none⟩) (m - k) (c - k) (legs.drop k) (by rw [List.length_drop, hlen]) (fun e => by cases e) (rowL_drop R1 (by omega)) (by simp; omega) (by omega)
  have hb1 : b < w1.heap.size := Nat.lt_of_lt_of_le hb B1.size
  have R2 := rowL_grown R1 g2 (fun b' o' e _ e2 => by
    injection e with e
    injection e with e3 e4
    subst e3
    have := h2 b e2.symm
    omega)
  obtain ⟨v3, W3, r3, o3, g3, h3⟩ := append_lgs W2 w1.heap.size v2 _ o2 (some ⟨b, off, none⟩) k c (legs.take k) (by rw [List.length_take]; omega) (fun e => by cases e) (rowL_take R2 k) (by rw [List.nil_append, List.length_drop]; omega) (by have := g2.size; omega)
  refine ⟨v2, W2, v3, W3, r2, r3, by simpa using o3, (C1.grown g2 (by omega) h2).grown g3 (by have := g2.size; omega) h3⟩
end Go.Proofs.Ytobpbbldgbgcdaa.Acc
