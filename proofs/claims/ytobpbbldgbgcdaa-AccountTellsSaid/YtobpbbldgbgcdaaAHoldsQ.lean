/-
  AccountHolds: plain facts; accounts that came in.
-/
import Derived.Test.YtobpbbldgbgcdaaAHoldP
import Derived.Test.YtobpbbldgbgcdaaASame
namespace Go.Proofs.Ytobpbbldgbgcdaa.Acc
open Go.RowKit Go.Sort

def zzB : Bs := [122, 122]
def zZB : Bs := [90, 90]
theorem sum_own (y : Ac) (s : Int) : (amtsOf [⟨y.who, y.asset, s⟩, ⟨zzB, zZB, 0⟩] y.own).sum = s := by
  have e : amtsOf [⟨y.who, y.asset, s⟩, ⟨zzB, zZB, 0⟩] y.own = s :: amtsOf [⟨zzB, zZB, 0⟩] y.own := by
    unfold amtsOf
    rw [List.filter_cons_of_pos (by simp [Lg.own, Ac.own])]
    rfl
  have e2 : (amtsOf [⟨zzB, zZB, 0⟩] y.own).sum = 0 := by
    unfold amtsOf
    by_cases h : (zzB, zZB) = y.own
    · have hd : decide ((⟨zzB, zZB, 0⟩ : Lg).own = y.own) = true := decide_eq_true h
      rw [List.filter_cons_of_pos (p := fun x : Lg => decide (x.own = y.own)) hd]; rfl
    · have hd : ¬ decide ((⟨zzB, zZB, 0⟩ : Lg).own = y.own) = true := fun e => h (of_decide_eq_true e)
      rw [List.filter_cons_of_neg (p := fun x : Lg => decide (x.own = y.own)) hd]; rfl
  rw [e, List.sum_cons, e2, Int.add_zero]
theorem err_in {s : Int} (h0 : -9223372036854775808 ≤ s) (h1 : s ≤ 9223372036854775807) : Coin.err s = 0 := by unfold Coin.err; rw [if_pos ⟨h0, h1⟩]
/-- Another owner's account bears 0. -/
theorem err_zero {l : List Ac} (h : FitA l) (hi : ∀ x ∈ l, AcIn x) (o : Own) : (postedA (findA l o) 0).2 = 0 := by
  have hz : Coin.err 0 = 0 := err_in (by omega) (by omega)
  rw [posted_err, if_pos hz]
  have key : Coin.err ((findA l o).bal + 0) = 0 ∧ shortA ((findA l o).bear ((findA l o).bal + 0)) = false := by
    rw [Int.add_zero]
    rcases find_cases l o with ⟨h1, _⟩ | ⟨_, h2⟩
    · have hb := hi _ h1
      exact ⟨err_in hb.b0 hb.b1, (may_parts.1 (((fit_iff l).1 h).1 _ h1)).2.2.2.1⟩
    · rw [h2]
      exact ⟨err_in (by simp [zeroOf]) (by simp [zeroOf]), by simp [zeroOf, Ac.bear, shortA]⟩
  rw [if_pos key.1, key.2]
  rfl
theorem two_ne {y : Ac} {s : Int} {o : Own} (ho : amtsOf [⟨y.who, y.asset, s⟩, ⟨zzB, zZB, 0⟩] o ≠ []) : o = y.own ∨ (o ≠ y.own ∧ amtsOf [⟨y.who, y.asset, s⟩, ⟨zzB, zZB, 0⟩] o = [0]) := by
  by_cases h : o = y.own
  · exact .inl h
  · refine .inr ⟨h, ?_⟩
    rcases amts_two _ _ o ho with e | e
    · exact absurd e h
    · unfold amtsOf
      have h' : ¬ (y.who, y.asset) = o := fun e => h e.symm
      have e' : (zzB, zZB) = o := e.symm
      simp [Lg.own, h', e']
theorem err_two {l : List Ac} {y : Ac} {s : Int} (h : FitA l) (hi : ∀ x ∈ l, AcIn x) (hy : y ∈ l) {o : Own} (ho : amtsOf [⟨y.who, y.asset, s⟩, ⟨zzB, zZB, 0⟩] o ≠ []) :
    errP l (amtsOf [⟨y.who, y.asset, s⟩, ⟨zzB, zZB, 0⟩]) o = if o = y.own then (postedA y s).2 else 0 := by
  unfold errP
  rcases two_ne ho with rfl | ⟨h1, h2⟩
  · rw [if_pos rfl, sum_own, find_mem ((fit_iff l).1 h).2 hy]
  · rw [if_neg h1, h2]
    exact err_zero h hi o
theorem post_two {l : List Ac} {y : Ac} {s : Int} {r : List Ac × Int} (h : FitA l) (hi : ∀ x ∈ l, AcIn x) (hy : y ∈ l) (hp : PostS l (amtsOf [⟨y.who, y.asset, s⟩, ⟨zzB, zZB, 0⟩]) r) : r.2 = (postedA y s).2 := by
  have hne : amtsOf [⟨y.who, y.asset, s⟩, ⟨zzB, zZB, 0⟩] y.own ≠ [] := by
    unfold amtsOf
    simp [Lg.own, Ac.own]
  rcases hp with ⟨h1, h2, _⟩ | ⟨_, h2, o, h3, h4, _⟩
  · have := h2 _ hne
    rw [err_two h hi hy hne, if_pos rfl] at this
    rw [h1, this]
  · rw [err_two h hi hy h3] at h4
    by_cases e : o = y.own
    · rw [if_pos e] at h4; exact h4
    · rw [if_neg e] at h4; exact absurd h4 h2
theorem posted_yes {y : Ac} {s : Int} (h0 : -9223372036854775808 ≤ s) (h1 : s ≤ 9223372036854775807) (g0 : y.held ≤ y.bal + s) (g1 : 0 ≤ y.held) (g2 : y.bal + s ≤ 9223372036854775807) : (postedA y s).2 = 0 := by
  have hs : shortA (y.bear (y.bal + s)) = false := by
    unfold shortA
    exact Bool.and_eq_false_iff.2 (.inr (decide_eq_false (by simp only [Ac.bear]; omega)))
  rw [posted_err, if_pos (err_in h0 h1), if_pos (err_in (by omega) g2), hs]
  rfl
theorem posted_no {y : Ac} {s : Int} (hw : y.who ≠ worldB) (h0 : -9223372036854775808 ≤ s) (h1 : s ≤ 9223372036854775807) (g0 : y.bal + s < y.held) (g1 : -9223372036854775808 ≤ y.bal + s) (g2 : y.bal + s ≤ 9223372036854775807) : (postedA y s).2 = 111 := by
  have hs : shortA (y.bear (y.bal + s)) = true := by
    unfold shortA
    rw [Bool.and_eq_true]
    exact ⟨by simpa [Ac.bear] using hw, decide_eq_true (by simp only [Ac.bear]; omega)⟩
  rw [posted_err, if_pos (err_in h0 h1), if_pos (err_in g1 g2), hs]
  rfl
theorem with_in {l : List Ac} {x y : Ac} (h : RisesA l) (hx : x ∈ l) (ho : y.own = x.own) (hi : ∀ x ∈ l, AcIn x) (hy : AcIn y) : ∀ z ∈ withA l y, AcIn z := by
  obtain ⟨k, hk, _, e⟩ := with_get h hx ho
  rw [e]
  intro z hz
  rcases List.mem_or_eq_of_mem_set hz with g | rfl
  · exact hi z g
  · exact hy
/-- What holding and freeing so much of an account does. -/
structure Held (l : List Ac) (x : Ac) (n : Int) (l1 : List Ac) : Prop where
  hold : holdA l x.who x.asset n = (l1, 0)
  free : freeA l1 x.who x.asset n = (l, 0)
  fit : FitA l1
  ins : ∀ z ∈ l1, AcIn z
  yes : ∀ r, PostS l1 (amtsOf [⟨x.who, x.asset, -(x.bal - x.held - n)⟩, ⟨zzB, zZB, 0⟩]) r → r.2 = 0
  no : ∀ r, PostS l1 (amtsOf [⟨x.who, x.asset, -(x.bal - x.held - n) - 1⟩, ⟨zzB, zZB, 0⟩]) r → r.2 = 111
  len : l1.length = l.length
theorem held_all {l : List Ac} {x : Ac} {n : Int} (h : FitA l) (hi : ∀ x ∈ l, AcIn x) (hx : x ∈ l) (hw : x.who ≠ worldB) (hn : 1 ≤ n) (hm : n ≤ x.bal - x.held) : Held l x n (withA l (x.hold (x.held + n))) := by
  obtain ⟨h1, h2, h3, h4, h5⟩ := may_out h hx (hi x hx) hw
  have hy := held_may h hx hw (m := x.held + n) (by omega) (by omega)
  have hxi := hi x hx
  have hyi : AcIn (x.hold (x.held + n)) := ⟨hxi.b0, hxi.b1, by simp only [Ac.hold]; omega, by simp only [Ac.hold]; omega⟩
  obtain ⟨f1, f2, f3⟩ := with_fit h hx (y := x.hold (x.held + n)) rfl hy
  have fi := with_in ((fit_iff l).1 h).2 hx (y := x.hold (x.held + n)) rfl hi hyi
  refine ⟨hold_yes h hx hxi hw hn hm, ?_, f1, fi, fun r hr => ?_, fun r hr => ?_, ?_⟩
  · have := free_yes (n := n) f1 f2 hyi hw hn (by simp only [Ac.hold]; omega)
    have e : (x.hold (x.held + n)).hold ((x.hold (x.held + n)).held - n) = x := by
      obtain ⟨a, b, c, d⟩ := x
      simp only [Ac.hold]
      congr 1; omega
    rw [e, with_back h hx (y := x.hold (x.held + n)) rfl hy] at this
    exact this
  · rw [post_two (y := x.hold (x.held + n)) f1 fi f2 hr]
    exact posted_yes (by omega) (by omega) (by simp only [Ac.hold]; omega) (by simp only [Ac.hold]; omega) (by simp only [Ac.hold]; omega)
  · rw [post_two (y := x.hold (x.held + n)) f1 fi f2 hr]
    exact posted_no hw (by omega) (by omega) (by simp only [Ac.hold]; omega) (by simp only [Ac.hold]; omega) (by simp only [Ac.hold]; omega)
  · obtain ⟨k, hk, _, e⟩ := with_get ((fit_iff l).1 h).2 hx (y := x.hold (x.held + n)) rfl
    rw [e, List.length_set]
theorem AcsIn.below {w w' : World} {A : Option Addr} {n c : Nat} {l : List Ac} (h : AcsIn w A n c l) (b : Below w.heap.size w w') : AcsIn w' A n c l := ⟨h.1.below b, h.2⟩
theorem load_in {w : World} {A : Option Addr} {n c : Nat} {l : List Ac} (h : AAt w A n c l) {k : Nat} (hk : k < l.length) : ∃ b off, A = some ⟨b, off, none⟩ ∧ (Instr.loadAt 35 (.pointer (some ⟨b, off + k * 4, none⟩))).run Try.prog w = .ok (.agg (encA l[k]).toArray) w := by
  obtain ⟨b, off, rfl, hbl, hc⟩ := h.row (by intro e; rw [e] at hk; simp at hk)
  exact ⟨b, off, rfl, load_ac (hc k hk)⟩
end Go.Proofs.Ytobpbbldgbgcdaa.Acc
