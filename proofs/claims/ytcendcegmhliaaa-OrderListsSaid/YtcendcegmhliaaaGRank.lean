/-
  Plain: a stable sort keeps what was ahead ahead: ranks.
-/
import Derived.Test.YtcendcegmhliaaaGBlks
namespace Go.Proofs.Ytcendcegmhliaaa.Gnd
open Go.Sort
variable {α : Type} [Inhabited α] {lt : α → α → Bool} {rk : α → Nat}

/-- Whatever lies left of m was ahead of what lies right of it. -/
def Cross (rk : α → Nat) (a m b : Nat) (d : Array α) : Prop := ∀ x y, a ≤ x → x < m → m ≤ y → y < b → rk d[x]! < rk d[y]!
theorem cross_out {a m b x y : Nat} {d d' : Array α} (h : Cross rk a m b d) (hp : PermIn x y d d') (ho : b ≤ x ∨ y ≤ a) : Cross rk a m b d' := fun i j h1 h2 h3 h4 => by
  rw [hp.2.1 i (by omega), hp.2.1 j (by omega)]
  exact h i j h1 h2 h3 h4
/-- What one rotation leaves of two ranges, and of their ranks. -/
structure SplitR (lt : α → α → Bool) (rk : α → Nat) (a s mid e b : Nat) (d : Array α) : Prop extends Split lt a s mid e b d where
  x1 : Cross rk a s mid d
  x2 : Cross rk mid e b d
theorem sym_splitR (hS : SWO lt) {a s m mid e b : Nat} {d d' : Array α} (hX : Cross rk a m b d) (h1 : SortedIn lt a m d) (h2 : SortedIn lt m b d) (has : a ≤ s) (hsm : s ≤ m) (hme : m ≤ e) (heb : e ≤ b) (he : e + s = mid + m)
    (hL : s = a ∨ e = b ∨ lt d[e]! d[s - 1]! = false) (hR : s = m ∨ e = m ∨ lt d[e - 1]! d[s]! = true) (hr : ∀ x, d'[x]! = RotF s m e (fun x => d[x]!) x) : SplitR lt rk a s mid e b d' := by
  have f1 : ∀ x, x < s → d'[x]! = d[x]! := fun x hx => by rw [hr]; unfold RotF; rw [if_neg (by omega), if_neg (by omega)]
  have f2 : ∀ x, s ≤ x → x < mid → d'[x]! = d[x + (m - s)]! := fun x h3 h4 => by rw [hr]; unfold RotF; rw [if_pos (by omega)]
  have f3 : ∀ x, mid ≤ x → x < e → d'[x]! = d[x - (e - m)]! := fun x h3 h4 => by rw [hr]; unfold RotF; rw [if_neg (by omega), if_pos (by omega)]
  have f4 : ∀ x, e ≤ x → d'[x]! = d[x]! := fun x hx => by rw [hr]; unfold RotF; rw [if_neg (by omega), if_neg (by omega)]
  exact ⟨sym_split hS h1 h2 has hsm hme heb he hL hR hr, fun x y h3 h4 h5 h6 => by
    rw [f1 x h4, f2 y h5 h6]; exact hX _ _ (by omega) (by omega) (by omega) (by omega), fun x y h3 h4 h5 h6 => by
    rw [f3 x h3 h4, f4 y h5]; exact hX _ _ (by omega) (by omega) (by omega) (by omega)⟩
/-- As it came. -/
def RkInc (rk : α → Nat) (a b : Nat) (d : Array α) : Prop := ∀ x y, a ≤ x → x < y → y < b → rk d[x]! < rk d[y]!
/-- Between two steps of one insertion. -/
structure Ins (a i j : Nat) (d dk dj : Array α) : Prop where
  perm : PermIn a (i + 1) d dj
  at_ : dj[j]! = d[i]!
  rest : ∀ x, a ≤ x → x < j → dj[x]! = dk[x]!
theorem Ins.start {a i : Nat} {d dk : Array α} (h : PermIn a i d dk) (hi : i + 1 ≤ d.size) : Ins a i i d dk dk :=
  ⟨perm_wide h (Nat.le_refl _) (Nat.le_succ _) hi, h.2.1 i (.inr (Nat.le_refl _)), fun _ _ _ => rfl⟩
theorem Ins.rank {a b i jp : Nat} {d dk dj : Array α} (h : Ins a i (jp + 1) d dk dj) (hp : PermIn a i d dk) (hR : RkInc rk a b d) (hj : a ≤ jp) (hji : jp + 1 ≤ i) (hib : i < b) (hb : b ≤ d.size) : rk dj[jp]! < rk dj[jp + 1]! := by
  rw [h.at_, h.rest jp hj (Nat.lt_succ_self _)]
  obtain ⟨x, e1, e2, e3⟩ := perm_from (by omega) hp hj (show jp < i by omega)
  rw [e3]
  exact hR _ _ e1 e2 hib
theorem Ins.swap {a i jp : Nat} {d dk dj : Array α} (h : Ins a i (jp + 1) d dk dj) (hj : a ≤ jp) (hji : jp + 1 ≤ i) (hd : i < d.size) : Ins a i jp d dk (swp dj (jp + 1) jp) := by
  have hs : dj.size = d.size := h.perm.1
  refine ⟨perm_swp h.perm (by omega) (by omega) hj (by omega) (by omega), ?_, fun x h1 h2 => ?_⟩
  · rw [swp_get dj (by omega) (by omega)]
    repeat' split
    all_goals first | exact h.at_ | (exfalso; omega)
  · rw [swp_get dj (by omega) (by omega)]
    repeat' split
    all_goals first | exact h.rest x h1 (by omega) | (exfalso; omega)
/-- What lies in an earlier block was ahead of what lies in a later one. -/
def RkB (rk : α → Nat) (s n : Nat) (d : Array α) : Prop := ∀ q x y, x < q * s → q * s ≤ y → y < n → rk d[x]! < rk d[y]!
theorem rkb_start {s n : Nat} {d : Array α} (h : RkInc rk 0 n d) : RkB rk s n d := fun _ x y h1 h2 h3 => h x y (Nat.zero_le _) (by omega) h3
theorem rkb_perm {s n q e : Nat} {d d' : Array α} (h : RkB rk s n d) (hp : PermIn (q * s) e d d') (he : e ≤ q * s + s) (hn : e ≤ n) (hd : n ≤ d.size) : RkB rk s n d' := fun p x y h1 h2 h3 => by
  have key : ∀ z, z < n → ∃ z', z' < n ∧ d'[z]! = d[z']! ∧ (z < p * s → z' < p * s) ∧ (p * s ≤ z → p * s ≤ z') := fun z hz => by
    by_cases c : q * s ≤ z ∧ z < e
    · obtain ⟨z', g1, g2, g3⟩ := perm_from (by omega) hp c.1 c.2
      refine ⟨z', by omega, g3, fun g => ?_, fun g => ?_⟩
      · rcases Nat.lt_or_ge q p with f | f
        · have := mul_next (s := s) f; omega
        · have := Nat.mul_le_mul_right s f; omega
      · rcases Nat.lt_or_ge q p with f | f
        · have := mul_next (s := s) f; omega
        · have := Nat.mul_le_mul_right s f; omega
    · exact ⟨z, hz, hp.2.1 z (by omega), id, id⟩
  obtain ⟨x', a1, a2, a3, _⟩ := key x (by omega)
  obtain ⟨y', b1, b2, _, b4⟩ := key y h3
  rw [a2, b2]
  exact h p x' y' (a3 h1) (b4 h2) b1
/-- Between two merges: those that are merged are one block each. -/
structure RkM (rk : α → Nat) (s n q0 : Nat) (d : Array α) : Prop where
  two : RkB rk (2 * s) n d
  rest : ∀ q x y, q0 * (2 * s) ≤ x → x < q * s → q * s ≤ y → y < n → rk d[x]! < rk d[y]!
theorem rkm_first {s n : Nat} {d : Array α} (h : RkB rk s n d) : RkM rk s n 0 d :=
  ⟨fun q x y h1 h2 h3 => h (2 * q) x y (by rw [mul_two]; exact h1) (by rw [mul_two]; exact h2) h3, fun q x y _ h1 h2 h3 => h q x y h1 h2 h3⟩
theorem RkM.cross {s n q0 m b : Nat} {d : Array α} (h : RkM rk s n q0 d) (hm : m = q0 * (2 * s) + s) (hb : b ≤ n) : Cross rk (q0 * (2 * s)) m b d := fun x y h1 h2 h3 h4 => by
  refine h.rest (2 * q0 + 1) x y h1 ?_ ?_ (by omega)
  · rw [Nat.succ_mul, mul_two]; omega
  · rw [Nat.succ_mul, mul_two]; omega
theorem RkM.next {s n q0 : Nat} {d d' : Array α} (h : RkM rk s n q0 d) (hp : PermIn (q0 * (2 * s)) (q0 * (2 * s) + 2 * s) d d') (hn : q0 * (2 * s) + 2 * s ≤ n) (hd : n ≤ d.size) : RkM rk s n (q0 + 1) d' :=
  ⟨rkb_perm h.two hp (Nat.le_refl _) hn hd, fun q x y h1 h2 h3 h4 => by
    rw [Nat.succ_mul] at h1
    rw [hp.2.1 x (.inr h1), hp.2.1 y (.inr (by omega))]
    exact h.rest q x y (by omega) h2 h3 h4⟩
end Go.Proofs.Ytcendcegmhliaaa.Gnd
