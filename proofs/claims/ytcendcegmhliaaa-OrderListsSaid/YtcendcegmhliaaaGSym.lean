/-
  Plain: rotations, and merges by them (what slices' stable sort does).
-/
import Derived.Sort.LotA
namespace Go.Proofs.Ytcendcegmhliaaa.Gnd
open Go.Sort
variable {α : Type}

/-- Two ranges beside one another have changed places. -/
def RotF (a m b : Nat) (f : Nat → α) (k : Nat) : α := if a ≤ k ∧ k < a + (b - m) then f (k + (m - a)) else if a + (b - m) ≤ k ∧ k < b then f (k - (b - m)) else f k
/-- Two ranges of as many have changed places. -/
def SwapF (i j n : Nat) (f : Nat → α) (k : Nat) : α := if i ≤ k ∧ k < i + n then f (k + (j - i)) else if j ≤ k ∧ k < j + n then f (k - (j - i)) else f k
theorem rot_less {m i j : Nat} (f : Nat → α) (hi : i ≤ m) (hj : j < i) : RotF (m - (i - j)) m (m + j) (SwapF (m - i) m j f) = RotF (m - i) m (m + j) f := by
  funext k
  unfold RotF SwapF
  repeat' split
  all_goals first | rfl | (exfalso; omega) | (congr 1; omega)
theorem rot_more {m i j : Nat} (f : Nat → α) (hi : i ≤ m) (hj : i < j) : RotF (m - i) m (m + (j - i)) (SwapF (m - i) (m + j - i) i f) = RotF (m - i) m (m + j) f := by
  funext k
  unfold RotF SwapF
  repeat' split
  all_goals first | rfl | (exfalso; omega) | (congr 1; omega)
theorem rot_even {m i : Nat} (f : Nat → α) (hi : i ≤ m) : SwapF (m - i) m i f = RotF (m - i) m (m + i) f := by
  funext k
  unfold RotF SwapF
  repeat' split
  all_goals first | rfl | (exfalso; omega) | (congr 1; omega)
theorem rot_none {a b : Nat} (f : Nat → α) : RotF a a b f = f := by
  funext k
  unfold RotF
  repeat' split
  all_goals first | rfl | (exfalso; omega) | (congr 1; omega)
theorem rot_none2 {a m : Nat} (f : Nat → α) : RotF a m m f = f := by
  funext k
  unfold RotF
  repeat' split
  all_goals first | rfl | (exfalso; omega) | (congr 1; omega)
theorem swapF_zero {i j : Nat} (f : Nat → α) : SwapF i j 0 f = f := by
  funext k
  unfold SwapF
  repeat' split
  all_goals first | rfl | (exfalso; omega)
variable [Inhabited α] {lt : α → α → Bool}
theorem perm_from {a b : Nat} {d d' : Array α} (hb : b ≤ d.size) (h : PermIn a b d d') {i : Nat} (h1 : a ≤ i) (h2 : i < b) : ∃ j, a ≤ j ∧ j < b ∧ d'[i]! = d[j]! :=
  permIn_all d d' a b (fun x => ∃ j, a ≤ j ∧ j < b ∧ x = d[j]!) hb h (fun i h1 h2 => ⟨i, h1, h2, rfl⟩) i h1 h2
theorem swapF_next {i j k n : Nat} {d dk : Array α} (hij : i + n ≤ j) (hk : k < n) (hj : j + n ≤ dk.size) (h : ∀ x, dk[x]! = SwapF i j k (fun x => d[x]!) x) (x : Nat) : (swp dk (i + k) (j + k))[x]! = SwapF i j (k + 1) (fun x => d[x]!) x := by
  rw [swp_get dk (by omega) (by omega), h, h, h]
  unfold SwapF
  repeat' split
  all_goals first | rfl | (exfalso; omega) | (congr 1; omega)
theorem front_next {a k : Nat} {d dk : Array α} (hk : a ≤ k) (hj : k + 1 < dk.size) (h : ∀ x, dk[x]! = RotF a (a + 1) (k + 1) (fun x => d[x]!) x) (x : Nat) : (swp dk k (k + 1))[x]! = RotF a (a + 1) (k + 2) (fun x => d[x]!) x := by
  rw [swp_get dk (by omega) (by omega), h, h, h]
  unfold RotF
  repeat' split
  all_goals first | rfl | (exfalso; omega) | (congr 1; omega)
theorem back_next {k m : Nat} {d dk : Array α} (hk : k < m) (hj : m < dk.size) (h : ∀ x, dk[x]! = RotF (k + 1) m (m + 1) (fun x => d[x]!) x) (x : Nat) : (swp dk (k + 1) k)[x]! = RotF k m (m + 1) (fun x => d[x]!) x := by
  rw [swp_get dk (by omega) (by omega), h, h, h]
  unfold RotF
  repeat' split
  all_goals first | rfl | (exfalso; omega) | (congr 1; omega)
theorem sorted_le (hS : SWO lt) {a b : Nat} {d : Array α} (h : SortedIn lt a b d) {i j : Nat} (hi : a ≤ i) (hij : i ≤ j) (hj : j < b) : lt d[j]! d[i]! = false := by
  rcases Nat.eq_or_lt_of_le hij with rfl | g
  · exact hS.irrefl _
  · exact h i j hi g hj
theorem sorted_join {a mid b : Nat} {d : Array α} (h1 : SortedIn lt a mid d) (h2 : SortedIn lt mid b d) (h : ∀ x y, a ≤ x → x < mid → mid ≤ y → y < b → lt d[y]! d[x]! = false) : SortedIn lt a b d := by
  intro i j hi hij hj
  by_cases c1 : j < mid
  · exact h1 i j hi hij c1
  · by_cases c2 : mid ≤ i
    · exact h2 i j c2 hij hj
    · exact h i j hi (by omega) (by omega) hj
/-- A part of one that is sorted. -/
theorem sorted_part {a b a' b' : Nat} {d : Array α} (h : SortedIn lt a b d) (h1 : a ≤ a') (h2 : b' ≤ b) : SortedIn lt a' b' d := fun i j hi hij hj => h i j (by omega) hij (by omega)
theorem sorted_same {a b : Nat} {d d' : Array α} (h : SortedIn lt a b d) (he : ∀ i, a ≤ i → i < b → d'[i]! = d[i]!) : SortedIn lt a b d' := fun i j hi hij hj => by
  rw [he i hi (by omega), he j (by omega) hj]
  exact h i j hi hij hj
theorem sorted_out {a b x y : Nat} {d d' : Array α} (h : SortedIn lt a b d) (hp : PermIn x y d d') (ho : b ≤ x ∨ y ≤ a) : SortedIn lt a b d' :=
  sorted_same h (fun i h1 h2 => hp.2.1 i (by omega))
/-- Where two ranges that lie in order are laid by one rotation. -/
theorem rot_sorted {a s m e b : Nat} {d d' : Array α} (h1 : SortedIn lt a m d) (h2 : SortedIn lt m b d) (has : a ≤ s) (hsm : s ≤ m) (hme : m ≤ e) (heb : e ≤ b) (hr : ∀ x, d'[x]! = RotF s m e (fun x => d[x]!) x)
    (hA : ∀ x y, a ≤ x → x < s → m ≤ y → y < e → lt d[y]! d[x]! = false) (hB : ∀ x y, s ≤ x → x < m → m ≤ y → y < e → lt d[x]! d[y]! = false) (hC : ∀ x y, s ≤ x → x < m → e ≤ y → y < b → lt d[y]! d[x]! = false)
    (hD : ∀ x y, a ≤ x → x < s → e ≤ y → y < b → lt d[y]! d[x]! = false) : SortedIn lt a b d' := by
  intro i j hi hij hj
  rw [hr i, hr j]
  unfold RotF
  by_cases c1 : i < s
  · rw [if_neg (show ¬ (s ≤ i ∧ i < s + (e - m)) by omega), if_neg (show ¬ (s + (e - m) ≤ i ∧ i < e) by omega)]
    by_cases c2 : j < s
    · rw [if_neg (by omega), if_neg (by omega)]; exact h1 i j hi hij (by omega)
    by_cases c3 : j < s + (e - m)
    · rw [if_pos (by omega)]; exact hA i _ hi c1 (by omega) (by omega)
    by_cases c4 : j < e
    · rw [if_neg (by omega), if_pos (by omega)]; exact h1 i _ hi (by omega) (by omega)
    · rw [if_neg (by omega), if_neg (by omega)]; exact hD i j hi c1 (by omega) hj
  by_cases c2 : i < s + (e - m)
  · rw [if_pos (show s ≤ i ∧ i < s + (e - m) by omega)]
    by_cases c3 : j < s + (e - m)
    · rw [if_pos (by omega)]; exact h2 _ _ (by omega) (by omega) (by omega)
    by_cases c4 : j < e
    · rw [if_neg (by omega), if_pos (by omega)]; exact hB _ _ (by omega) (by omega) (by omega) (by omega)
    · rw [if_neg (by omega), if_neg (by omega)]; exact h2 _ _ (by omega) (by omega) hj
  by_cases c3 : i < e
  · rw [if_neg (show ¬ (s ≤ i ∧ i < s + (e - m)) by omega), if_pos (show s + (e - m) ≤ i ∧ i < e by omega)]
    by_cases c4 : j < e
    · rw [if_neg (by omega), if_pos (by omega)]; exact h1 _ _ (by omega) (by omega) (by omega)
    · rw [if_neg (by omega), if_neg (by omega)]; exact hC _ _ (by omega) (by omega) (by omega) hj
  · rw [if_neg (by omega), if_neg (by omega), if_neg (by omega), if_neg (by omega)]
    exact h2 i j (by omega) hij hj
/-- One that lies ahead of a range in order is laid into it. -/
theorem front_sorted (hS : SWO lt) {a i b : Nat} {d d' : Array α} (h2 : SortedIn lt (a + 1) b d) (hai : a + 1 ≤ i) (hib : i ≤ b) (hlo : i = a + 1 ∨ lt d[i - 1]! d[a]! = true) (hhi : i = b ∨ lt d[i]! d[a]! = false) (hr : ∀ x, d'[x]! = RotF a (a + 1) i (fun x => d[x]!) x) : SortedIn lt a b d' := by
  refine rot_sorted (s := a) (m := a + 1) (e := i) (fun x y h3 h4 h5 => (by omega)) h2 (Nat.le_refl _) (by omega) hai hib hr (fun x y h3 h4 => (by omega)) (fun x y h3 h4 h5 h6 => ?_) (fun x y h3 h4 h5 h6 => ?_) (fun x y h3 h4 => (by omega))
  · obtain rfl : x = a := by omega
    rcases hlo with g | g
    · omega
    · exact hS.ntrans _ _ _ (hS.asymmA g) (sorted_le hS h2 h5 (by omega) (by omega))
  · obtain rfl : x = a := by omega
    rcases hhi with g | g
    · omega
    · exact hS.ntrans _ _ _ (sorted_le hS h2 (by omega) h5 h6) g
/-- One that lies behind a range in order is laid into it. -/
theorem back_sorted (hS : SWO lt) {a i m : Nat} {d d' : Array α} (h1 : SortedIn lt a m d) (hai : a ≤ i) (him : i ≤ m) (hlo : i = a ∨ lt d[m]! d[i - 1]! = false) (hhi : i = m ∨ lt d[m]! d[i]! = true) (hr : ∀ x, d'[x]! = RotF i m (m + 1) (fun x => d[x]!) x) : SortedIn lt a (m + 1) d' := by
  refine rot_sorted (s := i) (m := m) (e := m + 1) h1 (fun x y h3 h4 h5 => (by omega)) hai him (by omega) (Nat.le_refl _) hr (fun x y h3 h4 h5 h6 => ?_) (fun x y h3 h4 h5 h6 => ?_) (fun x y h3 h4 h5 h6 => (by omega)) (fun x y h3 h4 h5 h6 => (by omega))
  · obtain rfl : y = m := by omega
    rcases hlo with g | g
    · omega
    · exact hS.ntrans _ _ _ g (sorted_le hS h1 h3 (by omega) (by omega))
  · obtain rfl : y = m := by omega
    rcases hhi with g | g
    · omega
    · exact hS.ntrans _ _ _ (sorted_le hS h1 hai h3 h4) (hS.asymmA g)
/-- What one rotation leaves of two ranges, of which as many are ahead of the middle as before. -/
structure Split (lt : α → α → Bool) (a s mid e b : Nat) (d : Array α) : Prop where
  l1 : SortedIn lt a s d
  l2 : SortedIn lt s mid d
  r1 : SortedIn lt mid e d
  r2 : SortedIn lt e b d
  cross : ∀ x y, a ≤ x → x < mid → mid ≤ y → y < b → lt d[y]! d[x]! = false
theorem sym_split (hS : SWO lt) {a s m mid e b : Nat} {d d' : Array α} (h1 : SortedIn lt a m d) (h2 : SortedIn lt m b d) (has : a ≤ s) (hsm : s ≤ m) (hme : m ≤ e) (heb : e ≤ b) (he : e + s = mid + m)
    (hL : s = a ∨ e = b ∨ lt d[e]! d[s - 1]! = false) (hR : s = m ∨ e = m ∨ lt d[e - 1]! d[s]! = true) (hr : ∀ x, d'[x]! = RotF s m e (fun x => d[x]!) x) : Split lt a s mid e b d' := by
  have f1 : ∀ x, x < s → d'[x]! = d[x]! := fun x hx => by rw [hr]; unfold RotF; rw [if_neg (by omega), if_neg (by omega)]
  have f2 : ∀ x, s ≤ x → x < mid → d'[x]! = d[x + (m - s)]! := fun x h3 h4 => by rw [hr]; unfold RotF; rw [if_pos (by omega)]
  have f3 : ∀ x, mid ≤ x → x < e → d'[x]! = d[x - (e - m)]! := fun x h3 h4 => by rw [hr]; unfold RotF; rw [if_neg (by omega), if_pos (by omega)]
  have f4 : ∀ x, e ≤ x → d'[x]! = d[x]! := fun x hx => by rw [hr]; unfold RotF; rw [if_neg (by omega), if_neg (by omega)]
  refine ⟨fun i j hi hij hj => ?_, fun i j hi hij hj => ?_, fun i j hi hij hj => ?_, fun i j hi hij hj => ?_, fun x y h3 h4 h5 h6 => ?_⟩
  · rw [f1 i (by omega), f1 j hj]; exact h1 i j hi hij (by omega)
  · rw [f2 i hi (by omega), f2 j (by omega) hj]; exact h2 _ _ (by omega) (by omega) (by omega)
  · rw [f3 i hi (by omega), f3 j (by omega) hj]; exact h1 _ _ (by omega) (by omega) (by omega)
  · rw [f4 i hi, f4 j (by omega)]; exact h2 _ _ (by omega) hij hj
  · by_cases c1 : x < s
    · rw [f1 x c1]
      by_cases c2 : y < e
      · rw [f3 y h5 c2]; exact h1 _ _ h3 (by omega) (by omega)
      · rw [f4 y (by omega)]
        rcases hL with g | g | g
        · omega
        · omega
        · exact hS.ntrans _ _ _ (hS.ntrans _ _ _ (sorted_le hS h2 hme (by omega) h6) g) (sorted_le hS h1 h3 (by omega) (by omega))
    · rw [f2 x (by omega) h4]
      by_cases c2 : y < e
      · rw [f3 y h5 c2]
        rcases hR with g | g | g
        · omega
        · omega
        · exact hS.ntrans _ _ _ (hS.ntrans _ _ _ (sorted_le hS h1 has (show s ≤ y - (e - m) by omega) (by omega)) (hS.asymmA g)) (sorted_le hS h2 (by omega) (show x + (m - s) ≤ e - 1 by omega) (by omega))
      · rw [f4 y (by omega)]; exact h2 _ _ (by omega) (by omega) h6
/-- Both halves are sorted, each for itself. -/
theorem split_end {a mid b : Nat} {d d1 d2 : Array α} (hb : b ≤ d.size) (hc : ∀ x y, a ≤ x → x < mid → mid ≤ y → y < b → lt d[y]! d[x]! = false) (hp1 : PermIn a mid d d1) (hs1 : SortedIn lt a mid d1) (hp2 : PermIn mid b d1 d2) (hs2 : SortedIn lt mid b d2) : SortedIn lt a b d2 := by
  refine sorted_join (sorted_out hs1 hp2 (.inl (Nat.le_refl _))) hs2 (fun x y h3 h4 h5 h6 => ?_)
  rw [hp2.2.1 x (.inl h4)]
  obtain ⟨x', e1, e2, e3⟩ := perm_from (by omega) hp1 h3 h4
  obtain ⟨y', g1, g2, g3⟩ := perm_from (by rw [hp1.1]; exact hb) hp2 h5 h6
  rw [e3, g3, hp1.2.1 y' (.inr g1)]
  exact hc _ _ e1 e2 g1 g2
/-- A rotation moves no other. -/
theorem perm_trans {a b : Nat} {d d' d'' : Array α} (h : PermIn a b d d') (h' : PermIn a b d' d'') : PermIn a b d d'' := permIn_trans _ _ _ _ _ h h'
theorem perm_swp {a b : Nat} {d d' : Array α} (h : PermIn a b d d') {i j : Nat} (h1 : a ≤ i) (h2 : i < b) (h3 : a ≤ j) (h4 : j < b) (hb : b ≤ d.size) : PermIn a b d (swp d' i j) :=
  permIn_trans _ _ _ _ _ h (swp_permIn d' a b i j h1 h2 h3 h4 (by rw [h.1]; exact hb))
theorem perm_wide {a b x y : Nat} {d d' : Array α} (h : PermIn x y d d') (h1 : a ≤ x) (h2 : y ≤ b) (hb : b ≤ d.size) : PermIn a b d d' := permIn_mono d d' x y a b h1 h2 hb h
end Go.Proofs.Ytcendcegmhliaaa.Gnd
