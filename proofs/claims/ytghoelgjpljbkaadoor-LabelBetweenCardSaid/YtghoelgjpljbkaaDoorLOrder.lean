/-
  Plain facts on the order of texts: numbers' digits, and keys.
-/
import Derived.Test.YtghoelgjpljbkaaDoorLHex
import Derived.Test.YtghoelgjpljbkaaDoorLKeys
namespace Go.Proofs.YtghoelgjpljbkaaDoor.Label
open Go.Op (bytesLess)

theorem less_same : ∀ x : List UInt8, bytesLess x x = false
  | [] => rfl
  | c :: x => by simp [bytesLess, less_same x]
theorem less_total : ∀ {x y : List UInt8}, bytesLess x y = false → x ≠ y → bytesLess y x = true
  | [], [], _, h => absurd rfl h
  | [], _ :: _, h, _ => by simp [bytesLess] at h
  | _ :: _, [], _, _ => rfl
  | a :: x, b :: y, h, hn => by
    simp only [bytesLess, Bool.or_eq_false_iff, Bool.and_eq_false_iff, decide_eq_false_iff_not] at h
    simp only [bytesLess, Bool.or_eq_true, Bool.and_eq_true, decide_eq_true_eq, beq_iff_eq]
    by_cases hab : a = b
    · subst hab
      right
      refine ⟨rfl, less_total (h.2.elim (fun e => by simp at e) id) (fun e => hn (by rw [e]))⟩
    · left
      have h1 := h.1
      rw [UInt8.lt_iff_toNat_lt] at h1 ⊢
      have : a.toNat ≠ b.toNat := fun e => hab (UInt8.toNat_inj.1 e)
      omega
theorem less_pre : ∀ p x y : List UInt8, bytesLess (p ++ x) (p ++ y) = bytesLess x y
  | [], _, _ => rfl
  | c :: p, x, y => by simp [bytesLess, less_pre p x y]
theorem less_snoc (c d : UInt8) : ∀ p q : List UInt8, p.length = q.length → bytesLess (p ++ [c]) (q ++ [d]) = (bytesLess p q || (p == q && decide (c < d)))
  | [], [], _ => by simp [bytesLess]
  | [], _ :: _, h => by simp at h
  | _ :: _, [], h => by simp at h
  | a :: p, b :: q, h => by
    have ih := less_snoc c d p q (by simpa using h)
    simp only [List.cons_append, bytesLess, ih]
    by_cases hab : a = b
    · subst hab; simp
    · have e1 : (a == b) = false := beq_eq_false_iff_ne.2 hab
      have e2 : (a :: p == b :: q) = false := by simp [e1]
      rw [e1, e2]; simp
theorem hexd_lt (x y : Nat) (h : x < 16) (g : y < 16) : decide (hexd x < hexd y) = decide (x < y) := by
  rw [Bool.eq_iff_iff, decide_eq_true_eq, decide_eq_true_eq, UInt8.lt_iff_toNat_lt, hexd_toNat x h, hexd_toNat y g]
  split <;> split <;> omega
theorem hexN_eq (k a b : Nat) (ha : a < 16 ^ k) (hb : b < 16 ^ k) : (hexN k a == hexN k b) = decide (a = b) := by
  rw [Bool.eq_iff_iff, beq_iff_eq, decide_eq_true_eq]
  exact ⟨hexN_inj k a b ha hb, fun e => by rw [e]⟩
theorem hexN_less : ∀ (k a b : Nat), a < 16 ^ k → b < 16 ^ k → bytesLess (hexN k a) (hexN k b) = decide (a < b)
  | 0, a, b, ha, hb => by simp at ha hb; subst ha hb; rfl
  | k + 1, a, b, ha, hb => by
    have h1 : a / 16 < 16 ^ k := by rw [Nat.pow_succ] at ha; omega
    have h2 : b / 16 < 16 ^ k := by rw [Nat.pow_succ] at hb; omega
    simp only [hexN]
    rw [less_snoc _ _ _ _ (by rw [hexN_len, hexN_len]), hexN_less k _ _ h1 h2, hexN_eq k _ _ h1 h2, hexd_lt _ _ (by omega) (by omega)]
    rw [Bool.eq_iff_iff]
    simp
    omega

/-- A text between a key, and a bar, and its end, begins so. -/
theorem between : ∀ K O : List UInt8, (bytesLess (K ++ [124]) O && bytesLess O (K ++ [125])) = true → ∃ r, r ≠ [] ∧ O = K ++ 124 :: r
  | [], [], h => by simp [bytesLess] at h
  | [], c :: O, h => by
    simp only [List.nil_append, bytesLess, Bool.and_eq_true, Bool.or_eq_true, decide_eq_true_eq, beq_iff_eq] at h
    obtain ⟨h1, h2⟩ := h
    have hc : c = 124 := by
      rcases h1 with h1 | ⟨h1, _⟩
      · rcases h2 with h2 | ⟨_, h2⟩
        · rw [UInt8.lt_iff_toNat_lt] at h1 h2
          have : (124 : UInt8).toNat = 124 := rfl
          have : (125 : UInt8).toNat = 125 := rfl
          omega
        · simp at h2
      · exact h1.symm
    subst hc
    refine ⟨O, ?_, rfl⟩
    rcases h1 with h1 | ⟨_, h1⟩
    · exact absurd h1 (by decide)
    · intro e; subst e; simp [bytesLess] at h1
  | k :: K, [], h => by simp [bytesLess] at h
  | k :: K, c :: O, h => by
    simp only [List.cons_append, bytesLess, Bool.and_eq_true, Bool.or_eq_true, decide_eq_true_eq, beq_iff_eq] at h
    obtain ⟨h1, h2⟩ := h
    have hc : k = c := by
      rcases h1 with h1 | ⟨h1, _⟩
      · rcases h2 with h2 | ⟨h2, _⟩
        · rw [UInt8.lt_iff_toNat_lt] at h1 h2; omega
        · exact h2.symm
      · exact h1
    subst hc
    have hn : ¬ k < k := by rw [UInt8.lt_iff_toNat_lt]; omega
    obtain ⟨r, hr, e⟩ := between K O (by rw [Bool.and_eq_true]; exact ⟨h1.elim (fun x => absurd x hn) (·.2), h2.elim (fun x => absurd x hn) (·.2)⟩)
    exact ⟨r, hr, by rw [e]; rfl⟩
theorem between_of (K r : List UInt8) (hr : r ≠ []) : bytesLess (K ++ [124]) (K ++ 124 :: r) = true ∧ bytesLess (K ++ 124 :: r) (K ++ [125]) = true := by
  rw [less_pre, less_pre]
  cases r with
  | nil => exact absurd rfl hr
  | cons c r => exact ⟨by simp [bytesLess], by simp [bytesLess]⟩
/-- Keys of which one begins as another one. -/
theorem bars_split : ∀ (ps qs : List (List UInt8)) (r : List UInt8), (∀ p ∈ ps, partOk p = true) → (∀ q ∈ qs, partOk q = true) → bars qs = bars ps ++ 124 :: r → ∃ ts, qs = ps ++ ts ∧ ts ≠ []
  | [], qs, r, _, _, e => ⟨qs, rfl, by intro h; rw [h] at e; simp [bars] at e⟩
  | p :: ps, [], r, _, _, e => by rw [bars_cons] at e; simp [bars] at e
  | p :: ps, q :: qs, r, hp, hq, e => by
    rw [bars_cons, bars_cons] at e
    simp only [List.cons_append, List.cons.injEq, true_and, List.append_assoc] at e
    have hpq : p = q ∧ bars qs = bars ps ++ 124 :: r := by
      have n1 := part_nobar (hp p (List.mem_cons_self ..))
      have n2 := part_nobar (hq q (List.mem_cons_self ..))
      have h1 : ∀ (x : List UInt8), (x = [] ∨ ∃ y, x = 124 :: y) → ∀ (z : List UInt8), (z = [] ∨ ∃ y, z = 124 :: y) → ∀ (a b : List UInt8), (∀ c ∈ a, c ≠ 124) → (∀ c ∈ b, c ≠ 124) → a ++ x = b ++ z → a = b ∧ x = z := by
        intro x hx z hz a
        induction a with
        | nil =>
          intro b _ hb e
          cases b with
          | nil => exact ⟨rfl, e⟩
          | cons c b =>
            rcases hx with rfl | ⟨y, rfl⟩
            · simp at e
            · simp at e; exact absurd e.1.symm (hb c (List.mem_cons_self ..))
        | cons d a ih =>
          intro b ha hb e
          cases b with
          | nil =>
            rcases hz with rfl | ⟨y, rfl⟩
            · simp at e
            · simp at e; exact absurd e.1 (ha d (List.mem_cons_self ..))
          | cons c b =>
            simp only [List.cons_append, List.cons.injEq] at e
            obtain ⟨i1, i2⟩ := ih b (fun c h => ha c (List.mem_cons_of_mem _ h)) (fun c h => hb c (List.mem_cons_of_mem _ h)) e.2
            exact ⟨by rw [e.1, i1], i2⟩
      have hbar : ∀ ws : List (List UInt8), bars ws = [] ∨ ∃ y, bars ws = 124 :: y := fun ws => by
        cases ws with
        | nil => exact Or.inl rfl
        | cons w ws => exact Or.inr ⟨_, bars_cons w ws⟩
      have := h1 _ (hbar qs) (bars ps ++ 124 :: r) (by
        rcases hbar ps with h | ⟨y, h⟩
        · rw [h]; exact Or.inr ⟨r, rfl⟩
        · rw [h]; exact Or.inr ⟨_, rfl⟩) q p n2 n1 e
      exact ⟨this.1.symm, this.2⟩
    obtain ⟨rfl, e'⟩ := hpq
    obtain ⟨ts, h1, h2⟩ := bars_split ps qs r (fun x h => hp x (List.mem_cons_of_mem _ h)) (fun x h => hq x (List.mem_cons_of_mem _ h)) e'
    exact ⟨ts, by rw [h1]; rfl, h2⟩
end Go.Proofs.YtghoelgjpljbkaaDoor.Label
