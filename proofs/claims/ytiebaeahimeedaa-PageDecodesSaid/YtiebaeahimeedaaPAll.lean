/-
  Contracts of page's all and rising.
-/
import Derived.Test.YtiebaeahimeedaaPBase
import Derived.BigQuiet
import Derived.Laws.StructEq
namespace Go.Proofs.Ytiebaeahimeedaa.Page
open Go.RowKit Gen

/-- Each is less than the next one. -/
def Rises {α : Type} (lt : α → α → Prop) (l : List α) : Prop := ∀ j (h : j + 1 < l.length), lt l[j] l[j + 1]
/-- Nothing but the count of draws has changed. -/
def Drew (w w' : World) : Prop := ∃ n, w' = w.drewN n
theorem Drew.refl (w : World) : Drew w w := ⟨0, rfl⟩
theorem Drew.drew {w w' : World} (h : Drew w w') : Drew w w'.drew := by
  obtain ⟨n, rfl⟩ := h
  exact ⟨n + 1, rfl⟩
theorem Drew.drewN {w w' : World} (h : Drew w w') (m : Nat) : Drew w (w'.drewN m) := by
  obtain ⟨n, rfl⟩ := h
  exact ⟨n + m, by rw [World.drewN_drewN]⟩
theorem Drew.cell {w w' : World} (h : Drew w w') (p : Addr) : w'.cell? p = w.cell? p := by
  obtain ⟨n, rfl⟩ := h
  rfl
theorem Drew.heap {w w' : World} (h : Drew w w') : w'.heap = w.heap := by
  obtain ⟨n, rfl⟩ := h
  rfl
theorem Drew.below {w w' : World} (h : Drew w w') (B : Nat) : Below B w w' := by
  obtain ⟨n, rfl⟩ := h
  exact ⟨rfl, rfl, rfl, Nat.le_refl _, fun _ _ => rfl⟩
theorem Drew.trans {w w1 w2 : World} (h : Drew w w1) (g : Drew w1 w2) : Drew w w2 := by
  obtain ⟨m, rfl⟩ := g
  exact h.drewN m
/-- A region that draws its order and only reads; the world behind the draw under a letter. -/
theorem region_still {P : Program} {id : Nat} {Q : Exit → Act → World → Prop} {a : Act} {w : World} {l : List Oper} (hm : P.follows .mixedOrders = true) (hB : Region.lexB .any l.toArray = true)
    (h : ∀ w1, w1 = w.drew → wpStill P l.toArray w1 (fun a' => Q .normal a' w1) l a) : (Code.region id l.toArray true).wp P Q a w := wp_region_still_lit hm hB (h _ rfl)
/-- An answer that tells whether something is so, and has but drawn. -/
def TellsD (p : Prop) (w : World) (e : Ending) (w' : World) : Prop := ∃ r : Bool, e = .returned (.bool r) ∧ (r = true ↔ p) ∧ Drew w w'

theorem allKeys_any (A : Option Addr) (n c : Nat) (l : List Bs) (w : World) (hl : l.length = n) (hn : n ≤ 9223372036854775807) (hR : SRow w A l) :
    Calls Try.prog 57 #[.slice A n c, .func (.func 58) #[] #[]] w (TellsQ (∀ s ∈ l, KeyOk s) w) := by
  have HR := Lib.hid hR
  have HL := Lib.hid hl
  clear hR hl
  go_enter Try.func57, Try.ntmps57
  go_wp2_with fail
  go_loop [9] (fun i => ∃ k : Nat, i = .int .i64 k ∧ k ≤ n ∧ Hid (∀ j (h : j < l.length), j < k → KeyOk l[j])) (fun i => n - (intOf i).toNat)
  case atStart => exact ⟨0, rfl, Nat.zero_le _, Lib.hid (fun j h hj => absurd hj (Nat.not_lt_zero j))⟩
  case round =>
    obtain ⟨k, rfl, hk, hQ⟩ := hrel
    by_cases hlt : k < n
    · have hkl : k < l.length := by have := HL.out; omega
      obtain ⟨b, off, rfl, hb, hc⟩ := HR.out (by intro e; subst e; simp at hkl)
      have hck := hc k hkl
      clear hc
      have HS : Hid (∀ r : Bool, (r = true ↔ KeyOk l[k]) → (r = true → ∀ j (h : j < l.length), j < k + 1 → KeyOk l[j]) ∧ (r = false → ¬ ∀ s ∈ l, KeyOk s)) := Lib.hid (fun r hr => ⟨fun h j hj hjk => by
        by_cases e : j = k
        · subst e; exact hr.1 h
        · exact hQ.out j hj (by omega), fun h h2 => by
          have := hr.2 (h2 _ (List.getElem_mem hkl))
          rw [h] at this; cases this⟩)
      generalize hx : l[k] = x at hck HS
      clear hx hQ
      go_wp2_with fail
      refine (isKey_any _ _).mono ?_
      rintro e w' ⟨r, rfl, hr, rfl⟩
      obtain ⟨h1, h2⟩ := HS.out r hr
      rcases r with _ | _
      · have HN := Lib.hid (h2 rfl)
        clear h1 h2 HS hr
        go_wp2_with fail
        go_ret
        exact ⟨_, rfl, ⟨fun h => (by cases h), fun h => absurd h HN.out⟩, rfl⟩
      · have HN := Lib.hid (h1 rfl)
        clear h1 h2 HS hr
        go_wp2_with fail
        go_round
        case rel => exact ⟨k + 1, by go_num, by omega, HN⟩
        case measure => simp [intOf]; omega
    · have HN : Hid (∀ s ∈ l, KeyOk s) := Lib.hid (fun s hs => by
        obtain ⟨j, hj, rfl⟩ := List.getElem_of_mem hs
        exact hQ.out j hj (by have := HL.out; omega))
      clear hQ
      go_wp2_with fail
      go_ret
      exact ⟨_, rfl, ⟨fun _ => HN.out, fun _ => rfl⟩, rfl⟩
theorem allPlaces_any (A : Option Addr) (n c : Nat) (l : List Int) (w : World) (hl : l.length = n) (hn : n ≤ 9223372036854775807) (hR : IRow w A l) :
    Calls Try.prog 60 #[.slice A n c, .func (.func 22) #[] #[]] w (TellsQ (∀ s ∈ l, Place s) w) := by
  have HR := Lib.hid hR
  have HL := Lib.hid hl
  clear hR hl
  go_enter Try.func60, Try.ntmps60
  go_wp2_with fail
  go_loop [9] (fun i => ∃ k : Nat, i = .int .i64 k ∧ k ≤ n ∧ Hid (∀ j (h : j < l.length), j < k → Place l[j])) (fun i => n - (intOf i).toNat)
  case atStart => exact ⟨0, rfl, Nat.zero_le _, Lib.hid (fun j h hj => absurd hj (Nat.not_lt_zero j))⟩
  case round =>
    obtain ⟨k, rfl, hk, hQ⟩ := hrel
    by_cases hlt : k < n
    · have hkl : k < l.length := by have := HL.out; omega
      obtain ⟨b, off, rfl, hb, hc⟩ := HR.out (by intro e; subst e; simp at hkl)
      have hck := hc k hkl
      clear hc
      have HS : Hid (∀ r : Bool, (r = true ↔ Place l[k]) → (r = true → ∀ j (h : j < l.length), j < k + 1 → Place l[j]) ∧ (r = false → ¬ ∀ s ∈ l, Place s)) := Lib.hid (fun r hr => ⟨fun h j hj hjk => by
        by_cases e : j = k
        · subst e; exact hr.1 h
        · exact hQ.out j hj (by omega), fun h h2 => by
          have := hr.2 (h2 _ (List.getElem_mem hkl))
          rw [h] at this; cases this⟩)
      generalize hx : l[k] = x at hck HS
      clear hx hQ
      go_wp2_with fail
      refine (isPlace_any _ _).mono ?_
      rintro e w' ⟨r, rfl, hr, rfl⟩
      obtain ⟨h1, h2⟩ := HS.out r hr
      rcases r with _ | _
      · have HN := Lib.hid (h2 rfl)
        clear h1 h2 HS hr
        go_wp2_with fail
        go_ret
        exact ⟨_, rfl, ⟨fun h => (by cases h), fun h => absurd h HN.out⟩, rfl⟩
      · have HN := Lib.hid (h1 rfl)
        clear h1 h2 HS hr
        go_wp2_with fail
        go_round
        case rel => exact ⟨k + 1, by go_num, by omega, HN⟩
        case measure => simp [intOf]; omega
    · have HN : Hid (∀ s ∈ l, Place s) := Lib.hid (fun s hs => by
        obtain ⟨j, hj, rfl⟩ := List.getElem_of_mem hs
        exact hQ.out j hj (by have := HL.out; omega))
      clear hQ
      go_wp2_with fail
      go_ret
      exact ⟨_, rfl, ⟨fun _ => HN.out, fun _ => rfl⟩, rfl⟩
/-- What a round of rising finds. -/
theorem rises_step {α : Type} {lt : α → α → Prop} {l : List α} {k : Nat} (hk : k + 1 < l.length) (hQ : ∀ j (h : j + 1 < l.length), j < k → lt l[j] l[j + 1]) :
    (lt l[k] l[k + 1] → ∀ j (h : j + 1 < l.length), j < k + 1 → lt l[j] l[j + 1]) ∧ (¬ lt l[k] l[k + 1] → ¬ Rises lt l) :=
  ⟨fun h j hj hjk => by
    by_cases e : j = k
    · subst e; exact h
    · exact hQ j hj (by omega), fun h h2 => h (h2 k hk)⟩
set_option maxRecDepth 100000 in
theorem risingInts_any (A : Option Addr) (n c : Nat) (l : List Int) (w : World) (hl : l.length = n) (hn : n ≤ 9223372036854775807) (hR : IRow w A l) :
    Calls Try.prog 61 #[.slice A n c] w (TellsD (Rises (· < ·) l) w) := by
  have HR := Lib.hid hR
  have HL := Lib.hid hl
  clear hR hl
  go_enter Try.func61, Try.ntmps61
  go_wp2_with fail
  go_loopw [3] (fun i wr => ∃ k : Nat, i = .int .i64 ((k : Int) + 1) ∧ (k ≤ n) ∧ Hid (∀ j (h : j + 1 < l.length), j < k → l[j] < l[j + 1]) ∧ Drew w wr) (fun i _ => n + 1 - (intOf i).toNat)
  case atStart => exact ⟨0, rfl, Nat.zero_le _, Lib.hid (fun j h hj => absurd hj (Nat.not_lt_zero j)), Drew.refl _⟩
  case round =>
    obtain ⟨k, rfl, hk, hQ, hD⟩ := hrel
    have HD := Lib.hid hD
    clear hD
    by_cases hlt : k + 1 < n
    · have hkl : k + 1 < l.length := by have := HL.out; omega
      obtain ⟨b, off, rfl, hb, hc⟩ := HR.out (by intro e; subst e; simp at hkl)
      have hc1 := hc k (by omega)
      have hc2 := hc (k + 1) hkl
      obtain ⟨h1, h2⟩ := rises_step hkl hQ.out
      have H1 := Lib.hid h1
      have H2 := Lib.hid h2
      generalize hx : l[k] = x at hc1 H1 H2
      generalize hy : l[k + 1] = y at hc2 H1 H2
      rw [← HD.out.cell] at hc1 hc2
      have e1 : (k : Int) + 1 - 1 = (k : Int) := by omega
      have e2 : ((k : Int) + 1).toNat = k + 1 := by omega
      clear hx hy hc h1 h2 hQ
      by_cases hxy : x < y
      · have d : decide (y ≤ x) = false := by simp; omega
        have HN := Lib.hid (H1.out hxy)
        clear H1 H2 hxy
        go_wp2_with fail
        go_quiet (fail)
        go_wp2_with fail
        go_roundw
        case rel => exact ⟨k + 1, by go_num, by omega, HN, HD.out.drewN _⟩
        case measure => simp [intOf]; omega
      · have d : decide (y ≤ x) = true := by simp; omega
        have HN := Lib.hid (H2.out hxy)
        clear H1 H2 hxy
        go_wp2_with fail
        go_quiet (fail)
        go_wp2_with fail
        go_ret
        exact ⟨_, rfl, ⟨fun h => (by cases h), fun h => absurd h HN.out⟩, HD.out.drewN _⟩
    · have HN : Hid (Rises (· < ·) l) := Lib.hid (fun j hj => hQ.out j hj (by have := HL.out; omega))
      clear hQ
      go_wp2_with fail
      go_ret
      exact ⟨_, rfl, ⟨fun _ => HN.out, fun _ => rfl⟩, HD.out⟩
end Go.Proofs.Ytiebaeahimeedaa.Page
