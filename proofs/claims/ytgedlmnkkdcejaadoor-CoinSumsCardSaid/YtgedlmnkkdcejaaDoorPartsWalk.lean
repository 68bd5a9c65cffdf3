/-
  The walk of CoinParts.
-/
import Derived.Test.YtgedlmnkkdcejaaDoorAwake
import Derived.Test.YtgedlmnkkdcejaaDoorAppend
namespace Go.Proofs.YtgedlmnkkdcejaaDoor.Coin
open Go.RowKit

theorem val_bd (x : Int) : -9223372036854775808 ≤ val x ∧ val x ≤ 9223372036854775807 := by unfold val; split <;> omega
theorem own_none (W : World) : Own (W.alloc (.cells #[] 2)) W.heap.size (.slice (some ⟨W.heap.size, 0, none⟩) 0 0) [] :=
  ⟨rfl, .inr ⟨W.heap.size, 0, #[], rfl, Nat.le_refl _, heap_alloc_new _ _, Nat.le_refl _, Nat.zero_le _, rfl, rfl⟩⟩
theorem amounts_append {zs ys : List Int} (h : Amounts zs) (g : Amounts ys) : Amounts (zs ++ ys) := fun z hz => by
  rcases List.mem_append.1 hz with h' | h'
  · exact h z h'
  · exact g z h'

set_option maxHeartbeats 2000000 in
theorem parts_core (A : Option Addr) (m c : Nat) (zs : List Int) (A' : Option Addr) (m' c' : Nat) (zs' : List Int) (w : World)
    (z : zs.length = m) (hl : m ≤ 50) (nl : A = none → c = 0) (rw' : Row w A zs) (am : Amounts zs) (z' : zs'.length = m') (hl' : m' ≤ 50) (nl' : A' = none → c' = 0) (rw'' : Row w A' zs') (am' : Amounts zs') (hr : Ready w)
    (x y : Int) (hadd : ∀ w : World, Calls Tryd.prog 12 #[.int .i64 (val zs.sum), .int .i64 (val zs'.sum)] w fun e w' => e = .returned (.tuple #[.int .i64 x, .int .i64 y]) ∧ Below w.heap.size w w')
    (hc : (err zs.sum != 0) = true ∨ (err zs.sum != 0) = false ∧ (err zs'.sum != 0) = true ∨ (err zs.sum != 0) = false ∧ (err zs'.sum != 0) = false ∧ x = val (zs ++ zs').sum ∧ y = err (zs ++ zs').sum) :
    Calls Tryd.prog 10 #[.slice A m c, .slice A' m' c'] w fun e w' => e = .returned (.bool true) ∧ Below w.heap.size w w' := by
  have HZ := Lib.hid z
  have HZ' := Lib.hid z'
  have HN := Lib.hid nl
  have HN' := Lib.hid nl'
  have HA := Lib.hid hadd
  have g1 : decide (50 < m) = false := by simp; omega
  have g2 : decide (50 < m') = false := by simp; omega
  have hm : (m : Int) ≤ 50 := by omega
  have hm' : (m' : Int) ≤ 50 := by omega
  clear z z' nl nl' hadd
  generalize hx1 : val zs.sum = x1 at *
  generalize hx2 : err zs.sum = x2 at *
  generalize hy1 : val zs'.sum = y1 at *
  generalize hy2 : err zs'.sum = y2 at *
  generalize ht1 : val (zs ++ zs').sum = t1 at *
  generalize ht2 : err (zs ++ zs').sum = t2 at *
  have hS : ∀ W, Row W A zs → Calls Tryd.prog 18 #[.slice A m c] W fun e w' => e = .returned (.tuple #[.int .i64 x1, .int .i64 x2]) ∧ Below W.heap.size W w' := fun W hW => by
    rw [← hx1, ← hx2]; exact sum_any A m c zs W HZ.out (by omega) hW am
  have hS' : ∀ W, Row W A' zs' → Calls Tryd.prog 18 #[.slice A' m' c'] W fun e w' => e = .returned (.tuple #[.int .i64 y1, .int .i64 y2]) ∧ Below W.heap.size W w' := fun W hW => by
    rw [← hy1, ← hy2]; exact sum_any A' m' c' zs' W HZ'.out (by omega) hW am'
  have hT : ∀ W B v, Own W B v (zs ++ zs') → Calls Tryd.prog 18 #[v] W fun e w' => e = .returned (.tuple #[.int .i64 t1, .int .i64 t2]) ∧ Below W.heap.size W w' := fun W B v hW => by
    obtain ⟨A0, c0, rfl, _, hrow⟩ := hW.row
    rw [← ht1, ← ht2]; exact sum_any A0 _ c0 (zs ++ zs') W rfl (by rw [List.length_append]; have := HZ.out; have := HZ'.out; omega) hrow (amounts_append am am')
  have HS := Lib.hid hS
  have HS' := Lib.hid hS'
  have HT := Lib.hid hT
  clear hS hS' hT hx1 hx2 hy1 hy2 ht1 ht2 am am'
  rcases hc with hc | ⟨hc, hd⟩ | ⟨hc, hd, rfl, rfl⟩
  all_goals
    go_enter Tryd.func10, Tryd.ntmps10
    go_wp2_with fail
    refine (awake_any _ hr).mono ?_
    rintro e w1 ⟨rfl, B1⟩
    go_wp2_with fail
    refine (HS.out w1 (rw'.below B1)).mono ?_
    rintro e w2 ⟨rfl, c2⟩
    have B2 := B1.trans (c2.mono B1.size)
    clear B1 c2
    go_wp2_with fail
    refine (HS'.out w2 (rw''.below B2)).mono ?_
    rintro e w3 ⟨rfl, c3⟩
    have B3 := B2.trans (c3.mono B2.size)
    clear B2 c3
    have C3 := B3.alloc B3.size (.cells #[] 2)
    obtain ⟨v1, w4, r1, o1, g4, e4⟩ := append_row (w3.alloc (.cells #[] 2)) w3.heap.size (.slice (some ⟨w3.heap.size, 0, none⟩) 0 0) [] (own_none w3) A m c zs HZ.out HN.out (rw'.below C3) (by simp; omega) (by simp)
    have B4 : Below w.heap.size w w4 := C3.grown g4 C3.size (fun k hk => by simp [Value.ownBlock] at hk; have := B3.size; omega)
    obtain ⟨v2, w5, r2, o2, g5, e5⟩ := append_row w4 w3.heap.size v1 ([] ++ zs) o1 A' m' c' zs' HZ'.out HN'.out (rw''.below B4) (by have := HZ.out; simp; omega) (by have := g4.size; simp at this; omega)
    have B5 : Below w.heap.size w w5 := B4.grown g5 B4.size (fun k hk => by
      rcases e4 with e4 | e4
      · rw [e4] at hk; simp [Value.ownBlock] at hk; have := B3.size; omega
      · rw [e4] at hk; simp at hk; have := B3.size; omega)
    have O5 := Lib.hid (show Own w5 w3.heap.size v2 (zs ++ zs') from o2)
    clear o1 g4 e4 o2 g5 e5 B4 C3
    have R1 := Lib.hid r1
    have R2 := Lib.hid r2
    clear r1 r2
    go_wp2_with (at_builtin; first
      | (refine wpList_append_eq rfl (.tmp 35) (.tmp 36) _ rfl rfl rfl R1.out ?_; clear R1)
      | (refine wpList_append_eq rfl (.tmp 37) (.tmp 38) _ rfl rfl rfl R2.out ?_; clear R2))
    refine (HT.out w5 _ v2 O5.out).mono ?_
    rintro e w6 ⟨rfl, c6⟩
    have B6 := B5.trans (c6.mono B5.size)
    clear B5 c6
    go_wp2_with fail
    refine (HA.out w6).mono ?_
    rintro e w7 ⟨rfl, c7⟩
    have B7 := B6.trans (c7.mono B6.size)
    clear B6 c7
    go_wp2
    go_ret
    exact ⟨rfl, B7⟩

set_option maxHeartbeats 1000000 in
theorem parts_long (A : Option Addr) (m c : Nat) (A' : Option Addr) (m' c' : Nat) (w : World) (hm : m ≤ maxLen) (hm' : m' ≤ maxLen) (hr : Ready w) (h : 50 < m ∨ m ≤ 50 ∧ 50 < m') :
    Calls Tryd.prog 10 #[.slice A m c, .slice A' m' c'] w fun e w' => e = .returned (.bool true) ∧ Below w.heap.size w w' := by
  unfold maxLen at hm hm'
  rcases h with h | ⟨h, h'⟩
  · go_enter Tryd.func10, Tryd.ntmps10
    go_wp2_with fail
    refine (awake_any _ hr).mono ?_
    rintro e w1 ⟨rfl, B1⟩
    go_wp2
    go_ret
    exact ⟨rfl, B1⟩
  · have g1 : decide (50 < m) = false := by simp; omega
    go_enter Tryd.func10, Tryd.ntmps10
    go_wp2_with fail
    refine (awake_any _ hr).mono ?_
    rintro e w1 ⟨rfl, B1⟩
    go_wp2
    go_ret
    exact ⟨rfl, B1⟩

theorem parts_walk (A : Option Addr) (m c : Nat) (zs : List Int) (A' : Option Addr) (m' c' : Nat) (zs' : List Int) (w : World)
    (z : zs.length = m) (y : m ≤ c) (x : c ≤ maxLen) (nl : A = none → c = 0) (rw' : Row w A zs) (am : Amounts zs)
    (z' : zs'.length = m') (y' : m' ≤ c') (x' : c' ≤ maxLen) (nl' : A' = none → c' = 0) (rw'' : Row w A' zs') (am' : Amounts zs') (hr : Ready w) :
    Calls Tryd.prog 10 #[.slice A m c, .slice A' m' c'] w fun e w' => e = .returned (.bool true) ∧ Below w.heap.size w w' := by
  by_cases h : 50 < m ∨ m ≤ 50 ∧ 50 < m'
  · exact parts_long A m c A' m' c' w (by omega) (by omega) hr h
  · have h1 := val_bd zs.sum
    have h2 := val_bd zs'.sum
    refine parts_core A m c zs A' m' c' zs' w z (by omega) nl rw' am z' (by omega) nl' rw'' am' hr _ _ (fun w => add_any _ _ w h1.1 h1.2 h2.1 h2.2) ?_
    rcases (show (-9223372036854775808 ≤ zs.sum ∧ zs.sum ≤ 9223372036854775807) ∨ (zs.sum < -9223372036854775808 ∨ 9223372036854775807 < zs.sum) by omega) with ⟨a0, a1⟩ | ho
    · rcases (show (-9223372036854775808 ≤ zs'.sum ∧ zs'.sum ≤ 9223372036854775807) ∨ (zs'.sum < -9223372036854775808 ∨ 9223372036854775807 < zs'.sum) by omega) with ⟨b0, b1⟩ | ho'
      · refine .inr (.inr ⟨by rw [err_in a0 a1]; rfl, by rw [err_in b0 b1]; rfl, ?_, ?_⟩)
        · rw [val_in a0 a1, val_in b0 b1, List.sum_append]
        · rw [val_in a0 a1, val_in b0 b1, List.sum_append]
      · exact .inr (.inl ⟨by rw [err_in a0 a1]; rfl, by rw [err_out ho']; rfl⟩)
    · exact .inl (by rw [err_out ho]; rfl)
end Go.Proofs.YtgedlmnkkdcejaaDoor.Coin
