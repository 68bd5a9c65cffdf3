/-
  Contracts of cmp.Compare, cmp.Or, and of order.
-/
import Derived.Test.YtobpbbldgbgcdaaABase
import Derived.Deep.RegionWith
import Derived.Shelf.SlSorted.Search
namespace Go.Proofs.Ytobpbbldgbgcdaa.Acc
open Go.RowKit Go.Sort

set_option maxRecDepth 100000 in
theorem nan_any (X : ByteArray) (w : World) : Calls Try.prog 64 #[.string X] w (fun e w' => e = .returned (.bool false) ∧ w = w') := by
  go_enter Try.func64, Try.ntmps64
  go_wp2_with fail
  go_ret
  exact ⟨by simp, rfl⟩
set_option maxRecDepth 100000 in
theorem cmp_any (x y : Bs) (w : World) : Calls Try.prog 52 #[strV x, strV y] w (fun e w' => e = .returned (.int .i64 (cmpS x y)) ∧ w = w') := by
  have h1 : Op.bytesLess (strB x).toList (strB y).toList = less x y := by rw [strB_list, strB_list]; rfl
  have h2 : Op.bytesLess (strB y).toList (strB x).toList = less y x := by rw [strB_list, strB_list]; rfl
  have hc : cmpS x y = if less x y = true then -1 else if less y x = true then 1 else 0 := rfl
  have HC := Lib.hid hc
  generalize cmpS x y = r at *
  unfold strV
  obtain ⟨X, hX⟩ : ∃ X, strB x = X := ⟨_, rfl⟩
  obtain ⟨Y, hY⟩ : ∃ Y, strB y = Y := ⟨_, rfl⟩
  rw [hX, hY] at h1 h2 ⊢
  have HX := Lib.hid hX
  have HY := Lib.hid hY
  clear hX hY
  have c1 := nan_any X w
  have c2 := nan_any Y w
  rcases e1 : less x y with _ | _
  · rcases e2 : less y x with _ | _
    · rw [e1] at h1
      rw [e2] at h2
      have h3 : (X.toList == Y.toList) = true := by
        have : x = y := Classical.byContradiction (fun hn => by have := less_tri e1 hn; rw [e2] at this; cases this)
        rw [← HX.out, ← HY.out, this]; simp
      have HR := Lib.hid (show r = 0 by rw [HC.out, e1, e2]; rfl)
      clear hc HC e1 e2
      go_enter Try.func52, Try.ntmps52
      go_wp2_with fail
      refine c1.mono ?_
      rintro e w' ⟨rfl, rfl⟩
      go_wp2_with fail
      refine c2.mono ?_
      rintro e w' ⟨rfl, rfl⟩
      go_wp2_with fail
      go_ret
      exact ⟨by rw [HR.out]; rfl, rfl⟩
    · rw [e1] at h1
      rw [e2] at h2
      have h3 : (X.toList == Y.toList) = false := by
        rw [← HX.out, ← HY.out, strB_list, strB_list]
        exact beq_eq_false_iff_ne.2 (fun hn => by rw [hn, less_irrefl] at e2; cases e2)
      have HR := Lib.hid (show r = 1 by rw [HC.out, e1, e2]; rfl)
      clear hc HC e1 e2
      go_enter Try.func52, Try.ntmps52
      go_wp2_with fail
      refine c1.mono ?_
      rintro e w' ⟨rfl, rfl⟩
      go_wp2_with fail
      refine c2.mono ?_
      rintro e w' ⟨rfl, rfl⟩
      go_wp2_with fail
      go_ret
      exact ⟨by rw [HR.out]; rfl, rfl⟩
  · rw [e1] at h1
    have HR := Lib.hid (show r = -1 by rw [HC.out, e1]; rfl)
    clear hc HC e1 h2
    go_enter Try.func52, Try.ntmps52
    go_wp2_with fail
    refine c1.mono ?_
    rintro e w' ⟨rfl, rfl⟩
    go_wp2_with fail
    refine c2.mono ?_
    rintro e w' ⟨rfl, rfl⟩
    go_wp2_with fail
    go_ret
    exact ⟨by rw [HR.out]; rfl, rfl⟩
/-- The first of two that is not 0. -/
def or2 (x y : Int) : Int := if x ≠ 0 then x else y
set_option maxRecDepth 100000 in
theorem or_any (x y : Int) (b c : Nat) (w : World) (h0 : w.cell? ⟨b, 0, none⟩ = some (.int .i64 x)) (h1 : w.cell? ⟨b, 1, none⟩ = some (.int .i64 y)) :
    Calls Try.prog 51 #[.slice (some ⟨b, 0, none⟩) 2 c] w (fun e w' => e = .returned (.int .i64 (or2 x y)) ∧ w = w') := by
  go_enter Try.func51, Try.ntmps51
  go_wp2_with fail
  go_loop [8] (fun i => ∃ k : Nat, i = .int .i64 (k : Int) ∧ k ≤ 2 ∧ (k = 0 ∨ x = 0) ∧ (k ≤ 1 ∨ y = 0)) (fun i => 2 - (intOf i).toNat)
  case atStart => exact ⟨0, rfl, by omega, .inl rfl, .inl (by omega)⟩
  case round =>
    obtain ⟨k, rfl, hk, k1, k2⟩ := hrel
    rcases (show k = 0 ∨ k = 1 ∨ k = 2 by omega) with rfl | rfl | rfl
    · by_cases hx : x = 0
      · subst hx
        go_wp2_with fail
        go_round
        case rel => exact ⟨1, by go_num, by omega, .inr (by trivial), .inl (by omega)⟩
        case measure => simp [intOf]
      · have d : (x == 0) = false := beq_eq_false_iff_ne.2 hx
        have HX := Lib.hid hx
        clear hx
        go_wp2_with fail
        go_ret
        exact ⟨by unfold or2; rw [if_pos HX.out]; rfl, rfl⟩
    · obtain rfl : x = 0 := by omega
      by_cases hy : y = 0
      · subst hy
        go_wp2_with fail
        go_round
        case rel => exact ⟨2, by go_num, by omega, .inr (by trivial), .inr (by trivial)⟩
        case measure => simp [intOf]
      · have d : (y == 0) = false := beq_eq_false_iff_ne.2 hy
        clear hy
        go_wp2_with fail
        go_ret
        exact ⟨by unfold or2; rw [if_neg (by simp)]; rfl, rfl⟩
    · obtain rfl : x = 0 := by omega
      obtain rfl : y = 0 := by omega
      go_wp2_with fail
      go_ret
      exact ⟨by unfold or2; simp, rfl⟩
set_option maxRecDepth 100000 in
set_option maxHeartbeats 4000000 in
theorem order_any (x y : Ac) (w : World) : Calls Try.prog 27 #[.agg (encA x).toArray, .agg (encA y).toArray] w (fun e w' => e = .returned (.int .i64 (ordA x y)) ∧ ∃ q os, w' = grow (w.drewN q) os) := by
  have hC1 := fun W => cmp_any x.who y.who W
  have hC2 := fun W => cmp_any x.asset y.asset W
  have hO := fun b c W h0 h1 => or_any (cmpS x.who y.who) (cmpS x.asset y.asset) b c W h0 h1
  have he : ordA x y = or2 (cmpS x.who y.who) (cmpS x.asset y.asset) := rfl
  rw [he]
  generalize or2 (cmpS x.who y.who) (cmpS x.asset y.asset) = r at *
  generalize cmpS x.who y.who = r1 at *
  generalize cmpS x.asset y.asset = r2 at *
  clear he
  unfold encA
  generalize strV x.who = a1 at *
  generalize strV y.who = b1 at *
  generalize strV x.asset = a2 at *
  generalize strV y.asset = b2 at *
  go_enter Try.func27, Try.ntmps27
  go_wp2_with fail
  go_region_held3 (fun w' => w'.cell? ⟨w.heap.size, 0, none⟩ = some a1 ∧ w'.cell? ⟨w.heap.size, 1, none⟩ = some a2 ∧ w'.cell? ⟨w.heap.size + 1, 0, none⟩ = some b1 ∧ w'.cell? ⟨w.heap.size + 1, 1, none⟩ = some b2) (simp [go_sem, World.cell?_alloc_past])
    (first
      | (go_at_call 52; first | ((with_reducible refine (hC1 _).mono ?_); rintro e w' ⟨rfl, rfl⟩) | ((with_reducible refine (hC2 _).mono ?_); rintro e w' ⟨rfl, rfl⟩))
      | (go_at_call 51; refine (hO _ _ _ (by simp [go_sem]) (by simp [go_sem])).mono ?_; rintro e w' ⟨rfl, rfl⟩))
  all_goals
    go_wp2_with fail
    go_ret
    exact ⟨rfl, 1, _, by rw [alloc_eq_grow, alloc_eq_grow, alloc_eq_grow, grow_grow, grow_grow, drew_grow]; rfl⟩
end Go.Proofs.Ytobpbbldgbgcdaa.Acc
