/-
  Contracts of cmp.Compare at numbers, of cmp.Or, of the closures of Sides.
-/
import Derived.Test.YtcendcegmhliaaaOSort
import Derived.Deep.RegionWith
namespace Go.Proofs.Ytcendcegmhliaaa.Ord
open Go.RowKit Go.Sort _root_.Go.Proofs.Ytcendcegmhliaaa.Gnd

set_option maxRecDepth 100000 in
theorem nan_i64 (x : Int) (w : World) : Calls Try.prog 57 #[.int .i64 x] w (fun e w' => e = .returned (.bool false) ∧ w = w') := by
  go_enter Try.func57, Try.ntmps57
  go_wp2_with fail
  go_ret
  exact ⟨by simp, rfl⟩
set_option maxRecDepth 100000 in
theorem cmp_i64 (x y : Int) (w : World) : Calls Try.prog 41 #[.int .i64 x, .int .i64 y] w (fun e w' => e = .returned (.int .i64 (cmpI x y)) ∧ w = w') := by
  have hc : cmpI x y = if x < y then -1 else if y < x then 1 else 0 := rfl
  have HC := Lib.hid hc
  clear hc
  generalize cmpI x y = r at *
  have c1 := nan_i64 x w
  have c2 := nan_i64 y w
  by_cases e1 : x < y
  · have HR := Lib.hid (show r = -1 by rw [HC.out, if_pos e1])
    clear HC
    go_enter Try.func41, Try.ntmps41
    go_wp2_with fail
    refine c1.mono ?_
    rintro e w' ⟨rfl, rfl⟩
    go_wp2_with fail
    refine c2.mono ?_
    rintro e w' ⟨rfl, rfl⟩
    go_wp2_with fail
    go_ret
    exact ⟨by rw [HR.out]; rfl, rfl⟩
  by_cases e2 : y < x
  · have HR := Lib.hid (show r = 1 by rw [HC.out, if_neg e1, if_pos e2])
    clear HC
    go_enter Try.func41, Try.ntmps41
    go_wp2_with fail
    refine c1.mono ?_
    rintro e w' ⟨rfl, rfl⟩
    go_wp2_with fail
    refine c2.mono ?_
    rintro e w' ⟨rfl, rfl⟩
    go_wp2_with fail
    go_ret
    exact ⟨by rw [HR.out]; rfl, rfl⟩
  · have HR := Lib.hid (show r = 0 by rw [HC.out, if_neg e1, if_neg e2])
    clear HC
    go_enter Try.func41, Try.ntmps41
    go_wp2_with fail
    refine c1.mono ?_
    rintro e w' ⟨rfl, rfl⟩
    go_wp2_with fail
    refine c2.mono ?_
    rintro e w' ⟨rfl, rfl⟩
    go_wp2_with fail
    go_ret
    exact ⟨by rw [HR.out]; rfl, rfl⟩

set_option maxRecDepth 100000 in
theorem nan_u64 (x : Int) (w : World) : Calls Try.prog 58 #[.int .u64 x] w (fun e w' => e = .returned (.bool false) ∧ w = w') := by
  go_enter Try.func58, Try.ntmps58
  go_wp2_with fail
  go_ret
  exact ⟨by simp, rfl⟩
set_option maxRecDepth 100000 in
theorem cmp_u64 (x y : Int) (w : World) : Calls Try.prog 43 #[.int .u64 x, .int .u64 y] w (fun e w' => e = .returned (.int .i64 (cmpI x y)) ∧ w = w') := by
  have hc : cmpI x y = if x < y then -1 else if y < x then 1 else 0 := rfl
  have HC := Lib.hid hc
  clear hc
  generalize cmpI x y = r at *
  have c1 := nan_u64 x w
  have c2 := nan_u64 y w
  by_cases e1 : x < y
  · have HR := Lib.hid (show r = -1 by rw [HC.out, if_pos e1])
    clear HC
    go_enter Try.func43, Try.ntmps43
    go_wp2_with fail
    refine c1.mono ?_
    rintro e w' ⟨rfl, rfl⟩
    go_wp2_with fail
    refine c2.mono ?_
    rintro e w' ⟨rfl, rfl⟩
    go_wp2_with fail
    go_ret
    exact ⟨by rw [HR.out]; rfl, rfl⟩
  by_cases e2 : y < x
  · have HR := Lib.hid (show r = 1 by rw [HC.out, if_neg e1, if_pos e2])
    clear HC
    go_enter Try.func43, Try.ntmps43
    go_wp2_with fail
    refine c1.mono ?_
    rintro e w' ⟨rfl, rfl⟩
    go_wp2_with fail
    refine c2.mono ?_
    rintro e w' ⟨rfl, rfl⟩
    go_wp2_with fail
    go_ret
    exact ⟨by rw [HR.out]; rfl, rfl⟩
  · have HR := Lib.hid (show r = 0 by rw [HC.out, if_neg e1, if_neg e2])
    clear HC
    go_enter Try.func43, Try.ntmps43
    go_wp2_with fail
    refine c1.mono ?_
    rintro e w' ⟨rfl, rfl⟩
    go_wp2_with fail
    refine c2.mono ?_
    rintro e w' ⟨rfl, rfl⟩
    go_wp2_with fail
    go_ret
    exact ⟨by rw [HR.out]; rfl, rfl⟩

set_option maxRecDepth 100000 in
theorem or_any (x y : Int) (b c : Nat) (w : World) (h0 : w.cell? ⟨b, 0, none⟩ = some (.int .i64 x)) (h1 : w.cell? ⟨b, 1, none⟩ = some (.int .i64 y)) :
    Calls Try.prog 42 #[.slice (some ⟨b, 0, none⟩) 2 c] w (fun e w' => e = .returned (.int .i64 (or2 x y)) ∧ w = w') := by
  go_enter Try.func42, Try.ntmps42
  go_wp2_with fail
  go_loop [8] (fun i => ∃ k : Nat, i = .int .i64 (k : Int) ∧ k ≤ 2 ∧ (k = 0 ∨ x = 0) ∧ (k ≤ 1 ∨ y = 0)) (fun i => 2 - (intOf i).toNat)
  case atStart => exact ⟨0, rfl, by omega, .inl rfl, .inl (by omega)⟩
  case round =>
    obtain ⟨k, rfl, hk, k1, k2⟩ := hrel
    rcases (show k = 0 ∨ k = 1 ∨ k = 2 by omega) with rfl | rfl | rfl
    · by_cases hx : x = 0
      · subst hx
        go_wp2_with fail
        go_round
        case rel => exact ⟨1, by go_num, by omega, .inr (by trivial), .inl (by omega)⟩
        case measure => simp [intOf]
      · have d : (x == 0) = false := beq_eq_false_iff_ne.2 hx
        have HX := Lib.hid hx
        clear hx
        go_wp2_with fail
        go_ret
        exact ⟨by unfold or2; rw [if_pos HX.out]; rfl, rfl⟩
    · obtain rfl : x = 0 := by omega
      by_cases hy : y = 0
      · subst hy
        go_wp2_with fail
        go_round
        case rel => exact ⟨2, by go_num, by omega, .inr (by trivial), .inr (by trivial)⟩
        case measure => simp [intOf]
      · have d : (y == 0) = false := beq_eq_false_iff_ne.2 hy
        clear hy
        go_wp2_with fail
        go_ret
        exact ⟨by unfold or2; rw [if_neg (by simp)]; rfl, rfl⟩
    · obtain rfl : x = 0 := by omega
      obtain rfl : y = 0 := by omega
      go_wp2_with fail
      go_ret
      exact ⟨by unfold or2; simp, rfl⟩

/-- The closure that tells a side's order. -/
theorem cmpI_bd (x y : Int) : -1 ≤ cmpI x y ∧ cmpI x y ≤ 1 := by unfold cmpI; repeat' split <;> omega
set_option maxRecDepth 100000 in
set_option maxHeartbeats 4000000 in
theorem better_any (x y : Or) (buy : Bool) (bb : Nat) (w : World) (hb : w.cell? ⟨bb, 0, none⟩ = some (.bool buy)) : Calls Try.prog 40 #[.agg (encA x).toArray, .agg (encA y).toArray, .pointer (some ⟨bb, 0, none⟩)] w (fun e w' => e = .returned (.int .i64 (ordO buy x y)) ∧ ∃ q os, w' = grow (w.drewN q) os) := by
  have hlt : bb < w.heap.size := block_lt_of_cell hb
  have bd := cmpI_bd x.price y.price
  have hC1 := fun W => cmp_i64 x.price y.price W
  have hC2 := fun W => cmp_u64 x.num y.num W
  have hO := fun b c W h0 h1 => or_any (priceO buy x y) (cmpI x.num y.num) b c W h0 h1
  have hp : priceO buy x y = if buy then -(cmpI x.price y.price) else cmpI x.price y.price := rfl
  have he : ordO buy x y = or2 (priceO buy x y) (cmpI x.num y.num) := rfl
  rw [he]
  generalize or2 (priceO buy x y) (cmpI x.num y.num) = r at *
  generalize priceO buy x y = pr at *
  generalize cmpI x.price y.price = r1 at *
  generalize cmpI x.num y.num = r2 at *
  clear he
  unfold encA
  generalize strV x.who = a1 at *
  generalize strV y.who = b1 at *
  generalize strV x.mkt = a2 at *
  generalize strV y.mkt = b2 at *
  generalize x.num = xn at *
  generalize y.num = yn at *
  generalize x.price = xp at *
  generalize y.price = yp at *
  generalize x.left = xl at *
  generalize y.left = yl at *
  generalize x.buy = xb at *
  generalize y.buy = yb at *
  have HLT := Lib.hid hlt
  have n1 : bb ≠ w.heap.size := by omega
  have n2 : bb ≠ w.heap.size + 1 := by omega
  have hbb : ∀ o1 o2, ((w.alloc o1).alloc o2).cell? ⟨bb, 0, none⟩ = some (.bool buy) := fun o1 o2 => by
    rw [World.cell?_alloc_past _ _ _ (by rw [World.size_alloc]; omega), World.cell?_alloc_past _ _ _ hlt]
    exact hb
  cases buy
  all_goals
    simp only [Bool.false_eq_true, if_true, if_false] at hp
    rw [hp] at hO
    clear hp
    have wr : IntKind.i64.wrap (-r1) = -r1 := IntWalk.i64_in _ (by omega)
    clear bd
    go_enter Try.func40, Try.ntmps40
    go_wp2_with (first
      | (go_at_call 41; (with_reducible refine (hC1 _).mono ?_); rintro e w' ⟨rfl, rfl⟩)
      | (go_at_call 43; (with_reducible refine (hC2 _).mono ?_); rintro e w' ⟨rfl, rfl⟩)
      | (go_at_call 42; refine (hO _ _ _ (by simp [go_sem]) (by simp [go_sem])).mono ?_; rintro e w' ⟨rfl, rfl⟩))
    go_ret
    exact ⟨rfl, 0, _, by rw [alloc_eq_grow, alloc_eq_grow, alloc_eq_grow, grow_grow, grow_grow]; rfl⟩
/-- An order that is asked for. -/
def askB (mkt : Bs) (buy : Bool) (x : Or) : Bool := decide (x.mkt = mkt) && (x.buy == buy)
theorem ent_better : Enters Try.prog 40 := enters_of Try.func40 (by kernel_rfl) rfl
theorem ent_asked : Enters Try.prog 38 := enters_of Try.func38 (by kernel_rfl) rfl
set_option maxRecDepth 100000 in
set_option maxHeartbeats 4000000 in
theorem asked_any (x : Or) (mkt : Bs) (buy : Bool) (mb bb : Nat) (w : World) (hm : w.cell? ⟨mb, 0, none⟩ = some (strV mkt)) (hb : w.cell? ⟨bb, 0, none⟩ = some (.bool buy)) :
    Calls Try.prog 38 #[.agg (encA x).toArray, .pointer (some ⟨mb, 0, none⟩), .pointer (some ⟨bb, 0, none⟩)] w (fun e w' => e = .returned (.bool (askB mkt buy x)) ∧ Below w.heap.size w w') := by
  have b1 := below_box w (.cells (encA x).toArray 25)
  have a1 := at_new w (encA x).toArray 25
  have l1 := block_lt_of_cell hm
  have l2 := block_lt_of_cell hb
  have hm' := (b1.cell (p := ⟨mb, 0, none⟩) l1).trans hm
  have hb' := (b1.cell (p := ⟨bb, 0, none⟩) l2).trans hb
  obtain ⟨W1, hW1⟩ : ∃ W1, w.alloc (.cells (encA x).toArray 25) = W1 := ⟨_, rfl⟩
  rw [hW1] at b1 a1 hm' hb'
  have k2 : W1.cell? ⟨w.heap.size, 2, none⟩ = some (strV x.mkt) := a1.2.2 2 _ rfl
  have k3 : W1.cell? ⟨w.heap.size, 3, none⟩ = some (.bool x.buy) := a1.2.2 3 _ rfl
  have hq : ((strB x.mkt).toList == (strB mkt).toList) = decide (x.mkt = mkt) := by
    rw [strB_list, strB_list, Bool.eq_iff_iff, beq_iff_eq, decide_eq_true_eq]
  have hs : askB mkt buy x = (decide (x.mkt = mkt) && (x.buy == buy)) := rfl
  have HW := Lib.hid hW1
  have HS := Lib.hid hs
  have B1 := Lib.hid b1
  generalize askB mkt buy x = r at *
  generalize decide (x.mkt = mkt) = rm at *
  generalize x.buy = xb at *
  unfold strV at *
  generalize strB x.mkt = X at *
  generalize strB mkt = Y at *
  generalize (encA x).toArray = C at *
  clear hW1 hs b1 a1 hm hb
  cases rm
  all_goals
    go_enter Try.func38, Try.ntmps38
    go_wp2_with ((with_reducible refine wpList_box_eq rfl 25 (.tmp 0) rfl C ?_ ?_); (next => rfl); rw [HW.out])
    go_ret
    exact ⟨by rw [HS.out]; simp, B1.out⟩
end Go.Proofs.Ytcendcegmhliaaa.Ord
