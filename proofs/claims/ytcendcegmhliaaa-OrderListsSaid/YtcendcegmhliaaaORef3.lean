/-
  The document's own at, and better.
-/
import Derived.Test.YtcendcegmhliaaaORef2
import Derived.Test.YtcendcegmhliaaaOPut
import Derived.Test.YtcendcegmhliaaaOFew
namespace Go.Proofs.Ytcendcegmhliaaa.Ord
open Go.RowKit Go.Sort _root_.Go.Proofs.Ytcendcegmhliaaa.Gnd

set_option maxRecDepth 100000 in
set_option maxHeartbeats 2000000 in
theorem rat_any {A : Option Addr} {n c : Nat} {l : List Or} {w : World} (h : AAt w A n c l) (hn : n ≤ 100000) (m : Int) : Calls Try.prog 36 #[.slice A n c, .int .u64 m] w (fun e w' => e = .returned (.int .i64 (idxA (numB m) l)) ∧ Below w.heap.size w w') := by
  have HL := Lib.hid h.len
  have HR := Lib.hid h.row
  clear h
  go_enter Try.func36, Try.ntmps36
  go_wp2_with fail
  go_loopw [5] (fun i wr => ∃ k : Nat, i = .int .i64 (k : Int) ∧ k ≤ n ∧ Hid (Below w.heap.size w wr ∧ ∀ j (hj : j < l.length), j < k → numB m l[j] = false)) (fun i _ => n - (intOf i).toNat)
  case atStart => exact ⟨0, rfl, Nat.zero_le _, Lib.hid ⟨Below.refl _ _, fun j _ h => absurd h (Nat.not_lt_zero _)⟩⟩
  case round =>
    obtain ⟨k, rfl, hk, HB⟩ := hrel
    by_cases hlt : k < n
    · have hkl : k < l.length := by rw [HL.out]; exact hlt
      have hwr : IntKind.i64.wrap ((k : Int) + 1) = (k : Int) + 1 := IntWalk.i64_in _ (by omega)
      have t1 : (k : Int) < (n : Int) := by omega
      have t2 : (0 : Int) ≤ (k : Int) := by omega
      obtain ⟨b, off, e, hbl, hc⟩ := HR.out (by intro e; rw [e] at hkl; simp at hkl)
      subst e
      have k0 := (row_six (range_below (hc k hkl) HB.out.1 hbl)).1
      have NX := Lib.hid (show numB m l[k] = false → ∀ j (hj : j < l.length), j < k + 1 → numB m l[j] = false from fun e j hj hjk => by
        by_cases q : j = k
        · subst q; exact e
        · exact HB.out.2 j hj (by omega))
      have AT := Lib.hid (fun (e : numB m l[k] = true) => idx_at hkl HB.out.2 e)
      have BW := Lib.hid HB.out.1
      have hq : (l[k].num == m) = numB m l[k] := rfl
      generalize hnb : numB m l[k] = r at *
      generalize l[k].num = y at *
      clear hc HB hbl hkl hnb
      rcases r with _ | _
      · have NB := Lib.hid (And.intro BW.out (NX.out rfl))
        clear NX AT
        go_wp2_with fail
        go_roundw
        case rel => exact ⟨k + 1, by go_num, by omega, NB⟩
        case measure => simp [intOf]; omega
      · have AT2 := Lib.hid (AT.out rfl)
        clear NX AT
        go_wp2_with fail
        (try go_ret)
        exact ⟨by rw [AT2.out]; rfl, BW.out⟩
    · obtain rfl : k = n := by omega
      have FI := Lib.hid (show idxA (numB m) l = -1 ∧ Below w.heap.size w wr from ⟨idx_none (fun j hj => HB.out.2 j hj (by rw [← HL.out]; exact hj)), HB.out.1⟩)
      clear HB
      go_wp2_with fail
      (try go_ret)
      exact ⟨by rw [FI.out.1]; rfl, FI.out.2⟩
/-- The document's order of two, of which the second stands behind. -/
def rbet (x y : Or) : Bool := if x.price = y.price then decide (x.num ≤ y.num) else (decide (y.price < x.price) == x.buy)
theorem rbet_ahead {x y : Or} : rbet x y = !aheadO x.buy y x := by
  unfold rbet aheadO
  by_cases e : x.price = y.price
  · rw [if_pos e, e]
    cases x.buy <;> simp <;> (rw [Bool.eq_iff_iff]; simp <;> omega)
  · rw [if_neg e]
    cases x.buy <;> simp [Ne.symm e] <;> (rw [Bool.eq_iff_iff]; simp <;> omega)
set_option maxRecDepth 100000 in
set_option maxHeartbeats 2000000 in
theorem rbetter_any (x y : Or) (w : World) : Calls Try.prog 44 #[.agg (encA x).toArray, .agg (encA y).toArray] w (fun e w' => e = .returned (.bool (rbet x y)) ∧ Below w.heap.size w w') := by
  have b1 := below_box w (.cells (encA x).toArray 25)
  have b2 := below_box (w.alloc (.cells (encA x).toArray 25)) (.cells (encA y).toArray 25)
  have B := Lib.hid (b1.trans (b2.mono b1.size))
  have hr : rbet x y = if x.price = y.price then decide (x.num ≤ y.num) else (decide (y.price < x.price) == x.buy) := rfl
  have HR := Lib.hid hr
  clear b1 b2 hr
  unfold encA at B ⊢
  generalize rbet x y = r at *
  generalize strV x.who = a1 at *
  generalize strV y.who = c1 at *
  generalize strV x.mkt = a2 at *
  generalize strV y.mkt = c2 at *
  generalize x.num = xn at *
  generalize y.num = yn at *
  generalize x.price = xp at *
  generalize y.price = yp at *
  generalize x.left = xl at *
  generalize y.left = yl at *
  generalize x.buy = xb at *
  generalize y.buy = yb at *
  by_cases e : xp = yp
  · subst e
    rw [if_pos rfl] at HR
    go_enter Try.func44, Try.ntmps44
    go_wp2_with fail
    (try go_ret)
    exact ⟨by rw [HR.out]; rfl, B.out⟩
  · rw [if_neg e] at HR
    have d : (xp == yp) = false := beq_eq_false_iff_ne.2 e
    clear e
    go_enter Try.func44, Try.ntmps44
    go_wp2_with fail
    (try go_ret)
    exact ⟨by rw [HR.out]; first | rfl | simp, B.out⟩
end Go.Proofs.Ytcendcegmhliaaa.Ord
