/-
  Orders compared; the statements' few; the document's Same.
-/
import Derived.Test.YtcendcegmhliaaaONeed
import Derived.Test.YtcendcegmhliaaaORow
import Derived.Deep.RegionWith
import Derived.Deep.QuietTactic
namespace Go.Proofs.Ytcendcegmhliaaa.Ord
open Go.RowKit Go.Sort _root_.Go.Proofs.Ytcendcegmhliaaa.Gnd

theorem or_und : Try.prog.underlying 25 = some (.struct (Try.prog.fieldsOf 25)) := by kernel_rfl
theorem or_stood : Try.prog.stoodInHeld 25 = false := by kernel_rfl
theorem or_guard : Try.prog.eqGuardType Try.prog.depth 25 = false := by kernel_rfl
theorem or_eq (n1 n2 : Int) (X1 Y1 X2 Y2 : ByteArray) (b1 b2 : Bool) (p1 q1 p2 q2 : Int) (W : World) : (Op.equalIn 10000 25 (.agg #[.int .u64 n1, .string X1, .string Y1, .bool b1, .int .i64 p1, .int .i64 q1]) (.agg #[.int .u64 n2, .string X2, .string Y2, .bool b2, .int .i64 p2, .int .i64 q2])).run Try.prog W = .ok ((n1 == n2) && (X1.toList == X2.toList) && (Y1.toList == Y2.toList) && (b1 == b2) && (p1 == p2) && (q1 == q2)) W := by
  have u9 := Try.underlying9
  have a9 := Try.isAgg9
  have z9 := Try.sizeOf9
  have u2 := Try.underlying2
  have a2 := Try.isAgg2
  have z2 := Try.sizeOf2
  have u3 := Try.underlying23
  have a3 := Try.isAgg23
  have z3 := Try.sizeOf23
  have u4 := Try.underlying4
  have a4 := Try.isAgg4
  have z4 := Try.sizeOf4
  rw [show (10000 : Nat) = 9999 + 1 from rfl, run_equalIn_agg W 9999 25 _ _ or_und or_stood]
  simp only [Program.fieldsOf, Try.underlying25]
  go_simp
  by_cases g0 : n1 = n2 <;> by_cases g1 : X1.toList = X2.toList <;> by_cases g2 : Y1.toList = Y2.toList <;> by_cases g5 : b1 = b2 <;> by_cases g3 : p1 = p2 <;> by_cases g4 : q1 = q2 <;> simp [g0, g1, g2, g3, g4, g5]
theorem or_beq (x y : Or) : ((x.num == y.num) && ((strB x.who).toList == (strB y.who).toList) && ((strB x.mkt).toList == (strB y.mkt).toList) && (x.buy == y.buy) && (x.price == y.price) && (x.left == y.left)) = decide (x = y) := by
  rw [strB_list, strB_list, strB_list, strB_list, Bool.eq_iff_iff]
  obtain ⟨a, b, c, d, e, f⟩ := x
  obtain ⟨a', b', c', d', e', f'⟩ := y
  simp only [Bool.and_eq_true, beq_iff_eq, decide_eq_true_eq, Or.mk.injEq]
  exact ⟨fun ⟨⟨⟨⟨⟨h1, h2⟩, h3⟩, h4⟩, h5⟩, h6⟩ => ⟨h1, h2, h3, h4, h5, h6⟩, fun ⟨h1, h2, h3, h4, h5, h6⟩ => ⟨⟨⟨⟨⟨h1, h2⟩, h3⟩, h4⟩, h5⟩, h6⟩⟩
theorem or_neq (x y : Or) (W : World) : (binOp .neq 25 (.agg (encA x).toArray) (.agg (encA y).toArray)).run Try.prog W = .ok (.bool (!decide (x = y))) W := by
  have h := or_eq x.num y.num (strB x.who) (strB x.mkt) (strB y.who) (strB y.mkt) x.buy y.buy x.price x.left y.price y.left W
  rw [or_beq] at h
  rw [run_neq_struct, show (encA x).toArray = #[.int .u64 x.num, .string (strB x.who), .string (strB x.mkt), .bool x.buy, .int .i64 x.price, .int .i64 x.left] from rfl, show (encA y).toArray = #[.int .u64 y.num, .string (strB y.who), .string (strB y.mkt), .bool y.buy, .int .i64 y.price, .int .i64 y.left] from rfl, h]
  rfl
theorem or_eql (x y : Or) (W : World) : (binOp .eql 25 (.agg (encA x).toArray) (.agg (encA y).toArray)).run Try.prog W = .ok (.bool (decide (x = y))) W := by
  have h := or_eq x.num y.num (strB x.who) (strB x.mkt) (strB y.who) (strB y.mkt) x.buy y.buy x.price x.left y.price y.left W
  rw [or_beq] at h
  rw [run_eql_struct, show (encA x).toArray = #[.int .u64 x.num, .string (strB x.who), .string (strB x.mkt), .bool x.buy, .int .i64 x.price, .int .i64 x.left] from rfl, show (encA y).toArray = #[.int .u64 y.num, .string (strB y.who), .string (strB y.mkt), .bool y.buy, .int .i64 y.price, .int .i64 y.left] from rfl, h]
  rfl
theorem or_grd (x y : Operand) (u v : Array Value) (W : World) : (eqGuard .neq 25 x y (.agg u) (.agg v)).run Try.prog W = .ok () W := run_eqGuard_agg W _ _ _ _ _ _ or_guard
theorem or_grd2 (x y : Operand) (u v : Array Value) (W : World) : (eqGuard .eql 25 x y (.agg u) (.agg v)).run Try.prog W = .ok () W := run_eqGuard_agg W _ _ _ _ _ _ or_guard
theorem row_six {w : World} {b o : Nat} {x : Or} (h : w.rangeAt b o (encA x)) : w.cell? ⟨b, o, none⟩ = some (.int .u64 x.num) ∧ w.cell? ⟨b, o + 1, none⟩ = some (strV x.who) ∧ w.cell? ⟨b, o + 2, none⟩ = some (strV x.mkt) ∧ w.cell? ⟨b, o + 3, none⟩ = some (.bool x.buy) ∧ w.cell? ⟨b, o + 4, none⟩ = some (.int .i64 x.price) ∧ w.cell? ⟨b, o + 5, none⟩ = some (.int .i64 x.left) :=
  ⟨h 0 _ rfl, h 1 _ rfl, h 2 _ rfl, h 3 _ rfl, h 4 _ rfl, h 5 _ rfl⟩
/-- What few tells. -/
def FewO (l : List Or) : Prop := l.length ≤ 210 ∧ ∀ x ∈ l, x.who.length ≤ 100 ∧ x.mkt.length ≤ 100
def FewE (l : List Or) (w : World) (e : Ending) (w' : World) : Prop := ∃ r, e = .returned (.bool r) ∧ (r = true → FewO l) ∧ Below w.heap.size w w'
theorem FewE.no {l : List Or} {w w' : World} (h : Below w.heap.size w w') : FewE l w (.returned (.bool false)) w' := ⟨false, rfl, fun e => (by cases e), h⟩
theorem FewE.yes {l : List Or} {w w' : World} (f : FewO l) (h : Below w.heap.size w w') : FewE l w (.returned (.bool true)) w' := ⟨true, rfl, fun _ => f, h⟩
set_option maxRecDepth 100000 in
set_option maxHeartbeats 4000000 in
theorem few_any {A : Option Addr} {n c : Nat} {l : List Or} {w : World} (h : AAt w A n c l) (hn : n ≤ 9223372036854775807) : Calls Try.prog 17 #[.slice A n c] w (FewE l w) := by
  have HL := Lib.hid h.len
  have HR := Lib.hid h.row
  by_cases c1 : 210 < n
  · have t1 : (210 : Int) < (n : Int) := by omega
    clear h c1
    go_enter Try.func17, Try.ntmps17
    go_wp2_with fail
    (try go_ret)
    exact FewE.no (Below.refl _ _)
  have t1 : ¬ (210 : Int) < (n : Int) := by omega
  have hn' : n ≤ 210 := by omega
  clear h c1 hn
  go_enter Try.func17, Try.ntmps17
  go_wp2_with fail
  clear t1
  go_loopw [3] (fun i wr => ∃ k : Nat, i = .int .i64 (k : Int) ∧ k ≤ n ∧ Hid (Below w.heap.size w wr ∧ ∀ j (hj : j < l.length), j < k → l[j].who.length ≤ 100 ∧ l[j].mkt.length ≤ 100)) (fun i _ => n - (intOf i).toNat)
  case atStart => exact ⟨0, rfl, Nat.zero_le _, Lib.hid ⟨Below.refl _ _, fun j _ h => absurd h (Nat.not_lt_zero _)⟩⟩
  case round =>
    obtain ⟨k, rfl, hk, HB⟩ := hrel
    by_cases hlt : k < n
    · have hkl : k < l.length := by rw [HL.out]; exact hlt
      have hwr : IntKind.i64.wrap ((k : Int) + 1) = (k : Int) + 1 := IntWalk.i64_in _ (by omega)
      have t1 : (k : Int) < (n : Int) := by omega
      have t2 : (0 : Int) ≤ (k : Int) := by omega
      obtain ⟨b, off, rfl, hbl, hc⟩ := HR.out (by intro e; rw [e] at hkl; simp at hkl)
      obtain ⟨_, c0, c1, _, _, _⟩ := row_six (range_below (hc k hkl) HB.out.1 hbl)
      have z0 := strB_size l[k].who
      have z1 := strB_size l[k].mkt
      have NX := Lib.hid (show l[k].who.length ≤ 100 → l[k].mkt.length ≤ 100 → ∀ j (hj : j < l.length), j < k + 1 → l[j].who.length ≤ 100 ∧ l[j].mkt.length ≤ 100 from fun e1 e2 j hj hjk => by
        by_cases q : j = k
        · subst q; exact ⟨e1, e2⟩
        · exact HB.out.2 j hj (by omega))
      have BW := Lib.hid HB.out.1
      unfold strV at c0 c1
      generalize strB l[k].who = X at *
      generalize strB l[k].mkt = Y at *
      rw [← z0, ← z1] at NX
      clear hc HB hbl z0 z1
      by_cases d0 : 100 < X.size
      · have t3 : (100 : Int) < (X.size : Int) := by omega
        clear NX d0
        go_wp2_with fail
        (try go_ret)
        exact FewE.no BW.out
      · have t3 : ¬ (100 : Int) < (X.size : Int) := by omega
        by_cases d1 : 100 < Y.size
        · have t4 : (100 : Int) < (Y.size : Int) := by omega
          clear NX d0 d1
          go_wp2_with fail
          (try go_ret)
          exact FewE.no BW.out
        · have t4 : ¬ (100 : Int) < (Y.size : Int) := by omega
          have NB := Lib.hid (And.intro BW.out (NX.out (by omega) (by omega)))
          clear NX d0 d1
          go_wp2_with fail
          go_roundw
          case rel => exact ⟨k + 1, by go_num, by omega, NB⟩
          case measure => simp [intOf]; omega
    · obtain rfl : k = n := by omega
      have F1 := Lib.hid (show FewO l from ⟨by rw [HL.out]; exact hn', fun x hx => by
        obtain ⟨j, hj, rfl⟩ := List.getElem_of_mem hx
        exact HB.out.2 j hj (by rw [← HL.out]; exact hj)⟩)
      have B1 := Lib.hid HB.out.1
      clear HB
      go_wp2_with fail
      (try go_ret)
      exact FewE.yes F1.out B1.out
set_option maxRecDepth 100000 in
set_option maxHeartbeats 4000000 in
theorem same_any {A B : Option Addr} {n c m d : Nat} {la lb : List Or} {w : World} (ha : AAt w A n c la) (hb : AAt w B m d lb) (hn : n ≤ 1000000000000) :
    Calls Try.prog 23 #[.slice A n c, .slice B m d] w (SameE (la = lb) w) := by
  have HL := Lib.hid ha.len
  have HM := Lib.hid hb.len
  have HR := Lib.hid ha.row
  have HS := Lib.hid hb.row
  clear ha hb
  by_cases hnm : n = m
  rotate_left
  · have d0 : ((n : Int) != (m : Int)) = true := by simp; omega
    have HN := Lib.hid (show ¬ la = lb from fun e => hnm (by rw [← HL.out, ← HM.out, e]))
    clear hnm
    go_enter Try.func23, Try.ntmps23
    go_wp2_with fail
    (try go_ret)
    exact SameE.no HN.out (Below.refl _ _)
  subst hnm
  go_enter Try.func23, Try.ntmps23
  go_wp2_with fail
  go_loopw [5] (fun i wr => ∃ k : Nat, i = .int .i64 (k : Int) ∧ k ≤ n ∧ Hid (la.take k = lb.take k ∧ Below w.heap.size w wr)) (fun i _ => n - (intOf i).toNat)
  case atStart => exact ⟨0, rfl, Nat.zero_le _, Lib.hid ⟨by simp, Below.refl _ _⟩⟩
  case round =>
    obtain ⟨k, rfl, hk, HB⟩ := hrel
    by_cases hlt : k < n
    · have hka : k < la.length := by have := HL.out; omega
      have hkb : k < lb.length := by have := HM.out; omega
      have hwr : IntKind.i64.wrap ((k : Int) + 1) = (k : Int) + 1 := IntWalk.i64_in _ (by omega)
      obtain ⟨b1, o1, rfl, hb1, hc1⟩ := HR.out (by intro e; subst e; simp at hka)
      obtain ⟨b2, o2, rfl, hb2, hc2⟩ := HS.out (by intro e; subst e; simp at hkb)
      obtain ⟨x0, x1, x2, x3, x4, x5⟩ := row_six (range_below (hc1 k hka) HB.out.2 hb1)
      obtain ⟨y0, y1, y2, y3, y4, y5⟩ := row_six (range_below (hc2 k hkb) HB.out.2 hb2)
      have HE := Lib.hid (lists_step hka hkb HB.out.1)
      have HNE := Lib.hid (show la[k] ≠ lb[k] → ¬ la = lb from fun h e => by subst e; exact h rfl)
      have hE := fun W => or_neq la[k] lb[k] W
      have hg := or_grd
      have B1 := Lib.hid (show ∀ q, Below w.heap.size w (wr.drewN q) from fun q => HB.out.2.trans ((drewN_below wr q).mono HB.out.2.size))
      have t1 : (k : Int) < (n : Int) := by omega
      have t3 : (0 : Int) ≤ (k : Int) := by omega
      generalize la[k] = x at *
      generalize lb[k] = y at *
      have hd : (!decide (x = y)) = !decide (x = y) := rfl
      unfold encA at hE
      unfold strV at *
      obtain ⟨r, hr⟩ : ∃ r, decide (x = y) = r := ⟨_, rfl⟩
      rw [hr] at hE
      have HR2 := Lib.hid hr
      generalize strB x.who = X1 at *
      generalize strB x.mkt = Y1 at *
      generalize strB y.who = X2 at *
      generalize strB y.mkt = Y2 at *
      generalize x.num = n1 at *
      generalize y.num = n2 at *
      generalize x.buy = b1 at *
      generalize y.buy = b2 at *
      generalize x.price = p1 at *
      generalize y.price = p2 at *
      generalize x.left = q1 at *
      generalize y.left = q2 at *
      clear hc1 hc2 HB hb1 hb2 hr hd
      rcases r with _ | _
      · have HF := Lib.hid (HNE.out (of_decide_eq_false HR2.out))
        clear HE HNE HR2
        go_wp2_with fail
        go_quiet (fail)
        go_wp2_with fail
        (try go_ret)
        exact SameE.no HF.out (B1.out _)
      · have HF := Lib.hid (HE.out (of_decide_eq_true HR2.out))
        clear HE HNE HR2
        go_wp2_with fail
        go_quiet (fail)
        go_wp2_with fail
        go_roundw
        case rel => exact ⟨k + 1, by go_num, by omega, Lib.hid ⟨HF.out, B1.out _⟩⟩
        case measure => simp [intOf]; omega
    · obtain rfl : k = n := by omega
      have HF := Lib.hid (show la = lb by
        have := HB.out.1
        rwa [List.take_of_length_le (by rw [HL.out]; exact Nat.le_refl _), List.take_of_length_le (by rw [HM.out]; exact Nat.le_refl _)] at this)
      have B1 := Lib.hid HB.out.2
      clear HB
      go_wp2_with fail
      (try go_ret)
      exact SameE.yes HF.out B1.out
end Go.Proofs.Ytcendcegmhliaaa.Ord
