/-
  Contract of the document's Same.
-/
import Derived.Test.YtobpbbldgbgcdaaAFew
import Derived.Deep.QuietTactic
namespace Go.Proofs.Ytobpbbldgbgcdaa.Acc
open Go.RowKit Go.Sort

theorem ac_und : Try.prog.underlying 35 = some (.struct (Try.prog.fieldsOf 35)) := by kernel_rfl
theorem ac_stood : Try.prog.stoodInHeld 35 = false := by kernel_rfl
theorem ac_guard : Try.prog.eqGuardType Try.prog.depth 35 = false := by kernel_rfl
theorem ac_eq (X1 Y1 X2 Y2 : ByteArray) (m1 h1 m2 h2 : Int) (W : World) : (Op.equalIn 10000 35 (.agg #[.string X1, .string Y1, .int .i64 m1, .int .i64 h1]) (.agg #[.string X2, .string Y2, .int .i64 m2, .int .i64 h2])).run Try.prog W = .ok ((X1.toList == X2.toList) && (Y1.toList == Y2.toList) && (m1 == m2) && (h1 == h2)) W := by
  have u9 := Try.underlying9
  have a9 := Try.isAgg9
  have z9 := Try.sizeOf9
  have u2 := Try.underlying2
  have a2 := Try.isAgg2
  have z2 := Try.sizeOf2
  rw [show (10000 : Nat) = 9999 + 1 from rfl, run_equalIn_agg W 9999 35 _ _ ac_und ac_stood]
  simp only [Program.fieldsOf, Try.underlying35]
  go_simp
  by_cases g1 : X1.toList = X2.toList <;> by_cases g2 : Y1.toList = Y2.toList <;> by_cases g3 : m1 = m2 <;> by_cases g4 : h1 = h2 <;> simp [g1, g2, g3, g4]
theorem ac_beq (x y : Ac) : (((strB x.who).toList == (strB y.who).toList) && ((strB x.asset).toList == (strB y.asset).toList) && (x.bal == y.bal) && (x.held == y.held)) = decide (x = y) := by
  rw [strB_list, strB_list, strB_list, strB_list]
  obtain ⟨a, b, c, d⟩ := x
  obtain ⟨a', b', c', d'⟩ := y
  by_cases h1 : a = a' <;> by_cases h2 : b = b' <;> by_cases h3 : c = c' <;> by_cases h4 : d = d' <;> simp [h1, h2, h3, h4]
theorem ac_neq (X1 Y1 X2 Y2 : ByteArray) (m1 h1 m2 h2 : Int) (W : World) (r : Bool) (h : ((X1.toList == X2.toList) && (Y1.toList == Y2.toList) && (m1 == m2) && (h1 == h2)) = r) : (binOp .neq 35 (.agg #[.string X1, .string Y1, .int .i64 m1, .int .i64 h1]) (.agg #[.string X2, .string Y2, .int .i64 m2, .int .i64 h2])).run Try.prog W = .ok (.bool (!r)) W := by
  rw [run_neq_struct, ac_eq, h]
  rfl
theorem ac_grd (x y : Operand) (u v : Array Value) (W : World) : (eqGuard .neq 35 x y (.agg u) (.agg v)).run Try.prog W = .ok () W := run_eqGuard_agg W _ _ _ _ _ _ ac_guard
theorem drewN_below (w : World) (q : Nat) : Below w.heap.size w (w.drewN q) := ⟨rfl, rfl, rfl, Nat.le_refl _, fun _ _ => rfl⟩
theorem lists_step {α : Type} {la lb : List α} {k : Nat} (ha : k < la.length) (hb : k < lb.length) (h : la.take k = lb.take k) (e : la[k] = lb[k]) : la.take (k + 1) = lb.take (k + 1) := by
  rw [List.take_succ_eq_append_getElem ha, List.take_succ_eq_append_getElem hb, h, e]
def SameE (p : Prop) (w : World) (e : Ending) (w' : World) : Prop := ∃ r : Bool, e = .returned (.bool r) ∧ (r = true ↔ p) ∧ Below w.heap.size w w'
theorem SameE.yes {p : Prop} {w w' : World} (h : p) (b : Below w.heap.size w w') : SameE p w (.returned (.bool true)) w' := ⟨true, rfl, ⟨fun _ => h, fun _ => rfl⟩, b⟩
theorem SameE.no {p : Prop} {w w' : World} (h : ¬ p) (b : Below w.heap.size w w') : SameE p w (.returned (.bool false)) w' := ⟨false, rfl, ⟨fun e => (by cases e), fun e => absurd e h⟩, b⟩
set_option maxRecDepth 100000 in
set_option maxHeartbeats 4000000 in
theorem same_any {A B : Option Addr} {n c m d : Nat} {la lb : List Ac} {w : World} (ha : AAt w A n c la) (hb : AAt w B m d lb) (hn : n ≤ 1000000000000) :
    Calls Try.prog 22 #[.slice A n c, .slice B m d] w (SameE (la = lb) w) := by
  have HL := Lib.hid ha.len
  have HM := Lib.hid hb.len
  have HR := Lib.hid ha.row
  have HS := Lib.hid hb.row
  clear ha hb
  by_cases hnm : n = m
  rotate_left
  · have d0 : ((n : Int) != (m : Int)) = true := by simp; omega
    have HN := Lib.hid (show ¬ la = lb from fun e => hnm (by rw [← HL.out, ← HM.out, e]))
    clear hnm
    go_enter Try.func22, Try.ntmps22
    go_wp2_with fail
    go_ret
    exact SameE.no HN.out (Below.refl _ _)
  subst hnm
  go_enter Try.func22, Try.ntmps22
  go_wp2_with fail
  go_loopw [5] (fun i wr => ∃ k : Nat, i = .int .i64 (k : Int) ∧ k ≤ n ∧ Hid (la.take k = lb.take k ∧ Below w.heap.size w wr)) (fun i _ => n - (intOf i).toNat)
  case atStart => exact ⟨0, rfl, Nat.zero_le _, Lib.hid ⟨by simp, Below.refl _ _⟩⟩
  case round =>
    obtain ⟨k, rfl, hk, HB⟩ := hrel
    by_cases hlt : k < n
    · have hka : k < la.length := by have := HL.out; omega
      have hkb : k < lb.length := by have := HM.out; omega
      have hwr : IntKind.i64.wrap ((k : Int) + 1) = (k : Int) + 1 := IntWalk.i64_in _ (by omega)
      obtain ⟨b1, o1, rfl, hb1, hc1⟩ := HR.out (by intro e; subst e; simp at hka)
      obtain ⟨b2, o2, rfl, hb2, hc2⟩ := HS.out (by intro e; subst e; simp at hkb)
      obtain ⟨x0, x1, x2, x3⟩ := four (range_below (hc1 k hka) HB.out.2 hb1)
      obtain ⟨y0, y1, y2, y3⟩ := four (range_below (hc2 k hkb) HB.out.2 hb2)
      have HE := Lib.hid (lists_step hka hkb HB.out.1)
      have HNE := Lib.hid (show la[k] ≠ lb[k] → ¬ la = lb from fun h e => by subst e; exact h rfl)
      have HQ := Lib.hid (ac_beq la[k] lb[k])
      have HE2 := Lib.hid (fun W r => ac_neq (strB la[k].who) (strB la[k].asset) (strB lb[k].who) (strB lb[k].asset) la[k].bal la[k].held lb[k].bal lb[k].held W r)
      have hg := ac_grd
      have B1 := Lib.hid (show ∀ q, Below w.heap.size w (wr.drewN q) from fun q => HB.out.2.trans ((drewN_below wr q).mono HB.out.2.size))
      unfold strV at x0 x1 y0 y1
      have t1 : (k : Int) < (n : Int) := by omega
      have t3 : (0 : Int) ≤ (k : Int) := by omega
      generalize hx : la[k] = x at *
      generalize hy : lb[k] = y at *
      generalize strB x.who = X1 at *
      generalize strB x.asset = Y1 at *
      generalize strB y.who = X2 at *
      generalize strB y.asset = Y2 at *
      clear hc1 hc2 HB hb1 hb2 hx hy
      by_cases hxy : x = y
      · have hE := fun W => HE2.out W true (by rw [HQ.out]; simp [hxy])
        have HF := Lib.hid (HE.out hxy)
        clear HE HNE HE2 HQ hxy
        generalize x.bal = m1 at *
        generalize x.held = h1 at *
        generalize y.bal = m2 at *
        generalize y.held = h2 at *
        go_wp2_with fail
        go_quiet (fail)
        go_wp2_with fail
        go_roundw
        case rel => exact ⟨k + 1, by go_num, by omega, Lib.hid ⟨HF.out, B1.out _⟩⟩
        case measure => simp [intOf]; omega
      · have hE := fun W => HE2.out W false (by rw [HQ.out]; simp [hxy])
        have HF := Lib.hid (HNE.out hxy)
        clear HE HNE HE2 HQ hxy
        generalize x.bal = m1 at *
        generalize x.held = h1 at *
        generalize y.bal = m2 at *
        generalize y.held = h2 at *
        go_wp2_with fail
        go_quiet (fail)
        go_wp2_with fail
        go_ret
        exact SameE.no HF.out (B1.out _)
    · obtain rfl : k = n := by omega
      have HF := Lib.hid (show la = lb by
        have := HB.out.1
        rwa [List.take_of_length_le (by rw [HL.out]; exact Nat.le_refl _), List.take_of_length_le (by rw [HM.out]; exact Nat.le_refl _)] at this)
      have B1 := Lib.hid HB.out.2
      clear HB
      go_wp2_with fail
      go_ret
      exact SameE.yes HF.out B1.out
end Go.Proofs.Ytobpbbldgbgcdaa.Acc
