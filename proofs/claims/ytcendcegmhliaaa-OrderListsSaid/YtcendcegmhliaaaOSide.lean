/-
  Contracts of side, and of Sides.
-/
import Derived.Test.YtcendcegmhliaaaOCmp
import Derived.Test.YtcendcegmhliaaaONeed
namespace Go.Proofs.Ytcendcegmhliaaa.Ord
open Go.RowKit Go.Sort _root_.Go.Proofs.Ytcendcegmhliaaa.Gnd

set_option maxRecDepth 100000 in
theorem insertion_none (g : FuncId) (cb : Array Value) (w : World) : Calls Try.prog 67 #[.slice none 0 0, .int .i64 0, .int .i64 0, .func (.func g) #[] cb] w (fun e w' => e = .returned (.tuple #[]) ∧ w = w') := by
  go_enter Try.func67, Try.ntmps67
  go_wp2
  go_loop [8] (fun i => i = .int .i64 1) (fun _ => 0)
  case atStart => rfl
  case round =>
    subst hrel
    go_wp2
    go_end0
    exact ⟨rfl, rfl⟩
set_option maxRecDepth 100000 in
theorem stable_none (g : FuncId) (cb : Array Value) (w : World) : Calls Try.prog 62 #[.slice none 0 0, .int .i64 0, .func (.func g) #[] cb] w (fun e w' => e = .returned (.tuple #[]) ∧ w = w') := by
  have c := insertion_none g cb w
  go_enter Try.func62, Try.ntmps62
  go_wp2
  go_loop [7, 8] (fun i j => i = .int .i64 0 ∧ j = .int .i64 20) (fun _ _ => 0)
  case atStart => exact ⟨rfl, rfl⟩
  case round =>
    obtain ⟨rfl, rfl⟩ := hrel
    go_wp2_with (go_at_call 67; refine c.mono ?_; rintro e w' ⟨rfl, rfl⟩)
    go_loop [6] (fun i => i = .int .i64 20) (fun _ => 0)
    case atStart => rfl
    case round =>
      subst hrel
      go_wp2
      go_end0
      exact ⟨rfl, rfl⟩
set_option maxRecDepth 100000 in
theorem sort_none (g : FuncId) (cb : Array Value) (w : World) : Calls Try.prog 56 #[.slice none 0 0, .func (.func g) #[] cb] w (fun e w' => e = .returned (.tuple #[]) ∧ w = w') := by
  have c := stable_none g cb w
  go_enter Try.func56, Try.ntmps56
  go_wp2_with (go_at_call 62; refine c.mono ?_; rintro e w' ⟨rfl, rfl⟩)
  go_end0
  exact ⟨rfl, rfl⟩
theorem sort_all {B : Nat} {v : Value} {l : List Or} {w : World} (h : OwnA w B v l) (hn : l.length ≤ 1000000) (hB : B ≤ w.heap.size) (buy : Bool) (g : FuncId) (cb : Array Value) (hen : Enters Try.prog g)
    (hcmp : ∀ W, RowKit.Below B w W → ∀ x y, Calls Try.prog g (#[.agg (encA x).toArray, .agg (encA y).toArray] ++ cb) W fun e W' => e = .returned (.int .i64 (ordO buy x y)) ∧ ∃ q os, W' = grow (W.drewN q) os) :
    Calls Try.prog 56 #[v, .func (.func g) #[] cb] w (fun e w' => e = .returned (.tuple #[]) ∧ ∃ l', OwnA w' B v l' ∧ Stab buy l l' ∧ RowKit.Below B w w') := by
  have h0 := h
  obtain ⟨_, ⟨rfl, hl⟩ | ⟨gb, c, _, rfl, _⟩⟩ := h
  · obtain rfl : l = [] := List.eq_nil_of_length_eq_zero hl
    refine (sort_none g cb w).mono ?_
    rintro e w' ⟨rfl, rfl⟩
    exact ⟨rfl, [], h0, ⟨[], rfl, .refl _, .nil⟩, RowKit.Below.refl _ _⟩
  · exact sort_any h0 hn hB ⟨gb, c, rfl⟩ buy g cb hen hcmp
/-- A builtin row of one order. -/
theorem row_one (w : World) (x : Or) : RowA (w.alloc (.cells (encA x).toArray 25)) (some ⟨w.heap.size, 0, none⟩) [x] := fun _ => by
  refine ⟨w.heap.size, 0, rfl, by simp, fun j hj i v hv => ?_⟩
  obtain rfl : j = 0 := by simpa using hj
  have a := at_new w (encA x).toArray 25
  rw [show (0 : Nat) + 0 * 6 + i = i by omega]
  exact a.2.2 i v (by simpa using hv)
theorem put_or (w : World) (x : Or) : (Instr.storeAt 25 (.pointer (some ⟨w.heap.size, 0, none⟩)) (.agg (encA x).toArray)).run Try.prog (w.alloc (.cells #[.int .u64 0, .string ⟨#[]⟩, .string ⟨#[]⟩, .bool false, .int .i64 0, .int .i64 0] 25)) = .ok () (w.alloc (.cells (encA x).toArray 25)) :=
  run_storeAt_new w 25 #[.int .u64 0, .string ⟨#[]⟩, .string ⟨#[]⟩, .bool false, .int .i64 0, .int .i64 0] (encA x).toArray size_or rfl (by simp [encA, Value.oneCell'])
set_option maxRecDepth 100000 in
set_option maxHeartbeats 4000000 in
theorem side_any {A : Option Addr} {n c : Nat} {l : List Or} {w : World} (h : AAt w A n c l) (hn : n ≤ 100000) (fa fb : FuncId) (ca cb : Array Value) (p : Or → Bool) (buy : Bool) (ea : Enters Try.prog fa) (eb : Enters Try.prog fb)
    (hf : ∀ W, Below w.heap.size w W → ∀ x, Calls Try.prog fa (#[.agg (encA x).toArray] ++ ca) W fun e W' => e = .returned (.bool (p x)) ∧ Below W.heap.size W W')
    (hg : ∀ W, Below w.heap.size w W → ∀ x y, Calls Try.prog fb (#[.agg (encA x).toArray, .agg (encA y).toArray] ++ cb) W fun e W' => e = .returned (.int .i64 (ordO buy x y)) ∧ ∃ q os, W' = grow (W.drewN q) os) :
    Calls Try.prog 39 #[.slice A n c, .func (.func fa) #[] ca, .func (.func fb) #[] cb] w (fun e w' => ∃ v l', e = .returned v ∧ OwnA w' w.heap.size v l' ∧ Stab buy (l.filter p) l' ∧ Below w.heap.size w w') := by
  have HL := Lib.hid h.len
  have HR := Lib.hid h.row
  have HF := Lib.hid hf
  have HG := Lib.hid hg
  have HEB := Lib.hid eb
  unfold Enters at ea
  clear h hf hg eb
  go_enter Try.func39, Try.ntmps39
  go_wp2_with fail
  go_loopw [7, 12] (fun v i wr => ∃ k : Nat, i = .int .i64 (k : Int) ∧ k ≤ n ∧ Hid (Below w.heap.size w wr) ∧ Hid (OwnA wr w.heap.size v ((l.take k).filter p))) (fun _ i _ => n - (intOf i).toNat)
  case atStart => exact ⟨0, rfl, Nat.zero_le _, Lib.hid (Below.refl _ _), Lib.hid (OwnA.nil _ _)⟩
  case round =>
    obtain ⟨k, rfl, hk, HB, HO⟩ := hrel
    by_cases hlt : k < n
    · have hkl : k < l.length := by rw [HL.out]; exact hlt
      have hwr : IntKind.i64.wrap ((k : Int) + 1) = (k : Int) + 1 := IntWalk.i64_in _ (by omega)
      have t1 : (k : Int) < (n : Int) := by omega
      have t2 : (0 : Int) ≤ (k : Int) := by omega
      obtain ⟨b, off, rfl, hbl, hc⟩ := HR.out (by intro e; rw [e] at hkl; simp at hkl)
      have L := Lib.hid (load_ac (range_below (hc k hkl) (HB.out.trans ((below_box wr (.cells #[.int .u64 0, .string ⟨#[]⟩, .string ⟨#[]⟩, .bool false, .int .i64 0, .int .i64 0] 25)).mono HB.out.size)) hbl))
      have L0 := Lib.hid (load_ac (range_below (hc k hkl) HB.out hbl))
      have PW := Lib.hid (put_or wr l[k])
      have b1 := below_box wr (.cells (encA l[k]).toArray 25)
      have a1 := at_new wr (encA l[k]).toArray 25
      obtain ⟨W1, hW1⟩ : ∃ W1, wr.alloc (.cells (encA l[k]).toArray 25) = W1 := ⟨_, rfl⟩
      rw [hW1] at b1 a1 PW
      have L1 := Lib.hid (load_or a1)
      have cF := HF.out W1 (HB.out.trans (b1.mono HB.out.size)) l[k]
      have NX : (l.take (k + 1)).filter p = (l.take k).filter p ++ (if p l[k] = true then [l[k]] else []) := by
        rw [List.take_succ_eq_append_getElem hkl, List.filter_append]
        congr 1
        rw [List.filter_cons, List.filter_nil]
      rcases hp : p l[k] with _ | _
      · rw [hp] at cF NX
        have NO := Lib.hid (show ∀ W, Below W1.heap.size W1 W → OwnA W w.heap.size u7 ((l.take (k + 1)).filter p) ∧ Below w.heap.size w W from fun W hW => by
          have hb := b1.trans (hW.mono b1.size)
          rw [NX]
          exact ⟨by simpa using HO.out.below hb, HB.out.trans (hb.mono HB.out.size)⟩)
        generalize hC : (encA l[k]).toArray = C at *
        clear hc hbl hkl HB HO b1 a1 NX hp hC hW1
        go_wp2_with (first
          | ((with_reducible refine wpList_load_eq rfl 25 (.tmp 14) rfl _ ?_ L.out ?_); (next => rfl))
          | ((with_reducible refine wpList_load_eq rfl 25 (.tmp 14) rfl _ ?_ L0.out ?_); (next => rfl))
          | ((with_reducible refine wpList_load_eq rfl 25 (.tmp 9) rfl _ ?_ L1.out ?_); (next => rfl))
          | ((with_reducible refine wpList_store_eq rfl 25 (.tmp 9) (.tmp 15) rfl _ _ ?_ ?_ PW.out ?_); (next => rfl); (next => rfl))
          | (go_at_fn fa; refine cF.mono ?_; rintro e w2 ⟨rfl, b2⟩))
        have NB := Lib.hid (NO.out _ b2)
        clear b2
        go_roundw
        case rel => exact ⟨k + 1, by go_num, by omega, Lib.hid NB.out.2, Lib.hid NB.out.1⟩
        case measure => simp [intOf]; omega
      · rw [hp] at cF NX
        have AP := Lib.hid (show ∀ W, Below W1.heap.size W1 W → ∃ v' W', (Builtin.append_ #[33, 33] 33 #[u7, .slice (some ⟨W.heap.size, 0, none⟩) 1 1]).run Try.prog (W.alloc (.cells (encA l[k]).toArray 25)) = .ok v' W' ∧ OwnA W' w.heap.size v' ((l.take (k + 1)).filter p) ∧ Below w.heap.size w W' from fun W hW => by
          have hb := b1.trans (hW.mono b1.size)
          have hb2 := HB.out.trans (hb.mono HB.out.size)
          have hb3 := below_box W (.cells (encA l[k]).toArray 25)
          have hb4 := hb2.trans (hb3.mono hb2.size)
          have o3 := (HO.out.below hb).below hb3
          have hl : ((l.take k).filter p).length ≤ k := Nat.le_trans (List.length_filter_le _ _) (by rw [List.length_take]; omega)
          obtain ⟨v', W', h1, h2, h3, h4⟩ := append_acs _ w.heap.size u7 _ o3 (some ⟨W.heap.size, 0, none⟩) 1 1 [l[k]] rfl (fun h => by cases h) (row_one W l[k]) (by omega) hb4.size
          refine ⟨v', W', h1, by rw [NX]; exact h2, hb4.grown h3 hb4.size h4⟩)
        have L2 := Lib.hid (show ∀ W, Below W1.heap.size W1 W → _ from fun W hW => load_or (a1.below hW a1.1))
        unfold encA at hW1 L L0 PW L1 cF AP L2
        unfold strV at *
        generalize strB l[k].who = X1 at *
        generalize strB l[k].mkt = X2 at *
        generalize l[k].num = y1 at *
        generalize l[k].buy = y2 at *
        generalize l[k].price = y3 at *
        generalize l[k].left = y4 at *
        clear hc hbl hkl HB HO b1 a1 NX hp hW1
        go_wp2_with (first
          | ((with_reducible refine wpList_load_eq rfl 25 (.tmp 14) rfl _ ?_ L.out ?_); (next => rfl))
          | ((with_reducible refine wpList_load_eq rfl 25 (.tmp 14) rfl _ ?_ L0.out ?_); (next => rfl))
          | ((with_reducible refine wpList_load_eq rfl 25 (.tmp 9) rfl _ ?_ L1.out ?_); (next => rfl))
          | ((with_reducible refine wpList_store_eq rfl 25 (.tmp 9) (.tmp 15) rfl _ _ ?_ ?_ PW.out ?_); (next => rfl); (next => rfl))
          | (go_at_fn fa; refine cF.mono ?_; rintro e w2 ⟨rfl, b2⟩; have L3 := Lib.hid (L2.out w2 b2); obtain ⟨v', W', r1, r2, r3⟩ := AP.out w2 b2; have R1 := Lib.hid r1; have R2 := Lib.hid r2; have R3 := Lib.hid r3; clear r1 r2 r3 b2)
          | ((with_reducible refine wpList_load_eq rfl 25 (.tmp 9) rfl _ ?_ L3.out ?_); (next => rfl))
          | ((with_reducible refine wpList_append_eq rfl (.tmp 19) (.tmp 21) 33 rfl ?_ ?_ R1.out ?_); (next => rfl); (next => rfl)))
        go_roundw
        case rel => exact ⟨k + 1, by go_num, by omega, R3, R2⟩
        case measure => simp [intOf]; omega
    · obtain rfl : k = n := by omega
      have e : l.take k = l := List.take_of_length_le (by rw [HL.out]; exact Nat.le_refl _)
      rw [e] at HO
      have hl : (l.filter p).length ≤ l.length := List.length_filter_le _ _
      have cS := sort_all HO.out (by have := HL.out; omega) HB.out.size buy fb cb HEB.out (fun W hW => HG.out W (HB.out.trans hW))
      clear e hl HO
      go_wp2_with (go_at_call 56; refine cS.mono ?_; rintro e w2 ⟨rfl, l', o2, st, b2⟩)
      go_ret
      exact ⟨_, l', rfl, o2, st, HB.out.trans b2⟩
end Go.Proofs.Ytcendcegmhliaaa.Ord
