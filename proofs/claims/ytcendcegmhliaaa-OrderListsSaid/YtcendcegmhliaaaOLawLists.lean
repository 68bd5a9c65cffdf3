/-
  OrderLists: the walk.
-/
import Derived.Test.YtcendcegmhliaaaOAwake
import Derived.Test.YtcendcegmhliaaaOArgs
import Derived.Test.YtcendcegmhliaaaORSide3
namespace Go.Proofs.Ytcendcegmhliaaa.Ord
open Go.RowKit Go.Sort _root_.Go.Proofs.Ytcendcegmhliaaa.Gnd

set_option maxRecDepth 100000 in
set_option maxHeartbeats 8000000 in
theorem lists_walk {A : Option Addr} {n c : Nat} {l : List Or} (w : World) (h : AAt w A n c l) (hn : n ≤ 9223372036854775807) (x : Or) (m : Int) (mkt : Bs) : Calls Try.prog 5 #[.slice A n c, .agg (encA x).toArray, .int .u64 m, strV mkt] w (fun e w' => e = .returned (.bool true) ∧ Below w.heap.size w w') := by
  have b1 := below_box w (.cells (encA x).toArray 25)
  have a1 := at_new w (encA x).toArray 25
  have h1 := h.below b1
  obtain ⟨W1, hW1⟩ : ∃ W1, w.alloc (.cells (encA x).toArray 25) = W1 := ⟨_, rfl⟩
  rw [hW1] at b1 a1 h1
  have cA := awake_any W1
  have FIN := Lib.hid (show ∀ W, Below W1.heap.size W1 W → Below w.heap.size w W from fun W hb => b1.trans (hb.mono b1.size))
  have BX := Lib.hid (show ∀ W, Below W1.heap.size W1 W → At W w.heap.size (encA x).toArray from fun W hb => a1.below hb a1.1)
  have KS := Lib.hid (show ∀ W, Below W1.heap.size W1 W → W.cell? ⟨w.heap.size, 1, none⟩ = some (.string (strB x.who)) ∧ W.cell? ⟨w.heap.size, 2, none⟩ = some (.string (strB x.mkt)) from fun W hb =>
    ⟨(BX.out W hb).2.2 1 _ rfl, (BX.out W hb).2.2 2 _ rfl⟩)
  have AT := Lib.hid (show ∀ W, Below W1.heap.size W1 W → AAt W A n c l from fun W hb => h1.below hb)
  have CF := Lib.hid (show ∀ W, Below W1.heap.size W1 W → _ from fun W hb => few_any (h1.below hb) hn)
  have z0 := strB_size mkt
  have z1 := strB_size x.who
  have z2 := strB_size x.mkt
  have HLN := Lib.hid h.len
  clear h h1 a1 b1
  unfold strV
  obtain ⟨C, hC⟩ : ∃ C, (encA x).toArray = C := ⟨_, rfl⟩
  rw [hC] at hW1 ⊢
  have HC := Lib.hid hC
  clear hC
  go_enter Try.func5, Try.ntmps5
  go_wp2_with fail
  refine cA.mono ?_
  rintro e w2 ⟨rfl, b2⟩
  have cF := CF.out w2 b2
  have B2 := Lib.hid b2
  clear CF cA b2
  go_wp2_with fail
  refine cF.mono ?_
  rintro e w3 ⟨r, rfl, hf, b3⟩
  have B3 := Lib.hid (B2.out.trans (b3.mono B2.out.size))
  clear cF b3 B2
  rcases r with _ | _
  · clear hf
    go_wp2_with fail
    (try go_ret)
    exact ⟨rfl, FIN.out _ B3.out⟩
  have HF := Lib.hid (hf rfl)
  clear hf
  obtain ⟨k1, k2⟩ := KS.out w3 B3.out
  by_cases c1 : 100 < (strB x.who).size
  · have t1 : (100 : Int) < ((strB x.who).size : Int) := by omega
    go_wp2_with fail
    (try go_ret)
    exact ⟨rfl, FIN.out _ B3.out⟩
  have t1 : ¬ (100 : Int) < ((strB x.who).size : Int) := by omega
  by_cases c2 : 100 < (strB x.mkt).size
  · have t2 : (100 : Int) < ((strB x.mkt).size : Int) := by omega
    go_wp2_with fail
    (try go_ret)
    exact ⟨rfl, FIN.out _ B3.out⟩
  have t2 : ¬ (100 : Int) < ((strB x.mkt).size : Int) := by omega
  by_cases c3 : 100 < (strB mkt).size
  · have t3 : (100 : Int) < ((strB mkt).size : Int) := by omega
    go_wp2_with fail
    (try go_ret)
    exact ⟨rfl, FIN.out _ B3.out⟩
  have t3 : ¬ (100 : Int) < ((strB mkt).size : Int) := by omega
  have g1 : x.who.length ≤ 100 := by omega
  have g2 : x.mkt.length ≤ 100 := by omega
  have hn2 : n ≤ 210 := by rw [← HLN.out]; exact HF.out.1
  have L3 := Lib.hid (load_or (BX.out w3 B3.out))
  have cP := put_any (AT.out w3 B3.out) (by omega) x (by omega) (by omega)
  rw [HC.out] at cP L3
  clear z0 z1 z2 c1 c2 c3 KS HF
  obtain ⟨⟨PL, pe⟩, hPL⟩ : ∃ PR, putO l x = PR := ⟨_, rfl⟩
  obtain ⟨⟨DL, y, de⟩, hDL⟩ : ∃ DR, dropO l m = DR := ⟨_, rfl⟩
  have CR := Lib.hid (show ∀ W, Below W1.heap.size W1 W → Calls Try.prog 19 #[.slice A n c, .agg C] W (AcsE PL pe W) from fun W hb => by
    have := rput_any (AT.out W hb) (by omega) x g1 g2
    rwa [HC.out, hPL] at this)
  have CD := Lib.hid (show ∀ W, Below W1.heap.size W1 W → Calls Try.prog 20 #[.slice A n c, .int .u64 m] W (DropE (DL, y, de) W) from fun W hb => by
    have := drop_any (AT.out W hb) (by omega) m
    rwa [hDL] at this)
  have CE := Lib.hid (show ∀ W, Below W1.heap.size W1 W → Calls Try.prog 21 #[.slice A n c, .int .u64 m] W (DropE (DL, y, de) W) from fun W hb => by
    have := rdrop_any (AT.out W hb) (by omega) m
    rwa [hDL] at this)
  have CS := Lib.hid (show ∀ W, Below W1.heap.size W1 W → Calls Try.prog 22 #[.slice A n c, .string (strB mkt)] W (SidesE l mkt W) from fun W hb => sides_any (AT.out W hb) (by omega) mkt)
  rw [hPL] at cP
  go_wp2_with (first
    | ((with_reducible refine wpList_load_eq rfl 25 (.tmp 5) rfl _ ?_ L3.out ?_); (next => rfl))
    | (go_at_call 18; refine cP.mono ?_; rintro e w4 ⟨v4, rfl, o4, b4⟩; have B4 := Lib.hid (B3.out.trans (b4.mono B3.out.size)); have L4 := Lib.hid (HC.out ▸ load_or (BX.out w4 B4.out)); have cR := CR.out w4 B4.out; clear cP L3)
    | ((with_reducible refine wpList_load_eq rfl 25 (.tmp 5) rfl _ ?_ L4.out ?_); (next => rfl))
    | (go_at_call 19; refine cR.mono ?_; rintro e w5 ⟨v5, rfl, o5, b5⟩; have B5 := Lib.hid (B4.out.trans (b5.mono B4.out.size)); have cD := CD.out w5 B5.out; clear cR L4)
    | (go_at_call 20; refine cD.mono ?_; rintro e w6 ⟨v6, rfl, o6, b6⟩; have B6 := Lib.hid (B5.out.trans (b6.mono B5.out.size)); have P6 := put_or w6 y; have x6 := below_box w6 (.cells (encA y).toArray 25); have a7 := at_new w6 (encA y).toArray 25; obtain ⟨W7, hW7⟩ : ∃ W7, w6.alloc (.cells (encA y).toArray 25) = W7 := ⟨_, rfl⟩; rw [hW7] at P6 x6 a7; have Q6 := Lib.hid P6; have B7 := Lib.hid (B6.out.trans (x6.mono B6.out.size)); have cE := CE.out W7 B7.out; clear cD P6)
    | ((with_reducible refine wpList_store_eq rfl 25 (.tmp 15) (.tmp 65) rfl _ _ ?_ ?_ Q6.out ?_); (next => rfl); (next => rfl))
    | (go_at_call 21; refine cE.mono ?_; rintro e w8 ⟨v8, rfl, o8, b8⟩; have B8 := Lib.hid (B7.out.trans (b8.mono B7.out.size)); have P8 := put_or w8 y; have x8 := below_box w8 (.cells (encA y).toArray 25); have a9 := at_new w8 (encA y).toArray 25; obtain ⟨W9, hW9⟩ : ∃ W9, w8.alloc (.cells (encA y).toArray 25) = W9 := ⟨_, rfl⟩; rw [hW9] at P8 x8 a9; have Q8 := Lib.hid P8; have B9 := Lib.hid (B8.out.trans (x8.mono B8.out.size)); have cS := CS.out W9 B9.out; clear cE P8)
    | ((with_reducible refine wpList_store_eq rfl 25 (.tmp 18) (.tmp 72) rfl _ _ ?_ ?_ Q8.out ?_); (next => rfl); (next => rfl))
    | (go_at_call 22; refine cS.mono ?_; rintro e wa ⟨va, la, vb, lb, rfl, oa, ob, sa, sb, ba⟩))
  have hp1 : PL.length ≤ 211 := by
    have e : PL = (putO l x).1 := by rw [hPL]
    have q := insAt_le l x.num
    have := HLN.out
    rw [e]
    unfold putO insO
    split
    · simp
    · simp only [List.length_append, List.length_take, List.length_drop, List.length_cons, List.length_nil]; omega
  have hd1 : DL.length ≤ 211 := by
    have e : DL = (dropO l m).1 := by rw [hDL]
    have := HLN.out
    rw [e]
    unfold dropO
    split
    · simp only [List.length_append, List.length_take, List.length_drop]; omega
    · simp
  have ha1 : la.length ≤ 211 := by
    have := sa.perm.length_eq; have := List.length_filter_le (askB mkt true) l; have := HLN.out; omega
  have hb1 : lb.length ≤ 211 := by
    have := sb.perm.length_eq; have := List.length_filter_le (askB mkt false) l; have := HLN.out; omega
  have sx1 := (rside_stab mkt true l).unique sa
  have sx2 := (rside_stab mkt false l).unique sb
  have y8 := x8.trans (ba.mono x8.size)
  have y7 := b8.trans (y8.mono b8.size)
  have y6 := x6.trans (y7.mono x6.size)
  have y5 := b6.trans (y6.mono b6.size)
  have y4 := b5.trans (y5.mono b5.size)
  have BA := Lib.hid (B9.out.trans (ba.mono B9.out.size))
  obtain ⟨A4, c4, rfl, h4, _⟩ := o4.at
  obtain ⟨A5, c5, rfl, h5, _⟩ := o5.at
  obtain ⟨A6, c6, rfl, h6, _⟩ := o6.at
  obtain ⟨A8, c8, rfl, h8, _⟩ := o8.at
  obtain ⟨Aa, ca, rfl, ha, _⟩ := oa.at
  obtain ⟨Ab, cb, rfl, hb, _⟩ := ob.at
  have cM := same_any (h4.below y4) (h5.below y5) (by omega)
  have KY := Lib.hid (show ∀ W, Below wa.heap.size wa W → W.rangeAt w6.heap.size 0 (encA y) ∧ W.rangeAt w8.heap.size 0 (encA y) from fun W hW => ⟨fun i v hv => by
    rw [Nat.zero_add]; exact (a7.below (y7.trans (hW.mono y7.size)) a7.1).2.2 i v (by simpa using hv), fun i v hv => by
    rw [Nat.zero_add]; exact (a9.below (ba.trans (hW.mono ba.size)) a9.1).2.2 i v (by simpa using hv)⟩)
  have h6a := h6.below y6
  have h8a := h8.below y8
  clear o4 o5 o6 o8 oa ob h4 h5 h6 h8 y4 y5 y6 y7 y8 x6 x8 a7 a9 b4 b5 b6 b8 hW7 hW9 Q6 Q8 B3 B4 B5 B6 B7 B8 B9 hPL hDL CR CD CE CS cS k1 k2 sa sb
  refine cM.mono ?_
  rintro e wb ⟨r, rfl, er, bb⟩
  obtain rfl : r = true := er.2 (by simp)
  clear cM er
  have cM := same_any (h6a.below bb) (h8a.below bb) (by omega)
  go_wp2_with fail
  refine cM.mono ?_
  rintro e wc ⟨r, rfl, er, bc⟩
  obtain rfl : r = true := er.2 (by simp)
  clear cM er
  have bac := bb.trans (bc.mono bb.size)
  have cS := rside_any (AT.out wc (BA.out.trans (bac.mono BA.out.size))) (by omega) mkt true
  rw [sx1] at cS
  go_wp2_with fail
  refine cS.mono ?_
  rintro e wd ⟨vd, rfl, od, bd⟩
  obtain ⟨Ad, cd, rfl, hd, _⟩ := od.at
  have bad := bac.trans (bd.mono bac.size)
  have cM := same_any (ha.below bad) hd (by omega)
  clear cS od
  go_wp2_with fail
  refine cM.mono ?_
  rintro e we ⟨r, rfl, er, be⟩
  obtain rfl : r = true := er.2 (by simp)
  clear cM er
  have bae := bad.trans (be.mono bad.size)
  have cS := rside_any (AT.out we (BA.out.trans (bae.mono BA.out.size))) (by omega) mkt false
  rw [sx2] at cS
  go_wp2_with fail
  refine cS.mono ?_
  rintro e wf ⟨vf, rfl, of, bf⟩
  obtain ⟨Af, cf, rfl, hf, _⟩ := of.at
  have baf := bae.trans (bf.mono bae.size)
  have cM := same_any (hb.below baf) hf (by omega)
  clear cS of
  go_wp2_with fail
  refine cM.mono ?_
  rintro e wg ⟨r, rfl, er, bg⟩
  obtain rfl : r = true := er.2 (by simp)
  clear cM er
  have bag := baf.trans (bg.mono baf.size)
  obtain ⟨r7, r9⟩ := KY.out wg bag
  have q7 := row_six r7
  have q9 := row_six r9
  have hE := fun W => or_eql y y W
  rw [decide_eq_true (rfl : y = y)] at hE
  have hg := or_grd2
  have BG := Lib.hid (FIN.out _ (BA.out.trans (bag.mono BA.out.size)))
  simp only [Nat.zero_add] at q7 q9
  rw [show (encA y).toArray = #[.int .u64 y.num, strV y.who, strV y.mkt, .bool y.buy, .int .i64 y.price, .int .i64 y.left] from rfl] at hE
  obtain ⟨q70, q71, q72, q73, q74, q75⟩ := q7
  obtain ⟨q90, q91, q92, q93, q94, q95⟩ := q9
  unfold strV at *
  clear r7 r9 KY bb bc bd be bf bg bac bad bae baf bag sx1 sx2
  go_wp2_with fail
  (try go_ret)
  exact ⟨rfl, BG.out⟩
end Go.Proofs.Ytcendcegmhliaaa.Ord
