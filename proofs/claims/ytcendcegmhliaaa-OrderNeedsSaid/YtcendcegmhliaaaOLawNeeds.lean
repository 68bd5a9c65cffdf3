/-
  OrderNeeds: the walk.
-/
import Derived.Test.YtcendcegmhliaaaOAwake
import Derived.Test.YtcendcegmhliaaaOArgs
namespace Go.Proofs.Ytcendcegmhliaaa.Ord
open Go.RowKit Go.Sort _root_.Go.Proofs.Ytcendcegmhliaaa.Gnd

def parts (o : Or) (q : Int) : Or := { o with left := q }
theorem need_parts {o : Or} (h : FitO o) (p : Int) (h1 : 1 ≤ p) (h2 : p < o.left) : ∃ (S : Bs) (n m k : Int), needO o = (S, n, 0) ∧ needO (parts o p) = (S, m, 0) ∧ needO (parts o (o.left - p)) = (S, k, 0) ∧ IntKind.i64.wrap (m + k) = n ∧ 1 ≤ m ∧ 1 ≤ k := by
  have g1 := h.l2
  have f0 : fitO o = true := (fit_iff o).2 h
  have F1 : FitO (parts o p) := ⟨h.who, h.notW, h.mkt, h.p1, h.p2, h1, by show p ≤ _; omega⟩
  have F2 : FitO (parts o (o.left - p)) := ⟨h.who, h.notW, h.mkt, h.p1, h.p2, by show 1 ≤ o.left - p; omega, by show o.left - p ≤ _; omega⟩
  have f1 := (fit_iff _).2 F1
  have f2 := (fit_iff _).2 F2
  rcases hb : o.buy with _ | _
  · refine ⟨cutA o.mkt, o.left, p, o.left - p, ?_, ?_, ?_, ?_, h1, by omega⟩
    · unfold needO; rw [f0, hb]; rfl
    · unfold needO; rw [f1]; show (if o.buy = true then _ else _) = _; rw [hb]; rfl
    · unfold needO; rw [f2]; show (if o.buy = true then _ else _) = _; rw [hb]; rfl
    · rw [IntWalk.i64_in _ (by omega)]; omega
  · have b0 := amt_bd h
    have b1 := amt_bd F1
    have b2 := amt_bd F2
    have b1 : 1 ≤ o.price * p ∧ o.price * p ≤ 1000000000000 := b1
    have b2 : 1 ≤ o.price * (o.left - p) ∧ o.price * (o.left - p) ≤ 1000000000000 := b2
    have e : o.price * p + o.price * (o.left - p) = o.price * o.left := by rw [← Int.mul_add]; congr 1; omega
    refine ⟨cutC o.mkt, o.price * o.left, o.price * p, o.price * (o.left - p), ?_, ?_, ?_, ?_, b1.1, b2.1⟩
    · unfold needO; rw [f0, hb]; rfl
    · unfold needO; rw [f1]; show (if o.buy = true then _ else _) = _; rw [hb]; rfl
    · unfold needO; rw [f2]; show (if o.buy = true then _ else _) = _; rw [hb]; rfl
    · rw [IntWalk.i64_in _ (by omega)]; exact e
set_option maxRecDepth 100000 in
set_option maxHeartbeats 4000000 in
theorem needs_walk (o : Or) (p : Int) (w : World) (p0 : -9223372036854775808 ≤ p) (p1 : p ≤ 9223372036854775807) : Calls Try.prog 8 #[.agg (encA o).toArray, .int .i64 p] w (fun e w' => e = .returned (.bool true) ∧ Below w.heap.size w w') := by
  have b1 := below_box w (.cells (encA o).toArray 25)
  have a1 := at_new w (encA o).toArray 25
  obtain ⟨W1, hW1⟩ : ∃ W1, w.alloc (.cells (encA o).toArray 25) = W1 := ⟨_, rfl⟩
  rw [hW1] at b1 a1
  have cA := awake_any W1
  have B1 := Lib.hid b1
  have CE := Lib.hid (show ∀ W, Below W1.heap.size W1 W → At W w.heap.size (encA o).toArray from fun W hb => a1.below hb a1.1)
  have z1 := strB_size o.who
  have z2 := strB_size o.mkt
  have FIN := Lib.hid (show ∀ W, Below W1.heap.size W1 W → Below w.heap.size w W from fun W hb => b1.trans (hb.mono b1.size))
  have hAX : (encA o).toArray = #[.int .u64 o.num, .string (strB o.who), .string (strB o.mkt), .bool o.buy, .int .i64 o.price, .int .i64 o.left] := rfl
  by_cases d1 : 100 < (strB o.who).size
  · have t1 : (100 : Int) < ((strB o.who).size : Int) := by omega
    rw [hAX] at hW1 ⊢
    have K := Lib.hid (show ∀ W, Below W1.heap.size W1 W → W.cell? ⟨w.heap.size, 1, none⟩ = some (.string (strB o.who)) from fun W hb => (CE.out W hb).2.2 1 _ rfl)
    generalize strB o.who = X at *
    clear b1 a1 z1 z2 d1 CE hAX
    go_enter Try.func8, Try.ntmps8
    go_wp2_with (go_at_call 10; refine cA.mono ?_; rintro e w2 ⟨rfl, b2⟩; have k1 := K.out w2 b2)
    (try go_ret)
    exact ⟨rfl, FIN.out _ b2⟩
  by_cases d2 : 100 < (strB o.mkt).size
  · have t1 : ¬ (100 : Int) < ((strB o.who).size : Int) := by omega
    have t2 : (100 : Int) < ((strB o.mkt).size : Int) := by omega
    rw [hAX] at hW1 ⊢
    have K := Lib.hid (show ∀ W, Below W1.heap.size W1 W → W.cell? ⟨w.heap.size, 1, none⟩ = some (.string (strB o.who)) ∧ W.cell? ⟨w.heap.size, 2, none⟩ = some (.string (strB o.mkt)) from fun W hb => ⟨(CE.out W hb).2.2 1 _ rfl, (CE.out W hb).2.2 2 _ rfl⟩)
    generalize strB o.who = X at *
    generalize strB o.mkt = Y at *
    clear b1 a1 z1 z2 d1 d2 CE hAX
    go_enter Try.func8, Try.ntmps8
    go_wp2_with (go_at_call 10; refine cA.mono ?_; rintro e w2 ⟨rfl, b2⟩; obtain ⟨k1, k2⟩ := K.out w2 b2)
    (try go_ret)
    exact ⟨rfl, FIN.out _ b2⟩
  have t1 : ¬ (100 : Int) < ((strB o.who).size : Int) := by omega
  have t2 : ¬ (100 : Int) < ((strB o.mkt).size : Int) := by omega
  have cC := Lib.hid (fun W => check_any o W (by omega) (by omega))
  have cN := Lib.hid (fun W => need_any o W (by omega) (by omega))
  have cN1 := Lib.hid (fun W => need_any (parts o p) W (show o.who.length ≤ _ by omega) (show o.mkt.length ≤ _ by omega))
  have cN2 := Lib.hid (fun W => need_any (parts o (o.left - p)) W (show o.who.length ≤ _ by omega) (show o.mkt.length ≤ _ by omega))
  have KS := Lib.hid (show ∀ W, Below W1.heap.size W1 W → W.cell? ⟨w.heap.size, 0, none⟩ = some (.int .u64 o.num) ∧ W.cell? ⟨w.heap.size, 1, none⟩ = some (.string (strB o.who)) ∧ W.cell? ⟨w.heap.size, 2, none⟩ = some (.string (strB o.mkt)) ∧ W.cell? ⟨w.heap.size, 3, none⟩ = some (.bool o.buy) ∧ W.cell? ⟨w.heap.size, 4, none⟩ = some (.int .i64 o.price) ∧ W.cell? ⟨w.heap.size, 5, none⟩ = some (.int .i64 o.left) from fun W hb => six (CE.out W hb))
  rcases hf : fitO o with _ | _
  · have cC := Lib.hid (show ∀ W, Calls Try.prog 15 #[.agg #[.int .u64 o.num, .string (strB o.who), .string (strB o.mkt), .bool o.buy, .int .i64 o.price, .int .i64 o.left]] W (fun e w' => e = .returned (.int .i64 130) ∧ Grw W w') from fun W => by
      have h := cC.out W
      unfold CheckE checkO at h
      rw [hf] at h
      exact h)
    rw [hAX] at hW1 ⊢
    generalize strB o.who = X at *
    generalize strB o.mkt = Y at *
    generalize o.num = y0 at *
    generalize o.buy = y3 at *
    generalize o.price = y4 at *
    generalize o.left = y5 at *
    clear b1 a1 z1 z2 d1 d2 CE hAX cN cN1 cN2 hf
    go_enter Try.func8, Try.ntmps8
    go_wp2_with (first
      | (go_at_call 10; refine cA.mono ?_; rintro e w2 ⟨rfl, b2⟩; obtain ⟨k0, k1, k2, k3, k4, k5⟩ := KS.out w2 b2; have cC2 := cC.out w2)
      | (go_at_call 15; refine cC2.mono ?_; rintro e w3 ⟨rfl, g3⟩))
    (try go_ret)
    exact ⟨rfl, FIN.out _ (b2.trans (g3.below.mono b2.size))⟩
  have F := (fit_iff o).1 hf
  have cC := Lib.hid (show ∀ W, Calls Try.prog 15 #[.agg #[.int .u64 o.num, .string (strB o.who), .string (strB o.mkt), .bool o.buy, .int .i64 o.price, .int .i64 o.left]] W (fun e w' => e = .returned (.int .i64 0) ∧ Grw W w') from fun W => by
    have h := cC.out W
    unfold CheckE checkO at h
    rw [hf] at h
    exact h)
  by_cases c1 : p < 1
  · rw [hAX] at hW1 ⊢
    generalize strB o.who = X at *
    generalize strB o.mkt = Y at *
    generalize o.num = y0 at *
    generalize o.buy = y3 at *
    generalize o.price = y4 at *
    generalize o.left = y5 at *
    clear b1 a1 z1 z2 d1 d2 CE hAX cN cN1 cN2 hf F
    go_enter Try.func8, Try.ntmps8
    go_wp2_with (first
      | (go_at_call 10; refine cA.mono ?_; rintro e w2 ⟨rfl, b2⟩; obtain ⟨k0, k1, k2, k3, k4, k5⟩ := KS.out w2 b2; have cC2 := cC.out w2)
      | (go_at_call 15; refine cC2.mono ?_; rintro e w3 ⟨rfl, g3⟩))
    (try go_ret)
    exact ⟨rfl, FIN.out _ (b2.trans (g3.below.mono b2.size))⟩
  by_cases c2 : o.left ≤ p
  · rw [hAX] at hW1 ⊢
    generalize strB o.who = X at *
    generalize strB o.mkt = Y at *
    generalize o.num = y0 at *
    generalize o.buy = y3 at *
    generalize o.price = y4 at *
    generalize o.left = y5 at *
    clear b1 a1 z1 z2 d1 d2 CE hAX cN cN1 cN2 hf F
    go_enter Try.func8, Try.ntmps8
    go_wp2_with (first
      | (go_at_call 10; refine cA.mono ?_; rintro e w2 ⟨rfl, b2⟩; obtain ⟨k0, k1, k2, k3, k4, k5⟩ := KS.out w2 b2; have cC2 := cC.out w2)
      | (go_at_call 15; refine cC2.mono ?_; rintro e w3 ⟨rfl, g3⟩; have b3 := b2.trans (g3.below.mono b2.size); clear k0 k1 k2 k3 k4 k5; obtain ⟨k0, k1, k2, k3, k4, k5⟩ := KS.out w3 b3))
    (try go_ret)
    exact ⟨rfl, FIN.out _ b3⟩
  obtain ⟨S, n, m, k, e0, e1, e2, hwr, hm, hk⟩ := need_parts F p (by omega) (by omega)
  have hq : IntKind.i64.wrap (o.left - p) = o.left - p := IntWalk.i64_in _ (by have := F.l2; omega)
  obtain ⟨q, hqq⟩ : ∃ q, o.left - p = q := ⟨_, rfl⟩
  have hq' : IntKind.i64.wrap (o.left - p) = q := hq.trans hqq
  rw [hqq] at cN2 e2
  clear hq
  have hL : ¬ o.left ≤ p := c2
  have MK := Lib.hid (show ∀ W x, RowKit.Below W1.heap.size W1 W → RowKit.Below W1.heap.size W1 (W.alloc (.cells (encA o).toArray 25)) ∧ RowKit.Below W1.heap.size W1 ((W.alloc (.cells (encA o).toArray 25)).setCell ⟨W.heap.size, 5, none⟩ (.int .i64 x)) ∧ RowKit.Below W.heap.size W ((W.alloc (.cells (encA o).toArray 25)).setCell ⟨W.heap.size, 5, none⟩ (.int .i64 x)) ∧ At ((W.alloc (.cells (encA o).toArray 25)).setCell ⟨W.heap.size, 5, none⟩ (.int .i64 x)) W.heap.size (encA (parts o x)).toArray ∧ (W.alloc (.cells (encA o).toArray 25)).cell? ⟨W.heap.size, 5, none⟩ = some (.int .i64 o.left) ∧ (W.alloc (.cells (encA o).toArray 25)).frozen? ⟨W.heap.size, 5, none⟩ = false from fun W x hb => by
    have a := at_new W (encA o).toArray 25
    have b0 := below_box W (.cells (encA o).toArray 25)
    have b := b0.setCell (p := ⟨W.heap.size, 5, none⟩) (Nat.le_refl _) (.int .i64 x)
    exact ⟨hb.trans (b0.mono hb.size), hb.trans (b.mono hb.size), b, a.set 5 _ (by simp [encA]), a.2.2 5 _ rfl, a.2.1 5⟩)
  have N0 := Lib.hid (show ∀ W, Calls Try.prog 13 #[.agg (encA o).toArray] W (fun e w' => e = .returned (.tuple #[strV S, .int .i64 n, .int .i64 0]) ∧ Below W.heap.size W w') from fun W => by have h := cN.out W; unfold NeedE at h; rw [e0] at h; exact h)
  have N1 := Lib.hid (show ∀ W, Calls Try.prog 13 #[.agg (encA (parts o p)).toArray] W (fun e w' => e = .returned (.tuple #[strV S, .int .i64 m, .int .i64 0]) ∧ Below W.heap.size W w') from fun W => by have h := cN1.out W; unfold NeedE at h; rw [e1] at h; exact h)
  have N2 := Lib.hid (show ∀ W, Calls Try.prog 13 #[.agg (encA (parts o q)).toArray] W (fun e w' => e = .returned (.tuple #[strV S, .int .i64 k, .int .i64 0]) ∧ Below W.heap.size W w') from fun W => by have h := cN2.out W; unfold NeedE at h; rw [e2] at h; exact h)
  have SIX := Lib.hid (show ∀ W b x, At W b (encA (parts o x)).toArray → _ from fun W b x h => six h)
  rw [show (encA (parts o p)).toArray = #[.int .u64 o.num, .string (strB o.who), .string (strB o.mkt), .bool o.buy, .int .i64 o.price, .int .i64 p] from rfl] at N1
  rw [show (encA (parts o q)).toArray = #[.int .u64 o.num, .string (strB o.who), .string (strB o.mkt), .bool o.buy, .int .i64 o.price, .int .i64 q] from rfl] at N2
  rw [hAX] at hW1 N0 ⊢
  have MK2 := Lib.hid (show ∀ W x, RowKit.Below W1.heap.size W1 W → ∃ V V', W.alloc (.cells #[.int .u64 o.num, .string (strB o.who), .string (strB o.mkt), .bool o.buy, .int .i64 o.price, .int .i64 o.left] 25) = V ∧ V.setCell ⟨W.heap.size, 5, none⟩ (.int .i64 x) = V' ∧ RowKit.Below W1.heap.size W1 V ∧ RowKit.Below W1.heap.size W1 V' ∧ RowKit.Below W.heap.size W V' ∧ At V' W.heap.size (encA (parts o x)).toArray ∧ V.cell? ⟨W.heap.size, 5, none⟩ = some (.int .i64 o.left) ∧ V.frozen? ⟨W.heap.size, 5, none⟩ = false from fun W x hb => by
    obtain ⟨h1, h2, h3, h4, h5, h6⟩ := MK.out W x hb
    exact ⟨_, _, rfl, rfl, h1, h2, h3, h4, h5, h6⟩)
  obtain ⟨SB, hSB⟩ : ∃ s, strB S = s := ⟨_, rfl⟩
  rw [show strV S = .string SB from congrArg Value.string hSB] at N0 N1 N2
  have CS := Lib.hid (show ∀ W b x, At W b (encA (parts o x)).toArray → W.cell? ⟨b, 0, none⟩ = some (.int .u64 o.num) ∧ W.cell? ⟨b, 1, none⟩ = some (.string (strB o.who)) ∧ W.cell? ⟨b, 2, none⟩ = some (.string (strB o.mkt)) ∧ W.cell? ⟨b, 3, none⟩ = some (.bool o.buy) ∧ W.cell? ⟨b, 4, none⟩ = some (.int .i64 o.price) ∧ W.cell? ⟨b, 5, none⟩ = some (.int .i64 x) from fun W b x h => six h)
  have AB := Lib.hid (show ∀ W V b x, At W b (encA (parts o x)).toArray → RowKit.Below W.heap.size W V → At V b (encA (parts o x)).toArray from fun W V b x h hb => h.below hb h.1)
  generalize strB o.who = X at *
  generalize strB o.mkt = Y at *
  generalize o.num = y0 at *
  generalize o.buy = y3 at *
  generalize o.price = y4 at *
  generalize o.left = y5 at *
  clear b1 a1 z1 z2 d1 d2 CE hAX cN cN1 cN2 hf F e0 e1 e2 MK hqq hSB SIX c2
  go_enter Try.func8, Try.ntmps8
  go_wp2_with (first
    | (go_at_call 10; refine cA.mono ?_; rintro e w2 ⟨rfl, b2⟩; obtain ⟨k0, k1, k2, k3, k4, k5⟩ := KS.out w2 b2; have cC2 := cC.out w2)
    | (go_at_call 15; refine cC2.mono ?_; rintro e w3 ⟨rfl, g3⟩
       have b3 := b2.trans (g3.below.mono b2.size)
       clear k0 k1 k2 k3 k4 k5 g3
       obtain ⟨k0, k1, k2, k3, k4, k5⟩ := KS.out w3 b3
       obtain ⟨V1, V2, hv1, hv2, v1, v2, v3, v4, v5, v6⟩ := MK2.out w3 p b3
       obtain ⟨V3, V4, hv3, hv4, u1, u2, u3, u4, u5, u6⟩ := MK2.out V2 q v2
       obtain ⟨_, _, _, _, _, j5⟩ := KS.out V3 u1
       obtain ⟨i0, i1, i2, i3, i4, i5⟩ := KS.out V2 v2
       obtain ⟨f0, f1, f2, f3, f4, f5⟩ := KS.out V4 u2
       have c0 := N0.out V4
       have A1 := Lib.hid (AB.out _ _ _ _ v4 u3)
       have A2 := Lib.hid u4)
    | (go_at_call 13; with_reducible refine c0.mono ?_; rintro e w4 ⟨rfl, b4⟩
       have B4 := Lib.hid (u2.trans (b4.mono u2.size))
       have A3 := Lib.hid (AB.out _ _ _ _ A1.out b4)
       have A4 := Lib.hid (AB.out _ _ _ _ A2.out b4)
       obtain ⟨l0, l1, l2, l3, l4, l5⟩ := CS.out _ _ _ A3.out
       have c1' := N1.out w4
       clear c0 b4 A1 A2 k0 k1 k2 k3 k4 k5 i0 i1 i2 i3 i4 i5 j5 f0 f1 f2 f3 f4 f5)
    | (go_at_call 13; with_reducible refine c1'.mono ?_; rintro e w5 ⟨rfl, b5⟩
       have B5 := Lib.hid (B4.out.trans (b5.mono B4.out.size))
       have A5 := Lib.hid (AB.out _ _ _ _ A4.out b5)
       obtain ⟨m0, m1, m2, m3, m4, m5⟩ := CS.out _ _ _ A5.out
       have c2' := N2.out w5
       clear c1' b5 l0 l1 l2 l3 l4 l5)
    | (go_at_call 13; with_reducible refine c2'.mono ?_; rintro e w6 ⟨rfl, b6⟩
       have B6 := Lib.hid (B5.out.trans (b6.mono B5.out.size))))
  (try go_ret)
  exact ⟨by first | rfl | simp, FIN.out _ B6.out⟩
end Go.Proofs.Ytcendcegmhliaaa.Ord
