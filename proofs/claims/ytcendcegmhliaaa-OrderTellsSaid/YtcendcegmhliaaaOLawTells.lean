/-
  OrderTells: the walk.
-/
import Derived.Test.YtcendcegmhliaaaOAwake
import Derived.Test.YtcendcegmhliaaaOArgs
import Derived.Test.YtcendcegmhliaaaORef2
namespace Go.Proofs.Ytcendcegmhliaaa.Ord
open Go.RowKit Go.Sort _root_.Go.Proofs.Ytcendcegmhliaaa.Gnd

theorem mkt_letters (s : Bs) : ∃ XA XC : ByteArray, ∃ er : Int, ∀ w e w', mktE s w e w' → e = .returned (.tuple #[.string XA, .string XC, .int .i64 er]) ∧ Below w.heap.size w w' := by
  rcases h : okM s with _ | _
  · refine ⟨⟨#[]⟩, ⟨#[]⟩, 1, fun w e w' ⟨h1, q, h2⟩ => ?_⟩
    rw [h] at h1
    exact ⟨h1, by rw [h2]; exact drewN_below w q⟩
  · refine ⟨strB (cutA s), strB (cutC s), 0, fun w e w' ⟨h1, q, h2⟩ => ?_⟩
    rw [h] at h1
    exact ⟨h1, by rw [h2]; exact drewN_below w q⟩
set_option maxRecDepth 100000 in
set_option maxHeartbeats 8000000 in
theorem tells_walk (s : Bs) (o : Or) (w : World) : Calls Try.prog 4 #[strV s, .agg (encA o).toArray] w (fun e w' => e = .returned (.bool true) ∧ Below w.heap.size w w') := by
  have b1 := below_box w (.cells (encA o).toArray 25)
  have a1 := at_new w (encA o).toArray 25
  obtain ⟨W1, hW1⟩ : ∃ W1, w.alloc (.cells (encA o).toArray 25) = W1 := ⟨_, rfl⟩
  rw [hW1] at b1 a1
  have cA := awake_any W1
  have FIN := Lib.hid (show ∀ W, Below W1.heap.size W1 W → Below w.heap.size w W from fun W hb => b1.trans (hb.mono b1.size))
  have KS := Lib.hid (show ∀ W, Below W1.heap.size W1 W → W.cell? ⟨w.heap.size, 0, none⟩ = some (.int .u64 o.num) ∧ W.cell? ⟨w.heap.size, 1, none⟩ = some (.string (strB o.who)) ∧ W.cell? ⟨w.heap.size, 2, none⟩ = some (.string (strB o.mkt)) ∧ W.cell? ⟨w.heap.size, 3, none⟩ = some (.bool o.buy) ∧ W.cell? ⟨w.heap.size, 4, none⟩ = some (.int .i64 o.price) ∧ W.cell? ⟨w.heap.size, 5, none⟩ = some (.int .i64 o.left) from fun W hb => six (a1.below hb a1.1))
  have z0 := strB_size s
  have z1 := strB_size o.who
  have z2 := strB_size o.mkt
  have hAX : (encA o).toArray = #[.int .u64 o.num, .string (strB o.who), .string (strB o.mkt), .bool o.buy, .int .i64 o.price, .int .i64 o.left] := rfl
  rw [hAX] at hW1 ⊢
  have A0 := Lib.hid a1
  clear a1 b1
  by_cases d0 : 100 < (strB s).size ∨ 100 < (strB o.who).size ∨ 100 < (strB o.mkt).size
  · obtain ⟨S, hS⟩ : ∃ S, strB s = S := ⟨_, rfl⟩
    rw [hS] at d0
    rw [show strV s = .string S from congrArg Value.string hS]
    generalize strB o.who = X at *
    generalize strB o.mkt = Y at *
    clear z0 z1 z2 hS hAX A0
    by_cases c0 : 100 < S.size
    · have t0 : (100 : Int) < (S.size : Int) := by omega
      clear d0 c0
      go_enter Try.func4, Try.ntmps4
      go_wp2_with (go_at_call 10; refine cA.mono ?_; rintro e w2 ⟨rfl, b2⟩)
      (try go_ret)
      exact ⟨rfl, FIN.out _ b2⟩
    have t0 : ¬ (100 : Int) < (S.size : Int) := by omega
    by_cases c1 : 100 < X.size
    · have t1 : (100 : Int) < (X.size : Int) := by omega
      clear d0 c0 c1
      go_enter Try.func4, Try.ntmps4
      go_wp2_with (go_at_call 10; refine cA.mono ?_; rintro e w2 ⟨rfl, b2⟩; obtain ⟨_, k1, _, _, _, _⟩ := KS.out w2 b2)
      (try go_ret)
      exact ⟨rfl, FIN.out _ b2⟩
    have t1 : ¬ (100 : Int) < (X.size : Int) := by omega
    have t2 : (100 : Int) < (Y.size : Int) := by omega
    clear d0 c0 c1
    go_enter Try.func4, Try.ntmps4
    go_wp2_with (go_at_call 10; refine cA.mono ?_; rintro e w2 ⟨rfl, b2⟩; obtain ⟨_, k1, k2, _, _, _⟩ := KS.out w2 b2)
    (try go_ret)
    exact ⟨rfl, FIN.out _ b2⟩
  have t0 : ¬ (100 : Int) < ((strB s).size : Int) := by omega
  have t1 : ¬ (100 : Int) < ((strB o.who).size : Int) := by omega
  have t2 : ¬ (100 : Int) < ((strB o.mkt).size : Int) := by omega
  obtain ⟨XA, XC, er, ML⟩ := mkt_letters s
  have M1 := Lib.hid (show ∀ W, Calls Try.prog 11 #[.string (strB s)] W (fun e w' => e = .returned (.tuple #[.string XA, .string XC, .int .i64 er]) ∧ Below W.heap.size W w') from fun W => (market_any s W (by omega)).mono (fun e w' h => ML W e w' h))
  have M2 := Lib.hid (show ∀ W, Calls Try.prog 12 #[.string (strB s)] W (fun e w' => e = .returned (.tuple #[.string XA, .string XC, .int .i64 er]) ∧ Below W.heap.size W w') from fun W => (rmarket_any s W (by omega)).mono (fun e w' h => ML W e w' h))
  obtain ⟨SN, hSN⟩ : ∃ SN, strB (needO o).1 = SN := ⟨_, rfl⟩
  have N1 := Lib.hid (show ∀ W, Calls Try.prog 13 #[.agg #[.int .u64 o.num, .string (strB o.who), .string (strB o.mkt), .bool o.buy, .int .i64 o.price, .int .i64 o.left]] W (fun e w' => e = .returned (.tuple #[.string SN, .int .i64 (needO o).2.1, .int .i64 (needO o).2.2]) ∧ Below W.heap.size W w') from fun W => by rw [← hSN]; exact need_any o W (by omega) (by omega))
  have N2 := Lib.hid (show ∀ W, Calls Try.prog 14 #[.agg #[.int .u64 o.num, .string (strB o.who), .string (strB o.mkt), .bool o.buy, .int .i64 o.price, .int .i64 o.left]] W (fun e w' => e = .returned (.tuple #[.string SN, .int .i64 (needO o).2.1, .int .i64 (needO o).2.2]) ∧ Below W.heap.size W w') from fun W => by rw [← hSN]; exact rneed_any o W (by omega) (by omega))
  have C1 := Lib.hid (show ∀ W, Calls Try.prog 15 #[.agg #[.int .u64 o.num, .string (strB o.who), .string (strB o.mkt), .bool o.buy, .int .i64 o.price, .int .i64 o.left]] W (fun e w' => e = .returned (.int .i64 (checkO o)) ∧ Grw W w') from fun W => check_any o W (by omega) (by omega))
  have C2 := Lib.hid (show ∀ W, Calls Try.prog 16 #[.agg #[.int .u64 o.num, .string (strB o.who), .string (strB o.mkt), .bool o.buy, .int .i64 o.price, .int .i64 o.left]] W (fun e w' => e = .returned (.int .i64 (checkO o)) ∧ Grw W w') from fun W => rcheck_any o W (by omega) (by omega))
  unfold strV
  generalize strB s = S at *
  generalize strB o.who = X at *
  generalize strB o.mkt = Y at *
  generalize (needO o).2.1 = na at *
  generalize (needO o).2.2 = ne at *
  generalize checkO o = ck at *
  generalize o.num = y0 at *
  generalize o.buy = y3 at *
  generalize o.price = y4 at *
  generalize o.left = y5 at *
  clear z0 z1 z2 d0 ML hSN hAX A0
  go_enter Try.func4, Try.ntmps4
  go_wp2_with (first
    | (go_at_call 10; refine cA.mono ?_; rintro e w2 ⟨rfl, b2⟩; have B2 := Lib.hid b2; obtain ⟨_, k1, k2, _, _, _⟩ := KS.out w2 b2; have cM1 := M1.out w2)
    | (go_at_call 11; refine cM1.mono ?_; rintro e w3 ⟨rfl, b3⟩; have B3 := Lib.hid (B2.out.trans (b3.mono B2.out.size)); have cM2 := M2.out w3; clear k1 k2 b2 b3 cM1)
    | (go_at_call 12; refine cM2.mono ?_; rintro e w4 ⟨rfl, b4⟩; have B4 := Lib.hid (B3.out.trans (b4.mono B3.out.size)); have cN1 := N1.out w4; obtain ⟨k0, k1, k2, k3, k4, k5⟩ := KS.out w4 B4.out; clear b4 cM2)
    | (go_at_call 13; refine cN1.mono ?_; rintro e w5 ⟨rfl, b5⟩; have B5 := Lib.hid (B4.out.trans (b5.mono B4.out.size)); have cN2 := N2.out w5; clear k0 k1 k2 k3 k4 k5 b5 cN1; obtain ⟨k0, k1, k2, k3, k4, k5⟩ := KS.out w5 B5.out)
    | (go_at_call 14; refine cN2.mono ?_; rintro e w6 ⟨rfl, b6⟩; have B6 := Lib.hid (B5.out.trans (b6.mono B5.out.size)); clear k0 k1 k2 k3 k4 k5 b6 cN2))
  have QD := Lib.hid (show Below W1.heap.size W1 w6.drew from B6.out.drew)
  have K0 := Lib.hid (KS.out _ QD.out)
  have cC1 := C1.out w6.drew
  go_region_held3 (fun W => W.cell? ⟨w.heap.size, 0, none⟩ = some (.int .u64 y0) ∧ W.cell? ⟨w.heap.size, 1, none⟩ = some (.string X) ∧ W.cell? ⟨w.heap.size, 2, none⟩ = some (.string Y) ∧ W.cell? ⟨w.heap.size, 3, none⟩ = some (.bool y3) ∧ W.cell? ⟨w.heap.size, 4, none⟩ = some (.int .i64 y4) ∧ W.cell? ⟨w.heap.size, 5, none⟩ = some (.int .i64 y5))
    (with_reducible (first | exact K0.out | exact K1.out | exact K2.out))
    (first
      | (go_at_call 15; (with_reducible refine cC1.mono ?_); rintro e w7 ⟨rfl, g7⟩; have B7 := Lib.hid (QD.out.trans (g7.below.mono QD.out.size)); have K1 := Lib.hid (KS.out _ B7.out); have cC2 := C2.out w7)
      | (go_at_call 16; (with_reducible refine cC2.mono ?_); rintro e w8 ⟨rfl, g8⟩; have B8 := Lib.hid (B7.out.trans (g8.below.mono B7.out.size)); have K2 := Lib.hid (KS.out _ B8.out)))
  all_goals
    go_wp2_with fail
    (try go_ret)
    exact ⟨by first | rfl | simp, FIN.out _ B8.out⟩
end Go.Proofs.Ytcendcegmhliaaa.Ord
