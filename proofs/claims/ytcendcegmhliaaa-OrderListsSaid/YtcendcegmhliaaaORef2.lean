/-
  The document's own Check and Need.
-/
import Derived.Test.YtcendcegmhliaaaORef
namespace Go.Proofs.Ytcendcegmhliaaa.Ord
open Go.RowKit Go.Sort _root_.Go.Proofs.Ytcendcegmhliaaa.Gnd

set_option maxRecDepth 100000 in
set_option maxHeartbeats 4000000 in
theorem rcheck_any (x : Or) (w : World) (g1 : x.who.length ≤ 100) (g2 : x.mkt.length ≤ 100) : Calls Try.prog 16 #[.agg (encA x).toArray] w (CheckE x w) := by
  have hw := ((strB_list x.who).symm ▸ rfl : ((strB x.who).toList == [119, 111, 114, 108, 100]) = (x.who == worldB))
  have hf : fitO x = (Label.whoS x.who && !(x.who == worldB) && okM x.mkt && inR x.price 1000000 && inR x.left 1000000) := rfl
  have b1 := Grw.box w (.cells (encA x).toArray 25)
  have a1 := at_new w (encA x).toArray 25
  obtain ⟨W1, hW1⟩ : ∃ W1, w.alloc (.cells (encA x).toArray 25) = W1 := ⟨_, rfl⟩
  rw [hW1] at b1 a1
  have CW := fun W => rwho_bs x.who W (by omega)
  have cM := rmarket_any x.mkt W1 g2
  have CE := Lib.hid (show ∀ q, (W1.drewN q).cell? ⟨w.heap.size, 1, none⟩ = some (strV x.who) ∧ (W1.drewN q).cell? ⟨w.heap.size, 4, none⟩ = some (.int .i64 x.price) ∧ (W1.drewN q).cell? ⟨w.heap.size, 5, none⟩ = some (.int .i64 x.left) from fun q =>
    ⟨a1.2.2 1 _ rfl, a1.2.2 4 _ rfl, a1.2.2 5 _ rfl⟩)
  have k2 : W1.cell? ⟨w.heap.size, 2, none⟩ = some (strV x.mkt) := a1.2.2 2 _ rfl
  have NO := Lib.hid (show fitO x = false → ∀ W, Grw w W → CheckE x w (.returned (.int .i64 130)) W from fun h W g => CheckE.no h g)
  have YES := Lib.hid (show fitO x = true → ∀ W, Grw w W → CheckE x w (.returned (.int .i64 0)) W from fun h W g => CheckE.yes h g)
  have B1 := Lib.hid b1
  obtain ⟨E, hE⟩ : ∃ E, CheckE x w = E := ⟨_, rfl⟩
  rw [hE] at NO YES ⊢
  unfold encA at hW1 ⊢
  unfold mktE at cM
  generalize fitO x = r at *
  generalize Label.whoS x.who = rw at *
  generalize okM x.mkt = rm at *
  generalize strV (cutA x.mkt) = XA at *
  generalize strV (cutC x.mkt) = XC at *
  generalize x.price = price at *
  generalize x.left = left at *
  generalize (x.who == worldB) = rz at *
  unfold strV at *
  generalize strB x.mkt = Y at *
  generalize strB x.who = X at *
  have HS := Lib.hid hf
  clear hf b1 a1 hE
  rcases rm with _ | _
  · clear YES
    go_enter Try.func16, Try.ntmps16
    go_wp2_with (first
      | (go_at_call 12; refine cM.mono ?_; rintro e w' ⟨rfl, q, rfl⟩; obtain ⟨j1, j4, j5⟩ := CE.out q; have cW := CW (W1.drewN q); clear CE)
      | (go_at_call 31; refine cW.mono ?_; rintro e w' ⟨rfl, rfl⟩))
    (try go_ret)
    exact NO.out (by rw [HS.out]; simp [inR]; try omega) _ (B1.out.trans (Grw.drewN _ q))
  rcases rw with _ | _
  · clear YES
    go_enter Try.func16, Try.ntmps16
    go_wp2_with (first
      | (go_at_call 12; refine cM.mono ?_; rintro e w' ⟨rfl, q, rfl⟩; obtain ⟨j1, j4, j5⟩ := CE.out q; have cW := CW (W1.drewN q); clear CE)
      | (go_at_call 31; refine cW.mono ?_; rintro e w' ⟨rfl, rfl⟩))
    (try go_ret)
    exact NO.out (by rw [HS.out]; simp [inR]; try omega) _ (B1.out.trans (Grw.drewN _ q))
  rcases rz with _ | _
  rotate_left
  · clear YES
    go_enter Try.func16, Try.ntmps16
    go_wp2_with (first
      | (go_at_call 12; refine cM.mono ?_; rintro e w' ⟨rfl, q, rfl⟩; obtain ⟨j1, j4, j5⟩ := CE.out q; have cW := CW (W1.drewN q); clear CE)
      | (go_at_call 31; refine cW.mono ?_; rintro e w' ⟨rfl, rfl⟩))
    (try go_ret)
    exact NO.out (by rw [HS.out]; simp [inR]; try omega) _ (B1.out.trans (Grw.drewN _ q))
  by_cases c1 : price < 1
  · clear YES
    go_enter Try.func16, Try.ntmps16
    go_wp2_with (first
      | (go_at_call 12; refine cM.mono ?_; rintro e w' ⟨rfl, q, rfl⟩; obtain ⟨j1, j4, j5⟩ := CE.out q; have cW := CW (W1.drewN q); clear CE)
      | (go_at_call 31; refine cW.mono ?_; rintro e w' ⟨rfl, rfl⟩))
    (try go_ret)
    exact NO.out (by rw [HS.out]; simp [inR]; try omega) _ (B1.out.trans (Grw.drewN _ q))
  by_cases c2 : 1000000 < price
  · clear YES
    go_enter Try.func16, Try.ntmps16
    go_wp2_with (first
      | (go_at_call 12; refine cM.mono ?_; rintro e w' ⟨rfl, q, rfl⟩; obtain ⟨j1, j4, j5⟩ := CE.out q; have cW := CW (W1.drewN q); clear CE)
      | (go_at_call 31; refine cW.mono ?_; rintro e w' ⟨rfl, rfl⟩))
    (try go_ret)
    exact NO.out (by rw [HS.out]; simp [inR]; try omega) _ (B1.out.trans (Grw.drewN _ q))
  by_cases c3 : left < 1
  · clear YES
    go_enter Try.func16, Try.ntmps16
    go_wp2_with (first
      | (go_at_call 12; refine cM.mono ?_; rintro e w' ⟨rfl, q, rfl⟩; obtain ⟨j1, j4, j5⟩ := CE.out q; have cW := CW (W1.drewN q); clear CE)
      | (go_at_call 31; refine cW.mono ?_; rintro e w' ⟨rfl, rfl⟩))
    (try go_ret)
    exact NO.out (by rw [HS.out]; simp [inR]; try omega) _ (B1.out.trans (Grw.drewN _ q))
  by_cases c4 : 1000000 < left
  · clear YES
    go_enter Try.func16, Try.ntmps16
    go_wp2_with (first
      | (go_at_call 12; refine cM.mono ?_; rintro e w' ⟨rfl, q, rfl⟩; obtain ⟨j1, j4, j5⟩ := CE.out q; have cW := CW (W1.drewN q); clear CE)
      | (go_at_call 31; refine cW.mono ?_; rintro e w' ⟨rfl, rfl⟩))
    (try go_ret)
    exact NO.out (by rw [HS.out]; simp [inR]; try omega) _ (B1.out.trans (Grw.drewN _ q))
  · clear NO
    go_enter Try.func16, Try.ntmps16
    go_wp2_with (first
      | (go_at_call 12; refine cM.mono ?_; rintro e w' ⟨rfl, q, rfl⟩; obtain ⟨j1, j4, j5⟩ := CE.out q; have cW := CW (W1.drewN q); clear CE)
      | (go_at_call 31; refine cW.mono ?_; rintro e w' ⟨rfl, rfl⟩))
    (try go_ret)
    exact YES.out (by rw [HS.out]; simp [inR]; try omega) _ (B1.out.trans (Grw.drewN _ q))
set_option maxRecDepth 100000 in
set_option maxHeartbeats 4000000 in
theorem rneed_any (x : Or) (w : World) (g1 : x.who.length ≤ 100) (g2 : x.mkt.length ≤ 100) : Calls Try.prog 14 #[.agg (encA x).toArray] w (NeedE x w) := by
  have b1 := Grw.box w (.cells (encA x).toArray 25)
  have a1 := at_new w (encA x).toArray 25
  obtain ⟨W1, hW1⟩ : ∃ W1, w.alloc (.cells (encA x).toArray 25) = W1 := ⟨_, rfl⟩
  rw [hW1] at b1 a1
  have L := Lib.hid (load_or a1)
  have cC := rcheck_any x W1 g1 g2
  have cM := fun W => rmarket_any x.mkt W g2
  have CE := Lib.hid (show ∀ W, Grw W1 W → W.cell? ⟨w.heap.size, 2, none⟩ = some (strV x.mkt) ∧ W.cell? ⟨w.heap.size, 3, none⟩ = some (.bool x.buy) ∧ W.cell? ⟨w.heap.size, 4, none⟩ = some (.int .i64 x.price) ∧ W.cell? ⟨w.heap.size, 5, none⟩ = some (.int .i64 x.left) from fun W hb => by
    have a := a1.below hb.below a1.1
    exact ⟨a.2.2 2 _ rfl, a.2.2 3 _ rfl, a.2.2 4 _ rfl, a.2.2 5 _ rfl⟩)
  have B1 := Lib.hid b1
  rcases hf : fitO x with _ | _
  · have FIN := Lib.hid (show ∀ W, Grw w W → NeedE x w (.returned (.tuple #[.string ⟨#[]⟩, .int .i64 0, .int .i64 130])) W from fun W g => ⟨by unfold needO; rw [hf]; rfl, g.below⟩)
    unfold CheckE checkO at cC
    rw [hf] at cC
    obtain ⟨E, hE⟩ : ∃ E, NeedE x w = E := ⟨_, rfl⟩
    rw [hE] at FIN ⊢
    have HW := Lib.hid hW1
    generalize (encA x).toArray = C at *
    clear hf cM CE b1 a1 hE hW1
    go_enter Try.func14, Try.ntmps14
    go_wp2_with (first
      | ((with_reducible refine wpList_box_eq rfl 25 (.tmp 0) rfl C ?_ ?_); (next => rfl); rw [HW.out])
      | ((with_reducible refine wpList_load_eq rfl 25 (.tmp 1) rfl _ ?_ L.out ?_); (next => rfl))
      | (go_at_call 16; refine cC.mono ?_; rintro e w2 ⟨rfl, g⟩))
    (try go_ret3)
    exact FIN.out _ (B1.out.trans g)
  · have F := (fit_iff x).1 hf
    have hm := F.mkt
    have bd := amt_bd F
    have FA := Lib.hid (show x.buy = false → ∀ W, Grw w W → NeedE x w (.returned (.tuple #[strV (cutA x.mkt), .int .i64 x.left, .int .i64 0])) W from fun h W g => ⟨by unfold needO; rw [hf, h]; rfl, g.below⟩)
    have FC := Lib.hid (show x.buy = true → ∀ W, Grw w W → NeedE x w (.returned (.tuple #[strV (cutC x.mkt), .int .i64 (x.price * x.left), .int .i64 0])) W from fun h W g => ⟨by unfold needO; rw [hf, h]; rfl, g.below⟩)
    have hmul : IntKind.i64.wrap (x.price * x.left) = x.price * x.left := IntWalk.i64_in _ (by omega)
    obtain ⟨amt, hamt⟩ : ∃ amt, x.price * x.left = amt := ⟨_, rfl⟩
    have hmul2 : IntKind.i64.wrap (x.price * x.left) = amt := hmul.trans hamt
    rw [hamt] at FC
    unfold CheckE checkO at cC
    rw [hf] at cC
    unfold mktE at cM
    rw [hm] at cM
    obtain ⟨E, hE⟩ : ∃ E, NeedE x w = E := ⟨_, rfl⟩
    rw [hE] at FA FC ⊢
    have HW := Lib.hid hW1
    generalize (encA x).toArray = C at *
    generalize strV (cutA x.mkt) = XA at *
    generalize strV (cutC x.mkt) = XC at *
    generalize x.price = price at *
    generalize x.left = left at *
    unfold strV at *
    generalize strB x.mkt = Y at *
    clear hf F hm b1 a1 hE hW1 bd hmul hamt
    rcases hb : x.buy with _ | _
    · have FA := Lib.hid (FA.out hb)
      rw [hb] at CE
      clear FC hb hmul2
      go_enter Try.func14, Try.ntmps14
      go_wp2_with (first
        | ((with_reducible refine wpList_box_eq rfl 25 (.tmp 0) rfl C ?_ ?_); (next => rfl); rw [HW.out])
        | ((with_reducible refine wpList_load_eq rfl 25 (.tmp 1) rfl _ ?_ L.out ?_); (next => rfl))
        | (go_at_call 16; refine cC.mono ?_; rintro e w2 ⟨rfl, g⟩
           have G := Lib.hid g; clear g cC L
           obtain ⟨k2, _, _, _⟩ := CE.out w2 G.out
           have cM2 := cM w2)
        | (go_at_call 12; refine cM2.mono ?_; rintro e w3 ⟨rfl, q, rfl⟩
           have G3 := Lib.hid (G.out.trans (Grw.drewN w2 q)); clear k2 cM cM2
           obtain ⟨_, k3, k4, k5⟩ := CE.out _ G3.out; clear CE))
      go_quiet (fail)
      go_wp2_with fail
      (try go_ret3)
      exact FA.out _ (B1.out.trans (G3.out.trans (Grw.drewN _ _)))
    · have FC := Lib.hid (FC.out hb)
      rw [hb] at CE
      clear FA hb
      go_enter Try.func14, Try.ntmps14
      go_wp2_with (first
        | ((with_reducible refine wpList_box_eq rfl 25 (.tmp 0) rfl C ?_ ?_); (next => rfl); rw [HW.out])
        | ((with_reducible refine wpList_load_eq rfl 25 (.tmp 1) rfl _ ?_ L.out ?_); (next => rfl))
        | (go_at_call 16; refine cC.mono ?_; rintro e w2 ⟨rfl, g⟩
           have G := Lib.hid g; clear g cC L
           obtain ⟨k2, _, _, _⟩ := CE.out w2 G.out
           have cM2 := cM w2)
        | (go_at_call 12; refine cM2.mono ?_; rintro e w3 ⟨rfl, q, rfl⟩
           have G3 := Lib.hid (G.out.trans (Grw.drewN w2 q)); clear k2 cM cM2
           obtain ⟨_, k3, k4, k5⟩ := CE.out _ G3.out; clear CE))
      go_quiet (fail)
      go_wp2_with fail
      (try go_ret3)
      exact FC.out _ (B1.out.trans (G3.out.trans (Grw.drewN _ _)))
end Go.Proofs.Ytcendcegmhliaaa.Ord
