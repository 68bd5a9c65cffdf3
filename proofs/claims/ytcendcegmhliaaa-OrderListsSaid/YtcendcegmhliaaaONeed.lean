/-
  Contract of Need.
-/
import Derived.Test.YtcendcegmhliaaaOCheck
import Derived.BigQuiet
import Derived.Deep.QuietTactic
namespace Go.Proofs.Ytcendcegmhliaaa.Ord
open Go.RowKit Go.Sort _root_.Go.Proofs.Ytcendcegmhliaaa.Gnd

theorem size_or : (Try.prog.info? 25).map (·.size) = some 6 := by kernel_rfl
theorem load_or {w : World} {b : Nat} {x : Or} (h : At w b (encA x).toArray) : (Instr.loadAt 25 (.pointer (some ⟨b, 0, none⟩))).run Try.prog w = .ok (.agg (encA x).toArray) w :=
  load_at (o := 0) h Try.underlying25 rfl size_or rfl
def needO (x : Or) : Bs × Int × Int := if fitO x then (if x.buy then (cutC x.mkt, x.price * x.left, 0) else (cutA x.mkt, x.left, 0)) else ([], 0, 130)
structure FitO (x : Or) : Prop where
  who : Label.whoS x.who = true
  notW : x.who ≠ worldB
  mkt : okM x.mkt = true
  p1 : 1 ≤ x.price
  p2 : x.price ≤ 1000000
  l1 : 1 ≤ x.left
  l2 : x.left ≤ 1000000
theorem fit_iff (x : Or) : fitO x = true ↔ FitO x := by
  unfold fitO inR
  simp only [Bool.and_eq_true, Bool.not_eq_true', beq_eq_false_iff_ne, decide_eq_true_eq]
  exact ⟨fun ⟨⟨⟨⟨a, b⟩, c⟩, d, e⟩, f, g⟩ => ⟨a, b, c, d, e, f, g⟩, fun h => ⟨⟨⟨⟨h.who, h.notW⟩, h.mkt⟩, h.p1, h.p2⟩, h.l1, h.l2⟩⟩
theorem amt_bd {x : Or} (h : FitO x) : 1 ≤ x.price * x.left ∧ x.price * x.left ≤ 1000000000000 := by
  have h1 := h.p1; have h2 := h.p2; have h3 := h.l1; have h4 := h.l2
  have a := Int.mul_le_mul h2 h4 (by omega) (by omega)
  have b := Int.mul_le_mul h1 h3 (by omega) (by omega)
  omega
def NeedE (x : Or) (w : World) (e : Ending) (w' : World) : Prop := e = .returned (.tuple #[strV (needO x).1, .int .i64 (needO x).2.1, .int .i64 (needO x).2.2]) ∧ Below w.heap.size w w'
set_option maxRecDepth 100000 in
set_option maxHeartbeats 4000000 in
theorem need_any (x : Or) (w : World) (g1 : x.who.length ≤ 200000000000000) (g2 : x.mkt.length ≤ 200000000000000) : Calls Try.prog 13 #[.agg (encA x).toArray] w (NeedE x w) := by
  have b1 := Grw.box w (.cells (encA x).toArray 25)
  have a1 := at_new w (encA x).toArray 25
  obtain ⟨W1, hW1⟩ : ∃ W1, w.alloc (.cells (encA x).toArray 25) = W1 := ⟨_, rfl⟩
  rw [hW1] at b1 a1
  have L := Lib.hid (load_or a1)
  have cC := check_any x W1 g1 g2
  have cM := fun W => market_any x.mkt W g2
  have CE := Lib.hid (show ∀ W, Grw W1 W → W.cell? ⟨w.heap.size, 2, none⟩ = some (strV x.mkt) ∧ W.cell? ⟨w.heap.size, 3, none⟩ = some (.bool x.buy) ∧ W.cell? ⟨w.heap.size, 4, none⟩ = some (.int .i64 x.price) ∧ W.cell? ⟨w.heap.size, 5, none⟩ = some (.int .i64 x.left) from fun W hb => by
    have a := a1.below hb.below a1.1
    exact ⟨a.2.2 2 _ rfl, a.2.2 3 _ rfl, a.2.2 4 _ rfl, a.2.2 5 _ rfl⟩)
  have B1 := Lib.hid b1
  rcases hf : fitO x with _ | _
  · have FIN := Lib.hid (show ∀ W, Grw w W → NeedE x w (.returned (.tuple #[.string ⟨#[]⟩, .int .i64 0, .int .i64 130])) W from fun W g => ⟨by unfold needO; rw [hf]; rfl, g.below⟩)
    unfold CheckE checkO at cC
    rw [hf] at cC
    obtain ⟨E, hE⟩ : ∃ E, NeedE x w = E := ⟨_, rfl⟩
    rw [hE] at FIN ⊢
    have HW := Lib.hid hW1
    generalize (encA x).toArray = C at *
    clear hf cM CE b1 a1 hE hW1
    go_enter Try.func13, Try.ntmps13
    go_wp2_with (first
      | ((with_reducible refine wpList_box_eq rfl 25 (.tmp 0) rfl C ?_ ?_); (next => rfl); rw [HW.out])
      | ((with_reducible refine wpList_load_eq rfl 25 (.tmp 1) rfl _ ?_ L.out ?_); (next => rfl))
      | (go_at_call 15; refine cC.mono ?_; rintro e w2 ⟨rfl, g⟩))
    (try go_ret3)
    exact FIN.out _ (B1.out.trans g)
  · have F := (fit_iff x).1 hf
    have hm := F.mkt
    have bd := amt_bd F
    have FA := Lib.hid (show x.buy = false → ∀ W, Grw w W → NeedE x w (.returned (.tuple #[strV (cutA x.mkt), .int .i64 x.left, .int .i64 0])) W from fun h W g => ⟨by unfold needO; rw [hf, h]; rfl, g.below⟩)
    have FC := Lib.hid (show x.buy = true → ∀ W, Below w.heap.size w W → NeedE x w (.returned (.tuple #[strV (cutC x.mkt), .int .i64 (x.price * x.left), .int .i64 0])) W from fun h W g => ⟨by unfold needO; rw [hf, h]; rfl, g⟩)
    have p1 := F.p1; have p2 := F.p2; have l1 := F.l1; have l2 := F.l2
    have cU := fun W => Coin.mul_any x.price x.left W (by omega) (by omega) (by omega) (by omega)
    rw [Coin.val_in (by omega) (by omega), Coin.err_in (by omega) (by omega)] at cU
    unfold CheckE checkO at cC
    rw [hf] at cC
    unfold mktE at cM
    rw [hm] at cM
    obtain ⟨E, hE⟩ : ∃ E, NeedE x w = E := ⟨_, rfl⟩
    rw [hE] at FA FC ⊢
    have HW := Lib.hid hW1
    generalize (encA x).toArray = C at *
    generalize strV (cutA x.mkt) = XA at *
    generalize strV (cutC x.mkt) = XC at *
    generalize x.price * x.left = amt at *
    generalize x.price = price at *
    generalize x.left = left at *
    unfold strV at *
    generalize strB x.mkt = Y at *
    clear hf F hm b1 a1 hE hW1 bd p1 p2 l1 l2
    rcases hb : x.buy with _ | _
    · have FA := Lib.hid (FA.out hb)
      rw [hb] at CE
      clear FC cU hb
      go_enter Try.func13, Try.ntmps13
      go_wp2_with (first
        | ((with_reducible refine wpList_box_eq rfl 25 (.tmp 0) rfl C ?_ ?_); (next => rfl); rw [HW.out])
        | ((with_reducible refine wpList_load_eq rfl 25 (.tmp 1) rfl _ ?_ L.out ?_); (next => rfl))
        | (go_at_call 15; refine cC.mono ?_; rintro e w2 ⟨rfl, g⟩
           have G := Lib.hid g; clear g cC L
           obtain ⟨k2, _, _, _⟩ := CE.out w2 G.out
           have cM2 := cM w2)
        | (go_at_call 11; refine cM2.mono ?_; rintro e w3 ⟨rfl, q, rfl⟩
           have G3 := Lib.hid (G.out.trans (Grw.drewN w2 q)); clear k2 cM cM2
           obtain ⟨_, k3, k4, k5⟩ := CE.out _ G3.out; clear CE))
      go_quiet (fail)
      go_wp2_with fail
      (try go_ret3)
      exact FA.out _ (B1.out.trans (G3.out.trans (Grw.drewN _ _)))
    · have FC := Lib.hid (FC.out hb)
      rw [hb] at CE
      clear FA hb
      go_enter Try.func13, Try.ntmps13
      go_wp2_with (first
        | ((with_reducible refine wpList_box_eq rfl 25 (.tmp 0) rfl C ?_ ?_); (next => rfl); rw [HW.out])
        | ((with_reducible refine wpList_load_eq rfl 25 (.tmp 1) rfl _ ?_ L.out ?_); (next => rfl))
        | (go_at_call 15; refine cC.mono ?_; rintro e w2 ⟨rfl, g⟩
           have G := Lib.hid g; clear g cC L
           obtain ⟨k2, _, _, _⟩ := CE.out w2 G.out
           have cM2 := cM w2)
        | (go_at_call 11; refine cM2.mono ?_; rintro e w3 ⟨rfl, q, rfl⟩
           have G3 := Lib.hid (G.out.trans (Grw.drewN w2 q)); clear k2 cM cM2
           obtain ⟨_, k3, k4, k5⟩ := CE.out _ G3.out; clear CE)
        | (go_at_call 28; refine (cU _).mono ?_; rintro e w4 ⟨rfl, b4⟩))
      (try go_ret3)
      exact FC.out _ ((B1.out.trans G3.out).below.trans (b4.mono (B1.out.trans G3.out).below.size))
end Go.Proofs.Ytcendcegmhliaaa.Ord
