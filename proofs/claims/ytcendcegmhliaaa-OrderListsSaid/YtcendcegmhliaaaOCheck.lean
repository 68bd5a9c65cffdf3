/-
  Contracts of within, Check, Need.
-/
import Derived.Test.YtcendcegmhliaaaOMarket
import Derived.Test.YtcendcegmhliaaaOMul
namespace Go.Proofs.Ytcendcegmhliaaa.Ord
open Go.RowKit Go.Sort _root_.Go.Proofs.Ytcendcegmhliaaa.Gnd

def worldB : Bs := [119, 111, 114, 108, 100]
def inR (n most : Int) : Bool := decide (1 ≤ n) && decide (n ≤ most)
def fitO (x : Or) : Bool := Label.whoS x.who && !(x.who == worldB) && okM x.mkt && inR x.price 1000000 && inR x.left 1000000
def checkO (x : Or) : Int := if fitO x then 0 else 130
set_option maxRecDepth 100000 in
theorem within_any (n m : Int) (w : World) : Calls Try.prog 30 #[.int .i64 n, .int .i64 m] w (fun e w' => e = .returned (.bool (inR n m)) ∧ w = w') := by
  have h : inR n m = (decide (1 ≤ n) && decide (n ≤ m)) := rfl
  have H := Lib.hid h
  generalize inR n m = r at *
  clear h
  by_cases h1 : 1 ≤ n
  all_goals
    go_enter Try.func30, Try.ntmps30
    go_wp2
    go_ret
    exact ⟨by rw [H.out]; simp [h1]; try omega, rfl⟩
/-- Only draws. -/
theorem Grw.drewN (w : World) (q : Nat) : Grw w (w.drewN q) := ⟨q, #[], by rw [grow_empty]⟩
def CheckE (x : Or) (w : World) (e : Ending) (w' : World) : Prop := e = .returned (.int .i64 (checkO x)) ∧ Grw w w'
theorem CheckE.no {x : Or} {w w' : World} (h : fitO x = false) (g : Grw w w') : CheckE x w (.returned (.int .i64 130)) w' := ⟨by unfold checkO; rw [h]; rfl, g⟩
theorem CheckE.yes {x : Or} {w w' : World} (h : fitO x = true) (g : Grw w w') : CheckE x w (.returned (.int .i64 0)) w' := ⟨by unfold checkO; rw [h]; rfl, g⟩
set_option maxRecDepth 100000 in
set_option maxHeartbeats 4000000 in
theorem check_any (x : Or) (w : World) (g1 : x.who.length ≤ 200000000000000) (g2 : x.mkt.length ≤ 200000000000000) : Calls Try.prog 15 #[.agg (encA x).toArray] w (CheckE x w) := by
  have hw := ((strB_list x.who).symm ▸ rfl : ((strB x.who).toList == [119, 111, 114, 108, 100]) = (x.who == worldB))
  have hf : fitO x = (Label.whoS x.who && !(x.who == worldB) && okM x.mkt && inR x.price 1000000 && inR x.left 1000000) := rfl
  have b1 := Grw.box w (.cells (encA x).toArray 25)
  have a1 := at_new w (encA x).toArray 25
  obtain ⟨W1, hW1⟩ : ∃ W1, w.alloc (.cells (encA x).toArray 25) = W1 := ⟨_, rfl⟩
  rw [hW1] at b1 a1
  have cW := who_bs x.who W1 g1
  have cM := market_any x.mkt W1 g2
  have CE := Lib.hid (show ∀ q, (W1.drewN q).cell? ⟨w.heap.size, 1, none⟩ = some (strV x.who) ∧ (W1.drewN q).cell? ⟨w.heap.size, 2, none⟩ = some (strV x.mkt) ∧ (W1.drewN q).cell? ⟨w.heap.size, 4, none⟩ = some (.int .i64 x.price) ∧ (W1.drewN q).cell? ⟨w.heap.size, 5, none⟩ = some (.int .i64 x.left) from fun q =>
    ⟨a1.2.2 1 _ rfl, a1.2.2 2 _ rfl, a1.2.2 4 _ rfl, a1.2.2 5 _ rfl⟩)
  have k1 : W1.cell? ⟨w.heap.size, 1, none⟩ = some (strV x.who) := a1.2.2 1 _ rfl
  have k2 : W1.cell? ⟨w.heap.size, 2, none⟩ = some (strV x.mkt) := a1.2.2 2 _ rfl
  have CP := fun W => within_any x.price 1000000 W
  have CL := fun W => within_any x.left 1000000 W
  have NO := Lib.hid (show fitO x = false → ∀ W, Grw w W → CheckE x w (.returned (.int .i64 130)) W from fun h W g => CheckE.no h g)
  have YES := Lib.hid (show fitO x = true → ∀ W, Grw w W → CheckE x w (.returned (.int .i64 0)) W from fun h W g => CheckE.yes h g)
  have B1 := Lib.hid b1
  obtain ⟨E, hE⟩ : ∃ E, CheckE x w = E := ⟨_, rfl⟩
  rw [hE] at NO YES ⊢
  unfold encA at hW1 ⊢
  unfold mktE at cM
  generalize fitO x = r at *
  generalize Label.whoS x.who = rw at *
  generalize okM x.mkt = rm at *
  generalize inR x.price 1000000 = rp at *
  generalize inR x.left 1000000 = rl at *
  generalize strV (cutA x.mkt) = XA at *
  generalize strV (cutC x.mkt) = XC at *
  generalize x.price = price at *
  generalize x.left = left at *
  unfold strV at *
  generalize strB x.mkt = Y at *
  generalize strB x.who = X at *
  have HS := Lib.hid hf
  clear hf b1 a1 hE
  rcases rw with _ | _
  · clear CE cM CP CL hw
    go_enter Try.func15, Try.ntmps15
    go_wp2_with (go_at_call 29; refine cW.mono ?_; rintro e w' ⟨rfl, rfl⟩)
    exact NO.out (by rw [HS.out]; rfl) _ B1.out
  rcases e : (x.who == worldB) with _ | _
  rotate_left
  · rw [e] at hw HS
    clear CE cM CP CL e
    go_enter Try.func15, Try.ntmps15
    go_wp2_with (go_at_call 29; refine cW.mono ?_; rintro e w' ⟨rfl, rfl⟩)
    exact NO.out (by rw [HS.out]; rfl) _ B1.out
  rw [e] at hw HS
  clear e
  rcases rm with _ | _
  · clear CP CL CE
    go_enter Try.func15, Try.ntmps15
    go_wp2_with (first
      | (go_at_call 29; refine cW.mono ?_; rintro e w' ⟨rfl, rfl⟩)
      | (go_at_call 11; refine cM.mono ?_; rintro e w' ⟨rfl, q, rfl⟩))
    exact NO.out (by rw [HS.out]; rfl) _ (B1.out.trans (Grw.drewN _ q))
  rcases rp with _ | _
  · clear CL
    go_enter Try.func15, Try.ntmps15
    go_wp2_with (first
      | (go_at_call 29; refine cW.mono ?_; rintro e w' ⟨rfl, rfl⟩)
      | (go_at_call 11; refine cM.mono ?_; rintro e w' ⟨rfl, q, rfl⟩; obtain ⟨_, _, j4, j5⟩ := CE.out q; clear CE)
      | (go_at_call 30; with_reducible refine (CP _).mono ?_; rintro e w' ⟨rfl, rfl⟩))
    exact NO.out (by rw [HS.out]; rfl) _ (B1.out.trans (Grw.drewN _ q))
  rcases rl with _ | _
  · go_enter Try.func15, Try.ntmps15
    go_wp2_with (first
      | (go_at_call 29; refine cW.mono ?_; rintro e w' ⟨rfl, rfl⟩)
      | (go_at_call 11; refine cM.mono ?_; rintro e w' ⟨rfl, q, rfl⟩; obtain ⟨_, _, j4, j5⟩ := CE.out q; clear CE)
      | (go_at_call 30; with_reducible refine (CP _).mono ?_; rintro e w' ⟨rfl, rfl⟩)
      | (go_at_call 30; with_reducible refine (CL _).mono ?_; rintro e w' ⟨rfl, rfl⟩))
    exact NO.out (by rw [HS.out]; rfl) _ (B1.out.trans (Grw.drewN _ q))
  · go_enter Try.func15, Try.ntmps15
    go_wp2_with (first
      | (go_at_call 29; refine cW.mono ?_; rintro e w' ⟨rfl, rfl⟩)
      | (go_at_call 11; refine cM.mono ?_; rintro e w' ⟨rfl, q, rfl⟩; obtain ⟨_, _, j4, j5⟩ := CE.out q; clear CE)
      | (go_at_call 30; with_reducible refine (CP _).mono ?_; rintro e w' ⟨rfl, rfl⟩)
      | (go_at_call 30; with_reducible refine (CL _).mono ?_; rintro e w' ⟨rfl, rfl⟩))
    exact YES.out (by rw [HS.out]; rfl) _ (B1.out.trans (Grw.drewN _ q))
end Go.Proofs.Ytcendcegmhliaaa.Ord
