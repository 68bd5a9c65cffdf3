/-
  Contracts of Hold, Free (wip/tools/gen13/genhold.py).
-/
import Derived.Test.YtobpbbldgbgcdaaAWith
namespace Go.Proofs.Ytobpbbldgbgcdaa.Acc
open Go.RowKit Go.Sort

/-- Accounts and an error are handed back. -/
def AcsE (l : List Ac) (er : Int) (w : World) (e : Ending) (w' : World) : Prop := ∃ v, e = .returned (.tuple #[v, .int .i64 er]) ∧ OwnA w' w.heap.size v l ∧ Below w.heap.size w w'
theorem AcsE.no (er : Int) {w w' : World} (hb : Below w.heap.size w w') : AcsE [] er w (.returned (.tuple #[.slice none 0 0, .int .i64 er])) w' := ⟨_, rfl, OwnA.nil _ _, hb⟩
/-- What is held of an account is another number. -/
def Ac.hold (x : Ac) (m : Int) : Ac := ⟨x.who, x.asset, x.bal, m⟩
theorem hold_set (x : Ac) (m : Int) : (encA x).toArray.setIfInBounds 3 (.int .i64 m) = (encA (x.hold m)).toArray := rfl
def holdA (l : List Ac) (who asset : Bs) (n : Int) : List Ac × Int :=
  if holdB who asset n = true then
    if IntKind.i64.wrap ((findA l (who, asset)).bal - (findA l (who, asset)).held) < n then ([], 111)
    else (withA l ((findA l (who, asset)).hold (IntKind.i64.wrap ((findA l (who, asset)).held + n))), 0)
  else ([], 1)
def freeA (l : List Ac) (who asset : Bs) (n : Int) : List Ac × Int :=
  if holdB who asset n = true then
    if (findA l (who, asset)).held < n then ([], 112)
    else (withA l ((findA l (who, asset)).hold (IntKind.i64.wrap ((findA l (who, asset)).held - n))), 0)
  else ([], 1)
set_option maxRecDepth 100000 in
set_option maxHeartbeats 2000000 in
theorem hold_any {A : Option Addr} {m c : Nat} {l : List Ac} {w : World} (h : AAt w A m c l) (hm : m ≤ 100000) (who asset : Bs) (n : Int) (g1 : who.length ≤ 200000000000000) (g2 : asset.length ≤ 200000000000000) : Calls Try.prog 16 #[.slice A m c, strV who, strV asset, .int .i64 n] w (AcsE (holdA l who asset n).1 (holdA l who asset n).2 w) := by
  obtain rfl := h.len
  have cH := holdable_any who asset n w g1 g2
  have cF := find_any h (by omega) who asset
  obtain ⟨R, hR⟩ : ∃ R, holdA l who asset n = R := ⟨_, rfl⟩
  rw [hR]
  unfold holdA at hR
  obtain ⟨F, hF⟩ : ∃ F, findA l (who, asset) = F := ⟨_, rfl⟩
  rw [hF] at hR cF
  have H := Lib.hid h
  obtain ⟨D, hD⟩ : ∃ D, IntKind.i64.wrap (F.bal - F.held) = D := ⟨_, rfl⟩
  rw [hD] at hR
  obtain ⟨M, hM⟩ : ∃ M, IntKind.i64.wrap (F.held + n) = M := ⟨_, rfl⟩
  rw [hM] at hR
  have HR := Lib.hid hR
  clear h hR hF g1 g2
  unfold strV at cH cF ⊢
  generalize strB who = X at *
  generalize strB asset = Y at *
  generalize holdB who asset n = hb at *
  rcases hb with _ | _
  · have E := Lib.hid (show R = ([], 1) by rw [← HR.out]; rfl)
    clear cF HR
    go_enter Try.func16, Try.ntmps16
    go_wp2_with fail
    refine cH.mono ?_
    rintro e w' ⟨rfl, rfl⟩
    go_wp2_with fail
    go_ret2
    rw [E.out]
    exact AcsE.no 1 (Below.refl _ _)
  · go_enter Try.func16, Try.ntmps16
    go_wp2_with fail
    refine cH.mono ?_
    rintro e w' ⟨rfl, rfl⟩
    clear cH
    go_wp2_with fail
    refine cF.mono ?_
    rintro e w1 ⟨rfl, b1⟩
    have B1 := Lib.hid b1
    have P1 := Lib.hid (put_new w1 F)
    have b2 := below_box w1 (.cells (encA F).toArray 35)
    have a2 := at_new w1 (encA F).toArray 35
    obtain ⟨W2, hW2⟩ : ∃ W2, w1.alloc (.cells (encA F).toArray 35) = W2 := ⟨_, rfl⟩
    rw [hW2] at P1 b2 a2
    have c2 : W2.cell? ⟨w1.heap.size, 2, none⟩ = some (.int .i64 F.bal) := a2.2.2 2 _ rfl
    have c3 : W2.cell? ⟨w1.heap.size, 3, none⟩ = some (.int .i64 F.held) := a2.2.2 3 _ rfl
    have f3 := a2.2.1 3
    have B2 := Lib.hid (B1.out.trans (b2.mono B1.out.size))
    have a3 := a2.set 3 (.int .i64 M) (by simp [encA])
    rw [hold_set] at a3
    have b3 := (Below.refl w1.heap.size W2).setCell (p := ⟨w1.heap.size, 3, none⟩) (Nat.le_refl _) (.int .i64 M)
    have B3 := Lib.hid (B2.out.trans (b3.mono B1.out.size))
    have L3 := Lib.hid (load_at (o := 0) a3 Try.underlying35 rfl (by simpa [encA] using size_ac) (c := (encA (F.hold M)).toArray) (by simp))
    have cW := Lib.hid (with_any (H.out.below B3.out) hm (F.hold M))
    by_cases hn : D < n
    · have E := Lib.hid (show R = ([], 111) by rw [← HR.out]; simp [hn])
      clear HR L3 cW B3 a3 b3 a2 b2 hW2 b1
      go_wp2_with (first | ((with_reducible refine wpList_store_eq rfl 35 (.tmp 10) (.tmp 19) rfl _ _ ?_ ?_ P1.out ?_); (next => rfl); (next => rfl)))
      go_ret2
      rw [E.out]
      exact AcsE.no 111 B2.out
    · have E := Lib.hid (show R = (withA l (F.hold M), 0) by rw [← HR.out]; simp [hn])
      clear HR a3 b3 a2 b2 hW2 b1
      go_wp2_with (first
        | ((with_reducible refine wpList_store_eq rfl 35 (.tmp 10) (.tmp 19) rfl _ _ ?_ ?_ P1.out ?_); (next => rfl); (next => rfl))
        | ((with_reducible refine wpList_load_eq rfl 35 (.tmp 10) rfl _ ?_ L3.out ?_); (next => rfl)))
      refine cW.out.mono ?_
      rintro e w4 ⟨v, rfl, ho, b4⟩
      have HO := Lib.hid (ho.down B3.out.size)
      have B4 := Lib.hid (B3.out.trans (b4.mono B3.out.size))
      clear ho b4 cW
      go_wp2_with fail
      go_ret2
      rw [E.out]
      exact ⟨_, rfl, HO.out, B4.out⟩
set_option maxRecDepth 100000 in
set_option maxHeartbeats 2000000 in
theorem free_any {A : Option Addr} {m c : Nat} {l : List Ac} {w : World} (h : AAt w A m c l) (hm : m ≤ 100000) (who asset : Bs) (n : Int) (g1 : who.length ≤ 200000000000000) (g2 : asset.length ≤ 200000000000000) : Calls Try.prog 18 #[.slice A m c, strV who, strV asset, .int .i64 n] w (AcsE (freeA l who asset n).1 (freeA l who asset n).2 w) := by
  obtain rfl := h.len
  have cH := holdable_any who asset n w g1 g2
  have cF := find_any h (by omega) who asset
  obtain ⟨R, hR⟩ : ∃ R, freeA l who asset n = R := ⟨_, rfl⟩
  rw [hR]
  unfold freeA at hR
  obtain ⟨F, hF⟩ : ∃ F, findA l (who, asset) = F := ⟨_, rfl⟩
  rw [hF] at hR cF
  have H := Lib.hid h
  obtain ⟨M, hM⟩ : ∃ M, IntKind.i64.wrap (F.held - n) = M := ⟨_, rfl⟩
  rw [hM] at hR
  have HR := Lib.hid hR
  clear h hR hF g1 g2
  unfold strV at cH cF ⊢
  generalize strB who = X at *
  generalize strB asset = Y at *
  generalize holdB who asset n = hb at *
  rcases hb with _ | _
  · have E := Lib.hid (show R = ([], 1) by rw [← HR.out]; rfl)
    clear cF HR
    go_enter Try.func18, Try.ntmps18
    go_wp2_with fail
    refine cH.mono ?_
    rintro e w' ⟨rfl, rfl⟩
    go_wp2_with fail
    go_ret2
    rw [E.out]
    exact AcsE.no 1 (Below.refl _ _)
  · go_enter Try.func18, Try.ntmps18
    go_wp2_with fail
    refine cH.mono ?_
    rintro e w' ⟨rfl, rfl⟩
    clear cH
    go_wp2_with fail
    refine cF.mono ?_
    rintro e w1 ⟨rfl, b1⟩
    have B1 := Lib.hid b1
    have P1 := Lib.hid (put_new w1 F)
    have b2 := below_box w1 (.cells (encA F).toArray 35)
    have a2 := at_new w1 (encA F).toArray 35
    obtain ⟨W2, hW2⟩ : ∃ W2, w1.alloc (.cells (encA F).toArray 35) = W2 := ⟨_, rfl⟩
    rw [hW2] at P1 b2 a2
    have c2 : W2.cell? ⟨w1.heap.size, 2, none⟩ = some (.int .i64 F.bal) := a2.2.2 2 _ rfl
    have c3 : W2.cell? ⟨w1.heap.size, 3, none⟩ = some (.int .i64 F.held) := a2.2.2 3 _ rfl
    have f3 := a2.2.1 3
    have B2 := Lib.hid (B1.out.trans (b2.mono B1.out.size))
    have a3 := a2.set 3 (.int .i64 M) (by simp [encA])
    rw [hold_set] at a3
    have b3 := (Below.refl w1.heap.size W2).setCell (p := ⟨w1.heap.size, 3, none⟩) (Nat.le_refl _) (.int .i64 M)
    have B3 := Lib.hid (B2.out.trans (b3.mono B1.out.size))
    have L3 := Lib.hid (load_at (o := 0) a3 Try.underlying35 rfl (by simpa [encA] using size_ac) (c := (encA (F.hold M)).toArray) (by simp))
    have cW := Lib.hid (with_any (H.out.below B3.out) hm (F.hold M))
    by_cases hn : F.held < n
    · have E := Lib.hid (show R = ([], 112) by rw [← HR.out]; simp [hn])
      clear HR L3 cW B3 a3 b3 a2 b2 hW2 b1
      go_wp2_with (first | ((with_reducible refine wpList_store_eq rfl 35 (.tmp 10) (.tmp 19) rfl _ _ ?_ ?_ P1.out ?_); (next => rfl); (next => rfl)))
      go_ret2
      rw [E.out]
      exact AcsE.no 112 B2.out
    · have E := Lib.hid (show R = (withA l (F.hold M), 0) by rw [← HR.out]; simp [hn])
      clear HR a3 b3 a2 b2 hW2 b1
      go_wp2_with (first
        | ((with_reducible refine wpList_store_eq rfl 35 (.tmp 10) (.tmp 19) rfl _ _ ?_ ?_ P1.out ?_); (next => rfl); (next => rfl))
        | ((with_reducible refine wpList_load_eq rfl 35 (.tmp 10) rfl _ ?_ L3.out ?_); (next => rfl)))
      refine cW.out.mono ?_
      rintro e w4 ⟨v, rfl, ho, b4⟩
      have HO := Lib.hid (ho.down B3.out.size)
      have B4 := Lib.hid (B3.out.trans (b4.mono B3.out.size))
      clear ho b4 cW
      go_wp2_with fail
      go_ret2
      rw [E.out]
      exact ⟨_, rfl, HO.out, B4.out⟩
end Go.Proofs.Ytobpbbldgbgcdaa.Acc
