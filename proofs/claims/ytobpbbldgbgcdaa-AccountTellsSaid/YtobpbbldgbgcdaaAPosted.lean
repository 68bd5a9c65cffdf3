/-
  Contract of posted.
-/
import Derived.Test.YtobpbbldgbgcdaaATotal
namespace Go.Proofs.Ytobpbbldgbgcdaa.Acc
open Go.RowKit Go.Sort

theorem At.other {w : World} {b : Nat} {C : Array Value} (h : At w b C) {g i : Nat} (v : Value) (hne : b ≠ g) : At (w.setCell ⟨g, i, none⟩ v) b C := by
  refine ⟨by simpa using h.1, fun j => ?_, fun j u hu => ?_⟩
  · rw [World.frozen?_setCell]; exact h.2.1 j
  · rw [World.cell?_setCell_other _ _ _ _ (by intro e; injection e with e1 _ _; first | exact hne e1 | exact hne e1.symm)]
    exact h.2.2 j u hu
def Ac.none : Ac := ⟨[], [], 0, 0⟩
/-- An account with another balance. -/
def Ac.bear (x : Ac) (m : Int) : Ac := ⟨x.who, x.asset, m, x.held⟩
/-- An account with so much more. -/
def postedA (x : Ac) (s : Int) : Ac × Int :=
  if Coin.err s = 0 then
    if Coin.err (x.bal + Coin.val s) = 0 then
      if shortA (x.bear (Coin.val (x.bal + Coin.val s))) = true then (Ac.none, 111) else (x.bear (Coin.val (x.bal + Coin.val s)), 0)
    else (Ac.none, Coin.err (x.bal + Coin.val s))
  else (Ac.none, Coin.err s)
/-- An account and an error are handed back. -/
def AcE (r : Ac × Int) (w : World) (e : Ending) (w' : World) : Prop := e = .returned (.tuple #[.agg (encA r.1).toArray, .int .i64 r.2]) ∧ Below w.heap.size w w'
set_option maxRecDepth 100000 in
set_option maxHeartbeats 4000000 in
theorem posted_any {A : Option Addr} {n c : Nat} {zs : List Int} {w : World} (x : Ac) (hz : zs.length = n) (hn : n ≤ 1000000000000) (hrow : Coin.Row w A zs) (hin : Coin.Amounts zs) (x0 : -9223372036854775808 ≤ x.bal) (x1 : x.bal ≤ 9223372036854775807) :
    Calls Try.prog 36 #[.agg (encA x).toArray, .slice A n c] w (AcE (postedA x zs.sum) w) := by
  have b0 := below_box w (.cells (encA x).toArray 35)
  have a0 := at_new w (encA x).toArray 35
  obtain ⟨W0, hW0⟩ : ∃ W0, w.alloc (.cells (encA x).toArray 35) = W0 := ⟨_, rfl⟩
  have z0 : W0.heap.size = w.heap.size + 1 := by rw [← hW0]; simp
  rw [hW0] at b0 a0
  have b1 := below_box W0 (.cells zeroA 35)
  have a4 := at_new W0 zeroA 35
  have a1 := a0.below b1 a0.1
  unfold zeroA at *
  obtain ⟨W1, hW1⟩ : ∃ W1, W0.alloc (.cells #[.string ⟨#[]⟩, .string ⟨#[]⟩, .int .i64 0, .int .i64 0] 35) = W1 := ⟨_, rfl⟩
  rw [hW1] at b1 a4 a1
  have B1 := Lib.hid (b0.trans (b1.mono b0.size))
  have cS := Coin.sum_any A n c zs W1 hz hn (hrow.below B1.out) hin
  have PUT := Lib.hid (show ∀ W C, At W W0.heap.size C → C.size = 4 → Below w.heap.size w W → ∀ y : Ac, ∃ w', (Instr.storeAt 35 (.pointer (some ⟨W0.heap.size, 0, none⟩)) (.agg (encA y).toArray)).run Try.prog W = .ok () w' ∧ (loadVar 35 ⟨W0.heap.size, 0, none⟩).run Try.prog w' = .ok (.agg (encA y).toArray) w' ∧ Below w.heap.size w w' from fun W C a hC hb y => by
    obtain ⟨w', r, a', b⟩ := put_ac a hC y b0.size
    exact ⟨w', r, var_ac a', hb.trans b⟩)
  obtain ⟨R, hR⟩ : ∃ R, postedA x zs.sum = R := ⟨_, rfl⟩
  rw [hR]
  unfold postedA at hR
  generalize zs.sum = s at *
  have HR := Lib.hid hR
  have A1 := Lib.hid a1
  have A4 := Lib.hid a4
  have HW0 := Lib.hid hW0
  have HW1 := Lib.hid hW1
  have Z0 := Lib.hid z0
  have VB := Coin.val_bd s
  obtain ⟨sv, hsv⟩ : ∃ sv, Coin.val s = sv := ⟨_, rfl⟩
  obtain ⟨se, hse⟩ : ∃ se, Coin.err s = se := ⟨_, rfl⟩
  rw [hsv] at HR cS VB
  rw [hse] at HR cS
  obtain ⟨C, hC⟩ : ∃ C, (encA x).toArray = C := ⟨_, rfl⟩
  have HC := Lib.hid hC
  rw [hC] at HW0 ⊢
  have YB : ∃ av ae, Coin.val (x.bal + sv) = av ∧ Coin.err (x.bal + sv) = ae := ⟨_, _, rfl, rfl⟩
  obtain ⟨av, ae, hav, hae⟩ := YB
  have CADD := Lib.hid (fun W => Coin.add_any x.bal sv W x0 x1 VB.1 VB.2)
  rw [hav, hae] at CADD HR
  have SH := Lib.hid (fun W => short_any (x.bear av) W)
  have HS := Lib.hid (show ∃ b, shortA (x.bear av) = b from ⟨_, rfl⟩)
  clear b0 a0 hW0 z0 b1 a4 a1 hW1 hrow hin hR hsv hse hC VB x0 x1
  go_enter Try.func36, Try.ntmps36
  go_wp2_with (first
    | ((with_reducible refine wpList_box_eq rfl 35 (.tmp 0) rfl C ?_ ?_); (next => rfl); rw [HW0.out]))
  rw [HW1.out]
  clear HW1 HW0
  refine cS.mono ?_
  rintro e w2 ⟨rfl, b2⟩
  have B2 := Lib.hid (B1.out.trans (b2.mono B1.out.size))
  have A2 := Lib.hid (A1.out.below b2 A1.out.1)
  have A42 := Lib.hid (A4.out.below b2 A4.out.1)
  clear b2 cS A1 A4 hav hae
  by_cases hs : se = 0
  rotate_left
  · obtain ⟨w3, R3, L3, B3⟩ := PUT.out w2 _ A42.out rfl B2.out Ac.none
    have hq : (se == 0) = false := beq_eq_false_iff_ne.2 hs
    have E := Lib.hid (show R = (Ac.none, se) by rw [← HR.out, if_neg hs])
    have RR := Lib.hid R3
    have LL := Lib.hid L3
    have BB := Lib.hid B3
    clear R3 L3 B3 hs HR
    go_wp2_with (first | ((with_reducible refine wpList_store_eq rfl 35 (.tmp 4) (.tmp 15) rfl _ _ ?_ ?_ RR.out ?_); (next => rfl); (next => rfl)))
    (try simp only [Exit.inBlock, Exit.then])
    refine bodyPost_ret (results_ct rfl rfl LL.out) rfl ?_
    rw [E.out]
    exact ⟨rfl, BB.out⟩
  subst hs
  have HR2 := Lib.hid (show (if ae = 0 then if shortA (x.bear av) = true then (Ac.none, 111) else (x.bear av, 0) else (Ac.none, ae)) = R by rw [← HR.out, if_pos rfl])
  have c2 : w2.cell? ⟨w.heap.size, 2, none⟩ = some (.int .i64 x.bal) := A2.out.2.2 2 _ rfl
  clear HR
  go_wp2_with fail
  refine (CADD.out w2).mono ?_
  rintro e w3 ⟨rfl, b3⟩
  have a3 := A2.out.below b3 A2.out.1
  have a43 := A42.out.below b3 A42.out.1
  have B3 := Lib.hid (B2.out.trans (b3.mono B2.out.size))
  have c3 : w3.cell? ⟨w.heap.size, 2, none⟩ = some (.int .i64 x.bal) := a3.2.2 2 _ rfl
  have f3 := a3.2.1 2
  have A5 := Lib.hid (show At (w3.setCell ⟨w.heap.size, 2, none⟩ (.int .i64 av)) w.heap.size (encA (x.bear av)).toArray from a3.set 2 (.int .i64 av) (by simp [encA]))
  have A45 := Lib.hid (a43.other (g := w.heap.size) (i := 2) (.int .i64 av) (by rw [Z0.out]; omega))
  have B5 := Lib.hid (B3.out.trans ((Below.refl w.heap.size w3).setCell (p := ⟨w.heap.size, 2, none⟩) (Nat.le_refl _) (.int .i64 av)))
  have LD := Lib.hid (show ∀ W C', At W w.heap.size C' → C' = (encA (x.bear av)).toArray → (Instr.loadAt 35 (.pointer (some ⟨w.heap.size, 0, none⟩))).run Try.prog W = .ok (.agg (encA (x.bear av)).toArray) W from fun W C' a e => load_at (o := 0) (e ▸ a) Try.underlying35 rfl (by simpa [encA] using size_ac) (by simp))
  clear b3 a3 a43 c2 A2 A42 CADD B2
  by_cases ha : ae = 0
  rotate_left
  · obtain ⟨w4, R3, L3, B4⟩ := PUT.out _ _ A45.out rfl B5.out Ac.none
    have hq : (ae == 0) = false := beq_eq_false_iff_ne.2 ha
    have E := Lib.hid (show R = (Ac.none, ae) by rw [← HR2.out, if_neg ha])
    have RR := Lib.hid R3
    have LL := Lib.hid L3
    have BB := Lib.hid B4
    clear R3 L3 B4 ha HR2
    go_wp2_with (first | ((with_reducible refine wpList_store_eq rfl 35 (.tmp 4) (.tmp 27) rfl _ _ ?_ ?_ RR.out ?_); (next => rfl); (next => rfl)))
    (try simp only [Exit.inBlock, Exit.then])
    refine bodyPost_ret (results_ct rfl rfl LL.out) rfl ?_
    rw [E.out]
    exact ⟨rfl, BB.out⟩
  subst ha
  have HR3 := Lib.hid (show (if shortA (x.bear av) = true then (Ac.none, 111) else (x.bear av, 0)) = R by rw [← HR2.out, if_pos rfl])
  have L5 := Lib.hid (LD.out _ _ A5.out rfl)
  clear HR2
  go_wp2_with (first | ((with_reducible refine wpList_load_eq rfl 35 (.tmp 2) rfl _ ?_ L5.out ?_); (next => rfl)))
  refine (SH.out _).mono ?_
  rintro e w6 ⟨rfl, b6⟩
  have a6 := A5.out.below b6.below A5.out.1
  have a46 := A45.out.below b6.below A45.out.1
  have B6 := Lib.hid (B5.out.trans (b6.below.mono B5.out.size))
  have L6 := Lib.hid (LD.out _ _ a6 rfl)
  obtain ⟨sb, hsb⟩ := HS.out
  rw [hsb] at HR3 ⊢
  rcases sb with _ | _
  · obtain ⟨w4, R3, L3, B4⟩ := PUT.out _ _ a46 rfl B6.out (x.bear av)
    have E := Lib.hid (show R = (x.bear av, 0) by rw [← HR3.out]; rfl)
    have RR := Lib.hid R3
    have LL := Lib.hid L3
    have BB := Lib.hid B4
    clear R3 L3 B4 HR3 a6 a46 b6 c3 f3 hsb
    go_wp2_with (first
      | ((with_reducible refine wpList_load_eq rfl 35 (.tmp 2) rfl _ ?_ L6.out ?_); (next => rfl))
      | ((with_reducible refine wpList_store_eq rfl 35 (.tmp 4) (.tmp 32) rfl _ _ ?_ ?_ RR.out ?_); (next => rfl); (next => rfl)))
    (try simp only [Exit.inBlock, Exit.then])
    refine bodyPost_ret (results_ct rfl rfl LL.out) rfl ?_
    rw [E.out]
    exact ⟨rfl, BB.out⟩
  · obtain ⟨w4, R3, L3, B4⟩ := PUT.out _ _ a46 rfl B6.out Ac.none
    have E := Lib.hid (show R = (Ac.none, 111) by rw [← HR3.out]; rfl)
    have RR := Lib.hid R3
    have LL := Lib.hid L3
    have BB := Lib.hid B4
    clear R3 L3 B4 HR3 a6 a46 b6 c3 f3 hsb
    go_wp2_with (first | ((with_reducible refine wpList_store_eq rfl 35 (.tmp 4) (.tmp 31) rfl _ _ ?_ ?_ RR.out ?_); (next => rfl); (next => rfl)))
    (try simp only [Exit.inBlock, Exit.then])
    refine bodyPost_ret (results_ct rfl rfl LL.out) rfl ?_
    rw [E.out]
    exact ⟨rfl, BB.out⟩
end Go.Proofs.Ytobpbbldgbgcdaa.Acc
