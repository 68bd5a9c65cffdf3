/-
  AccountHolds: the walks that end early.
-/
import Derived.Test.YtobpbbldgbgcdaaAHoldsQ
namespace Go.Proofs.Ytobpbbldgbgcdaa.Acc
open Go.RowKit Go.Sort

set_option maxRecDepth 100000 in
set_option maxHeartbeats 8000000 in
theorem holds_bad (A : Option Addr) (n c : Nat) (l : List Ac) (at0 m : Int) (w : World) (h : AcsIn w A n c l) (hn : n ≤ 9223372036854775807) (hf : ¬ FitA l ∨ n = 0) :
    Calls Try.prog 7 #[.slice A n c, .int .i64 at0, .int .i64 m] w (fun e w' => e = .returned (.bool true) ∧ Below w.heap.size w w') := by
  have HH := Lib.hid h
  clear h
  by_cases hfit : FitA l
  · have h0 : n = 0 := hf.resolve_left (fun h => h hfit)
    subst h0
    have CK : Hid (checkA l = 0) := Lib.hid (check_yes (show FitTo l l.length from hfit))
    clear hf hfit
    go_enter Try.func7, Try.ntmps7
    go_wp2_with fail
    refine (awake_any w).mono ?_
    rintro e w1 ⟨rfl, b1⟩
    have B1 := Lib.hid b1
    have cF := few_any (c' := 0) (A' := none) (legs := []) (m := 0) (HH.out.1.below b1) rfl (fun h => absurd rfl h) hn (by omega)
    clear b1
    go_wp2_with fail
    refine cF.mono ?_
    rintro e w2 ⟨r, rfl, hr, b2⟩
    have B2 := Lib.hid (B1.out.trans (b2.mono B1.out.size))
    clear b2 cF B1
    rcases r with _ | _
    · clear hr
      go_wp2_with fail
      go_ret
      exact ⟨rfl, B2.out⟩
    have HF := Lib.hid (hr rfl)
    have cC := check_any (HH.out.1.below B2.out) (by have := HF.out.n; rw [HH.out.1.len] at this; omega) (fun x hx => by have := HF.out.l x hx; omega)
    clear hr
    rw [CK.out] at cC
    go_wp2_with (go_at_call 12; refine cC.mono ?_; rintro e w3 ⟨rfl, b3⟩)
    go_ret
    exact ⟨rfl, B2.out.trans (b3.mono B2.out.size)⟩
  · have CK : Hid (checkA l = 110) := Lib.hid (by unfold checkA; rw [if_neg hfit])
    clear hf hfit
    go_enter Try.func7, Try.ntmps7
    go_wp2_with fail
    refine (awake_any w).mono ?_
    rintro e w1 ⟨rfl, b1⟩
    have B1 := Lib.hid b1
    have cF := few_any (c' := 0) (A' := none) (legs := []) (m := 0) (HH.out.1.below b1) rfl (fun h => absurd rfl h) hn (by omega)
    clear b1
    go_wp2_with fail
    refine cF.mono ?_
    rintro e w2 ⟨r, rfl, hr, b2⟩
    have B2 := Lib.hid (B1.out.trans (b2.mono B1.out.size))
    clear b2 cF B1
    rcases r with _ | _
    · clear hr
      go_wp2_with fail
      go_ret
      exact ⟨rfl, B2.out⟩
    have HF := Lib.hid (hr rfl)
    have cC := check_any (HH.out.1.below B2.out) (by have := HF.out.n; rw [HH.out.1.len] at this; omega) (fun x hx => by have := HF.out.l x hx; omega)
    clear hr
    rw [CK.out] at cC
    go_wp2_with (go_at_call 12; refine cC.mono ?_; rintro e w3 ⟨rfl, b3⟩)
    go_ret
    exact ⟨rfl, B2.out.trans (b3.mono B2.out.size)⟩
set_option maxRecDepth 100000 in
set_option maxHeartbeats 8000000 in
theorem holds_world (A : Option Addr) (n c : Nat) (l : List Ac) (at0 m : Int) (w : World) (h : AcsIn w A n c l) (hn : n ≤ 9223372036854775807) (hfit : FitA l) (k : Nat) (hk : k < n) (x : Ac) (hx : l[k]? = some x) (a0 : -9223372036854775808 ≤ at0) (a1 : at0 ≤ 9223372036854775807) (hq : at0 < 0 ∧ -((at0 + 1).tmod (n : Int)) = (k : Int) ∨ ¬ at0 < 0 ∧ at0 % (n : Int) = (k : Int)) (hw : x.who = worldB) :
    Calls Try.prog 7 #[.slice A n c, .int .i64 at0, .int .i64 m] w (fun e w' => e = .returned (.bool true) ∧ Below w.heap.size w w') := by
  have HH := Lib.hid h
  clear h
  have hkl : k < l.length := by rw [HH.out.1.len]; exact hk
  have hxk : l[k] = x := by rw [List.getElem?_eq_getElem hkl] at hx; exact Option.some.inj hx
  have HXM := Lib.hid (show x ∈ l from hxk ▸ List.getElem_mem hkl)
  have CK : Hid (checkA l = 0) := Lib.hid (check_yes (show FitTo l l.length from hfit))
  have d0 : ((n : Int) == 0) = false := by simp; omega
  have hk1 : (k : Int) < (n : Int) := by omega
  have hk0 : (0 : Int) ≤ (k : Int) := by omega
  obtain ⟨b, off, rfl, hbl, hc⟩ := HH.out.1.row (by intro e; rw [e] at hkl; simp at hkl)
  have LD := Lib.hid (fun W (hb : Below w.heap.size w W) => load_ac (range_below (hc k hkl) hb hbl))
  rw [hxk] at LD
  have HK := Lib.hid hk
  have BX := Lib.hid (fun W => at_new W (encA x).toArray 35)
  have PN := Lib.hid (fun W => put_new W x)
  obtain ⟨C, hC⟩ : ∃ C, (encA x).toArray = C := ⟨_, rfl⟩
  have HC := Lib.hid hC
  have CL := Lib.hid (show ∀ W b', At W b' C → W.cell? ⟨b', 0, none⟩ = some (.string (strB x.who)) ∧ W.cell? ⟨b', 1, none⟩ = some (.string (strB x.asset)) ∧ W.cell? ⟨b', 2, none⟩ = some (.int .i64 x.bal) ∧ W.cell? ⟨b', 3, none⟩ = some (.int .i64 x.held) from fun W b' a => by
    rw [← hC] at a
    exact ⟨a.2.2 0 _ rfl, a.2.2 1 _ rfl, a.2.2 2 _ rfl, a.2.2 3 _ rfl⟩)
  rw [hC] at LD BX PN
  have HFIT := Lib.hid hfit
  have g1 : ((strB x.who).toList == [119, 111, 114, 108, 100]) = true := by rw [strB_list]; rw [hw]; rfl
  clear hw
  generalize hX : strB x.who = X at *
  generalize hY : strB x.asset = Y at *
  generalize hB : x.bal = bal at *
  generalize hE : x.held = held at *
  clear hfit hx hxk hkl hc hbl hC hk
  rcases hq with ⟨hcut, hq⟩ | ⟨hcut, hq⟩
  all_goals
    go_enter Try.func7, Try.ntmps7
    go_wp2_with fail
    refine (awake_any w).mono ?_
    rintro e w1 ⟨rfl, b1⟩
    have B1 := Lib.hid b1
    have cF := few_any (c' := 0) (A' := none) (legs := []) (m := 0) (HH.out.1.below b1) rfl (fun h => absurd rfl h) hn (by omega)
    clear b1
    go_wp2_with fail
    refine cF.mono ?_
    rintro e w2 ⟨r, rfl, hr, b2⟩
    have B2 := Lib.hid (B1.out.trans (b2.mono B1.out.size))
    clear b2 cF B1
    rcases r with _ | _
    · clear hr
      go_wp2_with fail
      go_ret
      exact ⟨rfl, B2.out⟩
    have HF := Lib.hid (hr rfl)
    have cC := check_any (HH.out.1.below B2.out) (by have := HF.out.n; rw [HH.out.1.len] at this; omega) (fun x hx => by have := HF.out.l x hx; omega)
    clear hr
    rw [CK.out] at cC
    go_wp2_with (first
      | (go_at_call 12; refine cC.mono ?_; rintro e w3 ⟨rfl, b3⟩; have B3 := Lib.hid (B2.out.trans (b3.mono B2.out.size)); have L := Lib.hid (LD.out w3 B3.out); obtain ⟨W4, hW4⟩ : ∃ W4, w3.alloc (.cells C 35) = W4 := ⟨_, rfl⟩; have P1 := Lib.hid (PN.out w3); have A4 := Lib.hid (BX.out w3); rw [hW4] at P1 A4; obtain ⟨c0, c1, c2, c3⟩ := CL.out W4 w3.heap.size A4.out; have Z3 := Lib.hid (show w3.heap.size < W4.heap.size by rw [← hW4]; simp); have B4 := Lib.hid (B3.out.trans ((below_box w3 (.cells C 35)).mono B3.out.size)); rw [hW4] at B4; clear b3 cC B2 LD PN BX hW4)
      | ((with_reducible refine wpList_load_eq rfl 35 (.tmp 44) rfl _ ?_ L.out ?_); (next => rfl))
      | ((with_reducible refine wpList_store_eq rfl 35 (.tmp 8) (.tmp 45) rfl _ _ ?_ ?_ P1.out ?_); (next => rfl); (next => rfl)))
    go_ret
    exact ⟨rfl, B4.out⟩
set_option maxRecDepth 100000 in
set_option maxHeartbeats 8000000 in
theorem holds_low (A : Option Addr) (n c : Nat) (l : List Ac) (at0 m : Int) (w : World) (h : AcsIn w A n c l) (hn : n ≤ 9223372036854775807) (hfit : FitA l) (k : Nat) (hk : k < n) (x : Ac) (hx : l[k]? = some x) (a0 : -9223372036854775808 ≤ at0) (a1 : at0 ≤ 9223372036854775807) (hq : at0 < 0 ∧ -((at0 + 1).tmod (n : Int)) = (k : Int) ∨ ¬ at0 < 0 ∧ at0 % (n : Int) = (k : Int)) (hw : x.who ≠ worldB) (hm : m < 1) :
    Calls Try.prog 7 #[.slice A n c, .int .i64 at0, .int .i64 m] w (fun e w' => e = .returned (.bool true) ∧ Below w.heap.size w w') := by
  have HH := Lib.hid h
  clear h
  have hkl : k < l.length := by rw [HH.out.1.len]; exact hk
  have hxk : l[k] = x := by rw [List.getElem?_eq_getElem hkl] at hx; exact Option.some.inj hx
  have HXM := Lib.hid (show x ∈ l from hxk ▸ List.getElem_mem hkl)
  have CK : Hid (checkA l = 0) := Lib.hid (check_yes (show FitTo l l.length from hfit))
  have d0 : ((n : Int) == 0) = false := by simp; omega
  have hk1 : (k : Int) < (n : Int) := by omega
  have hk0 : (0 : Int) ≤ (k : Int) := by omega
  obtain ⟨b, off, rfl, hbl, hc⟩ := HH.out.1.row (by intro e; rw [e] at hkl; simp at hkl)
  have LD := Lib.hid (fun W (hb : Below w.heap.size w W) => load_ac (range_below (hc k hkl) hb hbl))
  rw [hxk] at LD
  have HK := Lib.hid hk
  have BX := Lib.hid (fun W => at_new W (encA x).toArray 35)
  have PN := Lib.hid (fun W => put_new W x)
  obtain ⟨C, hC⟩ : ∃ C, (encA x).toArray = C := ⟨_, rfl⟩
  have HC := Lib.hid hC
  have CL := Lib.hid (show ∀ W b', At W b' C → W.cell? ⟨b', 0, none⟩ = some (.string (strB x.who)) ∧ W.cell? ⟨b', 1, none⟩ = some (.string (strB x.asset)) ∧ W.cell? ⟨b', 2, none⟩ = some (.int .i64 x.bal) ∧ W.cell? ⟨b', 3, none⟩ = some (.int .i64 x.held) from fun W b' a => by
    rw [← hC] at a
    exact ⟨a.2.2 0 _ rfl, a.2.2 1 _ rfl, a.2.2 2 _ rfl, a.2.2 3 _ rfl⟩)
  rw [hC] at LD BX PN
  have HFIT := Lib.hid hfit
  have g1 : ((strB x.who).toList == [119, 111, 114, 108, 100]) = false := by rw [strB_list]; exact beq_eq_false_iff_ne.2 (fun e => hw e)
  have CH := Lib.hid (show ∀ W, Below w.heap.size w W → n ≤ 100000 → x.who.length ≤ 100 → x.asset.length ≤ 100 → Calls Try.prog 16 #[.slice (some ⟨b, off, none⟩) n c, .string (strB x.who), .string (strB x.asset), .int .i64 m] W (AcsE [] 1 W) from fun W hb h1 h2 h3 => by
    have := hold_any (HH.out.1.below hb) h1 x.who x.asset m (by omega) (by omega)
    rw [hold_low x.who x.asset hm] at this
    exact this)
  clear hw
  generalize hX : strB x.who = X at *
  generalize hY : strB x.asset = Y at *
  generalize hB : x.bal = bal at *
  generalize hE : x.held = held at *
  clear hfit hx hxk hkl hc hbl hC hk
  rcases hq with ⟨hcut, hq⟩ | ⟨hcut, hq⟩
  all_goals
    go_enter Try.func7, Try.ntmps7
    go_wp2_with fail
    refine (awake_any w).mono ?_
    rintro e w1 ⟨rfl, b1⟩
    have B1 := Lib.hid b1
    have cF := few_any (c' := 0) (A' := none) (legs := []) (m := 0) (HH.out.1.below b1) rfl (fun h => absurd rfl h) hn (by omega)
    clear b1
    go_wp2_with fail
    refine cF.mono ?_
    rintro e w2 ⟨r, rfl, hr, b2⟩
    have B2 := Lib.hid (B1.out.trans (b2.mono B1.out.size))
    clear b2 cF B1
    rcases r with _ | _
    · clear hr
      go_wp2_with fail
      go_ret
      exact ⟨rfl, B2.out⟩
    have HF := Lib.hid (hr rfl)
    have cC := check_any (HH.out.1.below B2.out) (by have := HF.out.n; rw [HH.out.1.len] at this; omega) (fun x hx => by have := HF.out.l x hx; omega)
    clear hr
    rw [CK.out] at cC
    go_wp2_with (first
      | (go_at_call 12; refine cC.mono ?_; rintro e w3 ⟨rfl, b3⟩; have B3 := Lib.hid (B2.out.trans (b3.mono B2.out.size)); have L := Lib.hid (LD.out w3 B3.out); obtain ⟨W4, hW4⟩ : ∃ W4, w3.alloc (.cells C 35) = W4 := ⟨_, rfl⟩; have P1 := Lib.hid (PN.out w3); have A4 := Lib.hid (BX.out w3); rw [hW4] at P1 A4; obtain ⟨c0, c1, c2, c3⟩ := CL.out W4 w3.heap.size A4.out; have Z3 := Lib.hid (show w3.heap.size < W4.heap.size by rw [← hW4]; simp); have B4 := Lib.hid (B3.out.trans ((below_box w3 (.cells C 35)).mono B3.out.size)); rw [hW4] at B4; clear b3 cC B2 LD PN BX hW4)
      | ((with_reducible refine wpList_load_eq rfl 35 (.tmp 44) rfl _ ?_ L.out ?_); (next => rfl))
      | ((with_reducible refine wpList_store_eq rfl 35 (.tmp 8) (.tmp 45) rfl _ _ ?_ ?_ P1.out ?_); (next => rfl); (next => rfl))
      | (go_at_call 16; refine (CH.out W4 B4.out (by have := HF.out.n; rw [HH.out.1.len] at this; omega) (HF.out.l x HXM.out).1 (HF.out.l x HXM.out).2).mono ?_; rintro e w5 ⟨v5, rfl, o5, b5⟩; have B5 := Lib.hid (B4.out.trans (b5.mono B4.out.size)); have O5 := Lib.hid o5; obtain ⟨c0, c1, c2, c3⟩ := CL.out w5 w3.heap.size (A4.out.below b5 Z3.out); have A5 := Lib.hid (A4.out.below b5 Z3.out); clear o5 b5))
    go_ret
    exact ⟨rfl, B5.out⟩
set_option maxRecDepth 100000 in
set_option maxHeartbeats 8000000 in
theorem holds_more (A : Option Addr) (n c : Nat) (l : List Ac) (at0 m : Int) (w : World) (h : AcsIn w A n c l) (hn : n ≤ 9223372036854775807) (hfit : FitA l) (k : Nat) (hk : k < n) (x : Ac) (hx : l[k]? = some x) (a0 : -9223372036854775808 ≤ at0) (a1 : at0 ≤ 9223372036854775807) (hq : at0 < 0 ∧ -((at0 + 1).tmod (n : Int)) = (k : Int) ∨ ¬ at0 < 0 ∧ at0 % (n : Int) = (k : Int)) (hw : x.who ≠ worldB) (hm : 1 ≤ m) (hd : x.bal - x.held < m) :
    Calls Try.prog 7 #[.slice A n c, .int .i64 at0, .int .i64 m] w (fun e w' => e = .returned (.bool true) ∧ Below w.heap.size w w') := by
  have HH := Lib.hid h
  clear h
  have hkl : k < l.length := by rw [HH.out.1.len]; exact hk
  have hxk : l[k] = x := by rw [List.getElem?_eq_getElem hkl] at hx; exact Option.some.inj hx
  have HXM := Lib.hid (show x ∈ l from hxk ▸ List.getElem_mem hkl)
  have CK : Hid (checkA l = 0) := Lib.hid (check_yes (show FitTo l l.length from hfit))
  have d0 : ((n : Int) == 0) = false := by simp; omega
  have hk1 : (k : Int) < (n : Int) := by omega
  have hk0 : (0 : Int) ≤ (k : Int) := by omega
  obtain ⟨b, off, rfl, hbl, hc⟩ := HH.out.1.row (by intro e; rw [e] at hkl; simp at hkl)
  have LD := Lib.hid (fun W (hb : Below w.heap.size w W) => load_ac (range_below (hc k hkl) hb hbl))
  rw [hxk] at LD
  have HK := Lib.hid hk
  have BX := Lib.hid (fun W => at_new W (encA x).toArray 35)
  have PN := Lib.hid (fun W => put_new W x)
  obtain ⟨C, hC⟩ : ∃ C, (encA x).toArray = C := ⟨_, rfl⟩
  have HC := Lib.hid hC
  have CL := Lib.hid (show ∀ W b', At W b' C → W.cell? ⟨b', 0, none⟩ = some (.string (strB x.who)) ∧ W.cell? ⟨b', 1, none⟩ = some (.string (strB x.asset)) ∧ W.cell? ⟨b', 2, none⟩ = some (.int .i64 x.bal) ∧ W.cell? ⟨b', 3, none⟩ = some (.int .i64 x.held) from fun W b' a => by
    rw [← hC] at a
    exact ⟨a.2.2 0 _ rfl, a.2.2 1 _ rfl, a.2.2 2 _ rfl, a.2.2 3 _ rfl⟩)
  rw [hC] at LD BX PN
  have HFIT := Lib.hid hfit
  have g1 : ((strB x.who).toList == [119, 111, 114, 108, 100]) = false := by rw [strB_list]; exact beq_eq_false_iff_ne.2 (fun e => hw e)
  have CH := Lib.hid (show ∀ W, Below w.heap.size w W → n ≤ 100000 → x.who.length ≤ 100 → x.asset.length ≤ 100 → Calls Try.prog 16 #[.slice (some ⟨b, off, none⟩) n c, .string (strB x.who), .string (strB x.asset), .int .i64 m] W (AcsE [] 111 W) from fun W hb h1 h2 h3 => by
    have := hold_any (HH.out.1.below hb) h1 x.who x.asset m (by omega) (by omega)
    rw [hold_more HFIT.out HXM.out (HH.out.2 x HXM.out) hw hm hd] at this
    exact this)
  obtain ⟨_, _, _, _, hwrap⟩ := may_out hfit HXM.out (HH.out.2 x HXM.out) hw
  obtain ⟨D, hD⟩ : ∃ D, x.bal - x.held = D := ⟨_, rfl⟩
  have hwr : IntKind.i64.wrap (x.bal - x.held) = D := by rw [hwrap, hD]
  have HD := Lib.hid hD
  have t1 : ¬ m < 1 := by omega
  have t2 : D < m := by omega
  clear hw hD hwrap hd
  generalize hX : strB x.who = X at *
  generalize hY : strB x.asset = Y at *
  generalize hB : x.bal = bal at *
  generalize hE : x.held = held at *
  clear hfit hx hxk hkl hc hbl hC hk
  rcases hq with ⟨hcut, hq⟩ | ⟨hcut, hq⟩
  all_goals
    go_enter Try.func7, Try.ntmps7
    go_wp2_with fail
    refine (awake_any w).mono ?_
    rintro e w1 ⟨rfl, b1⟩
    have B1 := Lib.hid b1
    have cF := few_any (c' := 0) (A' := none) (legs := []) (m := 0) (HH.out.1.below b1) rfl (fun h => absurd rfl h) hn (by omega)
    clear b1
    go_wp2_with fail
    refine cF.mono ?_
    rintro e w2 ⟨r, rfl, hr, b2⟩
    have B2 := Lib.hid (B1.out.trans (b2.mono B1.out.size))
    clear b2 cF B1
    rcases r with _ | _
    · clear hr
      go_wp2_with fail
      go_ret
      exact ⟨rfl, B2.out⟩
    have HF := Lib.hid (hr rfl)
    have cC := check_any (HH.out.1.below B2.out) (by have := HF.out.n; rw [HH.out.1.len] at this; omega) (fun x hx => by have := HF.out.l x hx; omega)
    clear hr
    rw [CK.out] at cC
    go_wp2_with (first
      | (go_at_call 12; refine cC.mono ?_; rintro e w3 ⟨rfl, b3⟩; have B3 := Lib.hid (B2.out.trans (b3.mono B2.out.size)); have L := Lib.hid (LD.out w3 B3.out); obtain ⟨W4, hW4⟩ : ∃ W4, w3.alloc (.cells C 35) = W4 := ⟨_, rfl⟩; have P1 := Lib.hid (PN.out w3); have A4 := Lib.hid (BX.out w3); rw [hW4] at P1 A4; obtain ⟨c0, c1, c2, c3⟩ := CL.out W4 w3.heap.size A4.out; have Z3 := Lib.hid (show w3.heap.size < W4.heap.size by rw [← hW4]; simp); have B4 := Lib.hid (B3.out.trans ((below_box w3 (.cells C 35)).mono B3.out.size)); rw [hW4] at B4; clear b3 cC B2 LD PN BX hW4)
      | ((with_reducible refine wpList_load_eq rfl 35 (.tmp 44) rfl _ ?_ L.out ?_); (next => rfl))
      | ((with_reducible refine wpList_store_eq rfl 35 (.tmp 8) (.tmp 45) rfl _ _ ?_ ?_ P1.out ?_); (next => rfl); (next => rfl))
      | (go_at_call 16; refine (CH.out W4 B4.out (by have := HF.out.n; rw [HH.out.1.len] at this; omega) (HF.out.l x HXM.out).1 (HF.out.l x HXM.out).2).mono ?_; rintro e w5 ⟨v5, rfl, o5, b5⟩; have B5 := Lib.hid (B4.out.trans (b5.mono B4.out.size)); have O5 := Lib.hid o5; obtain ⟨c0, c1, c2, c3⟩ := CL.out w5 w3.heap.size (A4.out.below b5 Z3.out); have A5 := Lib.hid (A4.out.below b5 Z3.out); clear o5 b5))
    go_ret
    exact ⟨rfl, B5.out⟩
end Go.Proofs.Ytobpbbldgbgcdaa.Acc
