/-
  AccountHolds: the walk where so much can be held.
-/
import Derived.Test.YtobpbbldgbgcdaaAHoldsQ
namespace Go.Proofs.Ytobpbbldgbgcdaa.Acc
open Go.RowKit Go.Sort

set_option maxRecDepth 100000 in
set_option maxHeartbeats 8000000 in
theorem holds_all (A : Option Addr) (n c : Nat) (l : List Ac) (at0 m : Int) (w : World) (h : AcsIn w A n c l) (hn : n ≤ 9223372036854775807) (hfit : FitA l) (k : Nat) (hk : k < n) (x : Ac) (hx : l[k]? = some x) (a0 : -9223372036854775808 ≤ at0) (a1 : at0 ≤ 9223372036854775807) (hq : at0 < 0 ∧ -((at0 + 1).tmod (n : Int)) = (k : Int) ∨ ¬ at0 < 0 ∧ at0 % (n : Int) = (k : Int)) (hw : x.who ≠ worldB) (hm : 1 ≤ m) (hd : m ≤ x.bal - x.held) :
    Calls Try.prog 7 #[.slice A n c, .int .i64 at0, .int .i64 m] w (fun e w' => e = .returned (.bool true) ∧ Below w.heap.size w w') := by
  have HH := Lib.hid h
  clear h
  have hkl : k < l.length := by rw [HH.out.1.len]; exact hk
  have hxk : l[k] = x := by rw [List.getElem?_eq_getElem hkl] at hx; exact Option.some.inj hx
  have HXM := Lib.hid (show x ∈ l from hxk ▸ List.getElem_mem hkl)
  have CK : Hid (checkA l = 0) := Lib.hid (check_yes (show FitTo l l.length from hfit))
  have d0 : ((n : Int) == 0) = false := by simp; omega
  have hk1 : (k : Int) < (n : Int) := by omega
  have hk0 : (0 : Int) ≤ (k : Int) := by omega
  obtain ⟨b, off, rfl, hbl, hc⟩ := HH.out.1.row (by intro e; rw [e] at hkl; simp at hkl)
  have LD := Lib.hid (fun W (hb : Below w.heap.size w W) => load_ac (range_below (hc k hkl) hb hbl))
  rw [hxk] at LD
  have HK := Lib.hid hk
  have BX := Lib.hid (fun W => at_new W (encA x).toArray 35)
  have PN := Lib.hid (fun W => put_new W x)
  obtain ⟨C, hC⟩ : ∃ C, (encA x).toArray = C := ⟨_, rfl⟩
  have HC := Lib.hid hC
  have CL := Lib.hid (show ∀ W b', At W b' C → W.cell? ⟨b', 0, none⟩ = some (.string (strB x.who)) ∧ W.cell? ⟨b', 1, none⟩ = some (.string (strB x.asset)) ∧ W.cell? ⟨b', 2, none⟩ = some (.int .i64 x.bal) ∧ W.cell? ⟨b', 3, none⟩ = some (.int .i64 x.held) from fun W b' a => by
    rw [← hC] at a
    exact ⟨a.2.2 0 _ rfl, a.2.2 1 _ rfl, a.2.2 2 _ rfl, a.2.2 3 _ rfl⟩)
  rw [hC] at LD BX PN
  have HFIT := Lib.hid hfit
  have g1 : ((strB x.who).toList == [119, 111, 114, 108, 100]) = false := by rw [strB_list]; exact beq_eq_false_iff_ne.2 (fun e => hw e)
  have CH := Lib.hid (show ∀ W, Below w.heap.size w W → n ≤ 100000 → x.who.length ≤ 100 → x.asset.length ≤ 100 → Calls Try.prog 16 #[.slice (some ⟨b, off, none⟩) n c, .string (strB x.who), .string (strB x.asset), .int .i64 m] W (AcsE (withA l (x.hold (x.held + m))) 0 W) from fun W hb h1 h2 h3 => by
    have := hold_any (HH.out.1.below hb) h1 x.who x.asset m (by omega) (by omega)
    rw [hold_yes HFIT.out HXM.out (HH.out.2 x HXM.out) hw hm hd] at this
    exact this)
  obtain ⟨_, _, _, _, hwrap⟩ := may_out hfit HXM.out (HH.out.2 x HXM.out) hw
  obtain ⟨D, hD⟩ : ∃ D, x.bal - x.held = D := ⟨_, rfl⟩
  have hwr : IntKind.i64.wrap (x.bal - x.held) = D := by rw [hwrap, hD]
  have HD := Lib.hid hD
  have t1 : 1 ≤ m := hm
  have t2 : m ≤ D := by omega
  have hxi := HH.out.2 x HXM.out
  have hDb : 0 ≤ D ∧ D ≤ 9223372036854775807 := by
    obtain ⟨_, _, h3, h4, _⟩ := may_out hfit HXM.out hxi hw
    have := HXM.out
    constructor
    · omega
    · have h2 := (may_out hfit HXM.out hxi hw).2.1
      omega
  obtain ⟨E, hE⟩ : ∃ E, D - m = E := ⟨_, rfl⟩
  have hw1 : IntKind.i64.wrap (D - m) = E := by rw [hE]; exact IntWalk.i64_in _ (by omega)
  obtain ⟨S, hS⟩ : ∃ S, -E = S := ⟨_, rfl⟩
  have hw2 : IntKind.i64.wrap (-E) = S := by rw [hS]; exact IntWalk.i64_in _ (by omega)
  obtain ⟨S2, hS2⟩ : ∃ S2, S - 1 = S2 := ⟨_, rfl⟩
  have hw3 : IntKind.i64.wrap (S - 1) = S2 := by rw [hS2]; exact IntWalk.i64_in _ (by omega)
  have HLD := Lib.hid (held_all hfit HH.out.2 HXM.out hw hm hd)
  have YES := Lib.hid (show ∀ r, PostS (withA l (x.hold (x.held + m))) (amtsOf [⟨x.who, x.asset, S⟩, ⟨zzB, zZB, 0⟩]) r → r.2 = 0 from by
    have := HLD.out.yes
    rw [hD, hE, hS] at this
    exact this)
  have NO := Lib.hid (show ∀ r, PostS (withA l (x.hold (x.held + m))) (amtsOf [⟨x.who, x.asset, S2⟩, ⟨zzB, zZB, 0⟩]) r → r.2 = 111 from by
    have := HLD.out.no
    rw [hD, hE, hS, hS2] at this
    exact this)
  have hnm : namedB x.who x.asset = true := (may_out hfit HXM.out hxi hw).1
  have LG := Lib.hid (show ∀ s : Int, -9223372036854775808 ≤ s → s ≤ 9223372036854775807 → ∀ W W8, W.alloc (.cells #[.string (strB x.who), .string (strB x.asset), .int .i64 s, .string ⟨#[122, 122]⟩, .string ⟨#[90, 90]⟩, .int .i64 0] 39) = W8 → ∀ g1 cp, OwnA W w.heap.size (.slice (some ⟨g1, 0, none⟩) l.length cp) (withA l (x.hold (x.held + m))) → l.length ≤ 200 → x.who.length ≤ 100 → x.asset.length ≤ 100 →
      Below W.heap.size W W8 ∧ Calls Try.prog 14 #[.slice (some ⟨g1, 0, none⟩) l.length cp, .slice (some ⟨W.heap.size, 0, none⟩) 2 2] W8 (fun e w' => ∃ l' er, PostS (withA l (x.hold (x.held + m))) (amtsOf [⟨x.who, x.asset, s⟩, ⟨zzB, zZB, 0⟩]) (l', er) ∧ AcsE l' er W8 e w') from fun s s0 s1 W W8 hW8 g1 cp ho hl1 hl2 hl3 => by
    have bW := below_box W (.cells ([⟨x.who, x.asset, s⟩, ⟨zzB, zZB, 0⟩].flatMap encL).toArray 39)
    have rW := row_legs W [⟨x.who, x.asset, s⟩, ⟨zzB, zZB, 0⟩]
    have eW : W.alloc (.cells ([⟨x.who, x.asset, s⟩, ⟨zzB, zZB, 0⟩].flatMap encL).toArray 39) = W8 := hW8
    rw [eW] at bW rW
    refine ⟨bW, ?_⟩
    have hnl : [(⟨x.who, x.asset, s⟩ : Lg), ⟨zzB, zZB, 0⟩].any namelessB = false := by
      simp only [List.any_cons, List.any_nil, Bool.or_false]
      unfold namelessB
      rw [hnm]
      rfl
    refine (post_any (c' := 2) (own_aat (ho.below bW)) (by omega) HLD.out.fit (fun z hz => ⟨(HLD.out.ins z hz).b0, (HLD.out.ins z hz).b1⟩) (m := 2) rfl (by omega) rW (fun y hy => ?_) (fun y hy => ?_)).mono ?_
    · rcases List.mem_cons.1 hy with rfl | hy
      · exact ⟨by show x.who.length ≤ _; omega, by show x.asset.length ≤ _; omega⟩
      · rw [List.mem_singleton] at hy
        subst hy
        exact ⟨by decide, by decide⟩
    · rcases List.mem_cons.1 hy with rfl | hy
      · exact ⟨s0, s1⟩
      · rw [List.mem_singleton] at hy
        subst hy
        exact ⟨by decide, by decide⟩
    · rintro e w' ⟨l', er, hr, hE⟩
      unfold PostR at hr
      rw [if_neg (by rw [hnl]; simp)] at hr
      exact ⟨l', er, hr, hE⟩)
  have CFR := Lib.hid (show ∀ W g1 cp, OwnA W w.heap.size (.slice (some ⟨g1, 0, none⟩) l.length cp) (withA l (x.hold (x.held + m))) → l.length ≤ 200 → x.who.length ≤ 100 → x.asset.length ≤ 100 → Calls Try.prog 18 #[.slice (some ⟨g1, 0, none⟩) l.length cp, .string (strB x.who), .string (strB x.asset), .int .i64 m] W (AcsE l 0 W) from fun W g1 cp ho h1 h2 h3 => by
    have := free_any (own_aat ho) (by omega) x.who x.asset m (by omega) (by omega)
    rw [HLD.out.free] at this
    exact this)
  have S0 : -9223372036854775808 ≤ S := by omega
  have S1 : S ≤ 9223372036854775807 := by omega
  have S20 : -9223372036854775808 ≤ S2 := by omega
  have S21 : S2 ≤ 9223372036854775807 := by omega
  have LNE := Lib.hid (show l ≠ [] from fun e => by rw [e] at hkl; simp at hkl)
  have LEN := Lib.hid HLD.out.len
  clear hw hD hwrap hd hm hxi hDb hE hS hS2 hnm
  generalize withA l (x.hold (x.held + m)) = l1 at *
  generalize hX : strB x.who = X at *
  generalize hY : strB x.asset = Y at *
  generalize hB : x.bal = bal at *
  generalize hHd : x.held = held at *
  clear hfit hx hxk hkl hc hbl hC hk
  rcases hq with ⟨hcut, hq⟩ | ⟨hcut, hq⟩
  all_goals
    go_enter Try.func7, Try.ntmps7
    go_wp2_with fail
    refine (awake_any w).mono ?_
    rintro e w1 ⟨rfl, b1⟩
    have B1 := Lib.hid b1
    have cF := few_any (c' := 0) (A' := none) (legs := []) (m := 0) (HH.out.1.below b1) rfl (fun h => absurd rfl h) hn (by omega)
    clear b1
    go_wp2_with fail
    refine cF.mono ?_
    rintro e w2 ⟨r, rfl, hr, b2⟩
    have B2 := Lib.hid (B1.out.trans (b2.mono B1.out.size))
    clear b2 cF B1
    rcases r with _ | _
    · clear hr
      go_wp2_with fail
      go_ret
      exact ⟨rfl, B2.out⟩
    have HF := Lib.hid (hr rfl)
    have cC := check_any (HH.out.1.below B2.out) (by have := HF.out.n; rw [HH.out.1.len] at this; omega) (fun x hx => by have := HF.out.l x hx; omega)
    clear hr
    rw [CK.out] at cC
    go_wp2_with (first
      | (go_at_call 12; refine cC.mono ?_; rintro e w3 ⟨rfl, b3⟩; have B3 := Lib.hid (B2.out.trans (b3.mono B2.out.size)); have L := Lib.hid (LD.out w3 B3.out); obtain ⟨W4, hW4⟩ : ∃ W4, w3.alloc (.cells C 35) = W4 := ⟨_, rfl⟩; have P1 := Lib.hid (PN.out w3); have A4 := Lib.hid (BX.out w3); rw [hW4] at P1 A4; obtain ⟨c0, c1, c2, c3⟩ := CL.out W4 w3.heap.size A4.out; have Z3 := Lib.hid (show w3.heap.size < W4.heap.size by rw [← hW4]; simp); have B4 := Lib.hid (B3.out.trans ((below_box w3 (.cells C 35)).mono B3.out.size)); rw [hW4] at B4; clear b3 cC B2 LD PN BX hW4)
      | ((with_reducible refine wpList_load_eq rfl 35 (.tmp 44) rfl _ ?_ L.out ?_); (next => rfl))
      | ((with_reducible refine wpList_store_eq rfl 35 (.tmp 8) (.tmp 45) rfl _ _ ?_ ?_ P1.out ?_); (next => rfl); (next => rfl))
      | (go_at_call 16; refine (CH.out W4 B4.out (by have := HF.out.n; rw [HH.out.1.len] at this; omega) (HF.out.l x HXM.out).1 (HF.out.l x HXM.out).2).mono ?_; rintro e w5 ⟨v5, rfl, o5, b5⟩; have B5 := Lib.hid (B4.out.trans (b5.mono B4.out.size)); have O5 := Lib.hid o5; obtain ⟨c0, c1, c2, c3⟩ := CL.out w5 w3.heap.size (A4.out.below b5 Z3.out); have A5 := Lib.hid (A4.out.below b5 Z3.out); clear o5 b5))
    have H9 := HF.out.n
    have X9 := HF.out.l x HXM.out
    obtain ⟨g5, cp, e5, _, _⟩ := O5.out.some (by intro e; have := LEN.out; rw [e] at this; exact LNE.out (List.eq_nil_of_length_eq_zero this.symm))
    rw [LEN.out] at e5
    subst e5
    have O5' := Lib.hid (O5.out.down B4.out.size)
    have cR := CFR.out w5 g5 cp O5'.out H9 X9.1 X9.2
    clear O5 c0 c1 c2 c3
    refine cR.mono ?_
    rintro e w6 ⟨v6, rfl, o6, b6⟩
    have B6 := Lib.hid (B5.out.trans (b6.mono B5.out.size))
    have O6 := Lib.hid (O5'.out.below b6)
    have A6 := Lib.hid (A5.out.below b6 A5.out.1)
    obtain ⟨g6, cq, e6, _, _⟩ := o6.some LNE.out
    subst e6
    have cS := same_any (own_aat o6) (HH.out.1.below B6.out) (by omega)
    clear o6 b6 cR O5' A5 B5
    go_wp2_with fail
    refine cS.mono ?_
    rintro e w7 ⟨r, rfl, hr, b7⟩
    obtain rfl : r = true := hr.2 trivial
    have B7 := Lib.hid (B6.out.trans (b7.mono B6.out.size))
    have O7 := Lib.hid (O6.out.below b7)
    have A7 := Lib.hid (A6.out.below b7 A6.out.1)
    obtain ⟨c0, c1, c2, c3⟩ := CL.out w7 w3.heap.size A7.out
    obtain ⟨W8, hW8⟩ : ∃ W8, w7.alloc (.cells #[.string X, .string Y, .int .i64 S, .string ⟨#[122, 122]⟩, .string ⟨#[90, 90]⟩, .int .i64 0] 39) = W8 := ⟨_, rfl⟩
    obtain ⟨b8, cP⟩ := LG.out S S0 S1 w7 W8 hW8 g5 cp O7.out H9 X9.1 X9.2
    have HW8 := Lib.hid hW8
    have B8 := Lib.hid (B7.out.trans (b8.mono B7.out.size))
    have O8 := Lib.hid (O7.out.below b8)
    have A8 := Lib.hid (A7.out.below b8 A7.out.1)
    clear hW8 b8 b7 hr cS O6 A6 B6 O7 A7
    go_wp2_with fail
    rw [HW8.out]
    refine cP.mono ?_
    rintro e w9 ⟨l', er, hr, v9, rfl, _, b9⟩
    obtain rfl : er = 0 := YES.out _ hr
    have B9 := Lib.hid (B8.out.trans (b9.mono B8.out.size))
    have O9 := Lib.hid (O8.out.below b9)
    have A9 := Lib.hid (A8.out.below b9 A8.out.1)
    clear c0 c1 c2 c3 HW8
    obtain ⟨c0, c1, c2, c3⟩ := CL.out w9 w3.heap.size A9.out
    obtain ⟨W8, hW8⟩ : ∃ W8, w9.alloc (.cells #[.string X, .string Y, .int .i64 S2, .string ⟨#[122, 122]⟩, .string ⟨#[90, 90]⟩, .int .i64 0] 39) = W8 := ⟨_, rfl⟩
    obtain ⟨b8, cP⟩ := LG.out S2 S20 S21 w9 W8 hW8 g5 cp O9.out H9 X9.1 X9.2
    have HW8 := Lib.hid hW8
    have B10 := Lib.hid (B9.out.trans (b8.mono B9.out.size))
    clear hW8 b8 b9 hr O8 A8 B8
    go_wp2_with fail
    rw [HW8.out]
    refine cP.mono ?_
    rintro e w11 ⟨l'', er, hr, v11, rfl, _, b11⟩
    obtain rfl : er = 111 := NO.out _ hr
    have B11 := Lib.hid (B10.out.trans (b11.mono B10.out.size))
    clear c0 c1 c2 c3 HW8 b11 hr
    go_wp2_with fail
    go_ret
    exact ⟨rfl, B11.out⟩
end Go.Proofs.Ytobpbbldgbgcdaa.Acc
