/-
  AccountTells: the walk, the row.
-/
import Derived.Test.YtobpbbldgbgcdaaBRPost
import Derived.Test.YtobpbbldgbgcdaaBRCheck
import Derived.Test.YtobpbbldgbgcdaaAArgs
import Derived.SizedLaws
namespace Go.Proofs.Ytobpbbldgbgcdaa.Acc
open Go.RowKit Go.Sort

theorem holdR_same {l : List Ac} (h : FitA l) (hi : ∀ x ∈ l, AcIn x) (who asset : Bs) (n : Int) : holdR l who asset n = holdA l who asset n := by
  unfold holdR holdA
  by_cases hb : holdB who asset n = true
  · rw [if_pos hb, if_pos hb]
    unfold holdB at hb
    simp only [Bool.and_eq_true, decide_eq_true_eq, Bool.not_eq_true', beq_eq_false_iff_ne] at hb
    obtain ⟨⟨h1, h2⟩, h3⟩ := hb
    by_cases hd : IntKind.i64.wrap ((findA l (who, asset)).bal - (findA l (who, asset)).held) < n
    · rw [if_pos hd, if_pos hd]
    · rw [if_neg hd, if_neg hd]
      rcases find_cases l (who, asset) with ⟨h4, h5⟩ | ⟨_, h5⟩
      · have hw : (findA l (who, asset)).who ≠ worldB := by
          rw [show (findA l (who, asset)).who = who from congrArg Prod.fst h5]; exact h2
        obtain ⟨m1, m2, m3, m4, m5⟩ := may_out h h4 (hi _ h4) hw
        rw [m5] at hd
        rw [IntWalk.i64_in ((findA l (who, asset)).held + n) (by omega)]
        rw [withR_same h h4 (y := (findA l (who, asset)).hold ((findA l (who, asset)).held + n)) rfl (held_may h h4 hw (by omega) (by omega))]
      · rw [h5] at hd
        have e : IntKind.i64.wrap ((zeroOf (who, asset)).bal - (zeroOf (who, asset)).held) = 0 := by
          show IntKind.i64.wrap (0 - 0) = 0
          exact IntWalk.i64_in _ (by omega)
        rw [e] at hd
        omega
  · rw [if_neg hb, if_neg hb]
theorem freeR_same {l : List Ac} (h : FitA l) (hi : ∀ x ∈ l, AcIn x) (who asset : Bs) (n : Int) : freeR l who asset n = freeA l who asset n := by
  unfold freeR freeA
  by_cases hb : holdB who asset n = true
  · rw [if_pos hb, if_pos hb]
    unfold holdB at hb
    simp only [Bool.and_eq_true, decide_eq_true_eq, Bool.not_eq_true', beq_eq_false_iff_ne] at hb
    obtain ⟨⟨h1, h2⟩, h3⟩ := hb
    by_cases hd : (findA l (who, asset)).held < n
    · rw [if_pos hd, if_pos hd]
    · rw [if_neg hd, if_neg hd]
      rcases find_cases l (who, asset) with ⟨h4, h5⟩ | ⟨_, h5⟩
      · have hw : (findA l (who, asset)).who ≠ worldB := by
          rw [show (findA l (who, asset)).who = who from congrArg Prod.fst h5]; exact h2
        obtain ⟨m1, m2, m3, m4, m5⟩ := may_out h h4 (hi _ h4) hw
        rw [IntWalk.i64_in ((findA l (who, asset)).held - n) (by omega)]
        rw [withR_same h h4 (y := (findA l (who, asset)).hold ((findA l (who, asset)).held - n)) rfl (held_may h h4 hw (by omega) (by omega))]
      · rw [h5] at hd
        have hd : ¬ (0 : Int) < n := hd
        omega
  · rw [if_neg hb, if_neg hb]
theorem postR_unique {l : List Ac} {legs : List Lg} {r r' : List Ac × Int} (h : PostR l legs r) (h' : PostR l legs r') : r = r' := by
  unfold PostR at h h'
  split at h
  · rename_i hc
    rw [if_pos hc] at h'
    rw [h, h']
  · rename_i hc
    rw [if_neg hc] at h'
    exact post_unique h h'
theorem withA_len (l : List Ac) (x : Ac) : (withA l x).length = l.length := by
  rcases pos_with l x with ⟨_, e⟩ | ⟨k, _, _, e⟩
  · rw [e]
  · rw [e, List.length_set]
theorem holdA_len (l : List Ac) (who asset : Bs) (n : Int) : (holdA l who asset n).1.length ≤ l.length ∧ (freeA l who asset n).1.length ≤ l.length := by
  unfold holdA freeA
  constructor
  · split
    · split
      · simp
      · show (withA l _).length ≤ _
        rw [withA_len]; exact Nat.le_refl _
    · simp
  · split
    · split
      · simp
      · show (withA l _).length ≤ _
        rw [withA_len]; exact Nat.le_refl _
    · simp
theorem ac_grdE (x y : Operand) (u v : Array Value) (W : World) : (eqGuard .eql 35 x y (.agg u) (.agg v)).run Try.prog W = .ok () W := run_eqGuard_agg W _ _ _ _ _ _ ac_guard
set_option maxRecDepth 100000 in
set_option maxHeartbeats 8000000 in
theorem tells_walk (A A' : Option Addr) (n c m c' : Nat) (l : List Ac) (legs : List Lg) (who asset : Bs) (nn : Int) (w : World) (h : AcsIn w A n c l) (hL : LgsIn w A' m c' legs) (hn : n ≤ 9223372036854775807) (hm : m ≤ 9223372036854775807) :
    Calls Try.prog 4 #[.slice A n c, .slice A' m c', strV who, strV asset, .int .i64 nn] w (fun e w' => e = .returned (.bool true) ∧ Below w.heap.size w w') := by
  have HH := Lib.hid h
  have HG := Lib.hid hL
  have z0 := strB_size who
  have z1 := strB_size asset
  have HZ := Lib.hid (And.intro z0 z1)
  clear h hL
  obtain ⟨sW, hW⟩ : ∃ X, strB who = X := ⟨_, rfl⟩
  obtain ⟨sA, hA⟩ : ∃ Y, strB asset = Y := ⟨_, rfl⟩
  have HSW := Lib.hid (show strV who = .string sW by rw [← hW])
  have HSA := Lib.hid (show strV asset = .string sA by rw [← hA])
  rw [HSW.out, HSA.out]
  rw [hW] at HZ
  rw [hA] at HZ
  clear hW hA z0 z1
  go_enter Try.func4, Try.ntmps4
  go_wp2_with fail
  refine (awake_any w).mono ?_
  rintro e w1 ⟨rfl, b1⟩
  have B1 := Lib.hid b1
  have cF := few_any (c' := c') (HH.out.1.below b1) HG.out.len (HG.out.row.below b1) hn hm
  clear b1
  go_wp2_with fail
  refine cF.mono ?_
  rintro e w2 ⟨r, rfl, hr, b2⟩
  have B2 := Lib.hid (B1.out.trans (b2.mono B1.out.size))
  clear b2 cF B1
  rcases r with _ | _
  · clear hr
    go_wp2_with fail
    go_ret
    exact ⟨rfl, B2.out⟩
  have HF := Lib.hid (hr rfl)
  clear hr
  by_cases g1 : 100 < sW.size
  · have t1 : (100 : Int) < (sW.size : Int) := by omega
    have t1d : decide ((100 : Int) < (sW.size : Int)) = true := decide_eq_true t1
    clear g1
    go_wp2_with fail
    go_ret
    exact ⟨rfl, B2.out⟩
  have t1 : ¬ (100 : Int) < (sW.size : Int) := by omega
  by_cases g2 : 100 < sA.size
  · have t2 : (100 : Int) < (sA.size : Int) := by omega
    clear g1 g2
    go_wp2_with fail
    go_ret
    exact ⟨rfl, B2.out⟩
  have t2 : ¬ (100 : Int) < (sA.size : Int) := by omega
  have HLW := Lib.hid (show who.length ≤ 100 ∧ asset.length ≤ 100 from by have := HZ.out; omega)
  have HN := Lib.hid (show n ≤ 200 ∧ m ≤ 210 from by have h1 := HF.out.n; have h2 := HF.out.m; rw [HH.out.1.len] at h1; rw [HG.out.len] at h2; exact ⟨h1, h2⟩)
  have cC := Lib.hid (show ∀ W, Below w.heap.size w W → Calls Try.prog 12 #[.slice A n c] W (fun e w' => e = .returned (.int .i64 (checkA l)) ∧ Below W.heap.size W w') from fun W hb => check_any (HH.out.1.below hb) (by have := HN.out; omega) (fun x hx => by have := HF.out.l x hx; omega))
  have cR := Lib.hid (show ∀ W, Below w.heap.size w W → Calls Try.prog 13 #[.slice A n c] W (fun e w' => e = .returned (.int .i64 (checkA l)) ∧ Below W.heap.size W w') from fun W hb => rCheck_any (HH.out.1.below hb) (by have := HN.out; omega) (fun x hx => by have := HF.out.l x hx; omega))
  clear g1 g2 hn hm
  by_cases hfit : FitA l
  rotate_left
  · rw [show checkA l = 110 by unfold checkA; rw [if_neg hfit]] at cC cR
    clear hfit
    go_wp2_with fail
    refine (cC.out w2 B2.out).mono ?_
    rintro e w3 ⟨rfl, b3⟩
    have B3 := Lib.hid (B2.out.trans (b3.mono B2.out.size))
    clear b3
    go_wp2_with fail
    refine (cR.out w3 B3.out).mono ?_
    rintro e w4 ⟨rfl, b4⟩
    have B4 := Lib.hid (B3.out.trans (b4.mono B3.out.size))
    clear b4
    go_wp2_with fail
    refine (cC.out w4 B4.out).mono ?_
    rintro e w5 ⟨rfl, b5⟩
    have B5 := Lib.hid (B4.out.trans (b5.mono B4.out.size))
    clear b5
    go_wp2_with fail
    go_ret
    exact ⟨rfl, B5.out⟩
  rw [check_yes (show FitTo l l.length from hfit)] at cC cR
  have HFIT := Lib.hid hfit
  clear hfit
  go_wp2_with fail
  refine (cC.out w2 B2.out).mono ?_
  rintro e w3 ⟨rfl, b3⟩
  have B3 := Lib.hid (B2.out.trans (b3.mono B2.out.size))
  clear b3
  go_wp2_with fail
  refine (cR.out w3 B3.out).mono ?_
  rintro e w4 ⟨rfl, b4⟩
  have B4 := Lib.hid (B3.out.trans (b4.mono B3.out.size))
  clear b4
  go_wp2_with fail
  refine (cC.out w4 B4.out).mono ?_
  rintro e w5 ⟨rfl, b5⟩
  have B5 := Lib.hid (B4.out.trans (b5.mono B4.out.size))
  clear b5 cC cR B2 B3 B4 t1 t2
  have cP := post_any (c' := c') (HH.out.1.below B5.out) (by have := HN.out; omega) HFIT.out (fun x hx => ⟨(HH.out.2 x hx).b0, (HH.out.2 x hx).b1⟩) HG.out.len (by have := HN.out; omega) (HG.out.row.below B5.out) (fun x hx => by have := HF.out.g x hx; omega) HG.out.ins
  go_wp2_with fail
  refine cP.mono ?_
  rintro e w6 ⟨a, er, hp, va, rfl, oa, b6⟩
  have B6 := Lib.hid (B5.out.trans (b6.mono B5.out.size))
  have OA := Lib.hid oa
  have HP := Lib.hid hp
  clear b6 cP oa hp
  have cQ := rPost_any (c' := c') (HH.out.1.below B6.out) (by have := HN.out; omega) HFIT.out HH.out.2 HG.out.len (by have := HN.out; omega) (HG.out.row.below B6.out) (fun x hx => by have := HF.out.g x hx; omega) HG.out.ins
  go_wp2_with fail
  refine cQ.mono ?_
  rintro e w7 ⟨b, fr, hq, vb, rfl, ob, b7⟩
  have huq := postR_unique HP.out hq
  obtain ⟨rfl, rfl⟩ : a = b ∧ er = fr := ⟨congrArg Prod.fst huq, congrArg Prod.snd huq⟩
  have B7 := Lib.hid (B6.out.trans (b7.mono B6.out.size))
  have OA7 := Lib.hid (OA.out.below b7)
  have OB := Lib.hid ob
  have HAL := Lib.hid (postR_len HP.out)
  clear b7 cQ ob hq huq OA HP
  have cH := hold_any (HH.out.1.below B7.out) (by have := HN.out; omega) who asset nn (by have := HLW.out; omega) (by have := HLW.out; omega)
  rw [HSW.out, HSA.out] at cH
  obtain ⟨hh, hhe⟩ : ∃ r, holdA l who asset nn = r := ⟨_, rfl⟩
  have HHE := Lib.hid hhe
  have HHL := Lib.hid (show hh.1.length ≤ l.length from hhe ▸ (holdA_len l who asset nn).1)
  rw [hhe] at cH
  clear hhe
  go_wp2_with fail
  refine cH.mono ?_
  rintro e w8 ⟨vc, rfl, oc, b8⟩
  have B8 := Lib.hid (B7.out.trans (b8.mono B7.out.size))
  have OA8 := Lib.hid (OA7.out.below b8)
  have OB8 := Lib.hid (OB.out.below b8)
  have OC := Lib.hid oc
  clear b8 cH oc OA7 OB
  have cI := rHold_any (HH.out.1.below B8.out) (by have := HN.out; omega) who asset nn (by have := HLW.out; omega) (by have := HLW.out; omega)
  rw [HSW.out, HSA.out, holdR_same HFIT.out HH.out.2, HHE.out] at cI
  go_wp2_with fail
  refine cI.mono ?_
  rintro e w9 ⟨vd, rfl, od, b9⟩
  have B9 := Lib.hid (B8.out.trans (b9.mono B8.out.size))
  have OA9 := Lib.hid (OA8.out.below b9)
  have OB9 := Lib.hid (OB8.out.below b9)
  have OC9 := Lib.hid (OC.out.below b9)
  have OD := Lib.hid od
  clear b9 cI od OA8 OB8 OC HHE
  have cH := free_any (HH.out.1.below B9.out) (by have := HN.out; omega) who asset nn (by have := HLW.out; omega) (by have := HLW.out; omega)
  rw [HSW.out, HSA.out] at cH
  obtain ⟨ff, hfe⟩ : ∃ r, freeA l who asset nn = r := ⟨_, rfl⟩
  have HFE := Lib.hid hfe
  have HFL := Lib.hid (show ff.1.length ≤ l.length from hfe ▸ (holdA_len l who asset nn).2)
  rw [hfe] at cH
  clear hfe
  go_wp2_with fail
  refine cH.mono ?_
  rintro e w10 ⟨ve, rfl, oe, b10⟩
  have B10 := Lib.hid (B9.out.trans (b10.mono B9.out.size))
  have OA10 := Lib.hid (OA9.out.below b10)
  have OB10 := Lib.hid (OB9.out.below b10)
  have OC10 := Lib.hid (OC9.out.below b10)
  have OD10 := Lib.hid (OD.out.below b10)
  have OE := Lib.hid oe
  clear b10 cH oe OA9 OB9 OC9 OD
  have cI := rFree_any (HH.out.1.below B10.out) (by have := HN.out; omega) who asset nn (by have := HLW.out; omega) (by have := HLW.out; omega)
  rw [HSW.out, HSA.out, freeR_same HFIT.out HH.out.2, HFE.out] at cI
  go_wp2_with fail
  refine cI.mono ?_
  rintro e w11 ⟨vf, rfl, of, b11⟩
  have B11 := Lib.hid (B10.out.trans (b11.mono B10.out.size))
  have OA11 := Lib.hid (OA10.out.below b11)
  have OB11 := Lib.hid (OB10.out.below b11)
  have OC11 := Lib.hid (OC10.out.below b11)
  have OD11 := Lib.hid (OD10.out.below b11)
  have OE11 := Lib.hid (OE.out.below b11)
  have OF := Lib.hid of
  clear b11 cI of OA10 OB10 OC10 OD10 OE HFE
  have cT := total_any (HH.out.1.below B11.out) (by have := HN.out; omega) asset (fun x hx => ⟨(HH.out.2 x hx).b0, (HH.out.2 x hx).b1⟩)
  rw [HSA.out] at cT
  obtain ⟨tv, htv⟩ : ∃ tv, Coin.val (balsA l asset).sum = tv := ⟨_, rfl⟩
  obtain ⟨te, hte⟩ : ∃ te, Coin.err (balsA l asset).sum = te := ⟨_, rfl⟩
  have HTV := Lib.hid htv
  have HTE := Lib.hid hte
  rw [htv, hte] at cT
  clear htv hte
  go_wp2_with fail
  refine cT.mono ?_
  rintro e w12 ⟨rfl, b12⟩
  have B12 := Lib.hid (B11.out.trans (b12.mono B11.out.size))
  have cU := rTotal_any (HH.out.1.below B12.out) (by have := HN.out; omega) asset (fun x hx => ⟨(HH.out.2 x hx).b0, (HH.out.2 x hx).b1⟩)
  rw [HSA.out, HTV.out, HTE.out] at cU
  go_wp2_with fail
  refine cU.mono ?_
  rintro e w13 ⟨rfl, b13⟩
  have B13 := Lib.hid (B12.out.trans (b13.mono B12.out.size))
  have BT := b12.trans (b13.mono b12.size)
  obtain ⟨A1, k1, rfl, a1, _⟩ := OA11.out.at
  obtain ⟨A2, k2, rfl, a2, _⟩ := OB11.out.at
  obtain ⟨A3, k3, rfl, a3, _⟩ := OC11.out.at
  obtain ⟨A4, k4, rfl, a4, _⟩ := OD11.out.at
  obtain ⟨A5, k5, rfl, a5, _⟩ := OE11.out.at
  obtain ⟨A6, k6, rfl, a6, _⟩ := OF.out.at
  have S1 := Lib.hid (And.intro (a1.below BT) (a2.below BT))
  have S2 := Lib.hid (And.intro (a3.below BT) (a4.below BT))
  have S3 := Lib.hid (And.intro (a5.below BT) (a6.below BT))
  have HL1 := Lib.hid (show a.length ≤ 1000000000000 ∧ hh.1.length ≤ 1000000000000 ∧ ff.1.length ≤ 1000000000000 from by
    have h1 := HF.out.n
    have h2 := HF.out.m
    have h3 := HAL.out
    have h4 := HHL.out
    have h5 := HFL.out
    omega)
  obtain ⟨n1, hn1⟩ : ∃ n1, a.length = n1 := ⟨_, rfl⟩
  obtain ⟨n2, hn2⟩ : ∃ n2, hh.1.length = n2 := ⟨_, rfl⟩
  obtain ⟨n3, hn3⟩ : ∃ n3, ff.1.length = n3 := ⟨_, rfl⟩
  rw [hn1] at S1 HL1 ⊢
  rw [hn2] at S2 HL1 ⊢
  rw [hn3] at S3 HL1 ⊢
  clear a1 a2 a3 a4 a5 a6 OA11 OB11 OC11 OD11 OE11 OF b12 b13 BT cT cU HTV HTE hn1 hn2 hn3
  have cX : ∀ W, Below w.heap.size w W → Calls Try.prog 23 #[.slice A n c, .string sW, .string sA] W (fun e w' => e = .returned (.agg #[.string (strB (findA l (who, asset)).who), .string (strB (findA l (who, asset)).asset), .int .i64 (findA l (who, asset)).bal, .int .i64 (findA l (who, asset)).held]) ∧ Below W.heap.size W w') := fun W hb => by
    have := find_any (HH.out.1.below hb) (by have := HN.out; omega) who asset
    rw [HSW.out, HSA.out] at this
    exact this
  have cY : ∀ W, Below w.heap.size w W → Calls Try.prog 24 #[.slice A n c, .string sW, .string sA] W (fun e w' => e = .returned (.agg #[.string (strB (findA l (who, asset)).who), .string (strB (findA l (who, asset)).asset), .int .i64 (findA l (who, asset)).bal, .int .i64 (findA l (who, asset)).held]) ∧ Below W.heap.size W w') := fun W hb => by
    have := rFind_any (HH.out.1.below hb) (by have := HN.out; omega) (who, asset)
    dsimp only at this
    rw [HSW.out, HSA.out] at this
    exact this
  generalize strB (findA l (who, asset)).who = X1 at *
  generalize strB (findA l (who, asset)).asset = Y1 at *
  generalize (findA l (who, asset)).bal = xb at *
  generalize (findA l (who, asset)).held = xh at *
  have CX := Lib.hid cX
  have CY := Lib.hid cY
  have hE : ∀ W, (Op.equalIn 10000 35 (.agg #[.string X1, .string Y1, .int .i64 xb, .int .i64 xh]) (.agg #[.string X1, .string Y1, .int .i64 xb, .int .i64 xh])).run Try.prog W = .ok true W := fun W => by rw [ac_eq]; simp
  have hg := ac_grdE
  clear cX cY
  generalize hh.2 = hr2 at *
  generalize ff.2 = fr2 at *
  have cS := same_any S1.out.1 S1.out.2 HL1.out.1
  go_wp2_with fail
  refine cS.mono ?_
  rintro e w14 ⟨r1, rfl, hr1, b14⟩
  obtain rfl : r1 = true := by first | exact hr1.2 rfl | exact hr1.2 trivial
  have B14 := Lib.hid (B13.out.trans (b14.mono B13.out.size))
  have cS2 := same_any (S2.out.1.below b14) (S2.out.2.below b14) HL1.out.2.1
  have T3 := Lib.hid (And.intro (S3.out.1.below b14) (S3.out.2.below b14))
  clear cS b14 hr1
  go_wp2_with fail
  refine cS2.mono ?_
  rintro e w15 ⟨r2, rfl, hr2', b15⟩
  obtain rfl : r2 = true := by first | exact hr2'.2 rfl | exact hr2'.2 trivial
  have B15 := Lib.hid (B14.out.trans (b15.mono B14.out.size))
  have cS3 := same_any (T3.out.1.below b15) (T3.out.2.below b15) HL1.out.2.2
  clear cS2 b15 hr2'
  go_wp2_with fail
  refine cS3.mono ?_
  rintro e w16 ⟨r3, rfl, hr3, b16⟩
  obtain rfl : r3 = true := by first | exact hr3.2 rfl | exact hr3.2 trivial
  have B16 := Lib.hid (B15.out.trans (b16.mono B15.out.size))
  clear cS3 b16 hr3 S1 S2 S3 T3 HL1
  go_wp2_with fail
  refine (CX.out w16 B16.out).mono ?_
  rintro e w17 ⟨rfl, b17⟩
  have B17 := Lib.hid (B16.out.trans (b17.mono B16.out.size))
  clear b17
  go_wp2_with fail
  refine (CY.out w17 B17.out).mono ?_
  rintro e w18 ⟨rfl, b18⟩
  have B18 := Lib.hid (B17.out.trans (b18.mono B17.out.size))
  clear b18 CX CY
  go_wp2_with fail
  go_ret
  exact ⟨rfl, B18.out⟩
end Go.Proofs.Ytobpbbldgbgcdaa.Acc
namespace Go.Proofs.Ytobpbbldgbgcdaa
open Go.ChangeShapes Go.WideShapes Go.ChangeAt Go.WideMaps Go.WideElems Go.RowKit _root_.Go.Proofs.Ytobpbbldgbgcdaa.Acc

set_option maxRecDepth 100000 in
theorem accountTells_lifted (os : Os) (started : os.Started) (H : Type) (enc : TypeId × Value → H) :
    ReturnsInHanded {} Try.checked os 4 .any (Rows.accountTellsSpec.pre6 enc Try.prog Try.f4 Rows.accountTellsRow.domain false) (Rows.accountTellsSpec.post enc Try.prog Try.f4 false true false false) := by
  refine returnsInHanded_of_change_sized (C := Try.checked) own started (by kernel_rfl) Try.func4
    (ChangeSpec.witness6 (enc := enc) (C := Try.checked) false ⟨#[], #[.slice none 0 0, .slice none 0 0, .string ⟨#[]⟩, .string ⟨#[]⟩, .int .i64 0], []⟩ 8 (by kernel_rfl) (by kernel_rfl) (by kernel_rfl) (by kernel_rfl)) ?_
  intro W base args ds gs before hval0 hW hcnd hz0 _
  have hval : ∀ (j : Nat) t v, Try.f4.params[j]? = some t → args[j]? = some v → Value.okWide Try.prog W .any base t v := hval0
  have hW' := hW
  obtain ⟨p, q, hA0, hV, rfl, hfz, hnd⟩ := hW
  have hA : DataW.TrodAll enc Try.prog W 0 (fun _ => true) true Try.f4.params.toList args.toList ds p := hA0
  rw [Try.params4] at hA hval hz0
  obtain ⟨v0, vs0, d0, ds0, p0, q0, hargs, rfl, rfl, h0, r0⟩ := trodAll_cons hA
  obtain ⟨v1, vs1, d1, ds1, p1, q1, rfl, rfl, rfl, h1, r1⟩ := trodAll_cons r0
  obtain ⟨v2, vs2, d2, ds2, p2, q2, rfl, rfl, rfl, h2, r2⟩ := trodAll_cons r1
  obtain ⟨v3, vs3, d3, ds3, p3, q3, rfl, rfl, rfl, h3, r3⟩ := trodAll_cons r2
  obtain ⟨v4, vs4, d4, ds4, p4, q4, rfl, rfl, rfl, h4, r4⟩ := trodAll_cons r3
  obtain ⟨rfl, rfl, rfl⟩ := trodAll_nil r4
  obtain rfl : args = #[v0, v1, v2, v3, v4] := by cases args; simp_all
  obtain ⟨rfl, rfl⟩ := trodVars_none hV
  have t0 := h0
  have lt0 : ∀ x ∈ p0, x.block < W.heap.size := by obtain ⟨m, hm⟩ := t0; exact DataW.trod_lt m _ _ _ hm
  obtain ⟨A0, n0, k0, l0, rfl, z0, y0, x0, rw0⟩ := open_acs (hval 0 23 v0 rfl rfl) h0
  have t1 := h1
  have lt1 : ∀ x ∈ p1, x.block < W.heap.size := by obtain ⟨m, hm⟩ := t1; exact DataW.trod_lt m _ _ _ hm
  obtain ⟨A1, n1, k1, l1, rfl, z1, y1, x1, rw1⟩ := open_legs (hval 1 24 v1 rfl rfl) h1
  obtain ⟨s2, rfl, rfl, rfl, w2⟩ := Go.ChangeMaps.open_string Try.underlying9 (hval 2 9 v2 rfl rfl) h2
  have hk2 : s2.data.toList.length ≤ 140737488355328 := by
    have h1 := sized_string (j := 2) (bytes := s2.data.toList) hz0 rfl rfl
    have h2 := reachBytes_lt
    omega
  obtain ⟨key2, hs2, rfl⟩ : ∃ key : List UInt8, key.length ≤ 140737488355328 ∧ s2 = ⟨key.toArray⟩ := ⟨s2.data.toList, hk2, by cases s2; simp⟩
  obtain ⟨s3, rfl, rfl, rfl, w3⟩ := Go.ChangeMaps.open_string Try.underlying9 (hval 3 9 v3 rfl rfl) h3
  have hk3 : s3.data.toList.length ≤ 140737488355328 := by
    have h1 := sized_string (j := 3) (bytes := s3.data.toList) hz0 rfl rfl
    have h2 := reachBytes_lt
    omega
  obtain ⟨key3, hs3, rfl⟩ : ∃ key : List UInt8, key.length ≤ 140737488355328 ∧ s3 = ⟨key.toArray⟩ := ⟨s3.data.toList, hk3, by cases s3; simp⟩
  obtain ⟨n4, rfl, rfl, rfl, w4⟩ := open_int Try.underlying2 (hval 4 2 v4 rfl rfl) h4
  have b4 := bounds_i64 w4
  unfold maxLen at x0 x1
  clear hA0 hval0
  refine (tells_walk A0 A1 n0 k0 n1 k1 l0 l1 key2 key3 n4 W rw0 rw1 (by omega) (by omega)).mono fun e W' ⟨he, bel⟩ => ?_
  subst he
  exact ⟨_, rfl, _, _, _, [], _, [], hW', trodAll_mk1 (shut_bool Try.underlying4 _), (trodAll_cons_mk (Below.trod laidOut (by kernel_rfl) (of_decide_eq_true (by kernel_rfl)) t0 bel lt0) (trodAll_cons_mk (Below.trod laidOut (by kernel_rfl) (of_decide_eq_true (by kernel_rfl)) t1 bel lt1) (trodAll_cons_mk (Go.ChangeMaps.shut_string Try.underlying9 w2) (trodAll_cons_mk (Go.ChangeMaps.shut_string Try.underlying9 w3) (trodAll_cons_mk (shut_int Try.underlying2 w4) trodAll_mk0))))), rfl, bel.frame _, fun h => by cases h⟩

set_option maxRecDepth 100000 in
theorem accountTells_holds : Rows.AccountTellsSaid :=
  OpenClaim.holds_of_wide 4 Try.f4 rfl rfl rfl rfl rfl rfl rfl ⟨rfl, rfl, rfl, rfl, rfl⟩ rfl rfl rfl rfl rfl (by kernel_rfl) Try.func4 (by kernel_rfl)
    (of_decide_eq_true (by kernel_rfl)) (by unfold Func.isWrapper; first | (rw [if_pos (by decide +kernel)]; kernel_rfl) | (rw [if_neg (by decide +kernel)]; exact ⟨rfl, rfl⟩))
    (fun os started H enc _ => accountTells_lifted os started H enc)
end Go.Proofs.Ytobpbbldgbgcdaa
