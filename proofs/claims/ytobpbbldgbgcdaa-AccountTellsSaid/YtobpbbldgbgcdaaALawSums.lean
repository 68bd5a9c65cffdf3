/-
  AccountSums: the walk.
-/
import Derived.Test.YtobpbbldgbgcdaaASumsP
import Derived.Test.YtobpbbldgbgcdaaALawOrderW
import Derived.Deep.CutRange
namespace Go.Proofs.Ytobpbbldgbgcdaa.Acc
open Go.RowKit Go.Sort

theorem amts_yes {l : List Lg} {k : Nat} {o : Own} (hk : k < l.length) (h : l[k].own = o) : amtsOf (l.take (k + 1)) o = amtsOf (l.take k) o ++ [l[k].amt] := by
  unfold amtsOf
  rw [List.take_succ_eq_append_getElem hk, List.filter_append, List.map_append]
  simp [h]
theorem amts_no {l : List Lg} {k : Nat} {o : Own} (hk : k < l.length) (h : l[k].own ≠ o) : amtsOf (l.take (k + 1)) o = amtsOf (l.take k) o := by
  unfold amtsOf
  rw [List.take_succ_eq_append_getElem hk, List.filter_append, List.map_append]
  simp [h]
theorem append_amt (W : World) (B : Nat) (v : Value) (ys : List Int) (h : Coin.Own W B v ys) (z : Int) (hn : ys.length + 1 ≤ 1000000000000) (hB : B ≤ W.heap.size) :
    ∃ v' W', (Builtin.append_ #[40, 40] 40 #[v, .slice (some ⟨W.heap.size, 0, none⟩) 1 1]).run Try.prog (W.alloc (.cells #[.int .i64 z] 2)) = .ok v' W' ∧ Coin.Own W' B v' (ys ++ [z]) ∧ Below B W W' := by
  have b := below_box W (.cells #[.int .i64 z] 2)
  have O3 := ownI_below h b
  obtain ⟨v', W', h1, h2, h3, _⟩ := Coin.append_row (W.alloc (.cells #[.int .i64 z] 2)) B v _ O3 (some ⟨W.heap.size, 0, none⟩) 1 1 [z] rfl (fun h => by cases h)
    (fun _ => ⟨W.heap.size, 0, rfl, by simp, fun j hj => by
      obtain rfl : j = 0 := by simpa using hj
      simp [go_sem]⟩) hn (by simp; omega)
  exact ⟨v', W', h1, h2, (b.mono hB).grown h3 (by simp; omega) (fun q hq => (World.ownsRow.lt O3 q hq).1)⟩
theorem find_in {l : List Ac} (hi : ∀ x ∈ l, AcIn x) (o : Own) : -9223372036854775808 ≤ (findA l o).bal ∧ (findA l o).bal ≤ 9223372036854775807 := by
  rcases find_cases l o with ⟨h1, _⟩ | ⟨_, h2⟩
  · exact ⟨(hi _ h1).b0, (hi _ h1).b1⟩
  · rw [h2]; exact ⟨(show (-9223372036854775808 : Int) ≤ 0 by omega), (show (0 : Int) ≤ 9223372036854775807 by omega)⟩
set_option maxRecDepth 100000 in
set_option maxHeartbeats 8000000 in
theorem sums_walk (A A' : Option Addr) (n c m c' : Nat) (l : List Ac) (legs : List Lg) (other asset : Bs) (w : World) (h : AcsIn w A n c l) (hL : LgsIn w A' m c' legs) (hn : n ≤ 9223372036854775807) (hm : m ≤ 9223372036854775807) (ho : other.length ≤ 140737488355328) :
    Calls Try.prog 6 #[.slice A n c, .slice A' m c', strV other, strV asset] w (fun e w' => e = .returned (.bool true) ∧ Below w.heap.size w w') := by
  have HH := Lib.hid h
  have HG := Lib.hid hL
  have HO := Lib.hid ho
  clear h hL ho
  obtain ⟨sO, hO⟩ : ∃ X, strB other = X := ⟨_, rfl⟩
  obtain ⟨sA, hA'⟩ : ∃ Y, strB asset = Y := ⟨_, rfl⟩
  have HSO := Lib.hid hO
  have HSA := Lib.hid hA'
  rw [show strV other = .string sO by rw [← hO], show strV asset = .string sA by rw [← hA']]
  clear hO hA'
  go_enter Try.func6, Try.ntmps6
  go_wp2_with fail
  refine (awake_any w).mono ?_
  rintro e w1 ⟨rfl, b1⟩
  have B1 := Lib.hid b1
  have cF := few_any (c' := c') (HH.out.1.below b1) HG.out.len (HG.out.row.below b1) hn hm
  clear b1
  go_wp2_with fail
  refine cF.mono ?_
  rintro e w2 ⟨r, rfl, hr, b2⟩
  have B2 := Lib.hid (B1.out.trans (b2.mono B1.out.size))
  clear b2 cF B1
  rcases r with _ | _
  · clear hr
    go_wp2_with fail
    go_ret
    exact ⟨rfl, B2.out⟩
  have HF := Lib.hid (hr rfl)
  clear hr
  by_cases hm1 : 100 < m
  · have t1 : (100 : Int) < (m : Int) := by omega
    clear hm1
    go_wp2_with fail
    go_ret
    exact ⟨rfl, B2.out⟩
  have t1 : ¬ (100 : Int) < (m : Int) := by omega
  have cC := check_any (HH.out.1.below B2.out) (by have := HF.out.n; rw [HH.out.1.len] at this; omega) (fun x hx => by have := HF.out.l x hx; omega)
  by_cases hfit : FitA l
  rotate_left
  · rw [show checkA l = 110 by unfold checkA; rw [if_neg hfit]] at cC
    clear hfit
    go_wp2_with (go_at_call 12; refine cC.mono ?_; rintro e w3 ⟨rfl, b3⟩)
    go_ret
    exact ⟨rfl, B2.out.trans (b3.mono B2.out.size)⟩
  rw [check_yes (show FitTo l l.length from hfit)] at cC
  have HFIT := Lib.hid hfit
  clear hfit
  go_wp2_with (go_at_call 12; refine cC.mono ?_; rintro e w3 ⟨rfl, b3⟩; have B3 := Lib.hid (B2.out.trans (b3.mono B2.out.size)); clear b3 cC B2)
  clear t1
  go_loopw [10, 11] (fun v i wr => ∃ k : Nat, i = .int .i64 (k : Int) ∧ k ≤ m ∧ Hid (Below w.heap.size w wr ∧ OwnL wr w.heap.size v (twins (legs.take k) other) ∧ ∀ j (hj : j < legs.length), j < k → legs[j].amt ≠ -9223372036854775808)) (fun _ i _ => m - (intOf i).toNat)
  case atStart => exact ⟨0, rfl, Nat.zero_le _, Lib.hid ⟨B3.out, OwnL.nil _ _, fun j _ h => absurd h (Nat.not_lt_zero _)⟩⟩
  case round =>
    obtain ⟨k, rfl, hk, HB⟩ := hrel
    by_cases hlt : k < m
    · have hkl : k < legs.length := by rw [HG.out.len]; exact hlt
      have hwr : IntKind.i64.wrap ((k : Int) + 1) = (k : Int) + 1 := IntWalk.i64_in _ (by omega)
      have t1 : (k : Int) < (m : Int) := by omega
      have t2 : (0 : Int) ≤ (k : Int) := by omega
      obtain ⟨b, off, rfl, hbl, hc⟩ := HG.out.row (by intro e; rw [e] at hkl; simp at hkl)
      have hr := range_below (hc k hkl) HB.out.1 hbl
      have c0 : wr.cell? ⟨b, off + k * 3, none⟩ = some (strV legs[k].who) := hr 0 _ rfl
      have c1 : wr.cell? ⟨b, off + k * 3 + 1, none⟩ = some (strV legs[k].asset) := hr 1 _ rfl
      have c2 : wr.cell? ⟨b, off + k * 3 + 2, none⟩ = some (.int .i64 legs[k].amt) := hr 2 _ rfl
      have hin := HG.out.ins legs[k] (List.getElem_mem hkl)
      have HBW := Lib.hid HB.out.1
      by_cases g1 : legs[k].amt = -9223372036854775808
      · rw [g1] at c2
        clear hc hr HB g1 hin
        go_wp2_with fail
        go_ret
        exact ⟨rfl, HBW.out⟩
      have hg1 : (legs[k].amt == -9223372036854775808) = false := beq_eq_false_iff_ne.2 g1
      have KS := Lib.hid (show ∀ W, Below wr.heap.size wr W → W.cell? ⟨b, off + k * 3, none⟩ = some (strV legs[k].who) ∧ W.cell? ⟨b, off + k * 3 + 1, none⟩ = some (strV legs[k].asset) ∧ W.cell? ⟨b, off + k * 3 + 2, none⟩ = some (.int .i64 legs[k].amt) from fun W hb => by
        have hlt : b < wr.heap.size := Nat.lt_of_lt_of_le hbl HBW.out.size
        exact ⟨(hb.cell hlt).trans c0, (hb.cell hlt).trans c1, (hb.cell hlt).trans c2⟩)
      have HOL := HB.out.2.1
      obtain ⟨v', W4, hrun, ho4, b4⟩ := append_lit wr.drew w.heap.size u10 _ HOL (twin other legs[k]) (by rw [twins_len, List.length_take]; simp [twin]; omega) HBW.out.size
      have HNB := Lib.hid (show Below w.heap.size w W4 ∧ OwnL W4 w.heap.size v' (twins (legs.take (k + 1)) other) ∧ ∀ j (hj : j < legs.length), j < k + 1 → legs[j].amt ≠ -9223372036854775808 from ⟨HBW.out.drew.trans b4, by
        rw [twins_step legs other hkl]
        exact ho4, fun j hj hjk => by
        by_cases q : j = k
        · subst q; exact g1
        · exact HB.out.2.2 j hj (by omega)⟩)
      obtain ⟨z, hz⟩ : ∃ z, -legs[k].amt = z := ⟨_, rfl⟩
      have hneg : IntKind.i64.wrap (-legs[k].amt) = z := by rw [hz]; have := hin.1; have := hin.2; exact IntWalk.i64_in _ (by omega)
      have hC : ((twin other legs[k]).flatMap encL).toArray = #[.string (strB legs[k].who), .string (strB legs[k].asset), .int .i64 legs[k].amt, .string sO, .string (strB legs[k].asset), .int .i64 z] := by rw [← hz, ← HSO.out]; rfl
      rw [hC] at hrun
      have R := Lib.hid (show (Builtin.append_ #[24, 24] 24 #[u10, .slice (some ⟨wr.heap.size, 0, none⟩) 2 2]).run Try.prog (wr.drew.alloc (.cells #[.string (strB legs[k].who), .string (strB legs[k].asset), .int .i64 legs[k].amt, .string sO, .string (strB legs[k].asset), .int .i64 z] 39)) = .ok v' W4 from hrun)
      have KA := Lib.hid (show Below wr.heap.size wr (wr.drew.alloc (.cells #[.string (strB legs[k].who), .string (strB legs[k].asset), .int .i64 legs[k].amt, .string sO, .string (strB legs[k].asset), .int .i64 z] 39)) from (Below.refl wr.heap.size wr).drew.alloc (Nat.le_refl _) _)
      have KD := Lib.hid (show Below wr.heap.size wr wr.drew from (Below.refl wr.heap.size wr).drew)
      have K4 := Lib.hid (show W4.cell? ⟨b, off + k * 3, none⟩ = some (strV legs[k].who) ∧ W4.cell? ⟨b, off + k * 3 + 1, none⟩ = some (strV legs[k].asset) ∧ W4.cell? ⟨b, off + k * 3 + 2, none⟩ = some (.int .i64 legs[k].amt) from
        ⟨(b4.cell (p := ⟨b, off + k * 3, none⟩) hbl).trans c0, (b4.cell (p := ⟨b, off + k * 3 + 1, none⟩) hbl).trans c1, (b4.cell (p := ⟨b, off + k * 3 + 2, none⟩) hbl).trans c2⟩)
      unfold strV at c0 c1 KS K4
      generalize strB legs[k].who = X at *
      generalize strB legs[k].asset = Y at *
      generalize legs[k].amt = s at *
      clear hc hr HB hbl hin HOL hrun ho4 b4 hC hz g1
      go_wp2_with fail
      go_region_held3 (fun w' => w'.cell? ⟨b, off + k * 3, none⟩ = some (.string X) ∧ w'.cell? ⟨b, off + k * 3 + 1, none⟩ = some (.string Y) ∧ w'.cell? ⟨b, off + k * 3 + 2, none⟩ = some (.int .i64 s))
        (first | exact KS.out _ (Below.refl _ _) | exact KS.out _ KD.out | exact KS.out _ KA.out | exact K4.out)
        (refine step_append_eq (by rfl) (.tmp 54) (.tmp 72) 24 (by rfl) (by rfl) (by rfl) (by rfl) R.out ?_)
      go_wp2_with fail
      go_roundw
      case rel => exact ⟨k + 1, by go_num, by omega, HNB⟩
      case measure => simp [intOf]; omega
    · obtain rfl : k = m := by omega
      have HS := Lib.hid (show ∀ x ∈ legs, x.amt ≠ -9223372036854775808 from fun x hx => by
        obtain ⟨j, hj, rfl⟩ := List.getElem_of_mem hx
        exact HB.out.2.2 j hj (by rw [← HG.out.len]; exact hj))
      have HOT := Lib.hid (show OwnL wr w.heap.size u10 (twins legs other) by
        have := HB.out.2.1
        rwa [List.take_of_length_le (by rw [HG.out.len]; exact Nat.le_refl _)] at this)
      have BW := Lib.hid HB.out.1
      clear HB
      have hnl := HF.out.n
      have hml := HF.out.m
      have hnn := HH.out.1.len
      obtain ⟨A6, c6, e6, rl, _, _, _, _⟩ := ownL_at HOT.out
      rw [twins_len, HG.out.len] at e6
      subst e6
      have hml2 := HG.out.len
      have TI := Lib.hid (show ∀ y ∈ twins legs other, -9223372036854775808 ≤ y.amt ∧ y.amt ≤ 9223372036854775807 from fun y hy => by
        obtain ⟨x, hx, hy⟩ := List.mem_flatMap.1 hy
        have hi := HG.out.ins x hx
        have hs := HS.out x hx
        unfold LgIn at hi
        unfold twin at hy
        rcases List.mem_cons.1 hy with rfl | hy
        · exact hi
        · rw [List.mem_singleton] at hy
          subst hy
          show -9223372036854775808 ≤ -x.amt ∧ -x.amt ≤ 9223372036854775807
          omega)
      have cP := post_any (c' := c6) (HH.out.1.below BW.out) (by omega) HFIT.out (fun x hx => ⟨(HH.out.2 x hx).b0, (HH.out.2 x hx).b1⟩) (legs := twins legs other) (by rw [twins_len, HG.out.len]) (by omega) rl (fun y hy => by
        obtain ⟨x, hx, hy⟩ := List.mem_flatMap.1 hy
        have hg := HF.out.g x hx
        have := HO.out
        unfold twin at hy
        rcases List.mem_cons.1 hy with rfl | hy
        · omega
        · rw [List.mem_singleton] at hy
          subst hy
          exact ⟨by show other.length ≤ _; omega, by show x.asset.length ≤ _; omega⟩) TI.out
      have RL := Lib.hid rl
      clear hnl hml hnn hml2 rl
      go_wp2_with fail
      refine cP.mono ?_
      rintro e w4 ⟨a, er, hp, va, rfl, oa, b4⟩
      have B4 := Lib.hid (BW.out.trans (b4.mono BW.out.size))
      have HOT4 := Lib.hid (HOT.out.below b4)
      have RL4 := Lib.hid (RL.out.below b4)
      by_cases he : er = 0
      rotate_left
      · have hq : (er == 0) = false := beq_eq_false_iff_ne.2 he
        clear he hp oa b4 cP
        go_wp2_with fail
        go_ret
        exact ⟨rfl, B4.out⟩
      subst he
      have hps := (post_split hp).2.2.2
      obtain ⟨fa, ia⟩ := posted_in HH.out.2 hps
      have hal := posted_len hps
      rw [twins_len, HG.out.len, HH.out.1.len] at hal
      have HPS := Lib.hid hps
      have FIA := Lib.hid (And.intro fa ia)
      have HN := Lib.hid (show n ≤ 200 ∧ k ≤ 100 from ⟨by have := HF.out.n; rw [HH.out.1.len] at this; exact this, by omega⟩)
      obtain ⟨A5, c5, rfl, aa, _⟩ := oa.at
      obtain ⟨na, hna⟩ : ∃ na, a.length = na := ⟨_, rfl⟩
      rw [hna] at aa hal ⊢
      have AA := Lib.hid aa
      have HAL := Lib.hid hal
      have cT1 : Calls Try.prog 20 #[.slice A n c, .string sA] w4 (fun e w' => e = .returned (.tuple #[.int .i64 (Coin.val (balsA l asset).sum), .int .i64 (Coin.err (balsA l asset).sum)]) ∧ Below w4.heap.size w4 w') := by
        have := total_any (HH.out.1.below B4.out) (by have := HN.out; omega) asset (fun x hx => ⟨(HH.out.2 x hx).b0, (HH.out.2 x hx).b1⟩)
        unfold strV at this
        rw [HSA.out] at this
        exact this
      have CT2 := Lib.hid (show ∀ W, Below w4.heap.size w4 W → Calls Try.prog 20 #[.slice A5 na c5, .string sA] W (fun e w' => e = .returned (.tuple #[.int .i64 (Coin.val (balsA l asset).sum), .int .i64 (Coin.err (balsA l asset).sum)]) ∧ Below W.heap.size W w') from fun W hb => by
        have := total_any (AA.out.below hb) (by have := HAL.out; have := HN.out; omega) asset (fun x hx => ⟨(FIA.out.2 x hx).b0, (FIA.out.2 x hx).b1⟩)
        unfold strV at this
        rw [HSA.out, ← total_same HFIT.out HPS.out asset] at this
        exact this)
      obtain ⟨tv, htv⟩ : ∃ tv, Coin.val (balsA l asset).sum = tv := ⟨_, rfl⟩
      obtain ⟨te, hte⟩ : ∃ te, Coin.err (balsA l asset).sum = te := ⟨_, rfl⟩
      rw [htv, hte] at cT1 CT2
      clear htv hte hp hps fa ia hal oa aa b4 cP hna HOT
      go_wp2_with fail
      refine cT1.mono ?_
      rintro e w5 ⟨rfl, b5⟩
      have B5 := Lib.hid b5
      clear b5 cT1
      go_wp2_with fail
      refine (CT2.out w5 B5.out).mono ?_
      rintro e w6 ⟨rfl, b6⟩
      have B6 := Lib.hid (B5.out.trans (b6.mono B5.out.size))
      clear b6 CT2 B5
      go_wp2_with fail
      go_loopw [18] (fun i wq => ∃ p : Nat, i = .int .i64 (p : Int) ∧ p ≤ k ∧ Hid (Below w4.heap.size w4 wq)) (fun i _ => k - (intOf i).toNat)
      case atStart => exact ⟨0, rfl, Nat.zero_le _, B6⟩
      case round =>
        obtain ⟨p, rfl, hp, HB⟩ := hrel
        by_cases hlt2 : p < k
        · have hpl : p < legs.length := by rw [HG.out.len]; exact hlt2
          obtain ⟨b, off, rfl, hbl, hc⟩ := HG.out.row (by intro e; rw [e] at hpl; simp at hpl)
          obtain ⟨x, hx⟩ : ∃ x, legs[p] = x := ⟨_, rfl⟩
          have HXM := Lib.hid (show x ∈ legs from hx ▸ List.getElem_mem hpl)
          have hwr : IntKind.i64.wrap ((p : Int) + 1) = (p : Int) + 1 := IntWalk.i64_in _ (by omega)
          have t1 : (p : Int) < (k : Int) := by omega
          have t2 : (0 : Int) ≤ (p : Int) := by omega
          have KW := Lib.hid (show ∀ W, Below w.heap.size w W → W.cell? ⟨b, off + p * 3, none⟩ = some (.string (strB x.who)) ∧ W.cell? ⟨b, off + p * 3 + 1, none⟩ = some (.string (strB x.asset)) from fun W hb => by
            have hr := range_below (hc p hpl) hb hbl
            rw [hx] at hr
            exact ⟨hr 0 _ rfl, hr 1 _ rfl⟩)
          have FL := Lib.hid (show ∀ W, Below w.heap.size w W → Calls Try.prog 23 #[.slice A n c, .string (strB x.who), .string (strB x.asset)] W (fun e w' => e = .returned (.agg (encA (findA l x.own)).toArray) ∧ Below W.heap.size W w') from fun W hb => find_any (HH.out.1.below hb) (by have := HN.out; omega) x.who x.asset)
          have FA := Lib.hid (show ∀ W, Below w4.heap.size w4 W → Calls Try.prog 23 #[.slice A5 na c5, .string (strB x.who), .string (strB x.asset)] W (fun e w' => e = .returned (.agg (encA (findA a x.own)).toArray) ∧ Below W.heap.size W w') from fun W hb => find_any (AA.out.below hb) (by have := HN.out; have := HAL.out; omega) x.who x.asset)
          have TW := Lib.hid (twin_own HPS.out HXM.out)
          have HBW := Lib.hid (show ∀ W, Below wr.heap.size wr W → Below w.heap.size w W from fun W hb => (B4.out.trans (HB.out.mono B4.out.size)).trans (hb.mono (B4.out.trans (HB.out.mono B4.out.size)).size))
          obtain ⟨y, hy⟩ : ∃ y, findA l x.own = y := ⟨_, rfl⟩
          obtain ⟨z, hz⟩ : ∃ z, findA a x.own = z := ⟨_, rfl⟩
          have HYI := Lib.hid (find_in HH.out.2 x.own)
          rw [hy] at FL HYI
          rw [hz] at FA
          rw [hy, hz] at TW
          have PN1 := Lib.hid (fun W => put_new W y)
          have PA1 := Lib.hid (fun W bx (h : At W bx #[.string ⟨#[]⟩, .string ⟨#[]⟩, .int .i64 0, .int .i64 0]) => put_ac h rfl y (Nat.le_refl bx))
          have PN2 := Lib.hid (fun W => put_new W z)
          have PA2 := Lib.hid (fun W bx (h : At W bx #[.string ⟨#[]⟩, .string ⟨#[]⟩, .int .i64 0, .int .i64 0]) => put_ac h rfl z (Nat.le_refl bx))
          have CL1 := Lib.hid (show ∀ W bx, At W bx (encA y).toArray → W.cell? ⟨bx, 2, none⟩ = some (.int .i64 y.bal) ∧ W.cell? ⟨bx, 3, none⟩ = some (.int .i64 y.held) from fun W bx h => ⟨h.2.2 2 _ rfl, h.2.2 3 _ rfl⟩)
          have CL2 := Lib.hid (show ∀ W bx, At W bx (encA z).toArray → W.cell? ⟨bx, 2, none⟩ = some (.int .i64 z.bal) ∧ W.cell? ⟨bx, 3, none⟩ = some (.int .i64 z.held) from fun W bx h => ⟨h.2.2 2 _ rfl, h.2.2 3 _ rfl⟩)
          obtain ⟨C1, hC1⟩ : ∃ C, (encA y).toArray = C := ⟨_, rfl⟩
          obtain ⟨C2, hC2⟩ : ∃ C, (encA z).toArray = C := ⟨_, rfl⟩
          rw [hC1] at FL PN1 PA1 CL1
          rw [hC2] at FA PN2 PA2 CL2
          obtain ⟨X, hX⟩ : ∃ X, strB x.who = X := ⟨_, rfl⟩
          obtain ⟨Y, hY⟩ : ∃ Y, strB x.asset = Y := ⟨_, rfl⟩
          have HX := Lib.hid hX
          have HY := Lib.hid hY
          rw [hX, hY] at KW FL FA
          have KS1 := Lib.hid (fun W (hb : Below wr.heap.size wr W) => KW.out W (HBW.out W hb))
          have CF1 := Lib.hid (fun W (hb : Below wr.heap.size wr W) => FL.out W (HBW.out W hb))
          clear hc hbl hx hpl hy hz hC1 hC2 hX hY
          go_wp2_with fail
          go_upto_region 19 with fail
          go_cut [19] from 101 to 112 (fun s wx => ∃ bx, s = .pointer (some ⟨bx, 0, none⟩) ∧ Hid (Below wr.heap.size wr wx ∧ At wx bx C1))
          case first =>
            have QD : Below wr.heap.size wr wr.drew := (Below.refl _ _).drew
            refine wp_region_held (S := fun w' => w'.cell? ⟨b, off + p * 3, none⟩ = some (.string X) ∧ w'.cell? ⟨b, off + p * 3 + 1, none⟩ = some (.string Y)) (by kernel_rfl) ?_
            change wpAnyH _ _ _ _ _ _ _ _ wr.drew
            have hSR := KS1.out wr.drew QD
            refine wpAnyH_take (i := 0) (v := ?_) rfl (by kernel_rfl) (by kernel_rfl) (by kernel_rfl) (fun _ _ _ h => h) (Or.inl ⟨by rfl, ?_⟩) hSR ?_
            rotate_left
            · (intro w' hSw; (try dsimp only at hSw); go_simp; (try with_reducible rfl))
            simp only [Act.put]
            refine wpAnyH_take (i := 1) (v := ?_) rfl (by kernel_rfl) (by kernel_rfl) (by kernel_rfl) (fun _ _ _ h => h) (Or.inl ⟨by rfl, ?_⟩) hSR ?_
            rotate_left
            · (intro w' hSw; (try dsimp only at hSw); go_simp; (try with_reducible rfl))
            simp only [Act.put]
            refine wpAnyH_take (i := 2) (v := ?_) rfl (by kernel_rfl) (by kernel_rfl) (by kernel_rfl) (fun _ _ _ h => h) (Or.inl ⟨by rfl, ?_⟩) hSR ?_
            rotate_left
            · (intro w' hSw; (try dsimp only at hSw); go_simp; (try with_reducible rfl))
            simp only [Act.put]
            refine wpAnyH_take (i := 3) (v := ?_) rfl (by kernel_rfl) (by kernel_rfl) (by kernel_rfl) (fun _ _ _ h => h) (Or.inl ⟨by rfl, ?_⟩) hSR ?_
            rotate_left
            · (intro w' hSw; (try dsimp only at hSw); go_simp; (try with_reducible rfl))
            simp only [Act.put]
            refine wpAnyH_take (i := 4) (v := ?_) rfl (by kernel_rfl) (by kernel_rfl) (by kernel_rfl) (fun _ _ _ h => h) (Or.inl ⟨by rfl, ?_⟩) hSR ?_
            rotate_left
            · (intro w' hSw; (try dsimp only at hSw); go_simp; (try with_reducible rfl))
            simp only [Act.put]
            refine wpAnyH_take (i := 5) (v := ?_) rfl (by kernel_rfl) (by kernel_rfl) (by kernel_rfl) (fun _ _ _ h => h) (Or.inl ⟨by rfl, ?_⟩) hSR ?_
            rotate_left
            · (intro w' hSw; (try dsimp only at hSw); go_simp; (try with_reducible rfl))
            simp only [Act.put]
            refine wpAnyH_take (i := 6) (v := ?_) rfl (by kernel_rfl) (by kernel_rfl) (by kernel_rfl) (fun _ _ _ h => h) (Or.inl ⟨by rfl, ?_⟩) hSR ?_
            rotate_left
            · (intro w' hSw; (try dsimp only at hSw); go_simp; (try with_reducible rfl))
            simp only [Act.put]
            refine wpAnyH_take (i := 7) (v := ?_) rfl (by kernel_rfl) (by kernel_rfl) (by kernel_rfl) (fun _ _ _ h => h) (Or.inl ⟨by rfl, ?_⟩) hSR ?_
            rotate_left
            · (intro w' hSw; (try dsimp only at hSw); go_simp; (try with_reducible rfl))
            simp only [Act.put]
            refine wpAnyH_take (i := 8) (v := ?_) rfl (by kernel_rfl) (by kernel_rfl) (by kernel_rfl) (fun _ _ _ h => h) (Or.inl ⟨by rfl, ?_⟩) hSR ?_
            rotate_left
            · (intro w' hSw; (try dsimp only at hSw); go_simp; (try with_reducible rfl))
            simp only [Act.put]
            refine wpAnyH_take (i := 9) (v := ?_) rfl (by kernel_rfl) (by kernel_rfl) (by kernel_rfl) (fun _ _ _ h => h) (Or.inl ⟨by rfl, ?_⟩) hSR ?_
            rotate_left
            · (intro w' hSw; (try dsimp only at hSw); go_simp; (try with_reducible rfl))
            simp only [Act.put]
            refine wpAnyH_take (i := 10) (v := ?_) rfl (by kernel_rfl) (by kernel_rfl) (by kernel_rfl) (fun _ _ _ h => h) (Or.inl ⟨by rfl, ?_⟩) hSR ?_
            rotate_left
            · (intro w' hSw; (try dsimp only at hSw); go_simp; (try with_reducible rfl))
            simp only [Act.put]
            refine wpAnyH_ready (rs := [11, 12]) (by kernel_rfl) (by simp) (AllReadyH.cons rfl (fun K hK => ?_) (AllReadyH.cons rfl (fun K hK => ?_) AllReadyH.nil))
            · go_simp
              refine (CF1.out _ QD).mono ?_
              rintro e v7 ⟨rfl, b7⟩
              have Q7 : Below wr.heap.size wr v7 := QD.trans (b7.mono QD.size)
              refine hK.out _ _ (KS1.out v7 Q7) (fun hSR => ?_)
              clear hK K
              refine wpAnyH_ready (rs := [12]) (by kernel_rfl) (by simp) (AllReadyH.cons rfl (fun K hK => ?_) AllReadyH.nil)
              go_simp
              have Q8 : Below wr.heap.size wr (v7.alloc (.cells #[.string ⟨#[]⟩, .string ⟨#[]⟩, .int .i64 0, .int .i64 0] 35)) := Q7.alloc Q7.size _
              have Q9 : Below wr.heap.size wr (v7.alloc (.cells C1 35)) := Q7.alloc Q7.size _
              refine hK.out _ _ (KS1.out _ Q8) (fun hSR => ?_)
              clear hK K
              refine wpAnyH_ready (rs := [13]) (by kernel_rfl) (by simp) (AllReadyH.cons rfl (fun K hK => ?_) AllReadyH.nil)
              refine step_store_eq (by rfl) 35 (.tmp 19) (.tmp 112) (by rfl) (by rfl) (by rfl) (PN1.out v7) ?_
              refine hK.out _ _ (KS1.out _ Q9) (fun hSR => ?_)
              clear hK K
              simp only [Act.put]
              refine wpAnyH_done (by kernel_rfl) ?_ _
              have REL := Lib.hid (And.intro Q9 (at_new v7 C1 35))
              clear hSR
              go_wp2_with fail
              go_meet
              case rel => exact ⟨_, rfl, REL⟩
            · go_simp
              have Q5 : Below wr.heap.size wr (wr.drew.alloc (.cells #[.string ⟨#[]⟩, .string ⟨#[]⟩, .int .i64 0, .int .i64 0] 35)) := QD.alloc QD.size _
              have AZ := at_new wr.drew #[.string ⟨#[]⟩, .string ⟨#[]⟩, .int .i64 0, .int .i64 0] 35
              refine hK.out _ _ (KS1.out _ Q5) (fun hSR => ?_)
              clear hK K
              refine wpAnyH_ready (rs := [11]) (by kernel_rfl) (by simp) (AllReadyH.cons rfl (fun K hK => ?_) AllReadyH.nil)
              go_simp
              refine (CF1.out _ Q5).mono ?_
              rintro e v7 ⟨rfl, b7⟩
              have Q7 : Below wr.heap.size wr v7 := Q5.trans (b7.mono Q5.size)
              refine hK.out _ _ (KS1.out v7 Q7) (fun hSR => ?_)
              clear hK K
              obtain ⟨v8, r8, a8, b8⟩ := PA1.out v7 wr.heap.size (AZ.below b7 AZ.1)
              have Q9 : Below wr.heap.size wr v8 := Q7.trans b8
              refine wpAnyH_ready (rs := [13]) (by kernel_rfl) (by simp) (AllReadyH.cons rfl (fun K hK => ?_) AllReadyH.nil)
              refine step_store_eq (by rfl) 35 (.tmp 19) (.tmp 112) (by rfl) (by rfl) (by rfl) r8 ?_
              refine hK.out _ _ (KS1.out _ Q9) (fun hSR => ?_)
              clear hK K
              simp only [Act.put]
              refine wpAnyH_done (by kernel_rfl) ?_ _
              have REL := Lib.hid (And.intro Q9 a8)
              clear hSR
              go_wp2_with fail
              go_meet
              case rel => exact ⟨_, rfl, REL⟩
          case rest =>
            obtain ⟨bx, rfl, H7⟩ := hcut
            obtain ⟨w7, rfl⟩ : ∃ x, x = wc := ⟨_, rfl⟩
            have KS2 := Lib.hid (fun W (hb : Below w7.heap.size w7 W) => KS1.out W (H7.out.1.trans (hb.mono H7.out.1.size)))
            have CF2 := Lib.hid (fun W (hb : Below w7.heap.size w7 W) => FA.out W ((HB.out.trans (H7.out.1.mono HB.out.size)).trans (hb.mono (HB.out.trans (H7.out.1.mono HB.out.size)).size)))
            go_wp2_with fail
            go_upto_region 20 with fail
            go_cut [20] from 113 to 124 (fun s wx => ∃ bx, s = .pointer (some ⟨bx, 0, none⟩) ∧ Hid (Below w7.heap.size w7 wx ∧ At wx bx C2))
            case first =>
              have QD : Below w7.heap.size w7 w7.drew := (Below.refl _ _).drew
              refine wp_region_held (S := fun w' => w'.cell? ⟨b, off + p * 3, none⟩ = some (.string X) ∧ w'.cell? ⟨b, off + p * 3 + 1, none⟩ = some (.string Y)) (by kernel_rfl) ?_
              change wpAnyH _ _ _ _ _ _ _ _ w7.drew
              have hSR := KS2.out w7.drew QD
              refine wpAnyH_take (i := 0) (v := ?_) rfl (by kernel_rfl) (by kernel_rfl) (by kernel_rfl) (fun _ _ _ h => h) (Or.inl ⟨by rfl, ?_⟩) hSR ?_
              rotate_left
              · (intro w' hSw; (try dsimp only at hSw); go_simp; (try with_reducible rfl))
              simp only [Act.put]
              refine wpAnyH_take (i := 1) (v := ?_) rfl (by kernel_rfl) (by kernel_rfl) (by kernel_rfl) (fun _ _ _ h => h) (Or.inl ⟨by rfl, ?_⟩) hSR ?_
              rotate_left
              · (intro w' hSw; (try dsimp only at hSw); go_simp; (try with_reducible rfl))
              simp only [Act.put]
              refine wpAnyH_take (i := 2) (v := ?_) rfl (by kernel_rfl) (by kernel_rfl) (by kernel_rfl) (fun _ _ _ h => h) (Or.inl ⟨by rfl, ?_⟩) hSR ?_
              rotate_left
              · (intro w' hSw; (try dsimp only at hSw); go_simp; (try with_reducible rfl))
              simp only [Act.put]
              refine wpAnyH_take (i := 3) (v := ?_) rfl (by kernel_rfl) (by kernel_rfl) (by kernel_rfl) (fun _ _ _ h => h) (Or.inl ⟨by rfl, ?_⟩) hSR ?_
              rotate_left
              · (intro w' hSw; (try dsimp only at hSw); go_simp; (try with_reducible rfl))
              simp only [Act.put]
              refine wpAnyH_take (i := 4) (v := ?_) rfl (by kernel_rfl) (by kernel_rfl) (by kernel_rfl) (fun _ _ _ h => h) (Or.inl ⟨by rfl, ?_⟩) hSR ?_
              rotate_left
              · (intro w' hSw; (try dsimp only at hSw); go_simp; (try with_reducible rfl))
              simp only [Act.put]
              refine wpAnyH_take (i := 5) (v := ?_) rfl (by kernel_rfl) (by kernel_rfl) (by kernel_rfl) (fun _ _ _ h => h) (Or.inl ⟨by rfl, ?_⟩) hSR ?_
              rotate_left
              · (intro w' hSw; (try dsimp only at hSw); go_simp; (try with_reducible rfl))
              simp only [Act.put]
              refine wpAnyH_take (i := 6) (v := ?_) rfl (by kernel_rfl) (by kernel_rfl) (by kernel_rfl) (fun _ _ _ h => h) (Or.inl ⟨by rfl, ?_⟩) hSR ?_
              rotate_left
              · (intro w' hSw; (try dsimp only at hSw); go_simp; (try with_reducible rfl))
              simp only [Act.put]
              refine wpAnyH_take (i := 7) (v := ?_) rfl (by kernel_rfl) (by kernel_rfl) (by kernel_rfl) (fun _ _ _ h => h) (Or.inl ⟨by rfl, ?_⟩) hSR ?_
              rotate_left
              · (intro w' hSw; (try dsimp only at hSw); go_simp; (try with_reducible rfl))
              simp only [Act.put]
              refine wpAnyH_take (i := 8) (v := ?_) rfl (by kernel_rfl) (by kernel_rfl) (by kernel_rfl) (fun _ _ _ h => h) (Or.inl ⟨by rfl, ?_⟩) hSR ?_
              rotate_left
              · (intro w' hSw; (try dsimp only at hSw); go_simp; (try with_reducible rfl))
              simp only [Act.put]
              refine wpAnyH_take (i := 9) (v := ?_) rfl (by kernel_rfl) (by kernel_rfl) (by kernel_rfl) (fun _ _ _ h => h) (Or.inl ⟨by rfl, ?_⟩) hSR ?_
              rotate_left
              · (intro w' hSw; (try dsimp only at hSw); go_simp; (try with_reducible rfl))
              simp only [Act.put]
              refine wpAnyH_take (i := 10) (v := ?_) rfl (by kernel_rfl) (by kernel_rfl) (by kernel_rfl) (fun _ _ _ h => h) (Or.inl ⟨by rfl, ?_⟩) hSR ?_
              rotate_left
              · (intro w' hSw; (try dsimp only at hSw); go_simp; (try with_reducible rfl))
              simp only [Act.put]
              refine wpAnyH_ready (rs := [11, 12]) (by kernel_rfl) (by simp) (AllReadyH.cons rfl (fun K hK => ?_) (AllReadyH.cons rfl (fun K hK => ?_) AllReadyH.nil))
              · go_simp
                refine (CF2.out _ QD).mono ?_
                rintro e v7 ⟨rfl, b7⟩
                have Q7 : Below w7.heap.size w7 v7 := QD.trans (b7.mono QD.size)
                refine hK.out _ _ (KS2.out v7 Q7) (fun hSR => ?_)
                clear hK K
                refine wpAnyH_ready (rs := [12]) (by kernel_rfl) (by simp) (AllReadyH.cons rfl (fun K hK => ?_) AllReadyH.nil)
                go_simp
                have Q8 : Below w7.heap.size w7 (v7.alloc (.cells #[.string ⟨#[]⟩, .string ⟨#[]⟩, .int .i64 0, .int .i64 0] 35)) := Q7.alloc Q7.size _
                have Q9 : Below w7.heap.size w7 (v7.alloc (.cells C2 35)) := Q7.alloc Q7.size _
                refine hK.out _ _ (KS2.out _ Q8) (fun hSR => ?_)
                clear hK K
                refine wpAnyH_ready (rs := [13]) (by kernel_rfl) (by simp) (AllReadyH.cons rfl (fun K hK => ?_) AllReadyH.nil)
                refine step_store_eq (by rfl) 35 (.tmp 20) (.tmp 124) (by rfl) (by rfl) (by rfl) (PN2.out v7) ?_
                refine hK.out _ _ (KS2.out _ Q9) (fun hSR => ?_)
                clear hK K
                simp only [Act.put]
                refine wpAnyH_done (by kernel_rfl) ?_ _
                have REL := Lib.hid (And.intro Q9 (at_new v7 C2 35))
                clear hSR
                go_wp2_with fail
                go_meet
                case rel => exact ⟨_, rfl, REL⟩
              · go_simp
                have Q5 : Below w7.heap.size w7 (w7.drew.alloc (.cells #[.string ⟨#[]⟩, .string ⟨#[]⟩, .int .i64 0, .int .i64 0] 35)) := QD.alloc QD.size _
                have AZ := at_new w7.drew #[.string ⟨#[]⟩, .string ⟨#[]⟩, .int .i64 0, .int .i64 0] 35
                refine hK.out _ _ (KS2.out _ Q5) (fun hSR => ?_)
                clear hK K
                refine wpAnyH_ready (rs := [11]) (by kernel_rfl) (by simp) (AllReadyH.cons rfl (fun K hK => ?_) AllReadyH.nil)
                go_simp
                refine (CF2.out _ Q5).mono ?_
                rintro e v7 ⟨rfl, b7⟩
                have Q7 : Below w7.heap.size w7 v7 := Q5.trans (b7.mono Q5.size)
                refine hK.out _ _ (KS2.out v7 Q7) (fun hSR => ?_)
                clear hK K
                obtain ⟨v8, r8, a8, b8⟩ := PA2.out v7 w7.heap.size (AZ.below b7 AZ.1)
                have Q9 : Below w7.heap.size w7 v8 := Q7.trans b8
                refine wpAnyH_ready (rs := [13]) (by kernel_rfl) (by simp) (AllReadyH.cons rfl (fun K hK => ?_) AllReadyH.nil)
                refine step_store_eq (by rfl) 35 (.tmp 20) (.tmp 124) (by rfl) (by rfl) (by rfl) r8 ?_
                refine hK.out _ _ (KS2.out _ Q9) (fun hSR => ?_)
                clear hK K
                simp only [Act.put]
                refine wpAnyH_done (by kernel_rfl) ?_ _
                have REL := Lib.hid (And.intro Q9 a8)
                clear hSR
                go_wp2_with fail
                go_meet
                case rel => exact ⟨_, rfl, REL⟩
            case rest =>
              obtain ⟨bz, rfl, H8⟩ := hcut
              obtain ⟨w8, rfl⟩ : ∃ x, x = wc := ⟨_, rfl⟩
              have K8 := Lib.hid (And.intro (CL1.out w8 bx (H7.out.2.below H8.out.1 H7.out.2.1)) (CL2.out w8 bz H8.out.2))
              have B48 := Lib.hid (show Below w4.heap.size w4 w8 from (HB.out.trans (H7.out.1.mono HB.out.size)).trans (H8.out.1.mono (HB.out.trans (H7.out.1.mono HB.out.size)).size))
              have KX := Lib.hid (show ∀ W, Below w8.heap.size w8 W → W.cell? ⟨b, off + p * 3, none⟩ = some (.string X) ∧ W.cell? ⟨b, off + p * 3 + 1, none⟩ = some (.string Y) from fun W hb => KW.out W ((B4.out.trans (B48.out.mono B4.out.size)).trans (hb.mono ((B4.out.trans (B48.out.mono B4.out.size)).size))))
              have RL8 := Lib.hid (RL4.out.below B48.out)
              have BI := HYI.out
              have L8 : ∀ W, Below w8.heap.size w8 W → W.cell? ⟨bx, 2, none⟩ = some (.int .i64 y.bal) ∧ W.cell? ⟨bx, 3, none⟩ = some (.int .i64 y.held) ∧ W.cell? ⟨bz, 2, none⟩ = some (.int .i64 z.bal) ∧ W.cell? ⟨bz, 3, none⟩ = some (.int .i64 y.held) := fun W hb => by
                obtain ⟨⟨k1, k2⟩, k3, k4⟩ := K8.out
                have h1 : bx < w8.heap.size := World.block_lt_of_cell? _ _ k1
                have h2 : bz < w8.heap.size := World.block_lt_of_cell? _ _ k3
                rw [TW.out.2.2] at k4
                exact ⟨(hb.cell h1).trans k1, (hb.cell h1).trans k2, (hb.cell h2).trans k3, (hb.cell h2).trans k4⟩
              have L8 := Lib.hid L8
              obtain ⟨T, hT⟩ : ∃ T, twins legs other = T := ⟨_, rfl⟩
              obtain ⟨m2, hm2⟩ : ∃ m2, 2 * k = m2 := ⟨_, rfl⟩
              have HTL : Hid (T.length = m2) := Lib.hid (by rw [← hT, twins_len, HG.out.len, hm2])
              have HM2E := Lib.hid hm2
              have HM2 := Lib.hid (show m2 ≤ 200 by have := HN.out; omega)
              have TIT := Lib.hid TI.out
              rw [hT] at TW RL8 TIT
              rw [hm2]
              have TWE := Lib.hid TW.out.1
              have TWV := Lib.hid TW.out.2.1
              clear PN1 PN2 PA1 PA2 CL1 CL2 CF1 CF2 KS1 KS2 FL FA HBW hT hm2 TW HPS HOT4 KW K8 FIA AA TI H7 H8
              go_wp2_with fail
              go_loopw [21, 22] (fun s i wl => ∃ q : Nat, i = .int .i64 (q : Int) ∧ q ≤ m2 ∧ Hid (Below w8.heap.size w8 wl ∧ Coin.Own wl w8.heap.size s (amtsOf (T.take q) x.own))) (fun _ i _ => m2 - (intOf i).toNat)
              case atStart => exact ⟨0, rfl, Nat.zero_le _, Lib.hid ⟨Below.refl _ _, rfl, .inl ⟨rfl, rfl⟩⟩⟩
              case round =>
                obtain ⟨q, rfl, hq, HL3⟩ := hrel
                by_cases hlt3 : q < m2
                · have hql : q < T.length := by rw [HTL.out]; exact hlt3
                  have hwr3 : IntKind.i64.wrap ((q : Int) + 1) = (q : Int) + 1 := IntWalk.i64_in _ (by have := HM2.out; omega)
                  have t3 : (q : Int) < (m2 : Int) := by omega
                  have t4 : (0 : Int) ≤ (q : Int) := by omega
                  obtain ⟨b6, o6, rfl, hb6, hc6⟩ := RL8.out (by intro e; rw [e] at hql; simp at hql)
                  have hr6 := range_below (hc6 q hql) HL3.out.1 hb6
                  obtain ⟨d0, d1⟩ := KX.out wr HL3.out.1
                  have hle := amts_len (T.take q) x.own
                  rw [List.length_take] at hle
                  have AY := fun h => amts_yes (l := T) (k := q) (o := x.own) hql h
                  have AN := fun h => amts_no (l := T) (k := q) (o := x.own) hql h
                  obtain ⟨g, hg⟩ : ∃ g, T[q] = g := ⟨_, rfl⟩
                  rw [hg] at hr6 AY AN
                  have e0 : wr.cell? ⟨b6, o6 + q * 3, none⟩ = some (.string (strB g.who)) := hr6 0 _ rfl
                  have e1 : wr.cell? ⟨b6, o6 + q * 3 + 1, none⟩ = some (.string (strB g.asset)) := hr6 1 _ rfl
                  have e2 : wr.cell? ⟨b6, o6 + q * 3 + 2, none⟩ = some (.int .i64 g.amt) := hr6 2 _ rfl
                  have q1 : ((strB g.who).toList == X.toList) = decide (g.who = x.who) := by rw [← HX.out, strB_list, strB_list, Bool.eq_iff_iff]; simp
                  have q2 : ((strB g.asset).toList == Y.toList) = decide (g.asset = x.asset) := by rw [← HY.out, strB_list, strB_list, Bool.eq_iff_iff]; simp
                  have BQ := Lib.hid (show ∀ j, Below w8.heap.size w8 (wr.drewN j) from fun j => HL3.out.1.trans ((drewN_below wr j).mono HL3.out.1.size))
                  have OQ := Lib.hid (show ∀ j, Coin.Own (wr.drewN j) w8.heap.size u21 (amtsOf (T.take q) x.own) from fun j => ownI_below HL3.out.2 (drewN_below wr j))
                  have AP := Lib.hid (fun j => append_amt (wr.drewN j) w8.heap.size u21 _ (OQ.out j) g.amt (by have := HM2.out; omega) (BQ.out j).size)
                  have HAY := Lib.hid AY
                  have HAN := Lib.hid AN
                  generalize strB g.who = P1 at *
                  generalize strB g.asset = P2 at *
                  generalize g.amt = s at *
                  clear hr6 hc6 hb6 hg hle AY AN HL3
                  by_cases h1 : g.who = x.who
                  · rw [decide_eq_true h1] at q1
                    by_cases h2 : g.asset = x.asset
                    · rw [decide_eq_true h2] at q2
                      have HE := HAY.out (by unfold Lg.own; rw [h1, h2])
                      clear HAN HAY h1 h2
                      go_wp2_with fail
                      go_quiet (fail)
                      obtain ⟨v', W4, hrun, ho3, hb3⟩ := AP.out nq
                      have R := Lib.hid hrun
                      have NB := Lib.hid (show Below w8.heap.size w8 W4 ∧ Coin.Own W4 w8.heap.size v' (amtsOf (T.take (q + 1)) x.own) from ⟨(BQ.out nq).trans hb3, by rw [HE]; exact ho3⟩)
                      have e2' : (wr.drewN nq).cell? ⟨b6, o6 + q * 3 + 2, none⟩ = some (.int .i64 s) := e2
                      clear hrun ho3 hb3 HE AP OQ
                      generalize wr.drewN nq = W3 at *
                      go_wp2_with ((with_reducible refine Coin.wpList_append_eq rfl (.tmp 155) (.tmp 161) 40 rfl ?_ ?_ R.out ?_); (next => rfl); (next => rfl))
                      go_roundw
                      case rel => exact ⟨q + 1, by go_num, by omega, NB⟩
                      case measure => simp [intOf]; omega
                    · rw [decide_eq_false h2] at q2
                      have NB := Lib.hid (show ∀ j, Below w8.heap.size w8 (wr.drewN j) ∧ Coin.Own (wr.drewN j) w8.heap.size u21 (amtsOf (T.take (q + 1)) x.own) from fun j => ⟨BQ.out j, by rw [HAN.out (fun e => h2 (Prod.mk.inj e).2)]; exact OQ.out j⟩)
                      clear HAN HAY h1 h2 AP OQ BQ
                      go_wp2_with fail
                      go_quiet (fail)
                      go_wp2_with fail
                      go_roundw
                      case rel => exact ⟨q + 1, by go_num, by omega, Lib.hid (NB.out _)⟩
                      case measure => simp [intOf]; omega
                  · rw [decide_eq_false h1] at q1
                    have NB := Lib.hid (show ∀ j, Below w8.heap.size w8 (wr.drewN j) ∧ Coin.Own (wr.drewN j) w8.heap.size u21 (amtsOf (T.take (q + 1)) x.own) from fun j => ⟨BQ.out j, by rw [HAN.out (fun e => h1 (Prod.mk.inj e).1)]; exact OQ.out j⟩)
                    clear HAN HAY h1 AP OQ BQ q2
                    go_wp2_with fail
                    go_quiet (fail)
                    go_wp2_with fail
                    go_roundw
                    case rel => exact ⟨q + 1, by go_num, by omega, Lib.hid (NB.out _)⟩
                    case measure => simp [intOf]; omega
                · obtain rfl : q = m2 := by omega
                  have e : T.take q = T := List.take_of_length_le (by rw [HTL.out]; exact Nat.le_refl _)
                  have HL4 := HL3.out
                  rw [e] at HL4
                  obtain ⟨g0, g1, g2, g3⟩ := L8.out wr HL4.1
                  have hle := amts_len T x.own
                  have hlt := HTL.out
                  have hm200 := HM2.out
                  have HAI : Coin.Amounts (amtsOf T x.own ++ [y.bal]) := fun v hv => by
                    rcases List.mem_append.1 hv with hv | hv
                    · obtain ⟨gx, hgx, rfl⟩ := List.mem_map.1 hv
                      exact TIT.out gx (List.mem_filter.1 hgx).1
                    · rw [List.mem_singleton] at hv; subst hv; exact BI
                  obtain ⟨v', W4, hrun, ho3, hb3⟩ := append_amt wr w8.heap.size u21 _ HL4.2 y.bal (by omega) HL4.1.size
                  obtain ⟨A7, c7, e7, hA7, hrow7⟩ := Coin.Own.row ho3
                  subst e7
                  have cS := Coin.sum_any A7 _ c7 (amtsOf T x.own ++ [y.bal]) W4 rfl (by rw [List.length_append]; simp; omega) hrow7 HAI
                  rw [TWE.out, TWV.out] at cS
                  have R := Lib.hid hrun
                  have B9 := Lib.hid (show Below w4.heap.size w4 W4 from B48.out.trans ((HL4.1.trans hb3).mono B48.out.size))
                  obtain ⟨f0, f1, f2, f3⟩ := L8.out W4 (HL4.1.trans hb3)
                  have L9 := Lib.hid (fun W (hb : Below W4.heap.size W4 W) => L8.out W ((HL4.1.trans hb3).trans (hb.mono (HL4.1.trans hb3).size)))
                  generalize (amtsOf T x.own ++ [y.bal]).length = m7 at *
                  generalize y.bal = yb at *
                  generalize z.bal = zb at *
                  generalize y.held = yh at *
                  clear HL3 HL4 hle hlt hm200 HAI hrun ho3 hb3 hA7 hrow7 e KX RL8 TIT TWE TWV L8 BI
                  go_wp2_with (first
                    | ((with_reducible refine Coin.wpList_append_eq rfl (.tmp 164) (.tmp 167) 40 rfl ?_ ?_ R.out ?_); (next => rfl); (next => rfl))
                    | (go_at_call 25; refine cS.mono ?_; rintro e w9 ⟨rfl, b9⟩; have B10 := Lib.hid (B9.out.trans (b9.mono B9.out.size)); obtain ⟨s0, s1, s2, s3⟩ := L9.out w9 b9; clear b9 f0 f1 f2 f3 g0 g1 g2 g3 cS))
                  obtain rfl := HM2E.out
                  go_roundw
                  case rel => exact ⟨p + 1, by go_num, by omega, B10⟩
                  case measure => simp [intOf]; omega
        · obtain rfl : p = k := by omega
          have BB := Lib.hid (B4.out.trans (HB.out.mono B4.out.size))
          clear HB
          go_wp2_with fail
          go_ret
          exact ⟨rfl, BB.out⟩
end Go.Proofs.Ytobpbbldgbgcdaa.Acc
