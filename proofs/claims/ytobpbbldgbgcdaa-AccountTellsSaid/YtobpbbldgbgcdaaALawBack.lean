/-
  AccountBack: the walk.
-/
import Derived.Test.YtobpbbldgbgcdaaALegs
import Derived.Test.YtobpbbldgbgcdaaAHoldP
namespace Go.Proofs.Ytobpbbldgbgcdaa.Acc
open Go.RowKit Go.Sort

/-- A leg's opposite. -/
def Lg.opp (x : Lg) : Lg := ⟨x.who, x.asset, -x.amt⟩
theorem opp_amts (l : List Lg) (o : Own) : amtsOf (l.map Lg.opp) o = (amtsOf l o).map (fun z => -z) := by
  unfold amtsOf
  rw [List.filter_map, List.map_map, List.map_map]
  rfl
theorem sum_neg : ∀ l : List Int, (l.map (fun z => -z)).sum = -l.sum
  | [] => rfl
  | x :: l => by rw [List.map_cons, List.sum_cons, List.sum_cons, sum_neg l]; omega
theorem opp_nil (l : List Lg) (o : Own) : amtsOf (l.map Lg.opp) o = [] ↔ amtsOf l o = [] := by rw [opp_amts, List.map_eq_nil_iff]
theorem opp_any (l : List Lg) : (l.map Lg.opp).any namelessB = l.any namelessB := by rw [List.any_map]; rfl
def small40 (x : Lg) : Prop := -1099511627776 ≤ x.amt ∧ x.amt ≤ 1099511627776
theorem sum_small : ∀ (l : List Int), (∀ z ∈ l, -1099511627776 ≤ z ∧ z ≤ 1099511627776) → -(1099511627776 * (l.length : Int)) ≤ l.sum ∧ l.sum ≤ 1099511627776 * (l.length : Int)
  | [], _ => by simp
  | x :: l, h => by
    have ih := sum_small l (fun z hz => h z (List.mem_cons_of_mem _ hz))
    have hx := h x (by simp)
    rw [List.sum_cons, List.length_cons]
    omega
theorem errP_bal {l : List Ac} {F : Own → List Int} {o : Own} (h : errP l F o = 0) : shortA ((findA l o).bear ((findA l o).bal + (F o).sum)) = false ∧ Coin.err (F o).sum = 0 ∧ Coin.err ((findA l o).bal + (F o).sum) = 0 := by
  have := posted_ok h
  exact ⟨this.2.1, this.2.2.1, this.2.2.2⟩
theorem bear_back (x : Ac) (s : Int) : (x.bear (x.bal + s)).bear ((x.bear (x.bal + s)).bal + -s) = x := by
  obtain ⟨a, b, c, d⟩ := x
  simp only [Ac.bear]
  congr 1; omega
theorem find_fine {l : List Ac} (h : FitA l) (hi : ∀ x ∈ l, AcIn x) (o : Own) : shortA (findA l o) = false ∧ Coin.err (findA l o).bal = 0 := by
  rcases find_cases l o with ⟨h1, _⟩ | ⟨_, h2⟩
  · have hb := hi _ h1
    exact ⟨(may_parts.1 (((fit_iff l).1 h).1 _ h1)).2.2.2.1, by unfold Coin.err; rw [if_pos ⟨hb.b0, hb.b1⟩]⟩
  · rw [h2]
    exact ⟨by simp [zeroOf, shortA], rfl⟩
/-- Legs, and then their opposites. -/
theorem back_again {l a : List Ac} {legs : List Lg} {r : List Ac × Int} (h : FitA l) (hi : ∀ x ∈ l, AcIn x) (hm : legs.length ≤ 100) (hs : ∀ x ∈ legs, small40 x) (hp : PostS l (amtsOf legs) (a, 0)) (hq : PostS a (amtsOf (legs.map Lg.opp)) r) : r = (l, 0) := by
  rcases hp with ⟨_, h2, h3, h4⟩ | ⟨_, h2, _⟩
  rotate_left
  · exact absurd rfl h2
  have key : ∀ o, amtsOf legs o ≠ [] → errP a (amtsOf (legs.map Lg.opp)) o = 0 ∧ (findA a o).bear ((findA a o).bal + (amtsOf (legs.map Lg.opp) o).sum) = findA l o := fun o ho => by
    have h4o := h4 o
    unfold newA at h4o
    rw [if_neg ho] at h4o
    have hsum : (amtsOf (legs.map Lg.opp) o).sum = -(amtsOf legs o).sum := by rw [opp_amts, sum_neg]
    have hsm := sum_small (amtsOf legs o) (fun z hz => by
      unfold amtsOf at hz
      obtain ⟨x, hx, rfl⟩ := List.mem_map.1 hz
      exact hs x (List.mem_filter.1 hx).1)
    have hle := amts_len legs o
    have hback : (findA a o).bear ((findA a o).bal + (amtsOf (legs.map Lg.opp) o).sum) = findA l o := by rw [h4o, hsum]; exact bear_back _ _
    refine ⟨?_, hback⟩
    obtain ⟨f1, f2⟩ := find_fine h hi o
    unfold errP
    rw [posted_err]
    rw [show Coin.err (amtsOf (legs.map Lg.opp) o).sum = 0 by rw [hsum]; unfold Coin.err; rw [if_pos (by omega)], if_pos rfl]
    have hb := congrArg Ac.bal hback
    simp only [Ac.bear] at hb
    rw [hb, f2, if_pos rfl]
    have := hback
    rw [hb] at this
    rw [this, f1]
    rfl
  rcases hq with ⟨g1, g2, g3, g4⟩ | ⟨_, g2, o, g3, g4, _⟩
  · refine Prod.ext (fit_ext g3 h (fun o => ?_)) g1
    rw [g4]
    unfold newA
    by_cases ho : amtsOf legs o = []
    · rw [if_pos ((opp_nil legs o).2 ho), h4]
      unfold newA
      rw [if_pos ho]
    · rw [if_neg (fun e => ho ((opp_nil legs o).1 e))]
      exact (key o ho).2
  · exact absurd (g4.trans (key o (fun e => g3 ((opp_nil legs o).2 e))).1) g2
theorem posted_in {l a : List Ac} {F : Own → List Int} (hi : ∀ x ∈ l, AcIn x) (hp : PostS l F (a, 0)) : FitA a ∧ ∀ x ∈ a, AcIn x := by
  rcases hp with ⟨_, h2, h3, h4⟩ | ⟨_, h2, _⟩
  rotate_left
  · exact absurd rfl h2
  refine ⟨h3, fun x hx => ?_⟩
  have e := find_mem ((fit_iff a).1 h3).2 hx
  rw [h4] at e
  have hf : AcIn (findA l x.own) := by
    rcases find_cases l x.own with ⟨g, _⟩ | ⟨_, g⟩
    · exact hi _ g
    · rw [g]; exact ⟨by simp [zeroOf], by simp [zeroOf], by simp [zeroOf], by simp [zeroOf]⟩
  unfold newA at e
  by_cases ho : F x.own = []
  · rw [if_pos ho] at e
    rw [← e]; exact hf
  · rw [if_neg ho] at e
    have hv := val_ok (errP_bal (h2 _ ho)).2.2
    rw [← e]
    exact ⟨hv.2.1, hv.2.2, hf.h0, hf.h1⟩
theorem nodup_len {α : Type} [DecidableEq α] : ∀ (a b : List α), a.Nodup → (∀ x ∈ a, x ∈ b) → a.length ≤ b.length
  | [], _, _, _ => Nat.zero_le _
  | x :: a, b, h, hs => by
    obtain ⟨h1, h2⟩ := List.nodup_cons.1 h
    have ih := nodup_len a (b.erase x) h2 (fun y hy => (List.mem_erase_of_ne (fun e => h1 (by rw [← e]; exact hy))).2 (hs y (List.mem_cons_of_mem _ hy)))
    have hx := hs x (by simp)
    have := List.length_erase_of_mem hx
    have := List.length_pos_of_mem hx
    rw [List.length_cons]
    omega
/-- No more accounts than there were, and one for each leg. -/
theorem posted_len {l a : List Ac} {legs : List Lg} (hp : PostS l (amtsOf legs) (a, 0)) : a.length ≤ l.length + legs.length := by
  rcases hp with ⟨_, h2, h3, h4⟩ | ⟨_, h2, _⟩
  rotate_left
  · exact absurd rfl h2
  obtain ⟨hm, hr⟩ := (fit_iff a).1 h3
  have hnd : (a.map Ac.own).Nodup := by
    rw [List.Nodup, List.pairwise_map]
    refine List.Pairwise.imp ?_ hr
    intro x y hxy e
    unfold aheadA at hxy
    rw [e, ahead_irrefl] at hxy; cases hxy
  have := nodup_len (a.map Ac.own) (l.map Ac.own ++ legs.map Lg.own) hnd (fun o ho => by
    obtain ⟨x, hx, rfl⟩ := List.mem_map.1 ho
    have e := find_mem hr hx
    rw [h4] at e
    by_cases hF : amtsOf legs x.own = []
    · unfold newA at e
      rw [if_pos hF] at e
      rcases find_cases l x.own with ⟨g, _⟩ | ⟨_, g⟩
      · rw [e] at g
        exact List.mem_append.2 (.inl (List.mem_map.2 ⟨x, g, rfl⟩))
      · rw [e] at g
        exact absurd (congrArg Ac.bal g) (may_parts.1 (hm x hx)).2.1
    · unfold amtsOf at hF
      rw [List.map_eq_nil_iff] at hF
      obtain ⟨y, hy⟩ := List.exists_mem_of_ne_nil _ hF
      obtain ⟨hy, e2⟩ := List.mem_filter.1 hy
      exact List.mem_append.2 (.inr (List.mem_map.2 ⟨y, hy, by simpa using e2⟩)))
  simpa using this
/-- What Post tells of legs that may be. -/
theorem post_split {l l' : List Ac} {legs : List Lg} (hp : PostR l legs (l', 0)) : legs.length ≥ 1 ∧ legs.length ≤ 200 ∧ legs.any namelessB = false ∧ PostS l (amtsOf legs) (l', 0) := by
  unfold PostR at hp
  split at hp
  · simp at hp
  · rename_i hh
    simp only [not_or, Nat.not_lt, Bool.not_eq_true] at hh
    exact ⟨hh.1, hh.2.1, hh.2.2, hp⟩
set_option maxRecDepth 100000 in
set_option maxHeartbeats 8000000 in
theorem back_walk (A A' : Option Addr) (n c m c' : Nat) (l : List Ac) (legs : List Lg) (w : World) (h : AcsIn w A n c l) (hL : LgsIn w A' m c' legs) (hn : n ≤ 9223372036854775807) (hm : m ≤ 9223372036854775807) :
    Calls Try.prog 9 #[.slice A n c, .slice A' m c'] w (fun e w' => e = .returned (.bool true) ∧ Below w.heap.size w w') := by
  have HH := Lib.hid h
  have HG := Lib.hid hL
  clear h hL
  go_enter Try.func9, Try.ntmps9
  go_wp2_with fail
  refine (awake_any w).mono ?_
  rintro e w1 ⟨rfl, b1⟩
  have B1 := Lib.hid b1
  have cF := few_any (c' := c') (HH.out.1.below b1) HG.out.len (HG.out.row.below b1) hn hm
  clear b1
  go_wp2_with fail
  refine cF.mono ?_
  rintro e w2 ⟨r, rfl, hr, b2⟩
  have B2 := Lib.hid (B1.out.trans (b2.mono B1.out.size))
  clear b2 cF B1
  rcases r with _ | _
  · clear hr
    go_wp2_with fail
    go_ret
    exact ⟨rfl, B2.out⟩
  have HF := Lib.hid (hr rfl)
  clear hr
  by_cases hm1 : 100 < m
  · have t1 : (100 : Int) < (m : Int) := by omega
    clear hm1
    go_wp2_with fail
    go_ret
    exact ⟨rfl, B2.out⟩
  have t1 : ¬ (100 : Int) < (m : Int) := by omega
  have cC := check_any (HH.out.1.below B2.out) (by have := HF.out.n; rw [HH.out.1.len] at this; omega) (fun x hx => by have := HF.out.l x hx; omega)
  by_cases hfit : FitA l
  rotate_left
  · rw [show checkA l = 110 by unfold checkA; rw [if_neg hfit]] at cC
    clear hfit
    go_wp2_with (go_at_call 12; refine cC.mono ?_; rintro e w3 ⟨rfl, b3⟩)
    go_ret
    exact ⟨rfl, B2.out.trans (b3.mono B2.out.size)⟩
  rw [check_yes (show FitTo l l.length from hfit)] at cC
  have HFIT := Lib.hid hfit
  clear hfit
  go_wp2_with (go_at_call 12; refine cC.mono ?_; rintro e w3 ⟨rfl, b3⟩; have B3 := Lib.hid (B2.out.trans (b3.mono B2.out.size)); clear b3 cC B2)
  clear t1
  go_loopw [6, 7] (fun v i wr => ∃ k : Nat, i = .int .i64 (k : Int) ∧ k ≤ m ∧ Hid (Below w.heap.size w wr ∧ OwnL wr w.heap.size v ((legs.take k).map Lg.opp) ∧ ∀ j (hj : j < legs.length), j < k → small40 legs[j])) (fun _ i _ => m - (intOf i).toNat)
  case atStart => exact ⟨0, rfl, Nat.zero_le _, Lib.hid ⟨B3.out, OwnL.nil _ _, fun j _ h => absurd h (Nat.not_lt_zero _)⟩⟩
  case round =>
    obtain ⟨k, rfl, hk, HB⟩ := hrel
    by_cases hlt : k < m
    · have hkl : k < legs.length := by rw [HG.out.len]; exact hlt
      have hwr : IntKind.i64.wrap ((k : Int) + 1) = (k : Int) + 1 := IntWalk.i64_in _ (by omega)
      have t1 : (k : Int) < (m : Int) := by omega
      have t2 : (0 : Int) ≤ (k : Int) := by omega
      obtain ⟨b, off, rfl, hbl, hc⟩ := HG.out.row (by intro e; rw [e] at hkl; simp at hkl)
      have hr := range_below (hc k hkl) HB.out.1 hbl
      have c0 : wr.cell? ⟨b, off + k * 3, none⟩ = some (strV legs[k].who) := hr 0 _ rfl
      have c1 : wr.cell? ⟨b, off + k * 3 + 1, none⟩ = some (strV legs[k].asset) := hr 1 _ rfl
      have c2 : wr.cell? ⟨b, off + k * 3 + 2, none⟩ = some (.int .i64 legs[k].amt) := hr 2 _ rfl
      have hin := HG.out.ins legs[k] (List.getElem_mem hkl)
      have HBW := Lib.hid HB.out.1
      by_cases g1 : 1099511627776 < legs[k].amt
      · clear hc hr HB
        generalize legs[k].amt = s at *
        go_wp2_with fail
        go_ret
        exact ⟨rfl, HBW.out⟩
      by_cases g2 : legs[k].amt < -1099511627776
      · clear hc hr HB
        generalize legs[k].amt = s at *
        go_wp2_with fail
        go_ret
        exact ⟨rfl, HBW.out⟩
      have KS := Lib.hid (show ∀ W, Below wr.heap.size wr W → W.cell? ⟨b, off + k * 3, none⟩ = some (strV legs[k].who) ∧ W.cell? ⟨b, off + k * 3 + 1, none⟩ = some (strV legs[k].asset) ∧ W.cell? ⟨b, off + k * 3 + 2, none⟩ = some (.int .i64 legs[k].amt) from fun W hb => by
        have hlt : b < wr.heap.size := Nat.lt_of_lt_of_le hbl HBW.out.size
        exact ⟨(hb.cell hlt).trans c0, (hb.cell hlt).trans c1, (hb.cell hlt).trans c2⟩)
      have HO := HB.out.2.1
      obtain ⟨v', W4, hrun, ho4, b4⟩ := append_one wr.drew w.heap.size u6 _ HO legs[k].opp (by rw [List.length_map, List.length_take]; omega) HBW.out.size
      have HNB := Lib.hid (show Below w.heap.size w W4 ∧ OwnL W4 w.heap.size v' ((legs.take (k + 1)).map Lg.opp) ∧ ∀ j (hj : j < legs.length), j < k + 1 → small40 legs[j] from ⟨HBW.out.drew.trans b4, by
        rw [List.take_succ_eq_append_getElem hkl, List.map_append]
        exact ho4, fun j hj hjk => by
        by_cases q : j = k
        · subst q; exact ⟨by omega, by omega⟩
        · exact HB.out.2.2 j hj (by omega)⟩)
      obtain ⟨z, hz⟩ : ∃ z, -legs[k].amt = z := ⟨_, rfl⟩
      have hneg : IntKind.i64.wrap (-legs[k].amt) = z := by rw [hz]; exact IntWalk.i64_in _ (by omega)
      have hC : (encL legs[k].opp).toArray = #[.string (strB legs[k].who), .string (strB legs[k].asset), .int .i64 z] := by rw [← hz]; rfl
      rw [hC] at hrun
      have R := Lib.hid (show (Builtin.append_ #[24, 24] 24 #[u6, .slice (some ⟨wr.heap.size, 0, none⟩) 1 1]).run Try.prog (wr.drew.alloc (.cells #[.string (strB legs[k].who), .string (strB legs[k].asset), .int .i64 z] 39)) = .ok v' W4 from hrun)
      have KA := Lib.hid (show Below wr.heap.size wr (wr.drew.alloc (.cells #[.string (strB legs[k].who), .string (strB legs[k].asset), .int .i64 z] 39)) from (Below.refl wr.heap.size wr).drew.alloc (Nat.le_refl _) _)
      have KD := Lib.hid (show Below wr.heap.size wr wr.drew from (Below.refl wr.heap.size wr).drew)
      have K4 := Lib.hid (show W4.cell? ⟨b, off + k * 3, none⟩ = some (strV legs[k].who) ∧ W4.cell? ⟨b, off + k * 3 + 1, none⟩ = some (strV legs[k].asset) ∧ W4.cell? ⟨b, off + k * 3 + 2, none⟩ = some (.int .i64 legs[k].amt) from
        ⟨(b4.cell (p := ⟨b, off + k * 3, none⟩) hbl).trans c0, (b4.cell (p := ⟨b, off + k * 3 + 1, none⟩) hbl).trans c1, (b4.cell (p := ⟨b, off + k * 3 + 2, none⟩) hbl).trans c2⟩)
      unfold strV at c0 c1 KS K4
      generalize strB legs[k].who = X at *
      generalize strB legs[k].asset = Y at *
      generalize legs[k].amt = s at *
      clear hc hr HB hbl hin HO hrun ho4 b4 hC hz
      have q1 : s ≤ 1099511627776 := by omega
      have q2 : -1099511627776 ≤ s := by omega
      go_wp2_with fail
      clear g1 g2 q1 q2
      go_region_held3 (fun w' => w'.cell? ⟨b, off + k * 3, none⟩ = some (.string X) ∧ w'.cell? ⟨b, off + k * 3 + 1, none⟩ = some (.string Y) ∧ w'.cell? ⟨b, off + k * 3 + 2, none⟩ = some (.int .i64 s))
        (first | exact KS.out _ (Below.refl _ _) | exact KS.out _ KD.out | exact KS.out _ KA.out | exact K4.out)
        (refine step_append_eq (by rfl) (.tmp 50) (.tmp 68) 24 (by rfl) (by rfl) (by rfl) (by rfl) R.out ?_)
      go_wp2_with fail
      go_roundw
      case rel => exact ⟨k + 1, by go_num, by omega, HNB⟩
      case measure => simp [intOf]; omega
    · obtain rfl : k = m := by omega
      have HS := Lib.hid (show ∀ x ∈ legs, small40 x from fun x hx => by
        obtain ⟨j, hj, rfl⟩ := List.getElem_of_mem hx
        exact HB.out.2.2 j hj (by rw [← HG.out.len]; exact hj))
      have HO := Lib.hid (show OwnL wr w.heap.size u6 (legs.map Lg.opp) by
        have := HB.out.2.1
        rwa [List.take_of_length_le (by rw [HG.out.len]; exact Nat.le_refl _)] at this)
      have BW := Lib.hid HB.out.1
      have bal : ∀ {l : List Ac}, (∀ x ∈ l, AcIn x) → ∀ x ∈ l, -9223372036854775808 ≤ x.bal ∧ x.bal ≤ 9223372036854775807 := fun h x hx => ⟨(h x hx).b0, (h x hx).b1⟩
      have nm : ∀ x ∈ legs, x.who.length ≤ 200000000000000 ∧ x.asset.length ≤ 200000000000000 := fun x hx => by have := HF.out.g x hx; omega
      have hnl := HF.out.n
      have hnn := HH.out.1.len
      have cP := post_any (c' := c') (HH.out.1.below BW.out) (by omega) HFIT.out (bal HH.out.2) HG.out.len (by omega) (HG.out.row.below BW.out) nm (fun x hx => HG.out.ins x hx)
      have NM := Lib.hid nm
      have BAL := Lib.hid (fun (l : List Ac) => @bal l)
      clear HB hnl hnn nm bal
      go_wp2_with fail
      refine cP.mono ?_
      rintro e w4 ⟨a, er, hp, va, rfl, oa, b4⟩
      have B4 := Lib.hid (BW.out.trans (b4.mono BW.out.size))
      have O4 := Lib.hid (HO.out.below b4)
      by_cases he : er = 0
      rotate_left
      · have hq : (er == 0) = false := beq_eq_false_iff_ne.2 he
        clear he hp oa b4 cP
        go_wp2_with fail
        go_ret
        exact ⟨rfl, B4.out⟩
      subst he
      obtain ⟨hp1, hp2, hp3, hp4⟩ := post_split hp
      obtain ⟨fa, ia⟩ := posted_in HH.out.2 hp4
      have hal := posted_len hp4
      obtain ⟨A5, c5, rfl, aa, _⟩ := oa.at
      obtain ⟨A6, c6, rfl, rl, _, _, _, _⟩ := ownL_at O4.out
      have hnl := HF.out.n
      have hml := HF.out.m
      have cQ := post_any (c' := c6) aa (by omega) fa (BAL.out a ia) (legs := legs.map Lg.opp) rfl (by rw [List.length_map]; omega) rl (fun x hx => by
        obtain ⟨y, hy, rfl⟩ := List.mem_map.1 hx
        exact NM.out y hy) (fun x hx => by
        obtain ⟨y, hy, rfl⟩ := List.mem_map.1 hx
        have := HS.out y hy
        unfold small40 at this
        show -9223372036854775808 ≤ -y.amt ∧ -y.amt ≤ 9223372036854775807
        omega)
      have FIN := Lib.hid (show ∀ r, PostR a (legs.map Lg.opp) r → r = (l, 0) from fun r hr => by
        unfold PostR at hr
        rw [if_neg (by
          rw [List.length_map, opp_any, hp3]
          rintro (h | h | h)
          · omega
          · omega
          · cases h)] at hr
        exact back_again HFIT.out HH.out.2 (by rw [HG.out.len]; omega) HS.out hp4 hr)
      clear hp1 hp2 hp3 hp4 hp fa ia hal aa rl hnl hml b4 cP oa
      generalize (legs.map Lg.opp).length = m6 at *
      generalize a.length = n5 at *
      go_wp2_with fail
      refine cQ.mono ?_
      rintro e w5 ⟨b5, er, hr, vb, rfl, ob, b5'⟩
      obtain ⟨rfl, rfl⟩ := Prod.mk.inj (FIN.out _ hr)
      have B5 := Lib.hid (B4.out.trans (b5'.mono B4.out.size))
      obtain ⟨A7, c7, rfl, ab, _⟩ := ob.at
      have cS := same_any ab (HH.out.1.below B5.out) (by have := HF.out.n; omega)
      clear hr ob ab b5' cQ O4 HO
      generalize hl7 : b5.length = n7 at *
      go_wp2_with fail
      refine cS.mono ?_
      rintro e w6 ⟨r, rfl, hr, b6⟩
      obtain rfl : r = true := hr.2 trivial
      have B6 := Lib.hid (B5.out.trans (b6.mono B5.out.size))
      clear hr b6 cS
      go_wp2_with fail
      go_ret
      exact ⟨rfl, B6.out⟩
end Go.Proofs.Ytobpbbldgbgcdaa.Acc
