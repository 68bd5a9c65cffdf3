/-
  The document's own: Before, names, Find, Total, sum.
-/
import Derived.Test.YtobpbbldgbgcdaaARefName
import Derived.Test.YtobpbbldgbgcdaaARefSum
import Derived.Test.YtobpbbldgbgcdaaASame
import Derived.Test.YtobpbbldgbgcdaaATotal
import Derived.Test.YtobpbbldgbgcdaaALawSums
namespace Go.Proofs.Ytobpbbldgbgcdaa.Acc
open Go.RowKit Go.Sort

set_option maxRecDepth 100000 in
set_option maxHeartbeats 2000000 in
theorem rBefore_any (x y : Own) (w : World) : Calls Try.prog 29 #[strV x.1, strV x.2, strV y.1, strV y.2] w (fun e w' => e = .returned (.bool (ahead x y)) ∧ w' = w) := by
  have hb : ahead x y = (less x.1 y.1 || (x.1 == y.1 && less x.2 y.2)) := rfl
  have q1 : Op.bytesLess (strB x.1).toList (strB y.1).toList = less x.1 y.1 := by rw [strB_list, strB_list]; rfl
  have q2 : ((strB x.1).toList == (strB y.1).toList) = (x.1 == y.1) := by rw [strB_list, strB_list]
  have q3 : Op.bytesLess (strB x.2).toList (strB y.2).toList = less x.2 y.2 := by rw [strB_list, strB_list]; rfl
  generalize ahead x y = r at *
  generalize less x.1 y.1 = r1 at *
  generalize (x.1 == y.1) = r2 at *
  generalize less x.2 y.2 = r3 at *
  unfold strV
  generalize strB x.1 = X at *
  generalize strB x.2 = Y at *
  generalize strB y.1 = X2 at *
  generalize strB y.2 = Y2 at *
  have HB := Lib.hid hb
  clear hb
  rcases r1 with _ | _ <;> rcases r2 with _ | _
  all_goals
    go_enter Try.func29, Try.ntmps29
    go_wp2_with fail
    go_ret
    exact ⟨by rw [HB.out]; simp, rfl⟩
set_option maxRecDepth 100000 in
set_option maxHeartbeats 2000000 in
theorem rNames_any (who asset : Bs) (w : World) (h1 : who.length ≤ 1000) (h2 : asset.length ≤ 1000) : Calls Try.prog 28 #[strV who, strV asset] w (fun e w' => e = .returned (.bool (namedB who asset)) ∧ w' = w) := by
  have c1 := Label.ref_who (strB who) w (by rw [strB_size]; omega)
  have c2 := Label.ref_asset (strB asset) w (by rw [strB_size]; omega)
  rw [strB_data] at c1 c2
  have hb : namedB who asset = (Label.whoS who && Label.madeB Label.capB 6 asset) := rfl
  generalize namedB who asset = r at *
  generalize Label.whoS who = r1 at *
  generalize Label.madeB Label.capB 6 asset = r2 at *
  unfold strV
  generalize strB who = X at *
  generalize strB asset = Y at *
  rcases r1 with _ | _
  all_goals
    have HB := Lib.hid hb
    clear hb
    go_enter Try.func28, Try.ntmps28
    go_wp2_with (first
      | (go_at_call 53; refine c1.mono ?_; rintro e w' ⟨rfl, rfl⟩)
      | (go_at_call 54; refine c2.mono ?_; rintro e w' ⟨rfl, rfl⟩))
    go_ret
    exact ⟨by rw [HB.out]; rfl, rfl⟩
theorem find_hit {l : List Ac} {o : Own} {k : Nat} (hk : k < l.length) (h : ∀ j (hj : j < l.length), j < k → l[j].own ≠ o) (e : l[k].own = o) : findA l o = l[k] := by
  have : l.find? (fun x => decide (x.own = o)) = some l[k] := by
    rw [List.find?_eq_some_iff_getElem]
    exact ⟨by simp [e], k, hk, rfl, fun j hj => by simpa using h j (by omega) hj⟩
  unfold findA
  rw [this]
set_option maxRecDepth 100000 in
set_option maxHeartbeats 4000000 in
theorem rFind_any {A : Option Addr} {n c : Nat} {l : List Ac} {w : World} (h : AAt w A n c l) (hn : n ≤ 1000000000) (o : Own) : Calls Try.prog 24 #[.slice A n c, strV o.1, strV o.2] w (fun e w' => e = .returned (.agg (encA (findA l o)).toArray) ∧ Below w.heap.size w w') := by
  have b1 := below_box w (.cells zeroA 35)
  have a1 := at_new w zeroA 35
  have HL := Lib.hid h.len
  unfold zeroA at *
  obtain ⟨W1, hW1⟩ : ∃ W1, w.alloc (.cells #[.string ⟨#[]⟩, .string ⟨#[]⟩, .int .i64 0, .int .i64 0] 35) = W1 := ⟨_, rfl⟩
  rw [hW1] at b1 a1
  have HR := Lib.hid (h.below b1).row
  have PUT := Lib.hid (show ∀ W2, Below W1.heap.size W1 W2 → ∀ x : Ac, ∃ w', (Instr.storeAt 35 (.pointer (some ⟨w.heap.size, 0, none⟩)) (.agg (encA x).toArray)).run Try.prog W2 = .ok () w' ∧ (loadVar 35 ⟨w.heap.size, 0, none⟩).run Try.prog w' = .ok (.agg (encA x).toArray) w' ∧ Below w.heap.size w w' from fun W2 hb x => by
    obtain ⟨w', r, a, b⟩ := put_ac (a1.below hb a1.1) rfl x (Nat.le_refl w.heap.size)
    exact ⟨w', r, var_ac a, (b1.trans (hb.mono b1.size)).trans b⟩)
  have FN := Lib.hid (fun (h : ∀ x ∈ l, x.own ≠ o) => find_no h)
  have FH := Lib.hid (fun (k : Nat) (hk : k < l.length) h e => find_hit (l := l) (o := o) hk h e)
  have EW := Lib.hid (fun (x : Ac) => show ((strB x.who).toList == (strB o.1).toList) = decide (x.who = o.1) by rw [strB_list, strB_list, Bool.eq_iff_iff]; simp)
  have EA := Lib.hid (fun (x : Ac) => show ((strB x.asset).toList == (strB o.2).toList) = decide (x.asset = o.2) by rw [strB_list, strB_list, Bool.eq_iff_iff]; simp)
  have Z := Lib.hid (show (encA (zeroOf o)).toArray = #[.string (strB o.1), .string (strB o.2), .int .i64 0, .int .i64 0] from rfl)
  have OW := Lib.hid (fun (x : Ac) => show x.own = o ↔ x.who = o.1 ∧ x.asset = o.2 from by unfold Ac.own; exact ⟨fun e => by rw [← e]; exact ⟨rfl, rfl⟩, fun e => by rw [e.1, e.2]⟩)
  clear h b1 a1
  unfold strV at *
  generalize strB o.1 = X at *
  generalize strB o.2 = Y at *
  go_enter Try.func24, Try.ntmps24
  go_wp2_with fail
  clear hW1
  go_loopw [7] (fun i wr => ∃ k : Nat, i = .int .i64 (k : Int) ∧ k ≤ n ∧ Hid (Below W1.heap.size W1 wr ∧ ∀ j (hj : j < l.length), j < k → l[j].own ≠ o)) (fun i _ => n - (intOf i).toNat)
  case atStart => exact ⟨0, rfl, Nat.zero_le _, Lib.hid ⟨Below.refl _ _, fun j _ h => absurd h (Nat.not_lt_zero _)⟩⟩
  case round =>
    obtain ⟨k, rfl, hk, HB⟩ := hrel
    by_cases hlt : k < n
    · have hkl : k < l.length := by rw [HL.out]; exact hlt
      have hwr : IntKind.i64.wrap ((k : Int) + 1) = (k : Int) + 1 := IntWalk.i64_in _ (by omega)
      have t1 : (k : Int) < (n : Int) := by omega
      have t2 : (0 : Int) ≤ (k : Int) := by omega
      obtain ⟨b, off, rfl, hbl, hc⟩ := HR.out (by intro e; rw [e] at hkl; simp at hkl)
      have hr := range_below (hc k hkl) HB.out.1 hbl
      have L := Lib.hid (load_ac hr)
      obtain ⟨c0, c1, _, _⟩ := four hr
      have q1 := EW.out l[k]
      have q2 := EA.out l[k]
      obtain ⟨W3, R3, V3, B3⟩ := PUT.out wr HB.out.1 l[k]
      have F := FH.out k hkl HB.out.2
      have NX := Lib.hid (show l[k].own ≠ o → ∀ j (hj : j < l.length), j < k + 1 → l[j].own ≠ o from fun e j hj hjk => by
        by_cases q : j = k
        · subst q; exact e
        · exact HB.out.2 j hj (by omega))
      have HO := OW.out l[k]
      have BW := Lib.hid HB.out.1
      have R := Lib.hid R3
      have V := Lib.hid V3
      have B := Lib.hid B3
      obtain ⟨C, hC⟩ : ∃ C, (encA l[k]).toArray = C := ⟨_, rfl⟩
      have FF := Lib.hid (show l[k].own = o → (encA (findA l o)).toArray = C from fun e => by rw [F e, hC])
      rw [hC] at L R V
      unfold strV at c0 c1
      generalize strB l[k].who = P1 at *
      generalize strB l[k].asset = P2 at *
      clear hr hc HB hbl R3 V3 B3 F hC
      by_cases e1 : l[k].who = o.1
      · rw [decide_eq_true e1] at q1
        by_cases e2 : l[k].asset = o.2
        · rw [decide_eq_true e2] at q2
          have FE := FF.out (HO.2 ⟨e1, e2⟩)
          clear NX HO e1 e2
          go_wp2_with (first
            | ((with_reducible refine wpList_load_eq rfl 35 (.tmp 32) rfl _ ?_ L.out ?_); (next => rfl))
            | ((with_reducible refine wpList_store_eq rfl 35 (.tmp 6) (.tmp 33) rfl _ _ ?_ ?_ R.out ?_); (next => rfl); (next => rfl)))
          (try simp only [Exit.inBlock, Exit.then])
          refine bodyPost_ret (results_c rfl rfl V.out) rfl ?_
          exact ⟨by rw [FE], B.out⟩
        · rw [decide_eq_false e2] at q2
          have NB := Lib.hid (And.intro BW.out (NX.out (fun e => e2 (HO.1 e).2)))
          clear NX HO e1 e2 L R V FF
          go_wp2_with fail
          go_roundw
          case rel => exact ⟨k + 1, by go_num, by omega, NB⟩
          case measure => simp [intOf]; omega
      · rw [decide_eq_false e1] at q1
        have NB := Lib.hid (And.intro BW.out (NX.out (fun e => e1 (HO.1 e).1)))
        clear NX HO e1 L R V FF q2
        go_wp2_with fail
        go_roundw
        case rel => exact ⟨k + 1, by go_num, by omega, NB⟩
        case measure => simp [intOf]; omega
    · obtain rfl : k = n := by omega
      have FE := FN.out (fun x hx => by
        obtain ⟨j, hj, rfl⟩ := List.getElem_of_mem hx
        exact HB.out.2 j hj (by rw [← HL.out]; exact hj))
      obtain ⟨W3, R3, V3, B3⟩ := PUT.out wr HB.out.1 (zeroOf o)
      rw [Z.out] at R3 V3
      have R := Lib.hid R3
      have V := Lib.hid V3
      have B := Lib.hid B3
      have FZ := Lib.hid (show (encA (findA l o)).toArray = #[.string X, .string Y, .int .i64 0, .int .i64 0] from by rw [FE]; exact Z.out)
      clear HB R3 V3 B3 FE
      go_wp2_with ((with_reducible refine wpList_store_eq rfl 35 (.tmp 6) (.tmp 36) rfl _ _ ?_ ?_ R.out ?_); (next => rfl); (next => rfl))
      (try simp only [Exit.inBlock, Exit.then])
      refine bodyPost_ret (results_c rfl rfl V.out) rfl ?_
      exact ⟨by rw [FZ.out], B.out⟩
end Go.Proofs.Ytobpbbldgbgcdaa.Acc
namespace Go.Proofs.Ytobpbbldgbgcdaa.Acc
open Go.RowKit Go.Sort

set_option maxRecDepth 100000 in
set_option maxHeartbeats 4000000 in
theorem rTotal_any {A : Option Addr} {n c : Nat} {l : List Ac} {w : World} (h : AAt w A n c l) (hn : n ≤ 500) (asset : Bs) (hb : ∀ x ∈ l, -9223372036854775808 ≤ x.bal ∧ x.bal ≤ 9223372036854775807) :
    Calls Try.prog 21 #[.slice A n c, strV asset] w (fun e w' => e = .returned (.tuple #[.int .i64 (Coin.val (balsA l asset).sum), .int .i64 (Coin.err (balsA l asset).sum)]) ∧ Below w.heap.size w w') := by
  have HL := Lib.hid h.len
  have HR := Lib.hid h.row
  have HB0 := Lib.hid hb
  have EQ := Lib.hid (fun (x : Ac) => show ((strB x.asset).toList == (strB asset).toList) = decide (x.asset = asset) by rw [strB_list, strB_list]; rw [Bool.eq_iff_iff]; simp)
  clear h hb
  unfold strV
  generalize hY : strB asset = Y at *
  clear hY
  go_enter Try.func21, Try.ntmps21
  go_wp2_with fail
  go_loopw [6, 7] (fun v i wr => ∃ k : Nat, i = .int .i64 (k : Int) ∧ k ≤ n ∧ Hid (Below w.heap.size w wr ∧ Coin.Own wr w.heap.size v (balsA (l.take k) asset))) (fun _ i _ => n - (intOf i).toNat)
  case atStart => exact ⟨0, rfl, Nat.zero_le _, Lib.hid ⟨Below.refl _ _, rfl, .inl ⟨rfl, rfl⟩⟩⟩
  case round =>
    obtain ⟨k, rfl, hk, HB⟩ := hrel
    by_cases hlt : k < n
    · have hkl : k < l.length := by rw [HL.out]; exact hlt
      have hwr : IntKind.i64.wrap ((k : Int) + 1) = (k : Int) + 1 := IntWalk.i64_in _ (by omega)
      have t1 : (k : Int) < (n : Int) := by omega
      have t2 : (0 : Int) ≤ (k : Int) := by omega
      obtain ⟨b, off, rfl, hbl, hc⟩ := HR.out (by intro e; rw [e] at hkl; simp at hkl)
      obtain ⟨_, c1, c2, _⟩ := four (range_below (hc k hkl) HB.out.1 hbl)
      have hq := EQ.out l[k]
      have hle := bals_len (l.take k) asset
      rw [List.length_take] at hle
      have AP := append_amt wr w.heap.size u6 _ HB.out.2 l[k].bal (by omega) HB.out.1.size
      have HB1 := Lib.hid HB.out.1
      have HB2 := Lib.hid HB.out.2
      have NY := Lib.hid (fun he => bals_yes (l := l) (asset := asset) hkl he)
      have NN := Lib.hid (fun he => bals_no (l := l) (asset := asset) hkl he)
      unfold strV at c1
      generalize strB l[k].asset = X at *
      generalize l[k].bal = bb at *
      clear hbl hc HB hle
      by_cases he : l[k].asset = asset
      · rw [decide_eq_true he] at hq
        obtain ⟨v', W4, hrun, ho, hb4⟩ := AP
        have R := Lib.hid hrun
        have NB := Lib.hid (show Below w.heap.size w W4 ∧ Coin.Own W4 w.heap.size v' (balsA (l.take (k + 1)) asset) from ⟨HB1.out.trans hb4, by rw [NY.out he]; exact ho⟩)
        clear hrun ho hb4 NY NN he
        go_wp2_with ((with_reducible refine Coin.wpList_append_eq rfl (.tmp 21) (.tmp 27) 40 rfl ?_ ?_ R.out ?_); (next => rfl); (next => rfl))
        go_roundw
        case rel => exact ⟨k + 1, by go_num, by omega, NB⟩
        case measure => simp [intOf]; omega
      · rw [decide_eq_false he] at hq
        have NB := Lib.hid (show Below w.heap.size w wr ∧ Coin.Own wr w.heap.size u6 (balsA (l.take (k + 1)) asset) from ⟨HB1.out, by rw [NN.out he]; exact HB2.out⟩)
        clear AP NY NN he
        go_wp2_with fail
        go_roundw
        case rel => exact ⟨k + 1, by go_num, by omega, NB⟩
        case measure => simp [intOf]; omega
    · obtain rfl : k = n := by omega
      have e : l.take k = l := List.take_of_length_le (by rw [HL.out]; exact Nat.le_refl _)
      have ho := HB.out.2
      rw [e] at ho
      obtain ⟨A', c', e', hA, hrow⟩ := Coin.Own.row ho
      subst e'
      have B1 := Lib.hid HB.out.1
      have cS := Coin.ref_sum A' _ c' (balsA l asset) wr rfl (by have := bals_len l asset; have := HL.out; omega) hrow (fun z hz => by
        obtain ⟨x, hx, rfl⟩ := List.mem_map.1 hz
        exact HB0.out x (List.mem_filter.1 hx).1)
      obtain ⟨S1, h1⟩ : ∃ S1, Coin.val (balsA l asset).sum = S1 := ⟨_, rfl⟩
      obtain ⟨S2, h2⟩ : ∃ S2, Coin.err (balsA l asset).sum = S2 := ⟨_, rfl⟩
      rw [h1, h2] at cS
      have H1 := Lib.hid h1
      have H2 := Lib.hid h2
      clear h1 h2
      generalize (balsA l asset).length = m at *
      clear HB ho e hrow hA
      go_wp2_with (go_at_call 45; refine cS.mono ?_; rintro e w2 ⟨rfl, b2⟩)
      go_ret2
      rw [H1.out, H2.out]
      exact ⟨rfl, B1.out.trans (b2.mono B1.out.size)⟩
set_option maxRecDepth 100000 in
set_option maxHeartbeats 4000000 in
theorem rSum_any {A : Option Addr} {n c : Nat} {l : List Lg} {w : World} (hlen : l.length = n) (hrow : RowL w A l) (hn : n ≤ 500) (o : Own) (hb : ∀ x ∈ l, LgIn x) :
    Calls Try.prog 40 #[.slice A n c, strV o.1, strV o.2] w (fun e w' => e = .returned (.tuple #[.int .i64 (Coin.val (amtsOf l o).sum), .int .i64 (Coin.err (amtsOf l o).sum)]) ∧ Below w.heap.size w w') := by
  have HL := Lib.hid hlen
  have HR := Lib.hid hrow
  have HB0 := Lib.hid hb
  have EW := Lib.hid (fun (x : Lg) => show ((strB x.who).toList == (strB o.1).toList) = decide (x.who = o.1) by rw [strB_list, strB_list, Bool.eq_iff_iff]; simp)
  have EA := Lib.hid (fun (x : Lg) => show ((strB x.asset).toList == (strB o.2).toList) = decide (x.asset = o.2) by rw [strB_list, strB_list, Bool.eq_iff_iff]; simp)
  have OW := Lib.hid (fun (x : Lg) => show x.own = o ↔ x.who = o.1 ∧ x.asset = o.2 from by unfold Lg.own; exact ⟨fun e => by rw [← e]; exact ⟨rfl, rfl⟩, fun e => by rw [e.1, e.2]⟩)
  clear hlen hrow hb
  unfold strV
  generalize strB o.1 = X at *
  generalize strB o.2 = Y at *
  go_enter Try.func40, Try.ntmps40
  go_wp2_with fail
  go_loopw [8, 9] (fun v i wr => ∃ k : Nat, i = .int .i64 (k : Int) ∧ k ≤ n ∧ Hid (Below w.heap.size w wr ∧ Coin.Own wr w.heap.size v (amtsOf (l.take k) o))) (fun _ i _ => n - (intOf i).toNat)
  case atStart => exact ⟨0, rfl, Nat.zero_le _, Lib.hid ⟨Below.refl _ _, rfl, .inl ⟨rfl, rfl⟩⟩⟩
  case round =>
    obtain ⟨k, rfl, hk, HB⟩ := hrel
    by_cases hlt : k < n
    · have hkl : k < l.length := by rw [HL.out]; exact hlt
      have hwr : IntKind.i64.wrap ((k : Int) + 1) = (k : Int) + 1 := IntWalk.i64_in _ (by omega)
      have t1 : (k : Int) < (n : Int) := by omega
      have t2 : (0 : Int) ≤ (k : Int) := by omega
      obtain ⟨b, off, rfl, hbl, hc⟩ := HR.out (by intro e; rw [e] at hkl; simp at hkl)
      have hr := range_below (hc k hkl) HB.out.1 hbl
      have c0 : wr.cell? ⟨b, off + k * 3, none⟩ = some (strV l[k].who) := hr 0 _ rfl
      have c1 : wr.cell? ⟨b, off + k * 3 + 1, none⟩ = some (strV l[k].asset) := hr 1 _ rfl
      have c2 : wr.cell? ⟨b, off + k * 3 + 2, none⟩ = some (.int .i64 l[k].amt) := hr 2 _ rfl
      have q1 := EW.out l[k]
      have q2 := EA.out l[k]
      have hle := amts_len (l.take k) o
      rw [List.length_take] at hle
      have AP := append_amt wr w.heap.size u8 _ HB.out.2 l[k].amt (by omega) HB.out.1.size
      have HB1 := Lib.hid HB.out.1
      have HB2 := Lib.hid HB.out.2
      have NY := Lib.hid (fun he => amts_yes (l := l) (o := o) hkl he)
      have NN := Lib.hid (fun he => amts_no (l := l) (o := o) hkl he)
      have HO := OW.out l[k]
      unfold strV at c0 c1
      generalize strB l[k].who = P1 at *
      generalize strB l[k].asset = P2 at *
      generalize l[k].amt = bb at *
      clear hbl hc HB hle hr
      by_cases e1 : l[k].who = o.1
      · rw [decide_eq_true e1] at q1
        by_cases e2 : l[k].asset = o.2
        · rw [decide_eq_true e2] at q2
          obtain ⟨v', W4, hrun, ho, hb4⟩ := AP
          have R := Lib.hid hrun
          have NB := Lib.hid (show Below w.heap.size w W4 ∧ Coin.Own W4 w.heap.size v' (amtsOf (l.take (k + 1)) o) from ⟨HB1.out.trans hb4, by rw [NY.out (HO.2 ⟨e1, e2⟩)]; exact ho⟩)
          clear hrun ho hb4 NY NN e1 e2 HO
          go_wp2_with ((with_reducible refine Coin.wpList_append_eq rfl (.tmp 32) (.tmp 38) 40 rfl ?_ ?_ R.out ?_); (next => rfl); (next => rfl))
          go_roundw
          case rel => exact ⟨k + 1, by go_num, by omega, NB⟩
          case measure => simp [intOf]; omega
        · rw [decide_eq_false e2] at q2
          have NB := Lib.hid (show Below w.heap.size w wr ∧ Coin.Own wr w.heap.size u8 (amtsOf (l.take (k + 1)) o) from ⟨HB1.out, by rw [NN.out (fun e => e2 (HO.1 e).2)]; exact HB2.out⟩)
          clear AP NY NN e1 e2 HO
          go_wp2_with fail
          go_roundw
          case rel => exact ⟨k + 1, by go_num, by omega, NB⟩
          case measure => simp [intOf]; omega
      · rw [decide_eq_false e1] at q1
        have NB := Lib.hid (show Below w.heap.size w wr ∧ Coin.Own wr w.heap.size u8 (amtsOf (l.take (k + 1)) o) from ⟨HB1.out, by rw [NN.out (fun e => e1 (HO.1 e).1)]; exact HB2.out⟩)
        clear AP NY NN e1 HO q2
        go_wp2_with fail
        go_roundw
        case rel => exact ⟨k + 1, by go_num, by omega, NB⟩
        case measure => simp [intOf]; omega
    · obtain rfl : k = n := by omega
      have e : l.take k = l := List.take_of_length_le (by rw [HL.out]; exact Nat.le_refl _)
      have ho := HB.out.2
      rw [e] at ho
      obtain ⟨A', c', e', hA, hrow⟩ := Coin.Own.row ho
      subst e'
      have B1 := Lib.hid HB.out.1
      have cS := Coin.ref_sum A' _ c' (amtsOf l o) wr rfl (by have := amts_len l o; have := HL.out; omega) hrow (fun z hz => by
        obtain ⟨x, hx, rfl⟩ := List.mem_map.1 hz
        exact HB0.out x (List.mem_filter.1 hx).1)
      obtain ⟨S1, h1⟩ : ∃ S1, Coin.val (amtsOf l o).sum = S1 := ⟨_, rfl⟩
      obtain ⟨S2, h2⟩ : ∃ S2, Coin.err (amtsOf l o).sum = S2 := ⟨_, rfl⟩
      rw [h1, h2] at cS
      have H1 := Lib.hid h1
      have H2 := Lib.hid h2
      clear h1 h2
      generalize (amtsOf l o).length = m at *
      clear HB ho e hrow hA
      go_wp2_with (go_at_call 45; refine cS.mono ?_; rintro e w2 ⟨rfl, b2⟩)
      go_ret2
      rw [H1.out, H2.out]
      exact ⟨rfl, B1.out.trans (b2.mono B1.out.size)⟩
end Go.Proofs.Ytobpbbldgbgcdaa.Acc
