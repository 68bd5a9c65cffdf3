/-
  OrderDrops: the walk.
-/
import Derived.Test.YtcendcegmhliaaaOAwake
import Derived.Test.YtcendcegmhliaaaOArgs
import Derived.Test.YtcendcegmhliaaaOFew
import Derived.Test.YtcendcegmhliaaaORise
namespace Go.Proofs.Ytcendcegmhliaaa.Ord
open Go.RowKit Go.Sort _root_.Go.Proofs.Ytcendcegmhliaaa.Gnd

theorem mod_lt {t : Int} {m : Nat} (ht : 0 ≤ t) (hm : 0 < m) : ∃ k : Nat, t.tmod (m : Int) = (k : Int) ∧ k < m := by
  rw [Int.tmod_eq_emod_of_nonneg ht]
  have h1 := Int.emod_nonneg t (show (m : Int) ≠ 0 by omega)
  have h2 := Int.emod_lt_of_pos t (show (0 : Int) < (m : Int) by omega)
  obtain ⟨k, hk⟩ := Int.eq_ofNat_of_zero_le h1
  exact ⟨k, hk, by omega⟩
/-- What came of a Put of an order of the list's. -/
theorem puts_next {l a : List Or} {k : Nat} (hf : FewO l) (hk : k < l.length) (h : Puts (l.take k) a) : ((putO a l[k]).2 = 0 → Puts (l.take (k + 1)) (putO a l[k]).1) ∧ ((putO a l[k]).2 ≠ 0 → (putO a l[k]).2 = 130 ∧ Puts (l.take (k + 1)) a) := by
  rw [List.take_succ_eq_append_getElem hk]
  exact h.more l[k] (hf.2 _ (List.getElem_mem hk))
set_option maxRecDepth 100000 in
set_option maxHeartbeats 4000000 in
theorem drops_walk {A : Option Addr} {n c : Nat} {l : List Or} (w : World) (h : AAt w A n c l) (hn : n ≤ 9223372036854775807) (at0 : Int) (z0 : -9223372036854775808 ≤ at0) (z1 : at0 ≤ 9223372036854775807) : Calls Try.prog 9 #[.slice A n c, .int .i64 at0] w (fun e w' => e = .returned (.bool true) ∧ Below w.heap.size w w') := by
  have cA := awake_any w
  have CF := Lib.hid (show ∀ W, Below w.heap.size w W → _ from fun W hb => few_any (h.below hb) hn)
  have H := Lib.hid h
  have HLEN := Lib.hid h.len
  clear h
  go_enter Try.func9, Try.ntmps9
  go_wp2_with fail
  refine cA.mono ?_
  rintro e w1 ⟨rfl, b1⟩
  have cF := CF.out w1 b1
  have B1 := Lib.hid b1
  clear CF cA b1
  go_wp2_with fail
  refine cF.mono ?_
  rintro e w2 ⟨r, rfl, hf, b2⟩
  have B2 := Lib.hid (B1.out.trans (b2.mono B1.out.size))
  clear cF
  rcases r with _ | _
  · clear b2 hf
    go_wp2_with fail
    (try go_ret)
    exact ⟨rfl, B2.out⟩
  have HF := Lib.hid (hf rfl)
  clear hf
  by_cases d1 : 50 < n
  · have t1 : (50 : Int) < (n : Int) := by omega
    clear b2 d1
    go_wp2_with fail
    (try go_ret)
    exact ⟨rfl, B2.out⟩
  have t1 : ¬ (50 : Int) < (n : Int) := by omega
  have HN := Lib.hid (show n ≤ 50 by omega)
  have HR := Lib.hid (H.out.below B2.out).row
  clear b2 d1 H B1
  go_wp2_with fail
  go_loopw [6, 7] (fun v i wr => ∃ (k : Nat) (a : List Or), i = .int .i64 (k : Int) ∧ k ≤ n ∧ Hid (Below w2.heap.size w2 wr) ∧ Hid (OwnA wr w2.heap.size v a) ∧ Hid (Puts (l.take k) a)) (fun _ i _ => n - (intOf i).toNat)
  case atStart => exact ⟨0, [], rfl, Nat.zero_le _, Lib.hid (Below.refl _ _), Lib.hid (OwnA.nil _ _), Lib.hid Puts.nil⟩
  case round =>
    obtain ⟨k, a, rfl, hk, HB, HO, HP⟩ := hrel
    by_cases hlt : k < n
    · have hkl : k < l.length := by rw [HLEN.out]; exact hlt
      have hwr : IntKind.i64.wrap ((k : Int) + 1) = (k : Int) + 1 := IntWalk.i64_in _ (by have := HN.out; omega)
      have t2 : (k : Int) < (n : Int) := by omega
      have t3 : (0 : Int) ≤ (k : Int) := by omega
      obtain ⟨b, off, e, hbl, hc⟩ := HR.out (by intro e; rw [e] at hkl; simp at hkl)
      subst e
      have L := Lib.hid (load_ac (range_below (hc k hkl) HB.out hbl))
      obtain ⟨A6, c6, rfl, ha6, _⟩ := HO.out.at
      have hal : a.length ≤ 100000 := by
        have h1 := HP.out.len
        rw [List.length_take] at h1
        have := HN.out
        omega
      have cP := put_any ha6 hal l[k] (by have := HF.out.2 _ (List.getElem_mem hkl); omega) (by have := HF.out.2 _ (List.getElem_mem hkl); omega)
      obtain ⟨N1, N2⟩ := puts_next HF.out hkl HP.out
      have SZ := Lib.hid HB.out.size
      generalize hx : putO a l[k] = r at *
      obtain ⟨a', er⟩ := r
      obtain ⟨m6, hm6⟩ : ∃ m, a.length = m := ⟨_, rfl⟩
      rw [hm6] at cP HO ⊢
      generalize (encA l[k]).toArray = C at *
      by_cases he : er = 0
      · subst he
        have NX := Lib.hid (N1 rfl)
        clear N1 N2 hx hc hbl hkl ha6 hal hm6 HP
        go_wp2_with (first
          | ((with_reducible refine wpList_load_eq rfl 25 (.tmp 37) rfl _ ?_ L.out ?_); (next => rfl))
          | (go_at_call 18; refine cP.mono ?_; rintro e w5 ⟨v5, rfl, o5, b5⟩; have O5 := Lib.hid (o5.down SZ.out); have B5 := Lib.hid (HB.out.trans (b5.mono HB.out.size)); clear o5 b5))
        go_roundw
        case rel => exact ⟨k + 1, a', by go_num, by omega, B5, O5, NX⟩
        case measure => simp [intOf]; omega
      · obtain ⟨e1, NX0⟩ := N2 he
        have NX := Lib.hid NX0
        have e1 : er = 130 := e1
        subst e1
        clear N1 N2 hx hc hbl hkl ha6 hal NX0 he
        go_wp2_with (first
          | ((with_reducible refine wpList_load_eq rfl 25 (.tmp 37) rfl _ ?_ L.out ?_); (next => rfl))
          | (go_at_call 18; refine cP.mono ?_; rintro e w5 ⟨v5, rfl, o5, b5⟩; have O5 := Lib.hid (HO.out.below b5); have B5 := Lib.hid (HB.out.trans (b5.mono HB.out.size)); clear o5 b5))
        go_roundw
        case rel => exact ⟨k + 1, a, by go_num, by omega, B5, O5, NX⟩
        case measure => simp [intOf]; omega
    obtain rfl : k = n := by omega
    have hall : l.take k = l := List.take_of_length_le (by rw [HLEN.out]; exact Nat.le_refl _)
    rw [hall] at HP
    have HA := Lib.hid (show a.length ≤ 50 by have := HP.out.len; have := HLEN.out; have := HN.out; omega)
    have HRI := Lib.hid HP.out.rise
    clear hall hlt HP HR
    have key : ∃ T : Int, 0 ≤ T ∧ T ≤ 9223372036854775807 ∧ ((at0 < 0 ∧ IntKind.i64.wrap (-(IntKind.i64.wrap (at0 + 1))) = T) ∨ (¬ at0 < 0 ∧ at0 = T)) := by
      by_cases g : at0 < 0
      · refine ⟨-(at0 + 1), by omega, by omega, .inl ⟨g, ?_⟩⟩
        rw [IntWalk.i64_in (at0 + 1) (by omega), IntWalk.i64_in _ (by omega)]
      · exact ⟨at0, by omega, z1, .inr ⟨g, rfl⟩⟩
    obtain ⟨T, T0, T1, key⟩ := key
    rcases key with ⟨g, hT⟩ | ⟨g, rfl⟩
    have hT2 : IntKind.i64.wrap (at0 + 1) = at0 + 1 := IntWalk.i64_in _ (by omega)
    rw [hT2] at hT
    all_goals
      go_wp2_with fail
      go_loopw [6] (fun v wr => ∃ a : List Or, Hid (Below w2.heap.size w2 wr) ∧ Hid (OwnA wr w2.heap.size v a) ∧ Hid (Rise a ∧ a.length ≤ 50)) (fun v _ => lenV v)
      case atStart => exact ⟨a, HB, HO, Lib.hid ⟨HRI.out, HA.out⟩⟩
      case round =>
        clear HB HO HRI HA
        obtain ⟨a, HB, HO, HA⟩ := hrel
        obtain ⟨A6, c6, rfl, ha6, hbl6⟩ := HO.out.at
        obtain ⟨m6, hm6⟩ : ∃ m, a.length = m := ⟨_, rfl⟩
        rw [hm6] at HO ha6 ⊢
        by_cases hm : 0 < m6
        · obtain ⟨q, hq, hqm⟩ := mod_lt T0 hm
          have t2 : (0 : Int) < (m6 : Int) := by omega
          have t3 : ((m6 : Int) == 0) = false := beq_eq_false_iff_ne.2 (by omega)
          have t4 : (q : Int) < (m6 : Int) := by omega
          have t5 : (0 : Int) ≤ (q : Int) := by omega
          have hql : q < a.length := by rw [hm6]; exact hqm
          obtain ⟨b, off, e, hbl, hc⟩ := ha6.row (by intro e; rw [e] at hql; simp at hql)
          subst e
          have HM := Lib.hid (show m6 ≤ 50 by rw [← hm6]; exact HA.out.2)
          have cD := drop_any ha6 (by have := HM.out; omega) a[q].num
          rw [drop_rise HA.out.1 hql] at cD
          have CD2 := Lib.hid (show ∀ (W : World) (A7 : Option Addr) (n7 c7 : Nat), AAt W A7 n7 c7 (a.take q ++ a.drop (q + 1)) → Calls Try.prog 20 #[.slice A7 n7 c7, .int .u64 a[q].num] W (DropE ([], zeroO, 130) W) from fun W A7 n7 c7 ha => by
            have := drop_any ha (by have := cut_len a hql; have := ha.len; have := HM.out; omega) a[q].num
            rwa [drop_gone HA.out.1 hql] at this)
          have NXT := Lib.hid (show Rise (a.take q ++ a.drop (q + 1)) ∧ (a.take q ++ a.drop (q + 1)).length + 1 = m6 from ⟨rise_cut HA.out.1 q, by rw [← hm6]; exact cut_len a hql⟩)
          have RK := Lib.hid (show ∀ W, Below wr.heap.size wr W → W.rangeAt b (off + q * 6) (encA a[q]) from fun W hW => range_below (hc q hql) hW hbl)
          have k0 := (row_six (hc q hql)).1
          have hE := fun W => or_neq a[q] a[q] W
          rw [decide_eq_true (rfl : a[q] = a[q])] at hE
          have hg := or_grd
          have SZ := Lib.hid HB.out.size
          generalize a[q] = x at *
          generalize hA' : a.take q ++ a.drop (q + 1) = a' at *
          clear hc hbl hql hm6 ha6 hbl6 HO HA hqm hA'
          go_wp2_with fail
          refine cD.mono ?_
          rintro e w5 ⟨v5, rfl, o5, b5⟩
          have pw5 := put_or w5 x
          have at5 := at_new w5 (encA x).toArray 25
          have bx5 := below_box w5 (.cells (encA x).toArray 25)
          obtain ⟨W6, hW6⟩ : ∃ W6, w5.alloc (.cells (encA x).toArray 25) = W6 := ⟨_, rfl⟩
          rw [hW6] at pw5 at5 bx5
          have b6 := b5.trans (bx5.mono b5.size)
          have r6 := RK.out W6 b6
          have k6 := (row_six r6).1
          have o6 := o5.below bx5
          obtain ⟨A7, c7, rfl, ha7, _⟩ := o6.at
          have cD2 := CD2.out W6 A7 a'.length c7 ha7
          have O6 := Lib.hid (o6.down SZ.out)
          have B6 := Lib.hid b6
          have A5 := Lib.hid at5
          obtain ⟨m7, hm7⟩ : ∃ m, a'.length = m := ⟨_, rfl⟩
          rw [hm7] at cD2 NXT O6 ⊢
          have HM7 := Lib.hid hm7
          have P5 := Lib.hid pw5
          have HCX := Lib.hid (show (encA x).toArray = #[.int .u64 x.num, .string (strB x.who), .string (strB x.mkt), .bool x.buy, .int .i64 x.price, .int .i64 x.left] from rfl)
          rw [HCX.out] at P5 hE ⊢
          clear cD k0 b5 o5 pw5 at5 bx5 b6 r6 o6 ha7 CD2 hm7 hW6
          go_wp2_with (first
            | ((with_reducible refine wpList_store_eq rfl 25 (.tmp 12) (.tmp 66) rfl _ _ ?_ ?_ P5.out ?_); (next => rfl); (next => rfl))
            | fail)
          refine cD2.mono ?_
          rintro e w7 ⟨v7, rfl, _, b7⟩
          have pw7 := put_or w7 zeroO
          have bx7 := below_box w7 (.cells (encA zeroO).toArray 25)
          obtain ⟨W8, hW8⟩ : ∃ W8, w7.alloc (.cells (encA zeroO).toArray 25) = W8 := ⟨_, rfl⟩
          rw [hW8] at pw7 bx7
          have b8 := b7.trans (bx7.mono b7.size)
          have b8' := B6.out.trans (b8.mono B6.out.size)
          obtain ⟨i0, i1, i2, i3, i4, i5⟩ := row_six (RK.out W8 b8')
          obtain ⟨j0, j1, j2, j3, j4, j5⟩ := six (A5.out.below b8 A5.out.1)
          have B8 := Lib.hid (HB.out.trans (b8'.mono HB.out.size))
          have O8 := Lib.hid (O6.out.below b8)
          have P7 := Lib.hid pw7
          have hws : IntKind.i64.wrap ((m6 : Int) - 1) = (m7 : Int) := by rw [IntWalk.i64_in _ (by have := HM.out; omega)]; have := NXT.out.2; omega
          have ZC := zero_cells
          rw [ZC] at P7 ⊢
          unfold strV at *
          generalize strB x.who = X1 at *
          generalize strB x.mkt = Y1 at *
          generalize x.num = n1 at *
          generalize x.buy = bu1 at *
          generalize x.price = p1 at *
          generalize x.left = q1 at *
          clear cD2 k6 b7 bx7 b8 b8' pw7 RK A5 O6 P5 hW8 ZC HCX
          go_wp2_with (first
            | ((with_reducible refine wpList_store_eq rfl 25 (.tmp 15) (.tmp 77) rfl _ _ ?_ ?_ P7.out ?_); (next => rfl); (next => rfl))
            | fail)
          go_quiet (fail)
          go_wp2_with fail
          go_roundw
          case rel => exact ⟨a', Lib.hid (B8.out.trans ((drewN_below _ _).mono B8.out.size)), Lib.hid (O8.out.below (drewN_below _ _)), Lib.hid ⟨NXT.out.1, by have := NXT.out.2; have := HM.out; have := HM7.out; omega⟩⟩
          case measure => have := NXT.out.2; have := HM7.out; simp [lenV]; omega
        · obtain rfl : m6 = 0 := by omega
          have t2 : ¬ (0 : Int) < ((0 : Nat) : Int) := by omega
          go_wp2_with fail
          (try go_ret)
          exact ⟨rfl, B2.out.trans (HB.out.mono B2.out.size)⟩
end Go.Proofs.Ytcendcegmhliaaa.Ord
