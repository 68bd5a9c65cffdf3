/-
  The document's own Side.
-/
import Derived.Test.YtcendcegmhliaaaORSide2
namespace Go.Proofs.Ytcendcegmhliaaa.Ord
open Go.RowKit Go.Sort _root_.Go.Proofs.Ytcendcegmhliaaa.Gnd

set_option maxRecDepth 100000 in
set_option maxHeartbeats 4000000 in
theorem rside_any {A : Option Addr} {n c : Nat} {l : List Or} {w : World} (h : AAt w A n c l) (hn : n ≤ 1000) (mkt : Bs) (buy : Bool) :
    Calls Try.prog 24 #[.slice A n c, strV mkt, .bool buy] w (fun e w' => ∃ v, e = .returned v ∧ OwnA w' w.heap.size v (rsideO mkt buy l) ∧ Below w.heap.size w w') := by
  have HL := Lib.hid h.len
  have HR := Lib.hid h.row
  clear h
  unfold strV
  go_enter Try.func24, Try.ntmps24
  go_wp2_with fail
  go_loopw [7, 8] (fun v i wr => ∃ k : Nat, i = .int .i64 (k : Int) ∧ k ≤ n ∧ Hid (Below w.heap.size w wr) ∧ Hid (OwnA wr w.heap.size v (rsideO mkt buy (l.take k)))) (fun _ i _ => n - (intOf i).toNat)
  case atStart => exact ⟨0, rfl, Nat.zero_le _, Lib.hid (Below.refl _ _), Lib.hid (OwnA.nil _ _)⟩
  case round =>
    obtain ⟨k, rfl, hk, HB, HO⟩ := hrel
    by_cases hlt : k < n
    · have hkl : k < l.length := by rw [HL.out]; exact hlt
      have hwr : IntKind.i64.wrap ((k : Int) + 1) = (k : Int) + 1 := IntWalk.i64_in _ (by omega)
      have t1 : (k : Int) < (n : Int) := by omega
      have t2 : (0 : Int) ≤ (k : Int) := by omega
      obtain ⟨b, off, rfl, hbl, hc⟩ := HR.out (by intro e; rw [e] at hkl; simp at hkl)
      have ST := Lib.hid (rside_step (mkt := mkt) (buy := buy) hkl)
      have hal := rside_len mkt buy (l.take k)
      rw [List.length_take] at hal
      have CX := Lib.hid (show ∀ W, Below w.heap.size w W → W.rangeAt b (off + k * 6) (encA l[k]) from fun W hW => range_below (hc k hkl) hW hbl)
      have hq : ((strB l[k].mkt).toList == (strB mkt).toList) = decide (l[k].mkt = mkt) := by
        rw [strB_list, strB_list, Bool.eq_iff_iff, beq_iff_eq, decide_eq_true_eq]
      have hs : askB mkt buy l[k] = (decide (l[k].mkt = mkt) && (l[k].buy == buy)) := rfl
      obtain ⟨x, hx⟩ : ∃ x, l[k] = x := ⟨_, rfl⟩
      obtain ⟨acc, hacc⟩ : ∃ acc, rsideO mkt buy (l.take k) = acc := ⟨_, rfl⟩
      obtain ⟨acc2, hacc2⟩ : ∃ acc2, rsideO mkt buy (l.take (k + 1)) = acc2 := ⟨_, rfl⟩
      rw [hx] at ST CX hq hs
      rw [hacc] at ST HO hal
      rw [hacc2] at ST
      have NX := Lib.hid hacc2
      obtain ⟨_, _, k2, k3, _, _⟩ := row_six (CX.out wr HB.out)
      unfold strV at k2
      have HS := Lib.hid hs
      generalize hrm : decide (x.mkt = mkt) = rm at hq HS
      generalize strB x.mkt = X2 at hq k2
      generalize x.buy = xb at k3 HS
      clear hs hrm hacc hacc2 hx hc
      have SKIP := Lib.hid (show askB mkt buy x = false → acc2 = acc from fun e => by rw [ST.out, e]; rfl)
      rcases rm with _ | _
      · have e := SKIP.out (by rw [HS.out]; rfl)
        subst e
        have hq2 : (X2.toList != (strB mkt).toList) = true := by rw [bne, hq]; rfl
        clear ST SKIP HS hkl hal
        go_wp2_with fail
        go_roundw
        case rel => exact ⟨k + 1, by go_num, by omega, HB, Lib.hid (by rw [NX.out]; exact HO.out)⟩
        case measure => simp [intOf]; omega
      · have hq2 : (X2.toList != (strB mkt).toList) = false := by rw [bne, hq]; rfl
        by_cases hxb : xb = buy
        rotate_left
        · have q3 : (!(xb == buy)) = true := by simpa using hxb
          have e := SKIP.out (by rw [HS.out]; simpa using hxb)
          subst e
          clear ST SKIP HS hkl hal
          go_wp2_with fail
          go_roundw
          case rel => exact ⟨k + 1, by go_num, by omega, HB, Lib.hid (by rw [NX.out]; exact HO.out)⟩
          case measure => simp [intOf]; omega
        · have INS : acc2 = rinsO acc x := by rw [ST.out, HS.out, hxb]; simp
          have q3 : (!(xb == buy)) = false := by simpa using hxb
          subst INS
          obtain ⟨A2, c2, hv, hAt, _⟩ := HO.out.at
          obtain ⟨m, hm⟩ : ∃ m, acc.length = m := ⟨_, rfl⟩
          rw [hm] at hv
          subst hv
          obtain ⟨p, hp⟩ : ∃ p, rposO acc x = p := ⟨_, rfl⟩
          have hpm := rpos_le acc x
          have LT := Lib.hid (show ∀ q (h : q < acc.length), q < p → rbet acc[q] x = true from fun q h hqp => rpos_lt (by rw [hp]; exact hqp) h)
          have GE := Lib.hid (show ∀ h : p < acc.length, rbet acc[p] x = false from fun h => by
            have := rpos_ge (acc := acc) (x := x) (by rw [hp]; exact h)
            simpa only [hp] using this)
          have RI := Lib.hid (show rinsO acc x = acc.take p ++ [x] ++ acc.drop p by unfold rinsO; rw [hp])
          rw [hp, hm] at hpm
          rw [hm] at hAt hal
          have HM := Lib.hid hm
          clear hp ST SKIP HS
          go_wp2_with fail
          clear k2 k3 hq hq2
          generalize wr = wo at *
          go_loopw [9, 10] (fun i _ w5 => ∃ q : Nat, i = .int .i64 (q : Int) ∧ q ≤ p ∧ Hid (Below wo.heap.size wo w5)) (fun i _ _ => p - (intOf i).toNat)
          case atStart => exact ⟨0, rfl, Nat.zero_le _, Lib.hid (Below.refl _ _)⟩
          case round =>
            obtain ⟨q, rfl, hqp, HC⟩ := hrel
            by_cases hql0 : q < p
            · have hql : q < acc.length := by rw [HM.out]; omega
              have hr := LT.out q hql hql0
              obtain ⟨g, og, e, hgl, hgc⟩ := hAt.row (by intro e; rw [e] at hql; simp at hql)
              have CY := Lib.hid (show ∀ W, Below wo.heap.size wo W → W.rangeAt g (og + q * 6) (encA acc[q]) from fun W hW => range_below (hgc q hql) hW hgl)
              generalize acc[q] = y at *
              subst e
              have cB := rbetter_any y x wr.drew
              rw [hr, show (encA x).toArray = #[.int .u64 x.num, .string (strB x.who), .string (strB x.mkt), .bool x.buy, .int .i64 x.price, .int .i64 x.left] from rfl, show (encA y).toArray = #[.int .u64 y.num, .string (strB y.who), .string (strB y.mkt), .bool y.buy, .int .i64 y.price, .int .i64 y.left] from rfl] at cB
              have KK := Lib.hid (show ∀ V, Below wr.heap.size wr V → (V.cell? ⟨b, off + k * 6, none⟩ = some (.int .u64 x.num) ∧ V.cell? ⟨b, off + k * 6 + 1, none⟩ = some (.string (strB x.who)) ∧ V.cell? ⟨b, off + k * 6 + 2, none⟩ = some (.string (strB x.mkt)) ∧ V.cell? ⟨b, off + k * 6 + 3, none⟩ = some (.bool x.buy) ∧ V.cell? ⟨b, off + k * 6 + 4, none⟩ = some (.int .i64 x.price) ∧ V.cell? ⟨b, off + k * 6 + 5, none⟩ = some (.int .i64 x.left)) ∧ (V.cell? ⟨g, og + q * 6, none⟩ = some (.int .u64 y.num) ∧ V.cell? ⟨g, og + q * 6 + 1, none⟩ = some (.string (strB y.who)) ∧ V.cell? ⟨g, og + q * 6 + 2, none⟩ = some (.string (strB y.mkt)) ∧ V.cell? ⟨g, og + q * 6 + 3, none⟩ = some (.bool y.buy) ∧ V.cell? ⟨g, og + q * 6 + 4, none⟩ = some (.int .i64 y.price) ∧ V.cell? ⟨g, og + q * 6 + 5, none⟩ = some (.int .i64 y.left)) from fun V hV => ⟨row_six (CX.out V (HB.out.trans ((HC.out.trans (hV.mono HC.out.size)).mono HB.out.size))), row_six (CY.out V (HC.out.trans (hV.mono HC.out.size)))⟩)
              have b5 := Below.refl wr.heap.size wr
              have t3 : (q : Int) < (m : Int) := by omega
              have t4 : (0 : Int) ≤ (q : Int) := by omega
              clear hr LT GE CX CY hgc hgl hql hAt HO
              go_wp2_with fail
              go_region_held3 (fun V => (V.cell? ⟨b, off + k * 6, none⟩ = some (.int .u64 x.num) ∧ V.cell? ⟨b, off + k * 6 + 1, none⟩ = some (.string (strB x.who)) ∧ V.cell? ⟨b, off + k * 6 + 2, none⟩ = some (.string (strB x.mkt)) ∧ V.cell? ⟨b, off + k * 6 + 3, none⟩ = some (.bool x.buy) ∧ V.cell? ⟨b, off + k * 6 + 4, none⟩ = some (.int .i64 x.price) ∧ V.cell? ⟨b, off + k * 6 + 5, none⟩ = some (.int .i64 x.left)) ∧ (V.cell? ⟨g, og + q * 6, none⟩ = some (.int .u64 y.num) ∧ V.cell? ⟨g, og + q * 6 + 1, none⟩ = some (.string (strB y.who)) ∧ V.cell? ⟨g, og + q * 6 + 2, none⟩ = some (.string (strB y.mkt)) ∧ V.cell? ⟨g, og + q * 6 + 3, none⟩ = some (.bool y.buy) ∧ V.cell? ⟨g, og + q * 6 + 4, none⟩ = some (.int .i64 y.price) ∧ V.cell? ⟨g, og + q * 6 + 5, none⟩ = some (.int .i64 y.left)))
                (with_reducible (first | exact KK.out _ b5.drew | exact K3.out))
                (first
                  | (go_at_call 44; (with_reducible refine cB.mono ?_); rintro e w6 ⟨rfl, b6⟩; have B6 := Lib.hid (b5.drew.trans (b6.mono b5.drew.size)); have K3 := Lib.hid (KK.out _ B6.out)))
              all_goals
                go_wp2_with fail
                go_roundw
                case rel => exact ⟨q + 1, by go_num, by omega, Lib.hid (HC.out.trans (B6.out.mono HC.out.size))⟩
                case measure => simp [intOf]; omega
            · obtain rfl : q = p := by omega
              by_cases hql2 : q < acc.length
              · have hql := hql2
                have hqm : q < m := by rw [← HM.out]; exact hql
                have hr := GE.out hql
                obtain ⟨g, og, e, hgl, hgc⟩ := hAt.row (by intro e; rw [e] at hql; simp at hql)
                have CY := Lib.hid (show ∀ W, Below wo.heap.size wo W → W.rangeAt g (og + q * 6) (encA acc[q]) from fun W hW => range_below (hgc q hql) hW hgl)
                generalize acc[q] = y at *
                subst e
                have cB := rbetter_any y x wr.drew
                rw [hr, show (encA x).toArray = #[.int .u64 x.num, .string (strB x.who), .string (strB x.mkt), .bool x.buy, .int .i64 x.price, .int .i64 x.left] from rfl, show (encA y).toArray = #[.int .u64 y.num, .string (strB y.who), .string (strB y.mkt), .bool y.buy, .int .i64 y.price, .int .i64 y.left] from rfl] at cB
                have KK := Lib.hid (show ∀ V, Below wr.heap.size wr V → (V.cell? ⟨b, off + k * 6, none⟩ = some (.int .u64 x.num) ∧ V.cell? ⟨b, off + k * 6 + 1, none⟩ = some (.string (strB x.who)) ∧ V.cell? ⟨b, off + k * 6 + 2, none⟩ = some (.string (strB x.mkt)) ∧ V.cell? ⟨b, off + k * 6 + 3, none⟩ = some (.bool x.buy) ∧ V.cell? ⟨b, off + k * 6 + 4, none⟩ = some (.int .i64 x.price) ∧ V.cell? ⟨b, off + k * 6 + 5, none⟩ = some (.int .i64 x.left)) ∧ (V.cell? ⟨g, og + q * 6, none⟩ = some (.int .u64 y.num) ∧ V.cell? ⟨g, og + q * 6 + 1, none⟩ = some (.string (strB y.who)) ∧ V.cell? ⟨g, og + q * 6 + 2, none⟩ = some (.string (strB y.mkt)) ∧ V.cell? ⟨g, og + q * 6 + 3, none⟩ = some (.bool y.buy) ∧ V.cell? ⟨g, og + q * 6 + 4, none⟩ = some (.int .i64 y.price) ∧ V.cell? ⟨g, og + q * 6 + 5, none⟩ = some (.int .i64 y.left)) from fun V hV => ⟨row_six (CX.out V (HB.out.trans ((HC.out.trans (hV.mono HC.out.size)).mono HB.out.size))), row_six (CY.out V (HC.out.trans (hV.mono HC.out.size)))⟩)
                have b5 := Below.refl wr.heap.size wr
                have t3 : (q : Int) < (m : Int) := by omega
                have t4 : (0 : Int) ≤ (q : Int) := by omega
                have u1 : decide (q < m) = true := decide_eq_true hqm
                clear hr LT GE CY hgc hgl hql hql2
                go_wp2_with fail
                go_region_held3 (fun V => (V.cell? ⟨b, off + k * 6, none⟩ = some (.int .u64 x.num) ∧ V.cell? ⟨b, off + k * 6 + 1, none⟩ = some (.string (strB x.who)) ∧ V.cell? ⟨b, off + k * 6 + 2, none⟩ = some (.string (strB x.mkt)) ∧ V.cell? ⟨b, off + k * 6 + 3, none⟩ = some (.bool x.buy) ∧ V.cell? ⟨b, off + k * 6 + 4, none⟩ = some (.int .i64 x.price) ∧ V.cell? ⟨b, off + k * 6 + 5, none⟩ = some (.int .i64 x.left)) ∧ (V.cell? ⟨g, og + q * 6, none⟩ = some (.int .u64 y.num) ∧ V.cell? ⟨g, og + q * 6 + 1, none⟩ = some (.string (strB y.who)) ∧ V.cell? ⟨g, og + q * 6 + 2, none⟩ = some (.string (strB y.mkt)) ∧ V.cell? ⟨g, og + q * 6 + 3, none⟩ = some (.bool y.buy) ∧ V.cell? ⟨g, og + q * 6 + 4, none⟩ = some (.int .i64 y.price) ∧ V.cell? ⟨g, og + q * 6 + 5, none⟩ = some (.int .i64 y.left)))
                  (with_reducible (first | exact KK.out _ b5.drew | exact K3.out))
                  (first
                    | (go_at_call 44; (with_reducible refine cB.mono ?_); rintro e w6 ⟨rfl, b6⟩; have B6 := Lib.hid (b5.drew.trans (b6.mono b5.drew.size)); have K3 := Lib.hid (KK.out _ B6.out)))
                all_goals
                  have GQ := Lib.hid (HC.out.trans (B6.out.mono HC.out.size))
                  clear KK K3 B6 b6 cB
                  go_wp2_with fail
                  have C0 := hAt.below GQ.out
                  have CC := Lib.hid (And.intro (chain1 C0 (k := q) hpm (by omega) x) (And.intro (chain2 C0 (k := q) hpm (by omega) x) (chain3 C0 (k := q) hpm (by omega) x)))
                  unfold AppR E0 EX at CC
                  rw [show (encA x).toArray = #[.int .u64 x.num, .string (strB x.who), .string (strB x.mkt), .bool x.buy, .int .i64 x.price, .int .i64 x.left] from rfl, ← RI.out] at CC
                  have s1 := fun W => acs_head (Option.some ⟨g, og, Option.none⟩) m c2 q (Nat.le_trans hpm hAt.cap) W
                  have s2 := fun W => acs_tail (Option.some ⟨g, og, Option.none⟩) m c2 q hpm W
                  have q1 : ¬ (q : Int) < 0 := by omega
                  have b0 := Below.refl w6.heap.size w6
                  have KK := Lib.hid (show ∀ V, Below w6.heap.size w6 V → (V.cell? ⟨b, off + k * 6, none⟩ = some (.int .u64 x.num) ∧ V.cell? ⟨b, off + k * 6 + 1, none⟩ = some (.string (strB x.who)) ∧ V.cell? ⟨b, off + k * 6 + 2, none⟩ = some (.string (strB x.mkt)) ∧ V.cell? ⟨b, off + k * 6 + 3, none⟩ = some (.bool x.buy) ∧ V.cell? ⟨b, off + k * 6 + 4, none⟩ = some (.int .i64 x.price) ∧ V.cell? ⟨b, off + k * 6 + 5, none⟩ = some (.int .i64 x.left)) from fun V hV => row_six (CX.out V (HB.out.trans ((GQ.out.trans (hV.mono GQ.out.size)).mono HB.out.size))))
                  have EN := Lib.hid (fun v V (o : OwnA V w6.heap.size v (rinsO acc x)) (b : Below w6.heap.size w6 V) => And.intro (Lib.hid (HB.out.trans ((GQ.out.trans (b.mono GQ.out.size)).mono HB.out.size))) (Lib.hid (show OwnA V w.heap.size v (rsideO mkt buy (l.take (k + 1))) by rw [NX.out]; exact o.down (Nat.le_trans HB.out.size GQ.out.size))))
                  obtain ⟨C1, C2, C3⟩ := CC.out
                  clear CC
                  obtain ⟨v11, V11, v12, V12, v13, V13, r11, r12, r13, o1, b11, b11x, b12, b13⟩ := C1
                  obtain ⟨v21, V21, v22, V22, v23, V23, r21, r22, r23, o2, b21, b22, b23⟩ := C2
                  obtain ⟨v31, V31, v32, V32, v33, V33, r31, r32, r33, o3, b31, b32, b33⟩ := C3
                  have R11 := Lib.hid r11
                  have R12 := Lib.hid r12
                  have R13 := Lib.hid r13
                  have R21 := Lib.hid r21
                  have R22 := Lib.hid r22
                  have R23 := Lib.hid r23
                  have R31 := Lib.hid r31
                  have R32 := Lib.hid r32
                  have R33 := Lib.hid r33
                  clear r11 r12 r13 r21 r22 r23 r31 r32 r33 C0 CX RI hAt HO GQ HB NX
                  have aE := b0.alloc (Nat.le_refl _) (.cells #[] 25)
                  have aX := b0.alloc (Nat.le_refl _) (.cells #[.int .u64 x.num, .string (strB x.who), .string (strB x.mkt), .bool x.buy, .int .i64 x.price, .int .i64 x.left] 25)
                  have aEX := aE.alloc aE.size (.cells #[.int .u64 x.num, .string (strB x.who), .string (strB x.mkt), .bool x.buy, .int .i64 x.price, .int .i64 x.left] 25)
                  have aXE := aX.alloc aX.size (.cells #[] 25)
                  go_wp2_with fail
                  go_region_held3 (fun V => V.cell? ⟨b, off + k * 6, none⟩ = some (.int .u64 x.num) ∧ V.cell? ⟨b, off + k * 6 + 1, none⟩ = some (.string (strB x.who)) ∧ V.cell? ⟨b, off + k * 6 + 2, none⟩ = some (.string (strB x.mkt)) ∧ V.cell? ⟨b, off + k * 6 + 3, none⟩ = some (.bool x.buy) ∧ V.cell? ⟨b, off + k * 6 + 4, none⟩ = some (.int .i64 x.price) ∧ V.cell? ⟨b, off + k * 6 + 5, none⟩ = some (.int .i64 x.left))
                    (with_reducible (first | exact KK.out _ b0.drew | exact KK.out _ aE.drew | exact KK.out _ aX.drew | exact KK.out _ aEX.drew | exact KK.out _ aXE.drew | exact KK.out _ b11 | exact KK.out _ b11x | exact KK.out _ b12 | exact KK.out _ b13 | exact KK.out _ b21 | exact KK.out _ b22 | exact KK.out _ b23 | exact KK.out _ b31 | exact KK.out _ b32 | exact KK.out _ b33))
                    (first
                      | ((with_reducible refine step_append2_eq ?_ (.tmp 50) (.tmp 53) _ _ ?_ ?_ ?_ R11.out ?_); (next => rfl); (next => rfl); (next => rfl); (next => rfl))
                      | ((with_reducible refine step_append2_eq ?_ (.tmp 50) (.tmp 53) _ _ ?_ ?_ ?_ R21.out ?_); (next => rfl); (next => rfl); (next => rfl); (next => rfl))
                      | ((with_reducible refine step_append2_eq ?_ (.tmp 50) (.tmp 53) _ _ ?_ ?_ ?_ R31.out ?_); (next => rfl); (next => rfl); (next => rfl); (next => rfl))
                      | ((with_reducible refine step_append2_eq ?_ (.tmp 54) (.tmp 59) _ _ ?_ ?_ ?_ R12.out ?_); (next => rfl); (next => rfl); (next => rfl); (next => rfl))
                      | ((with_reducible refine step_append2_eq ?_ (.tmp 54) (.tmp 59) _ _ ?_ ?_ ?_ R22.out ?_); (next => rfl); (next => rfl); (next => rfl); (next => rfl))
                      | ((with_reducible refine step_append2_eq ?_ (.tmp 54) (.tmp 59) _ _ ?_ ?_ ?_ R32.out ?_); (next => rfl); (next => rfl); (next => rfl); (next => rfl))
                      | ((with_reducible refine step_append2_eq ?_ (.tmp 60) (.tmp 63) _ _ ?_ ?_ ?_ R13.out ?_); (next => rfl); (next => rfl); (next => rfl); (next => rfl))
                      | ((with_reducible refine step_append2_eq ?_ (.tmp 60) (.tmp 63) _ _ ?_ ?_ ?_ R23.out ?_); (next => rfl); (next => rfl); (next => rfl); (next => rfl))
                      | ((with_reducible refine step_append2_eq ?_ (.tmp 60) (.tmp 63) _ _ ?_ ?_ ?_ R33.out ?_); (next => rfl); (next => rfl); (next => rfl); (next => rfl)))
                  all_goals
                    clear KK R11 R12 R13 R21 R22 R23 R31 R32 R33 aE aX aEX aXE
                    go_wp2_with fail
                    first
                      | (have EE := EN.out _ _ o1 b13; clear EN; go_roundw; (case rel => exact ⟨k + 1, by go_num, by omega, EE.1, EE.2⟩); (case measure => simp [intOf]; omega))
                      | (have EE := EN.out _ _ o2 b23; clear EN; go_roundw; (case rel => exact ⟨k + 1, by go_num, by omega, EE.1, EE.2⟩); (case measure => simp [intOf]; omega))
                      | (have EE := EN.out _ _ o3 b33; clear EN; go_roundw; (case rel => exact ⟨k + 1, by go_num, by omega, EE.1, EE.2⟩); (case measure => simp [intOf]; omega))
              · have u1 : decide (q < m) = false := decide_eq_false (by rw [← HM.out]; exact hql2)
                have u2 : ¬ (q : Int) < (m : Int) := by have := HM.out; omega
                have GQ := HC
                go_wp2_with fail
                have C0 := hAt.below GQ.out
                have CC := Lib.hid (And.intro (chain1 C0 (k := q) hpm (by omega) x) (And.intro (chain2 C0 (k := q) hpm (by omega) x) (chain3 C0 (k := q) hpm (by omega) x)))
                unfold AppR E0 EX at CC
                rw [show (encA x).toArray = #[.int .u64 x.num, .string (strB x.who), .string (strB x.mkt), .bool x.buy, .int .i64 x.price, .int .i64 x.left] from rfl, ← RI.out] at CC
                have s1 := fun W => acs_head A2 m c2 q (Nat.le_trans hpm hAt.cap) W
                have s2 := fun W => acs_tail A2 m c2 q hpm W
                have q1 : ¬ (q : Int) < 0 := by omega
                have b0 := Below.refl wr.heap.size wr
                have KK := Lib.hid (show ∀ V, Below wr.heap.size wr V → (V.cell? ⟨b, off + k * 6, none⟩ = some (.int .u64 x.num) ∧ V.cell? ⟨b, off + k * 6 + 1, none⟩ = some (.string (strB x.who)) ∧ V.cell? ⟨b, off + k * 6 + 2, none⟩ = some (.string (strB x.mkt)) ∧ V.cell? ⟨b, off + k * 6 + 3, none⟩ = some (.bool x.buy) ∧ V.cell? ⟨b, off + k * 6 + 4, none⟩ = some (.int .i64 x.price) ∧ V.cell? ⟨b, off + k * 6 + 5, none⟩ = some (.int .i64 x.left)) from fun V hV => row_six (CX.out V (HB.out.trans ((GQ.out.trans (hV.mono GQ.out.size)).mono HB.out.size))))
                have EN := Lib.hid (fun v V (o : OwnA V wr.heap.size v (rinsO acc x)) (b : Below wr.heap.size wr V) => And.intro (Lib.hid (HB.out.trans ((GQ.out.trans (b.mono GQ.out.size)).mono HB.out.size))) (Lib.hid (show OwnA V w.heap.size v (rsideO mkt buy (l.take (k + 1))) by rw [NX.out]; exact o.down (Nat.le_trans HB.out.size GQ.out.size))))
                obtain ⟨C1, C2, C3⟩ := CC.out
                clear CC
                obtain ⟨v11, V11, v12, V12, v13, V13, r11, r12, r13, o1, b11, b11x, b12, b13⟩ := C1
                obtain ⟨v21, V21, v22, V22, v23, V23, r21, r22, r23, o2, b21, b22, b23⟩ := C2
                obtain ⟨v31, V31, v32, V32, v33, V33, r31, r32, r33, o3, b31, b32, b33⟩ := C3
                have R11 := Lib.hid r11
                have R12 := Lib.hid r12
                have R13 := Lib.hid r13
                have R21 := Lib.hid r21
                have R22 := Lib.hid r22
                have R23 := Lib.hid r23
                have R31 := Lib.hid r31
                have R32 := Lib.hid r32
                have R33 := Lib.hid r33
                clear r11 r12 r13 r21 r22 r23 r31 r32 r33 C0 CX RI hAt HO GQ HB NX GE LT
                have aE := b0.alloc (Nat.le_refl _) (.cells #[] 25)
                have aX := b0.alloc (Nat.le_refl _) (.cells #[.int .u64 x.num, .string (strB x.who), .string (strB x.mkt), .bool x.buy, .int .i64 x.price, .int .i64 x.left] 25)
                have aEX := aE.alloc aE.size (.cells #[.int .u64 x.num, .string (strB x.who), .string (strB x.mkt), .bool x.buy, .int .i64 x.price, .int .i64 x.left] 25)
                have aXE := aX.alloc aX.size (.cells #[] 25)
                go_wp2_with fail
                go_region_held3 (fun V => V.cell? ⟨b, off + k * 6, none⟩ = some (.int .u64 x.num) ∧ V.cell? ⟨b, off + k * 6 + 1, none⟩ = some (.string (strB x.who)) ∧ V.cell? ⟨b, off + k * 6 + 2, none⟩ = some (.string (strB x.mkt)) ∧ V.cell? ⟨b, off + k * 6 + 3, none⟩ = some (.bool x.buy) ∧ V.cell? ⟨b, off + k * 6 + 4, none⟩ = some (.int .i64 x.price) ∧ V.cell? ⟨b, off + k * 6 + 5, none⟩ = some (.int .i64 x.left))
                  (with_reducible (first | exact KK.out _ b0.drew | exact KK.out _ aE.drew | exact KK.out _ aX.drew | exact KK.out _ aEX.drew | exact KK.out _ aXE.drew | exact KK.out _ b11 | exact KK.out _ b11x | exact KK.out _ b12 | exact KK.out _ b13 | exact KK.out _ b21 | exact KK.out _ b22 | exact KK.out _ b23 | exact KK.out _ b31 | exact KK.out _ b32 | exact KK.out _ b33))
                  (first
                    | ((with_reducible refine step_append2_eq ?_ (.tmp 50) (.tmp 53) _ _ ?_ ?_ ?_ R11.out ?_); (next => rfl); (next => rfl); (next => rfl); (next => rfl))
                    | ((with_reducible refine step_append2_eq ?_ (.tmp 50) (.tmp 53) _ _ ?_ ?_ ?_ R21.out ?_); (next => rfl); (next => rfl); (next => rfl); (next => rfl))
                    | ((with_reducible refine step_append2_eq ?_ (.tmp 50) (.tmp 53) _ _ ?_ ?_ ?_ R31.out ?_); (next => rfl); (next => rfl); (next => rfl); (next => rfl))
                    | ((with_reducible refine step_append2_eq ?_ (.tmp 54) (.tmp 59) _ _ ?_ ?_ ?_ R12.out ?_); (next => rfl); (next => rfl); (next => rfl); (next => rfl))
                    | ((with_reducible refine step_append2_eq ?_ (.tmp 54) (.tmp 59) _ _ ?_ ?_ ?_ R22.out ?_); (next => rfl); (next => rfl); (next => rfl); (next => rfl))
                    | ((with_reducible refine step_append2_eq ?_ (.tmp 54) (.tmp 59) _ _ ?_ ?_ ?_ R32.out ?_); (next => rfl); (next => rfl); (next => rfl); (next => rfl))
                    | ((with_reducible refine step_append2_eq ?_ (.tmp 60) (.tmp 63) _ _ ?_ ?_ ?_ R13.out ?_); (next => rfl); (next => rfl); (next => rfl); (next => rfl))
                    | ((with_reducible refine step_append2_eq ?_ (.tmp 60) (.tmp 63) _ _ ?_ ?_ ?_ R23.out ?_); (next => rfl); (next => rfl); (next => rfl); (next => rfl))
                    | ((with_reducible refine step_append2_eq ?_ (.tmp 60) (.tmp 63) _ _ ?_ ?_ ?_ R33.out ?_); (next => rfl); (next => rfl); (next => rfl); (next => rfl)))
                all_goals
                  clear KK R11 R12 R13 R21 R22 R23 R31 R32 R33 aE aX aEX aXE
                  go_wp2_with fail
                  first
                    | (have EE := EN.out _ _ o1 b13; clear EN; go_roundw; (case rel => exact ⟨k + 1, by go_num, by omega, EE.1, EE.2⟩); (case measure => simp [intOf]; omega))
                    | (have EE := EN.out _ _ o2 b23; clear EN; go_roundw; (case rel => exact ⟨k + 1, by go_num, by omega, EE.1, EE.2⟩); (case measure => simp [intOf]; omega))
                    | (have EE := EN.out _ _ o3 b33; clear EN; go_roundw; (case rel => exact ⟨k + 1, by go_num, by omega, EE.1, EE.2⟩); (case measure => simp [intOf]; omega))
    · obtain rfl : k = n := by omega
      have hll : l.take k = l := List.take_of_length_le (by rw [HL.out]; exact Nat.le_refl _)
      rw [hll] at HO
      go_wp2_with fail
      (try go_ret)
      exact ⟨_, rfl, HO.out, HB.out⟩
end Go.Proofs.Ytcendcegmhliaaa.Ord
