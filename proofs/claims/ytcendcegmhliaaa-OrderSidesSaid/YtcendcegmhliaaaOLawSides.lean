/-
  OrderSides: the walk.
-/
import Derived.Test.YtcendcegmhliaaaOAwake
import Derived.Test.YtcendcegmhliaaaOArgs
import Derived.Test.YtcendcegmhliaaaOFew
namespace Go.Proofs.Ytcendcegmhliaaa.Ord
open Go.RowKit Go.Sort _root_.Go.Proofs.Ytcendcegmhliaaa.Gnd

theorem soA {x y : Or} (h : aheadO true y x = false) : ¬ x.price < y.price ∧ (y.price = x.price → ¬ y.num < x.num) := by
  unfold aheadO at h
  simp only [if_true, Bool.or_eq_false_iff, Bool.and_eq_false_iff, decide_eq_false_iff_not] at h
  exact ⟨h.1, fun e => h.2.resolve_left (fun g => g e)⟩
theorem soB {x y : Or} (h : aheadO false y x = false) : ¬ y.price < x.price ∧ (y.price = x.price → ¬ y.num < x.num) := by
  unfold aheadO at h
  simp only [Bool.false_eq_true, if_false, Bool.or_eq_false_iff, Bool.and_eq_false_iff, decide_eq_false_iff_not] at h
  exact ⟨h.1, fun e => h.2.resolve_left (fun g => g e)⟩
def cntO (l : List Or) (mkt : Bs) : Nat := (l.filter (fun x => decide (x.mkt = mkt))).length
theorem cnt_step {l : List Or} {k : Nat} (hk : k < l.length) (mkt : Bs) : cntO (l.take (k + 1)) mkt = cntO (l.take k) mkt + (if l[k].mkt = mkt then 1 else 0) := by
  unfold cntO
  rw [List.take_succ_eq_append_getElem hk, List.filter_append, List.length_append]
  congr 1
  by_cases h : l[k].mkt = mkt
  · rw [if_pos h]; simp [h]
  · rw [if_neg h]; simp [h]
theorem cnt_le (l : List Or) (mkt : Bs) : cntO l mkt ≤ l.length := List.length_filter_le _ _
theorem cnt_sum (l : List Or) (mkt : Bs) : (l.filter (askB mkt true)).length + (l.filter (askB mkt false)).length = cntO l mkt := by
  unfold cntO
  induction l with
  | nil => rfl
  | cons x l ih =>
    simp only [List.filter_cons]
    unfold askB at *
    by_cases h : x.mkt = mkt
    · cases hb : x.buy <;> simp [h] at ih ⊢ <;> omega
    · simp [h] at ih ⊢; omega
theorem stab_all {b : Bool} {l l' : List Or} {mkt : Bs} (h : Stab b (l.filter (askB mkt b)) l') : ∀ x ∈ l', x.buy = b ∧ x.mkt = mkt := fun x hx => by
  have := (List.mem_filter.1 (h.perm.mem_iff.1 hx)).2
  unfold askB at this
  simp only [Bool.and_eq_true, decide_eq_true_eq, beq_iff_eq] at this
  exact ⟨this.2, this.1⟩
set_option maxRecDepth 100000 in
set_option maxHeartbeats 8000000 in
theorem sides_walk {A : Option Addr} {n c : Nat} {l : List Or} (w : World) (h : AAt w A n c l) (hn : n ≤ 9223372036854775807) (mkt : Bs) : Calls Try.prog 7 #[.slice A n c, strV mkt] w (fun e w' => e = .returned (.bool true) ∧ Below w.heap.size w w') := by
  have cA := awake_any w
  have CF := Lib.hid (show ∀ W, Below w.heap.size w W → _ from fun W hb => few_any (h.below hb) hn)
  have H := Lib.hid h
  have hm : (strB mkt).size = mkt.length := strB_size mkt
  have HLEN := Lib.hid h.len
  have CS := Lib.hid (show n ≤ 210 → ∀ W, Below w.heap.size w W → _ from fun h210 W hb => sides_any (h.below hb) (by omega) mkt)
  unfold strV at *
  clear h
  by_cases d1 : 100 < (strB mkt).size
  · have t1 : (100 : Int) < ((strB mkt).size : Int) := by omega
    generalize strB mkt = X at *
    clear CS hm d1
    go_enter Try.func7, Try.ntmps7
    go_wp2_with fail
    refine cA.mono ?_
    rintro e w1 ⟨rfl, b1⟩
    have cF := CF.out w1 b1
    go_wp2_with fail
    refine cF.mono ?_
    rintro e w2 ⟨r, rfl, _, b2⟩
    rcases r with _ | _
    all_goals
      go_wp2_with fail
      (try go_ret)
      exact ⟨rfl, b1.trans (b2.mono b1.size)⟩
  have t1 : ¬ (100 : Int) < ((strB mkt).size : Int) := by omega
  obtain ⟨X, hX⟩ : ∃ X, strB mkt = X := ⟨_, rfl⟩
  rw [hX] at t1 CS ⊢
  have HX := Lib.hid hX
  clear hX d1 hm
  go_enter Try.func7, Try.ntmps7
  go_wp2_with fail
  refine cA.mono ?_
  rintro e w1 ⟨rfl, b1⟩
  have cF := CF.out w1 b1
  have B1 := Lib.hid b1
  clear CF cA b1
  go_wp2_with fail
  refine cF.mono ?_
  rintro e w2 ⟨r, rfl, hf, b2⟩
  have B2 := Lib.hid (B1.out.trans (b2.mono B1.out.size))
  rcases r with _ | _
  · clear CS cF b2 hf
    go_wp2_with fail
    (try go_ret)
    exact ⟨rfl, B2.out⟩
  obtain ⟨f1, f2⟩ := hf rfl
  have hn2 : n ≤ 210 := by rw [← HLEN.out]; exact f1
  have cS := CS.out hn2 w2 B2.out
  have HN2 := Lib.hid hn2
  clear CS cF b2 f1 f2 hn2
  go_wp2_with fail
  refine cS.mono ?_
  rintro e w3 ⟨v1, l1, v2, l2, rfl, o1, o2, s1, s2, b3⟩
  have B3 := Lib.hid (B2.out.trans (b3.mono B2.out.size))
  obtain ⟨A6, c6, rfl, ha6, _⟩ := o1.at
  obtain ⟨A7, c7, rfl, ha7, _⟩ := o2.at
  have SUM := Lib.hid (show l1.length + l2.length = cntO l mkt by rw [s1.perm.length_eq, s2.perm.length_eq]; exact cnt_sum l mkt)
  have CNT := Lib.hid (show cntO l mkt ≤ 210 from Nat.le_trans (cnt_le l mkt) (by rw [HLEN.out]; exact HN2.out))
  have ALA := Lib.hid (stab_all s1)
  have ALB := Lib.hid (stab_all s2)
  have SOA := Lib.hid s1.sorted
  have SOB := Lib.hid s2.sorted
  have HRA := Lib.hid ha6.row
  have HRB := Lib.hid ha7.row
  obtain ⟨m6, hm6⟩ : ∃ m, l1.length = m := ⟨_, rfl⟩
  obtain ⟨m7, hm7⟩ : ∃ m, l2.length = m := ⟨_, rfl⟩
  rw [hm6, hm7] at SUM
  have HLA := Lib.hid hm6
  have HLB := Lib.hid hm7
  rw [hm6, hm7]
  have HMA := Lib.hid (show m6 ≤ 210 by have := SUM.out; have := CNT.out; omega)
  have HMB := Lib.hid (show m7 ≤ 210 by have := SUM.out; have := CNT.out; omega)
  have HRL := Lib.hid ((H.out.below B2.out).below b3).row
  clear cS o1 o2 s1 s2 ha6 ha7 hm6 hm7 b3 B2 B1 H t1
  go_wp2_with fail
  go_loopw [8, 9] (fun s i wr => ∃ k : Nat, s = .int .i64 ((cntO (l.take k) mkt : Nat) : Int) ∧ i = .int .i64 (k : Int) ∧ k ≤ n ∧ w3 = wr) (fun _ i _ => n - (intOf i).toNat)
  case atStart => exact ⟨0, rfl, rfl, Nat.zero_le _, rfl⟩
  case round =>
    obtain ⟨k, rfl, rfl, hk, rfl⟩ := hrel
    by_cases hlt : k < n
    · have hkl : k < l.length := by rw [HLEN.out]; exact hlt
      have hwr : IntKind.i64.wrap ((k : Int) + 1) = (k : Int) + 1 := IntWalk.i64_in _ (by have := HN2.out; omega)
      have t1 : (k : Int) < (n : Int) := by omega
      have t2 : (0 : Int) ≤ (k : Int) := by omega
      have t3 := cnt_step hkl mkt
      have t4 := cnt_le (l.take k) mkt
      have t5 : (l.take k).length ≤ k := by rw [List.length_take]; omega
      obtain ⟨s0, hs0⟩ : ∃ s0, cntO (l.take k) mkt = s0 := ⟨_, rfl⟩
      rw [hs0] at t3 t4 ⊢
      obtain ⟨b, off, rfl, hbl, hc⟩ := HRL.out (by intro e; rw [e] at hkl; simp at hkl)
      have rk2 := (row_six (hc k hkl)).2.2.1
      have hq : ((strB l[k].mkt).toList == X.toList) = decide (l[k].mkt = mkt) := by
        rw [← HX.out, strB_list, strB_list, Bool.eq_iff_iff, beq_iff_eq, decide_eq_true_eq]
      have hws : IntKind.i64.wrap ((s0 : Int) + 1) = (s0 : Int) + 1 := IntWalk.i64_in _ (by have := HN2.out; omega)
      unfold strV at rk2
      generalize strB l[k].mkt = Y at *
      by_cases he : l[k].mkt = mkt
      · rw [decide_eq_true he] at hq
        rw [if_pos he] at t3
        have T3 := Lib.hid t3
        clear hc hbl hkl hs0 t3 t4 t5 he
        go_wp2_with fail
        go_roundw
        case rel => exact ⟨k + 1, by rw [T3.out]; go_num, by go_num, by omega, trivial⟩
        case measure => simp [intOf]; omega
      · rw [decide_eq_false he] at hq
        rw [if_neg he] at t3
        have T3 := Lib.hid t3
        clear hc hbl hkl hs0 t3 t4 t5 he hws
        go_wp2_with fail
        go_roundw
        case rel => exact ⟨k + 1, by rw [T3.out]; go_num, by go_num, by omega, trivial⟩
        case measure => simp [intOf]; omega
    obtain rfl : k = n := by omega
    have hall : l.take k = l := List.take_of_length_le (by rw [HLEN.out]; exact Nat.le_refl _)
    rw [hall]
    obtain ⟨C0, hC0⟩ : ∃ C0, cntO l mkt = C0 := ⟨_, rfl⟩
    rw [hC0] at SUM CNT ⊢
    clear hall hlt hk hC0 HRL
    have HX0 := HX.out
    subst HX0
    go_wp2_with fail
    go_loopw [10] (fun i wr => ∃ k : Nat, i = .int .i64 (k : Int) ∧ k ≤ m6 ∧ Hid (Below w3.heap.size w3 wr)) (fun i _ => m6 - (intOf i).toNat)
    case atStart => exact ⟨0, rfl, Nat.zero_le _, Lib.hid (Below.refl _ _)⟩
    case round =>
      obtain ⟨k, rfl, hk, HB⟩ := hrel
      by_cases hlt : k < m6
      · have hkl : k < l1.length := by rw [HLA.out]; exact hlt
        have hwr : IntKind.i64.wrap ((k : Int) + 1) = (k : Int) + 1 := IntWalk.i64_in _ (by have := HMA.out; omega)
        have t1 : (k : Int) < (m6 : Int) := by omega
        have t2 : (0 : Int) ≤ (k : Int) := by omega
        obtain ⟨b, off, e, hbl, hc⟩ := HRA.out (by intro e; rw [e] at hkl; simp at hkl)
        subst e
        have B1 := Lib.hid (show ∀ q, Below w3.heap.size w3 (wr.drewN q) from fun q => HB.out.trans ((drewN_below wr q).mono HB.out.size))
        have rk := fun q => row_six (range_below (hc k hkl) (B1.out q) hbl)
        obtain ⟨a1, a2⟩ := ALA.out l1[k] (List.getElem_mem hkl)
        by_cases h0 : k = 0
        · have t4 : ¬ (0 : Int) < (k : Int) := by omega
          have t7 : decide ((0 : Int) < (k : Int)) = false := decide_eq_false t4
          have t8 : decide (0 < k) = false := decide_eq_false (by omega)
          have rk2 := fun q => (rk q).2.2.1
          have rk3 := fun q => (rk q).2.2.2.1
          rw [a1] at rk3
          rw [a2] at rk2
          unfold strV at rk2
          have k2 := rk2 0
          have k3 := rk3 0
          rw [show wr.drewN 0 = wr from rfl] at k2 k3
          generalize strB mkt = X at *
          clear rk rk2 rk3 hc hbl HB h0 a1 a2 hkl
          go_wp2_with fail
          go_quiet (fail)
          go_wp2_with fail
          go_roundw
          case rel => exact ⟨k + 1, by go_num, by omega, Lib.hid (B1.out _)⟩
          case measure => simp [intOf]; omega
        · obtain ⟨j, hj⟩ : ∃ j, k = j + 1 := ⟨k - 1, by omega⟩
          have t4 : (0 : Int) < (k : Int) := by omega
          have t7 : decide ((0 : Int) < (k : Int)) = true := decide_eq_true t4
          have t8 : decide (0 < k) = true := decide_eq_true (by omega)
          have t5 : (0 : Int) ≤ (j : Int) := by omega
          have t6 : (j : Int) < (m6 : Int) := by omega
          have hsub : IntKind.i64.wrap ((k : Int) - 1) = (j : Int) := by rw [IntWalk.i64_in _ (by have := HMA.out; omega)]; omega
          have hjl : j < l1.length := by omega
          have rj := fun q => row_six (range_below (hc j hjl) (B1.out q) hbl)
          have hs := List.pairwise_iff_getElem.1 SOA.out j k hjl hkl (by omega)
          obtain ⟨s1, s2⟩ := soA hs
          have rk0 := (rk 0).1
          have rk2 := (rk 0).2.2.1
          have rk3 := (rk 0).2.2.2.1
          have rk4 := (rk 0).2.2.2.2.1
          have rj0 := (rj 0).1
          have rj4 := (rj 0).2.2.2.2.1
          rw [show wr.drewN 0 = wr from rfl] at rk0 rk2 rk3 rk4 rj0 rj4
          rw [a1] at rk3
          rw [a2] at rk2
          unfold strV at rk2
          generalize strB mkt = X at *
          generalize l1[k].num = nk at *
          generalize l1[j].num = nj at *
          generalize l1[k].price = pk at *
          generalize l1[j].price = pj at *
          clear rk rj hc hbl HB h0 a1 a2 hkl hjl hs hj
          by_cases he : pk = pj
          · subst he
            have s3 := s2 rfl
            have s4 := decide_eq_false s1
            have s5 := decide_eq_false s3
            clear s2
            go_wp2_with fail
            go_quiet (fail)
            go_wp2_with fail
            go_roundw
            case rel => exact ⟨k + 1, by go_num, by omega, Lib.hid (B1.out _)⟩
            case measure => simp [intOf]; omega
          · have s3 : (pk == pj) = false := beq_eq_false_iff_ne.2 he
            have s4 := decide_eq_false s1
            clear s2 he s1
            go_wp2_with fail
            go_quiet (fail)
            go_wp2_with fail
            go_roundw
            case rel => exact ⟨k + 1, by go_num, by omega, Lib.hid (B1.out _)⟩
            case measure => simp [intOf]; omega
      · obtain rfl : m6 = k := by omega
        clear HRA
        go_wp2_with fail
        go_loopw [11] (fun i wr => ∃ k : Nat, i = .int .i64 (k : Int) ∧ k ≤ m7 ∧ Hid (Below w3.heap.size w3 wr)) (fun i _ => m7 - (intOf i).toNat)
        case atStart => exact ⟨0, rfl, Nat.zero_le _, HB⟩
        case round =>
          clear HB
          obtain ⟨k, rfl, hk, HB⟩ := hrel
          by_cases hlt : k < m7
          · have hkl : k < l2.length := by rw [HLB.out]; exact hlt
            have hwr : IntKind.i64.wrap ((k : Int) + 1) = (k : Int) + 1 := IntWalk.i64_in _ (by have := HMB.out; omega)
            have t1 : (k : Int) < (m7 : Int) := by omega
            have t2 : (0 : Int) ≤ (k : Int) := by omega
            obtain ⟨b, off, e, hbl, hc⟩ := HRB.out (by intro e; rw [e] at hkl; simp at hkl)
            subst e
            have B1 := Lib.hid (show ∀ q, Below w3.heap.size w3 (wr.drewN q) from fun q => HB.out.trans ((drewN_below wr q).mono HB.out.size))
            have rk := fun q => row_six (range_below (hc k hkl) (B1.out q) hbl)
            obtain ⟨a1, a2⟩ := ALB.out l2[k] (List.getElem_mem hkl)
            by_cases h0 : k = 0
            · have t4 : ¬ (0 : Int) < (k : Int) := by omega
              have t7 : decide ((0 : Int) < (k : Int)) = false := decide_eq_false t4
              have t8 : decide (0 < k) = false := decide_eq_false (by omega)
              have rk2 := fun q => (rk q).2.2.1
              have rk3 := fun q => (rk q).2.2.2.1
              rw [a1] at rk3
              rw [a2] at rk2
              unfold strV at rk2
              have k2 := rk2 0
              have k3 := rk3 0
              rw [show wr.drewN 0 = wr from rfl] at k2 k3
              generalize strB mkt = X at *
              clear rk rk2 rk3 hc hbl HB h0 a1 a2 hkl
              go_wp2_with fail
              go_quiet (fail)
              go_wp2_with fail
              go_roundw
              case rel => exact ⟨k + 1, by go_num, by omega, Lib.hid (B1.out _)⟩
              case measure => simp [intOf]; omega
            · obtain ⟨j, hj⟩ : ∃ j, k = j + 1 := ⟨k - 1, by omega⟩
              have t4 : (0 : Int) < (k : Int) := by omega
              have t7 : decide ((0 : Int) < (k : Int)) = true := decide_eq_true t4
              have t8 : decide (0 < k) = true := decide_eq_true (by omega)
              have t5 : (0 : Int) ≤ (j : Int) := by omega
              have t6 : (j : Int) < (m7 : Int) := by omega
              have hsub : IntKind.i64.wrap ((k : Int) - 1) = (j : Int) := by rw [IntWalk.i64_in _ (by have := HMB.out; omega)]; omega
              have hjl : j < l2.length := by omega
              have rj := fun q => row_six (range_below (hc j hjl) (B1.out q) hbl)
              have hs := List.pairwise_iff_getElem.1 SOB.out j k hjl hkl (by omega)
              obtain ⟨s1, s2⟩ := soB hs
              have rk0 := (rk 0).1
              have rk2 := (rk 0).2.2.1
              have rk3 := (rk 0).2.2.2.1
              have rk4 := (rk 0).2.2.2.2.1
              have rj0 := (rj 0).1
              have rj4 := (rj 0).2.2.2.2.1
              rw [show wr.drewN 0 = wr from rfl] at rk0 rk2 rk3 rk4 rj0 rj4
              rw [a1] at rk3
              rw [a2] at rk2
              unfold strV at rk2
              generalize strB mkt = X at *
              generalize l2[k].num = nk at *
              generalize l2[j].num = nj at *
              generalize l2[k].price = pk at *
              generalize l2[j].price = pj at *
              clear rk rj hc hbl HB h0 a1 a2 hkl hjl hs hj
              by_cases he : pk = pj
              · subst he
                have s3 := s2 rfl
                have s4 := decide_eq_false s1
                have s5 := decide_eq_false s3
                clear s2
                go_wp2_with fail
                go_quiet (fail)
                go_wp2_with fail
                go_roundw
                case rel => exact ⟨k + 1, by go_num, by omega, Lib.hid (B1.out _)⟩
                case measure => simp [intOf]; omega
              · have s3 : (pk == pj) = false := beq_eq_false_iff_ne.2 he
                have s4 := decide_eq_false s1
                clear s2 he s1
                go_wp2_with fail
                go_quiet (fail)
                go_wp2_with fail
                go_roundw
                case rel => exact ⟨k + 1, by go_num, by omega, Lib.hid (B1.out _)⟩
                case measure => simp [intOf]; omega
          · obtain rfl : k = m7 := by omega
            have hsum : IntKind.i64.wrap ((m6 : Int) + (k : Int)) = (C0 : Int) := by rw [IntWalk.i64_in _ (by have := HMA.out; have := HMB.out; omega)]; have := SUM.out; omega
            go_wp2_with fail
            (try go_ret)
            exact ⟨by simp, B3.out.trans (HB.out.mono B3.out.size)⟩
end Go.Proofs.Ytcendcegmhliaaa.Ord
