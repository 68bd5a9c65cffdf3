/-
  OrderPuts: the walk.
-/
import Derived.Test.YtcendcegmhliaaaOLawDrops
namespace Go.Proofs.Ytcendcegmhliaaa.Ord
open Go.RowKit Go.Sort _root_.Go.Proofs.Ytcendcegmhliaaa.Gnd

theorem ins_get (a : List Or) (x : Or) : ∃ h : insAt a x.num < (insO a x).length, (insO a x)[insAt a x.num] = x := by
  have h1 := insAt_le a x.num
  refine ⟨by rw [ins_len]; omega, ?_⟩
  unfold insO
  rw [List.getElem_append_left (by simp; omega), List.getElem_append_right (by rw [List.length_take]; omega)]
  simp
theorem ins_drop {a : List Or} {x : Or} (hn : a.any (numB x.num) = false) : dropO (insO a x) x.num = (a, x, 0) := by
  have h1 := insAt_le a x.num
  obtain ⟨hk, hx⟩ := ins_get a x
  have hi : idxA (numB x.num) (insO a x) = (insAt a x.num : Int) := by
    refine idx_at hk (fun j hj hjk => ?_) (by rw [hx]; unfold numB; simp)
    have : (insO a x)[j] ∈ a := by
      have e : (insO a x)[j]? = a[j]? := by
        unfold insO
        rw [List.append_assoc, List.getElem?_append_left (by rw [List.length_take]; omega), List.getElem?_take_of_lt hjk]
      rw [List.getElem?_eq_getElem hj] at e
      exact List.mem_of_getElem? e.symm
    simpa using List.any_eq_false.1 hn _ this
  rw [drop_some hk hi, hx]
  have e : (insO a x).take (insAt a x.num) ++ (insO a x).drop (insAt a x.num + 1) = a := by
    have hl : (a.take (insAt a x.num)).length = insAt a x.num := by rw [List.length_take]; omega
    unfold insO
    rw [List.append_assoc, List.take_left' hl, show insAt a x.num + 1 = (a.take (insAt a x.num)).length + 1 by rw [hl], ← List.drop_drop, List.drop_left, List.singleton_append, List.drop_one, List.tail_cons, List.take_append_drop]
  rw [e]
theorem ins_dup {a : List Or} {x : Or} : putO (insO a x) x = ([], 130) := by
  unfold putO
  rw [if_pos]
  unfold badP
  rw [show (insO a x).any (numB x.num) = true from List.any_eq_true.2 ⟨x, by unfold insO; simp, by unfold numB; simp⟩]
  simp
theorem rev_put {a : List Or} (hr : Rise a) {j : Nat} (hj : j < a.length) (hf : fitO a[j] = true) (hl : a.length ≤ 50) : putO (a.drop (j + 1)) a[j] = (a.drop j, 0) := by
  have ne : ∀ y ∈ a.drop (j + 1), a[j].num < y.num := fun y hy => by
    obtain ⟨i, hi, rfl⟩ := List.getElem_of_mem hy
    rw [List.length_drop] at hi
    rw [List.getElem_drop]
    exact List.pairwise_iff_getElem.1 hr j (j + 1 + i) hj (by omega) (by omega)
  have hb : badP (a.drop (j + 1)) a[j] = false := by
    unfold badP
    rw [hf, decide_eq_false (show ¬ 200 ≤ (a.drop (j + 1)).length by rw [List.length_drop]; omega)]
    rw [show (a.drop (j + 1)).any (numB a[j].num) = false from List.any_eq_false.2 (fun y hy => by have := ne y hy; unfold numB; simp; omega)]
    rfl
  unfold putO
  rw [hb]
  have hi : insAt (a.drop (j + 1)) a[j].num = 0 := by
    rcases h0 : insAt (a.drop (j + 1)) a[j].num with _ | i
    · rfl
    · have hle := insAt_le (a.drop (j + 1)) a[j].num
      have h1 := ins_before (a := a.drop (j + 1)) a[j].num (j := 0) (by omega) (by omega)
      have h2 := ne _ (List.getElem_mem (show 0 < (a.drop (j + 1)).length by omega))
      omega
  simp only [Bool.false_eq_true, if_false]
  unfold insO
  rw [hi, List.take_zero, List.nil_append, List.drop_zero, List.singleton_append, ← List.drop_eq_getElem_cons hj]
set_option maxRecDepth 100000 in
set_option maxHeartbeats 8000000 in
theorem puts_walk {A : Option Addr} {n c : Nat} {l : List Or} (w : World) (h : AAt w A n c l) (hn : n ≤ 9223372036854775807) (o : Or) (g1 : o.who.length ≤ 200000000000000) (g2 : o.mkt.length ≤ 200000000000000) : Calls Try.prog 6 #[.slice A n c, .agg (encA o).toArray] w (fun e w' => e = .returned (.bool true) ∧ Below w.heap.size w w') := by
  have b1 := below_box w (.cells (encA o).toArray 25)
  have a1 := at_new w (encA o).toArray 25
  obtain ⟨W1, hW1⟩ : ∃ W1, w.alloc (.cells (encA o).toArray 25) = W1 := ⟨_, rfl⟩
  rw [hW1] at b1 a1
  have cA := awake_any W1
  have h1 := h.below b1
  have CF := Lib.hid (show ∀ W, Below W1.heap.size W1 W → _ from fun W hb => few_any (h1.below hb) hn)
  have AO := Lib.hid (show ∀ W, Below W1.heap.size W1 W → At W w.heap.size (encA o).toArray from fun W hb => a1.below hb a1.1)
  have LO := Lib.hid (show ∀ W, Below W1.heap.size W1 W → _ from fun W hb => load_or (a1.below hb a1.1))
  have H := Lib.hid h1
  have HLEN := Lib.hid h.len
  have FIN := Lib.hid (show ∀ W, Below W1.heap.size W1 W → Below w.heap.size w W from fun W hb => b1.trans (hb.mono b1.size))
  have CC := Lib.hid (fun W => check_any o W g1 g2)
  have HC := Lib.hid (show (encA o).toArray = #[.int .u64 o.num, .string (strB o.who), .string (strB o.mkt), .bool o.buy, .int .i64 o.price, .int .i64 o.left] from rfl)
  rw [HC.out] at hW1 LO ⊢
  clear h h1 a1 b1
  go_enter Try.func6, Try.ntmps6
  go_wp2_with fail
  refine cA.mono ?_
  rintro e w2 ⟨rfl, b2⟩
  have cF := CF.out w2 b2
  have B2 := Lib.hid b2
  clear CF cA b2 hW1
  go_wp2_with fail
  refine cF.mono ?_
  rintro e w3 ⟨r, rfl, hf, b3⟩
  have B3 := Lib.hid (B2.out.trans (b3.mono B2.out.size))
  clear cF
  rcases r with _ | _
  · clear b3 hf
    go_wp2_with fail
    (try go_ret)
    exact ⟨rfl, FIN.out _ B3.out⟩
  have HF := Lib.hid (hf rfl)
  clear hf
  by_cases d1 : 50 < n
  · have t1 : (50 : Int) < (n : Int) := by omega
    clear b3 d1
    go_wp2_with fail
    (try go_ret)
    exact ⟨rfl, FIN.out _ B3.out⟩
  have t1 : ¬ (50 : Int) < (n : Int) := by omega
  have HN := Lib.hid (show n ≤ 50 by omega)
  have cC := CC.out w3
  unfold CheckE checkO at cC
  rw [HC.out] at cC
  obtain ⟨k0, k1, k2, k3, k4, k5⟩ := six (AO.out w3 B3.out)
  rcases hfit : fitO o with _ | _
  · rw [hfit] at cC
    have L3 := LO.out w3 B3.out
    unfold strV at *
    generalize strB o.who = X at *
    generalize strB o.mkt = Y at *
    generalize o.num = y0 at *
    generalize o.buy = y3 at *
    generalize o.price = y4 at *
    generalize o.left = y5 at *
    clear b3 d1 HC LO AO CC L3 hfit
    go_wp2_with fail
    refine cC.mono ?_
    rintro e w4 ⟨rfl, g4⟩
    go_wp2_with fail
    (try go_ret)
    exact ⟨rfl, FIN.out _ (B3.out.trans (g4.below.mono B3.out.size))⟩
  rw [hfit] at cC
  have HFIT := Lib.hid hfit
  clear hfit
  by_cases d2 : 100 < (strB o.who).size
  · have t2 : (100 : Int) < ((strB o.who).size : Int) := by omega
    have AO2 := Lib.hid (show ∀ W, Below W1.heap.size W1 W → W.cell? ⟨w.heap.size, 1, none⟩ = some (strV o.who) from fun W hb => (six (AO.out W hb)).2.1)
    unfold strV at *
    generalize strB o.who = X at *
    generalize strB o.mkt = Y at *
    generalize o.num = y0 at *
    generalize o.buy = y3 at *
    generalize o.price = y4 at *
    generalize o.left = y5 at *
    clear b3 d1 HC LO AO CC d2
    go_wp2_with fail
    refine cC.mono ?_
    rintro e w4 ⟨rfl, g4⟩
    have b4 := B3.out.trans (g4.below.mono B3.out.size)
    have q1 := AO2.out w4 b4
    clear k0 k1 k2 k3 k4 k5
    go_wp2_with fail
    (try go_ret)
    exact ⟨rfl, FIN.out _ b4⟩
  have t2 : ¬ (100 : Int) < ((strB o.who).size : Int) := by omega
  have AO2 := Lib.hid (show ∀ W, Below W1.heap.size W1 W → W.cell? ⟨w.heap.size, 1, none⟩ = some (strV o.who) from fun W hb => (six (AO.out W hb)).2.1)
  have S0 := Lib.hid (show ∀ W, Below W1.heap.size W1 W → W.cell? ⟨w.heap.size, 0, none⟩ = some (.int .u64 o.num) ∧ W.cell? ⟨w.heap.size, 1, none⟩ = some (.string (strB o.who)) ∧ W.cell? ⟨w.heap.size, 2, none⟩ = some (.string (strB o.mkt)) ∧ W.cell? ⟨w.heap.size, 3, none⟩ = some (.bool o.buy) ∧ W.cell? ⟨w.heap.size, 4, none⟩ = some (.int .i64 o.price) ∧ W.cell? ⟨w.heap.size, 5, none⟩ = some (.int .i64 o.left) from fun W hb => six (AO.out W hb))
  have SIXB := Lib.hid (show ∀ W b, At W b (encA o).toArray → W.cell? ⟨b, 0, none⟩ = some (.int .u64 o.num) ∧ W.cell? ⟨b, 1, none⟩ = some (.string (strB o.who)) ∧ W.cell? ⟨b, 2, none⟩ = some (.string (strB o.mkt)) ∧ W.cell? ⟨b, 3, none⟩ = some (.bool o.buy) ∧ W.cell? ⟨b, 4, none⟩ = some (.int .i64 o.price) ∧ W.cell? ⟨b, 5, none⟩ = some (.int .i64 o.left) from fun W b h => six h)
  have CPO := Lib.hid (show ∀ (W : World) (A : Option Addr) (n c : Nat) (a : List Or), AAt W A n c a → n ≤ 100000 → Calls Try.prog 18 #[.slice A n c, .agg #[.int .u64 o.num, .string (strB o.who), .string (strB o.mkt), .bool o.buy, .int .i64 o.price, .int .i64 o.left]] W (AcsE (putO a o).1 (putO a o).2 W) from fun W A n c a ha hn => put_any ha hn o g1 g2)
  have PWO := Lib.hid (show ∀ W, (Instr.storeAt 25 (.pointer (some ⟨W.heap.size, 0, none⟩)) (.agg #[.int .u64 o.num, .string (strB o.who), .string (strB o.mkt), .bool o.buy, .int .i64 o.price, .int .i64 o.left])).run Try.prog (W.alloc (.cells #[.int .u64 0, .string ⟨#[]⟩, .string ⟨#[]⟩, .bool false, .int .i64 0, .int .i64 0] 25)) = .ok () (W.alloc (.cells (encA o).toArray 25)) from fun W => put_or W o)
  have EQ := Lib.hid (show ∀ W, (binOp .eql 25 (.agg #[.int .u64 o.num, .string (strB o.who), .string (strB o.mkt), .bool o.buy, .int .i64 o.price, .int .i64 o.left]) (.agg #[.int .u64 o.num, .string (strB o.who), .string (strB o.mkt), .bool o.buy, .int .i64 o.price, .int .i64 o.left])).run Try.prog W = .ok (.bool true) W from fun W => by have := or_eql o o W; rw [decide_eq_true (rfl : o = o)] at this; exact this)
  have SN := Lib.hid (show ∀ W, At (W.alloc (.cells (encA o).toArray 25)) W.heap.size (encA o).toArray from fun W => at_new W _ _)
  have CD := Lib.hid (show ∀ (W : World) (A : Option Addr) (n c : Nat) (a : List Or), AAt W A n c a → n ≤ 1000 → Calls Try.prog 20 #[.slice A n c, .int .u64 o.num] W (DropE (dropO a o.num) W) from fun W A n c a ha hn => drop_any ha hn o.num)
  unfold strV at *
  obtain ⟨C, hC⟩ : ∃ C, (encA o).toArray = C := ⟨_, rfl⟩
  generalize hX : strB o.who = X at *
  generalize hY : strB o.mkt = Y at *
  generalize hy0 : o.num = y0 at *
  generalize hy3 : o.buy = y3 at *
  generalize hy4 : o.price = y4 at *
  generalize hy5 : o.left = y5 at *
  have HY := Lib.hid (And.intro hX (And.intro hY (And.intro hy0 (And.intro hy3 (And.intro hy4 hy5)))))
  have HR := Lib.hid (H.out.below B3.out).row
  clear b3 d1 CC d2 hX hY hy0 hy3 hy4 hy5 H
  go_wp2_with fail
  refine cC.mono ?_
  rintro e w4 ⟨rfl, g4⟩
  have B4 := Lib.hid (B3.out.trans (g4.below.mono B3.out.size))
  have HR := Lib.hid (HR.out.below g4.below)
  have q1 := AO2.out w4 B4.out
  clear k0 k1 k2 k3 k4 k5 g4 cC B3 AO2
  go_wp2_with fail
  clear q1 t1 t2
  go_loopw [6, 8] (fun v i wr => ∃ (k : Nat) (a : List Or), i = .int .i64 (k : Int) ∧ k ≤ n ∧ Hid (Below w4.heap.size w4 wr) ∧ Hid (OwnA wr w4.heap.size v a) ∧ Hid (Puts (l.take k) a)) (fun _ i _ => n - (intOf i).toNat)
  case atStart => exact ⟨0, [], rfl, Nat.zero_le _, Lib.hid (Below.refl _ _), Lib.hid (OwnA.nil _ _), Lib.hid Puts.nil⟩
  case round =>
    obtain ⟨k, a, rfl, hk, HB, HO, HP⟩ := hrel
    by_cases hlt : k < n
    · have hkl : k < l.length := by rw [HLEN.out]; exact hlt
      have hwr : IntKind.i64.wrap ((k : Int) + 1) = (k : Int) + 1 := IntWalk.i64_in _ (by have := HN.out; omega)
      have t2 : (k : Int) < (n : Int) := by omega
      have t3 : (0 : Int) ≤ (k : Int) := by omega
      obtain ⟨b, off, e, hbl, hc⟩ := HR.out (by intro e; rw [e] at hkl; simp at hkl)
      subst e
      have L := Lib.hid (load_ac (range_below (hc k hkl) HB.out hbl))
      obtain ⟨A6, c6, rfl, ha6, _⟩ := HO.out.at
      have hal : a.length ≤ 100000 := by
        have h1 := HP.out.len
        rw [List.length_take] at h1
        have := HN.out
        omega
      have cP := put_any ha6 hal l[k] (by have := HF.out.2 _ (List.getElem_mem hkl); omega) (by have := HF.out.2 _ (List.getElem_mem hkl); omega)
      obtain ⟨N1, N2⟩ := puts_next HF.out hkl HP.out
      have SZ := Lib.hid HB.out.size
      generalize hx : putO a l[k] = r at *
      obtain ⟨a', er⟩ := r
      obtain ⟨m6, hm6⟩ : ∃ m, a.length = m := ⟨_, rfl⟩
      rw [hm6] at cP HO ⊢
      generalize (encA l[k]).toArray = C6 at *
      by_cases he : er = 0
      · subst he
        have NX := Lib.hid (N1 rfl)
        clear N1 N2 hx hc hbl hkl ha6 hal hm6 HP
        go_wp2_with (first
          | ((with_reducible refine wpList_load_eq rfl 25 (.tmp 57) rfl _ ?_ L.out ?_); (next => rfl))
          | (go_at_call 18; refine cP.mono ?_; rintro e w5 ⟨v5, rfl, o5, b5⟩; have O5 := Lib.hid (o5.down SZ.out); have B5 := Lib.hid (HB.out.trans (b5.mono HB.out.size)); clear o5 b5))
        go_roundw
        case rel => exact ⟨k + 1, a', by go_num, by omega, B5, O5, NX⟩
        case measure => simp [intOf]; omega
      · obtain ⟨e1, NX0⟩ := N2 he
        have NX := Lib.hid NX0
        have e1 : er = 130 := e1
        subst e1
        clear N1 N2 hx hc hbl hkl ha6 hal NX0 he
        go_wp2_with (first
          | ((with_reducible refine wpList_load_eq rfl 25 (.tmp 57) rfl _ ?_ L.out ?_); (next => rfl))
          | (go_at_call 18; refine cP.mono ?_; rintro e w5 ⟨v5, rfl, o5, b5⟩; have O5 := Lib.hid (HO.out.below b5); have B5 := Lib.hid (HB.out.trans (b5.mono HB.out.size)); clear o5 b5))
        go_roundw
        case rel => exact ⟨k + 1, a, by go_num, by omega, B5, O5, NX⟩
        case measure => simp [intOf]; omega
    obtain rfl : k = n := by omega
    have hall : l.take k = l := List.take_of_length_le (by rw [HLEN.out]; exact Nat.le_refl _)
    rw [hall] at HP
    have HA := Lib.hid (show a.length ≤ 50 by have := HP.out.len; have := HLEN.out; have := HN.out; omega)
    have HRI := Lib.hid HP.out.rise
    have HFT := Lib.hid HP.out.fit
    clear hall hlt HP HR
    obtain ⟨A6, c6, rfl, ha6, hb6⟩ := HO.out.at
    have HB4 := Lib.hid hb6
    obtain ⟨m6, hm6⟩ : ∃ m, a.length = m := ⟨_, rfl⟩
    rw [hm6] at HO ha6 HA ⊢
    have HM6 := Lib.hid hm6
    have H6 := Lib.hid ha6
    have B5 := Lib.hid (B4.out.trans (HB.out.mono B4.out.size))
    obtain ⟨w5, hw5⟩ : ∃ w5, w5 = wr := ⟨_, rfl⟩
    subst hw5
    clear ha6 hb6 hm6 HB
    go_wp2_with fail
    go_loopw [7, 11] (fun v i w6 => ∃ k : Nat, i = .int .i64 (k : Int) ∧ k ≤ m6 ∧ Hid (Below w5.heap.size w5 w6) ∧ Hid (OwnA w6 w5.heap.size v (a.drop (m6 - k)))) (fun _ i _ => m6 - (intOf i).toNat)
    case atStart => exact ⟨0, rfl, Nat.zero_le _, Lib.hid (Below.refl _ _), Lib.hid (by rw [Nat.sub_zero, ← HM6.out, List.drop_length]; exact OwnA.nil _ _)⟩
    case round =>
      obtain ⟨k2, rfl, hk2, HB, HO2⟩ := hrel
      by_cases hlt : k2 < m6
      · obtain ⟨j, hj⟩ : ∃ j, m6 - k2 = j + 1 := ⟨m6 - k2 - 1, by omega⟩
        rw [hj] at HO2
        have hjl : j < a.length := by rw [HM6.out]; omega
        have hkl : k2 < a.length := by rw [HM6.out]; exact hlt
        have hA50 := HA.out
        have hwr : IntKind.i64.wrap ((k2 : Int) + 1) = (k2 : Int) + 1 := IntWalk.i64_in _ (by omega)
        obtain ⟨p, hp⟩ : ∃ p : Nat, m6 - 1 = p := ⟨_, rfl⟩
        have hw1 : IntKind.i64.wrap ((m6 : Int) - 1) = (p : Int) := by rw [IntWalk.i64_in _ (by omega)]; omega
        have hw2 : IntKind.i64.wrap ((p : Int) - (k2 : Int)) = (j : Int) := by rw [IntWalk.i64_in _ (by omega)]; omega
        have t2 : (k2 : Int) < (m6 : Int) := by omega
        have t3 : (0 : Int) ≤ (k2 : Int) := by omega
        have t4 : (0 : Int) ≤ (j : Int) := by omega
        have t5 : (j : Int) < (m6 : Int) := by omega
        obtain ⟨b, off, e, hbl, hc⟩ := H6.out.row (by intro e; rw [e] at hjl; simp at hjl)
        subst e
        have L := Lib.hid (load_ac (range_below (hc j hjl) HB.out hbl))
        obtain ⟨A7, c7, rfl, ha7, _⟩ := HO2.out.at
        have hft := HFT.out _ (List.getElem_mem hjl)
        have cP := put_any ha7 (by rw [List.length_drop]; have := HM6.out; omega) a[j] (by omega) (by omega)
        rw [rev_put HRI.out hjl hft.1 (by rw [HM6.out]; exact hA50)] at cP
        have SZ := Lib.hid HB.out.size
        have RK := Lib.hid (show ∀ W, Below w5.heap.size w5 W → ∀ i (hi : i < a.length), W.cell? ⟨b, off + i * 6, none⟩ = some (.int .u64 a[i].num) from fun W hW i hi => (row_six (range_below (hc i hi) hW hbl)).1)
        have NXT := Lib.hid (show m6 - (k2 + 1) = j by omega)
        obtain ⟨m7, hm7⟩ : ∃ m, (a.drop (j + 1)).length = m := ⟨_, rfl⟩
        rw [hm7] at cP ⊢
        generalize (encA a[j]).toArray = C6 at *
        by_cases h0 : k2 = 0
        · have t6 : ¬ (0 : Int) < (k2 : Int) := by omega
          have t7 : decide ((0 : Int) < (k2 : Int)) = false := decide_eq_false t6
          have t8 : decide (0 < k2) = false := decide_eq_false (by omega)
          clear hc hbl hjl hkl ha7 hft hm7 HO2 hj hp h0 hA50 hlt RK
          go_wp2_with (first
            | ((with_reducible refine wpList_load_eq rfl 25 (.tmp 79) rfl _ ?_ L.out ?_); (next => rfl))
            | (go_at_call 18; refine cP.mono ?_; rintro e w7 ⟨v7, rfl, o7, b7⟩; have O7 := Lib.hid (o7.down SZ.out); have B7 := Lib.hid (HB.out.trans (b7.mono HB.out.size)); clear o7 b7 cP))
          go_quiet (fail)
          go_wp2_with fail
          go_roundw
          case rel => exact ⟨k2 + 1, by go_num, by omega, Lib.hid (B7.out.trans ((drewN_below _ _).mono B7.out.size)), Lib.hid (by rw [NXT.out]; exact O7.out.below (drewN_below _ _))⟩
          case measure => simp [intOf]; omega
        · obtain ⟨i2, hi2⟩ : ∃ i2, k2 = i2 + 1 := ⟨k2 - 1, by omega⟩
          have t6 : (0 : Int) < (k2 : Int) := by omega
          have t7 : decide ((0 : Int) < (k2 : Int)) = true := decide_eq_true t6
          have t8 : decide (0 < k2) = true := decide_eq_true (by omega)
          have t9 : (0 : Int) ≤ (i2 : Int) := by omega
          have t10 : (i2 : Int) < (m6 : Int) := by omega
          have hw3 : IntKind.i64.wrap ((k2 : Int) - 1) = (i2 : Int) := by rw [IntWalk.i64_in _ (by omega)]; omega
          have hil : i2 < a.length := by omega
          have hlt2 := List.pairwise_iff_getElem.1 HRI.out i2 k2 hil hkl (by omega)
          have t11 : decide (a[k2].num ≤ a[i2].num) = false := decide_eq_false (by omega)
          have RK1 := Lib.hid (show ∀ W, Below w5.heap.size w5 W → W.cell? ⟨b, off + k2 * 6, none⟩ = some (.int .u64 a[k2].num) ∧ W.cell? ⟨b, off + i2 * 6, none⟩ = some (.int .u64 a[i2].num) from fun W hW => ⟨RK.out W hW k2 hkl, RK.out W hW i2 hil⟩)
          generalize a[k2].num = nk at *
          generalize a[i2].num = ni at *
          clear hc hbl hjl hkl hil ha7 hft hm7 HO2 hj hp h0 hA50 hlt RK hi2 hlt2
          go_wp2_with (first
            | ((with_reducible refine wpList_load_eq rfl 25 (.tmp 79) rfl _ ?_ L.out ?_); (next => rfl))
            | (go_at_call 18; refine cP.mono ?_; rintro e w7 ⟨v7, rfl, o7, b7⟩; have O7 := Lib.hid (o7.down SZ.out); have B7 := Lib.hid (HB.out.trans (b7.mono HB.out.size)); obtain ⟨r1, r2⟩ := RK1.out w7 B7.out; clear o7 b7 cP))
          go_quiet (fail)
          go_wp2_with fail
          go_roundw
          case rel => exact ⟨k2 + 1, by go_num, by omega, Lib.hid (B7.out.trans ((drewN_below _ _).mono B7.out.size)), Lib.hid (by rw [NXT.out]; exact O7.out.below (drewN_below _ _))⟩
          case measure => simp [intOf]; omega
      obtain rfl : m6 = k2 := by omega
      rw [Nat.sub_self, List.drop_zero] at HO2
      have hA50 := HA.out
      obtain ⟨A7, c7, rfl, ha7, _⟩ := HO2.out.at
      rw [HM6.out] at ha7 ⊢
      have H6' := Lib.hid (H6.out.below HB.out)
      have cS := same_any H6'.out ha7 (by omega)
      have B6 := Lib.hid (B5.out.trans (HB.out.mono B5.out.size))
      clear ha7 HO2 hlt
      go_wp2_with fail
      refine cS.mono ?_
      rintro e w8 ⟨r, rfl, hr, b8⟩
      have hr : r = true := hr.2 (by first | rfl | trivial)
      subst hr
      have B8 := Lib.hid (B6.out.trans (b8.mono B6.out.size))
      have H8 := Lib.hid (H6'.out.below b8)
      obtain ⟨k0, k1, k2', k3, k4, k5⟩ := S0.out w8 B8.out
      have cP := CPO.out w8 _ _ _ _ H8.out (by omega)
      rcases hd : a.any (numB o.num) with _ | _
      · have hb : badP a o = false := by
          unfold badP
          rw [HFIT.out, decide_eq_false (show ¬ 200 ≤ a.length by rw [HM6.out]; omega), hd]; rfl
        have hp : putO a o = (insO a o, 0) := by unfold putO; rw [hb]; rfl
        rw [hp] at cP
        have hid := ins_drop hd
        have hdup := ins_dup (a := a) (x := o)
        have hil := ins_len a o
        rw [HM6.out] at hil
        clear hb hp hd b8 cS
        go_wp2_with fail
        refine cP.mono ?_
        rintro e w9 ⟨v9, rfl, o9, b9⟩
        have B9 := Lib.hid (B8.out.trans (b9.mono B8.out.size))
        have H9 := Lib.hid (H8.out.below b9)
        obtain ⟨A9, c9, rfl, ha9, _⟩ := o9.at
        obtain ⟨n9, hn9⟩ : ∃ n9, (insO a o).length = n9 := ⟨_, rfl⟩
        rw [hn9] at ha9 hil ⊢
        have cD := CD.out w9 _ _ _ _ ha9 (by omega)
        rw [show dropO (insO a o) y0 = (a, o, 0) by rw [← HY.out.2.2.1]; exact hid] at cD
        have HA9 := Lib.hid ha9
        have HN9 := Lib.hid (show n9 ≤ 51 by omega)
        obtain ⟨f0, _, _, _, _, _⟩ := S0.out w9 B9.out
        clear k0 k1 k2' k3 k4 k5 cP b9 o9 ha9 hn9 hid hil
        go_wp2_with fail
        refine cD.mono ?_
        rintro e w10 ⟨v10, rfl, o10, b10⟩
        have pw := PWO.out w10
        have sn := SN.out w10
        have bx := below_box w10 (.cells (encA o).toArray 25)
        obtain ⟨W11, hW11⟩ : ∃ W11, w10.alloc (.cells (encA o).toArray 25) = W11 := ⟨_, rfl⟩
        rw [hW11] at pw sn bx
        have b11 := b10.trans (bx.mono b10.size)
        have B11 := Lib.hid (B9.out.trans (b11.mono B9.out.size))
        have H11 := Lib.hid (H9.out.below b11)
        have HA11 := Lib.hid (HA9.out.below b11)
        have o11 := o10.below bx
        obtain ⟨A10, c10, rfl, ha10, _⟩ := o11.at
        rw [HM6.out] at ha10 ⊢
        have cS2 := same_any ha10 H11.out (by omega)
        have PW := Lib.hid pw
        have SNN := Lib.hid sn
        have hHC : (encA o).toArray = #[.int .u64 y0, .string X, .string Y, .bool y3, .int .i64 y4, .int .i64 y5] := HC.out
        rw [show (encA (a, o, (0 : Int)).2.1).toArray = #[.int .u64 y0, .string X, .string Y, .bool y3, .int .i64 y4, .int .i64 y5] from hHC]
        clear cD b10 bx b11 o10 o11 ha10 f0 pw sn hW11
        go_wp2_with (first
          | ((with_reducible refine wpList_store_eq rfl 25 (.tmp 21) (.tmp 140) rfl _ _ ?_ ?_ PW.out ?_); (next => rfl); (next => rfl))
          | fail)
        refine cS2.mono ?_
        rintro e w12 ⟨r, rfl, hr, b12⟩
        have hr : r = true := hr.2 (by first | rfl | trivial)
        subst hr
        have B12 := Lib.hid (B11.out.trans (b12.mono B11.out.size))
        have cP2 := CPO.out w12 _ _ _ _ (HA11.out.below b12) (by have := HN9.out; omega)
        rw [hdup] at cP2
        obtain ⟨k0, k1, k2', k3, k4, k5⟩ := S0.out w12 B12.out
        have S12 := Lib.hid (SNN.out.below b12 SNN.out.1)
        clear cS2 b12
        go_wp2_with fail
        refine cP2.mono ?_
        rintro e w13 ⟨v13, rfl, _, b13⟩
        have B13 := Lib.hid (B12.out.trans (b13.mono B12.out.size))
        clear k0 k1 k2' k3 k4 k5
        obtain ⟨k0, k1, k2', k3, k4, k5⟩ := S0.out w13 B13.out
        obtain ⟨m0, m1, m2, m3, m4, m5⟩ := SIXB.out _ _ (S12.out.below b13 S12.out.1)
        have hEQ := EQ.out
        have hg := or_grd2
        clear cP2 b13
        go_wp2_with fail
        (try go_ret)
        exact ⟨by first | rfl | simp, FIN.out _ B13.out⟩
      · have hp : putO a o = ([], 130) := by
          unfold putO badP
          rw [hd]; simp
        rw [hp] at cP
        have hdr : ∃ a' x, dropO a o.num = (a', x, 0) := by
          rcases idx_cases (numB o.num) a with ⟨_, g⟩ | ⟨k, hk, g, _, _⟩
          · obtain ⟨x, hx, hx2⟩ := List.any_eq_true.1 hd
            obtain ⟨j, hj, rfl⟩ := List.getElem_of_mem hx
            rw [g j hj] at hx2; cases hx2
          · exact ⟨_, _, drop_some hk g⟩
        obtain ⟨a', x, hdr⟩ := hdr
        clear hp hd b8 cS
        go_wp2_with fail
        refine cP.mono ?_
        rintro e w9 ⟨v9, rfl, _, b9⟩
        have B9 := Lib.hid (B8.out.trans (b9.mono B8.out.size))
        have H9 := Lib.hid (H8.out.below b9)
        have cD := CD.out w9 _ _ _ _ H9.out (by omega)
        rw [show dropO a y0 = (a', x, 0) by rw [← HY.out.2.2.1]; exact hdr] at cD
        obtain ⟨f0, _, _, _, _, _⟩ := S0.out w9 B9.out
        clear k0 k1 k2' k3 k4 k5 cP b9
        go_wp2_with fail
        refine cD.mono ?_
        rintro e w10 ⟨v10, rfl, _, b10⟩
        have pw := put_or w10 x
        have bx := below_box w10 (.cells (encA x).toArray 25)
        obtain ⟨W11, hW11⟩ : ∃ W11, w10.alloc (.cells (encA x).toArray 25) = W11 := ⟨_, rfl⟩
        rw [hW11] at pw bx
        have B11 := Lib.hid (B9.out.trans ((b10.trans (bx.mono b10.size)).mono B9.out.size))
        have PW := Lib.hid pw
        obtain ⟨Cx, hCx⟩ : ∃ Cx, (encA x).toArray = Cx := ⟨_, rfl⟩
        rw [show (encA (a', x, (0 : Int)).2.1).toArray = Cx from hCx]
        rw [hCx] at PW
        clear cD b10 bx pw hW11 f0 hCx
        go_wp2_with (first
          | ((with_reducible refine wpList_store_eq rfl 25 (.tmp 18) (.tmp 120) rfl _ _ ?_ ?_ PW.out ?_); (next => rfl); (next => rfl))
          | fail)
        (try go_ret)
        exact ⟨by first | rfl | simp, FIN.out _ B11.out⟩
end Go.Proofs.Ytcendcegmhliaaa.Ord
