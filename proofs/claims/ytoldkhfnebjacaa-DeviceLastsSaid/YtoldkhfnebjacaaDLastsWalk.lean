/-
  The walk of DeviceLasts.
-/
import Derived.Test.YtoldkhfnebjacaaDLastsFacts
namespace Go.Proofs.Ytoldkhfnebjacaa.Disk
open Go.RowKit Go.Maps Gen

theorem ints_elem : Elem Try.prog 33 3 intV :=
  ⟨Try.underlying33, ⟨_, _, 8, rfl, rfl, rfl, rfl, rfl, by omega⟩, fun _ => rfl⟩
/-- One more number, of a row of one that was just made. -/
theorem append_int (W : World) (B : Nat) (v : Value) (ys : List Int) (hown : OwnG W 3 intV B v ys) (x : Int) (hn : ys.length ≤ 1000000) (hB : B ≤ W.heap.size) :
    ∃ v' W', (Builtin.append_ #[33, 33] 33 #[v, .slice (some ⟨W.heap.size, 0, none⟩) 1 1]).run Try.prog (W.alloc (.cells #[.int .i64 x] 3)) = .ok v' W' ∧ OwnG W' 3 intV B v' (ys ++ [x]) ∧ Below B W W' := by
  have hb0 : Below W.heap.size W (W.alloc (.cells #[.int .i64 x] 3)) := (Below.refl _ _).alloc (Nat.le_refl _) _
  obtain ⟨v', W', h1, h2, h3, _⟩ := append_row ints_elem (W.alloc (.cells #[.int .i64 x] 3)) B v ys (hown.kept hb0) (some ⟨W.heap.size, 0, none⟩) 1 1 [x] rfl (fun h => by cases h) (fun _ => ⟨W.heap.size, 0, rfl, by simp, fun k hk => by
    obtain rfl : k = 0 := by simp at hk; exact hk
    rw [Nat.zero_add, cell_of_row _ _ 0 _ _ _ (heap_alloc_last W _)]; rfl⟩) (by simp; omega) (by simp; omega)
  exact ⟨v', W', h1, h2, (hb0.mono hB).grown h3 (by simp; omega) (fun k hk => (World.ownsRow.lt hown k hk).1)⟩
/-- At the head of each round of the writes. -/
def MoreRel (w0 : World) (sb bl bc n : Nat) (L : Int → Option Bs) (v : Value) (l : List (Int × Bs)) (i : Value) (wr : World) : Prop := ∃ k : Nat, k ≤ n ∧ i = .int .i64 (k : Int) ∧ ∃ s, On w0 wr sb bl bc s ∧ Calm L s ∧ Kepts wr v l
/-- .. of the numbers. -/
def AllRel (w1 : World) (l : List (Int × Bs)) (v i : Value) (wr : World) : Prop := ∃ k : Nat, k ≤ l.length ∧ i = .int .i64 (k : Int) ∧ OwnG wr 3 intV w1.heap.size v ((l.take k).map (·.1)) ∧ Below w1.heap.size w1 wr
/-- .. of the reads. -/
def ReadRel (w1 : World) (n : Nat) (i : Value) (wr : World) : Prop := ∃ k : Nat, k ≤ n ∧ i = .int .i64 (k : Int) ∧ Below w1.heap.size w1 wr
theorem own_nil {w : World} : OwnG w 3 intV w.heap.size (.slice none 0 0) [] := OwnG.nil w _ _ _
set_option maxRecDepth 100000 in
set_option maxHeartbeats 16000000 in
theorem lasts_core (A B C : Option Addr) (n m q c d f : Nat) (l1 l2 : List CallD) (ks : List Int) (tn cut : Int) (w : World) (hl1 : l1.length = n) (hl2 : l2.length = m) (hks : ks.length = q) (hq : q ≤ 500)
    (hS1 : Script w A l1) (hS2 : Script w B l2) (hK : IRow w C ks) (hkb : ∀ x ∈ ks, -9223372036854775808 ≤ x ∧ x ≤ 9223372036854775807) (ht0 : -9223372036854775808 ≤ tn) (ht1 : tn ≤ 9223372036854775807) :
    Calls Try.prog 5 #[.slice A n c, .slice B m d, .slice C q f, .int .i64 tn, .int .i64 cut] w fun e w' => e = .returned (.bool true) ∧ Below w.heap.size w w' := by
  have bq : decide (500 < (q : Int)) = false := by simp; omega
  have HL1 := Lib.hid hl1
  have HL2 := Lib.hid hl2
  have HKS := Lib.hid hks
  have HS1 := Lib.hid hS1
  have HS2 := Lib.hid hS2
  have HK := Lib.hid hK
  have HKB := Lib.hid hkb
  clear hl1 hl2 hks hS1 hS2 hK hkb
  go_enter Try.func5, Try.ntmps5
  go_wp2_with fail
  refine (awake_any w).mono ?_
  rintro e w1 ⟨rfl, bb1⟩
  go_wp2_with fail
  refine (new_on bb1 8 (by omega) (by omega)).mono ?_
  rintro e w2 ⟨sb, bl, bc, rfl, o2, _⟩
  have O2 := Lib.hid o2
  clear o2 bb1
  go_wp2_with fail
  refine (done_on w w2 sb bl bc 8 _ O2.out rfl A n c l1 HL1.out HS1.out).mono ?_
  rintro e w3 ⟨rfl, s0, o3, n3⟩
  have O3 := Lib.hid o3
  have N3 := Lib.hid n3
  clear o3 n3 O2
  go_wp2_with fail
  refine (O3.out.restart0 (-1) 0 (by omega) (by omega)).mono ?_
  rintro e w4 ⟨rfl, o4, _⟩
  have hc := reset_calm N3.out (by
    cases e : s0.C (-1) with
    | none => rfl
    | some l => have := (O3.out.dev.cache.fit _ _ e).1; omega)
  have O4 := Lib.hid o4
  have C4 := Lib.hid hc.1
  clear o4 hc O3 N3
  generalize s0.restart [] (-1) 0 = s1 at *
  generalize s0.L = L0 at *
  go_wp2_with fail
  refine O4.out.lasting.mono ?_
  rintro e w5 ⟨v5, rfl, k5, o5, _⟩
  have K5 := Lib.hid k5
  have O5 := Lib.hid o5
  have HL5 := Lib.hid C4.out.lasts
  clear k5 o5 O4
  rw [HL5.out] at K5
  go_wp2_with fail
  go_loopw [15] (fun i wr => MoreRel w sb bl bc m L0 v5 (listOf 8 L0) i wr) (fun i _ => m - (intOf i).toNat)
  case atStart => exact ⟨0, Nat.zero_le _, rfl, s1, O5.out, C4.out, K5.out⟩
  case round =>
    clear O5 C4 K5 HL5
    obtain ⟨k, hk, rfl, s, o, cm, kp⟩ := hrel
    have O := Lib.hid o
    have CM := Lib.hid cm
    have KP := Lib.hid kp
    clear o cm kp
    by_cases hlt : k < m ∧ k < 50
    · obtain ⟨hlt, h50⟩ := hlt
      have hlk : k < l2.length := by have := HL2.out; omega
      obtain ⟨b, off, A1, c1, A2, c2, rfl, hb, hat, hrows, hok⟩ := HS2.out.at_ hlk
      have hat2 := hat.below hb O.out.below
      clear hat
      have HRW := Lib.hid hrows
      obtain ⟨h0, h1, h2, _, _, _⟩ := hat2
      clear hrows hok hb
      generalize l2[k] = dd at *
      clear hlk
      obtain ⟨kd, nn, bs, ks', cut', y⟩ := dd
      simp only at h0 h1 h2
      obtain ⟨m1, hm1⟩ : ∃ m, bs.length = m := ⟨_, rfl⟩
      rw [hm1] at h2
      have HM1 := Lib.hid hm1
      have b50 : decide ((k : Int) < 50) = true := by simp; omega
      clear hm1
      by_cases e2 : kd = 2
      · subst e2
        by_cases hm : m1 ≤ 1024
        · have bm : decide ((m1 : Int) ≤ 1024) = true := by simp; omega
          go_wp2_with fail
          refine region_tail 11 (by kernel_rfl) (by kernel_rfl) ?_
          intro w6 hw6
          simp only [List.take_succ_cons, List.take_zero, List.drop_succ_cons, List.drop_zero]
          have D6 : Drew wr w6 := by rw [hw6]; exact (Drew.refl _).drew
          rw [← D6.cell] at h1 h2
          have O6 := Lib.hid (O.out.grow (D6.below _))
          have KP6 := Lib.hid (KP.out.below (D6.below _))
          clear D6 hw6 O KP h0
          repeat still_step
          refine wpStill_nil ?_
          clear h1 h2
          go_wp2_with fail
          refine (O6.out.write0 nn A1 m1 c1 bs HM1.out HRW.out.rb).mono ?_
          rintro e w7 ⟨rfl, o7, m7⟩
          have O7 := Lib.hid o7
          have KP7 := Lib.hid (KP6.out.mod O6.out.dev m7)
          have CM7 := Lib.hid (CM.out.write nn bs)
          clear o7 O6 KP6 CM m7
          go_wp2_with fail
          go_roundw
          case rel => exact ⟨k + 1, hlt, by go_num, _, O7.out, CM7.out, KP7.out⟩
          case measure => simp [intOf]; omega
        · have bm : decide ((m1 : Int) ≤ 1024) = false := by simp; omega
          go_wp2_with fail
          go_roundw
          case rel => exact ⟨k + 1, hlt, by go_num, _, O.out, CM.out, KP.out⟩
          case measure => simp [intOf]; omega
      · have b2 : (kd == 2) = false := by simpa using e2
        go_wp2_with fail
        go_roundw
        case rel => exact ⟨k + 1, hlt, by go_num, _, O.out, CM.out, KP.out⟩
        case measure => simp [intOf]; omega
    · have hx : (k < m ∧ ¬ k < 50) ∨ ¬ k < m := by omega
      clear HS1 HS2 HL1 HL2 hlt
      have HLAS := Lib.hid CM.out.lasts
      have hx2 : (k < m ∧ decide ((k : Int) < 50) = false) ∨ ¬ k < m := hx.imp (fun h => ⟨h.1, by simp; omega⟩) id
      clear hx
      rcases hx2 with ⟨hx, hx'⟩ | hx
      all_goals
        go_wp2_with fail
        refine O.out.cached.mono ?_
        rintro e w6 ⟨v6, rfl, k6, o6, b6⟩
        have K6 := Lib.hid k6
        have O6 := Lib.hid o6
        have KP6 := Lib.hid (KP.out.below b6)
        obtain ⟨hg9, hkb6, hn6, hN9⟩ := all_facts CM.out o6.dev tn cut
        have HG9 := Lib.hid hg9
        have HKB6 := Lib.hid hkb6
        have HN9 := Lib.hid hN9
        clear hg9 hkb6 hN9
        clear k6 o6 b6 O KP hx
        obtain ⟨A6, c6, rfl, ek6⟩ := K6.out
        have EK6 := Lib.hid ek6.2.2.2
        clear ek6
        generalize h9 : s.restart (s.caches.map (·.1)) tn cut = s9 at *
        have H9 := Lib.hid h9
        clear h9
        generalize hL6 : s.caches = L6 at *
        have HL6 := Lib.hid hL6
        clear hL6
        go_wp2_with fail
        go_loopw [16, 18] (fun v i wr => AllRel w6 L6 v i wr) (fun _ i _ => L6.length - (intOf i).toNat)
        case atStart => exact ⟨0, Nat.zero_le _, rfl, own_nil, Below.refl _ _⟩
        case round =>
          obtain ⟨k2, hk2, rfl, own2, b2⟩ := hrel
          have OWN := Lib.hid own2
          have B2 := Lib.hid b2
          clear own2 b2
          by_cases hlt2 : k2 < L6.length
          · obtain ⟨b, off, rfl, hb, hc⟩ := EK6.out (fun e => by rw [e] at hlt2; simp at hlt2)
            obtain ⟨h0, _⟩ := hc k2 hlt2
            have h0' : wr.cell? ⟨b, off + k2 * 2, none⟩ = some (.int .i64 L6[k2].1) := by rw [Nat.mul_comm]; exact (B2.out.cell (p := ⟨b, off + 2 * k2, none⟩) hb).trans h0
            obtain ⟨v', W', hrun, own', bl'⟩ := append_int wr w6.heap.size u16 (((L6.take k2).map (·.1))) OWN.out L6[k2].1 (by simp; omega) B2.out.size
            have R := Lib.hid hrun
            have OWN' := Lib.hid own'
            have B2' := Lib.hid (B2.out.trans bl')
            clear h0 hc hrun own' bl' hb OWN B2
            have HT := Lib.hid (show (L6.take k2).map (·.1) ++ [L6[k2].1] = (L6.take (k2 + 1)).map (·.1) by rw [List.take_succ_eq_append_getElem hlt2, List.map_append]; rfl)
            generalize L6[k2].1 = x2 at *
            go_wp2_with (at_builtin; ((with_reducible refine wpList_append_eq rfl (.tmp 90) (.tmp 96) 33 rfl ?_ ?_ R.out ?_); (next => rfl); (next => rfl)))
            go_roundw
            case rel => exact ⟨k2 + 1, hlt2, by go_num, by rw [← HT.out]; exact OWN'.out, B2'.out⟩
            case measure => simp [intOf]; omega
          · obtain rfl : k2 = L6.length := by omega
            rw [List.take_length] at OWN
            clear hlt2
            obtain ⟨A7, c7, rfl, _, _, _, hrow7⟩ := OWN.out.row
            have hA7 : L6.map (·.1) ≠ [] → ∀ a, A7 = some a → a.block ≠ sb ∧ a.block ≠ bl ∧ a.block ≠ bc := fun _ a ha => by
              subst ha
              exact O6.out.new (World.ownsRow.lt OWN.out a.block rfl).1
            rw [List.length_map]
            have HROW7 := Lib.hid hrow7
            have HA7 := Lib.hid hA7
            have O7 := Lib.hid (O6.out.grow B2.out)
            have K7 := Lib.hid (K6.out.below B2.out)
            have KP7 := Lib.hid (KP6.out.below B2.out)
            clear hrow7 hA7 O6 K6 KP6 EK6 OWN B2
            go_wp2_with fail
            refine O7.out.lasting.mono ?_
            rintro e w8 ⟨v8, rfl, k8, o8, b8⟩
            rw [HLAS.out] at k8
            have K8' := Lib.hid k8
            have O8 := Lib.hid o8
            have K8 := Lib.hid (K7.out.below b8)
            have KP8 := Lib.hid (KP7.out.below b8)
            have HROW8 := Lib.hid (RowG.below HROW7.out b8)
            clear k8 o8 b8 O7 K7 KP7 HROW7
            go_wp2_with fail
            refine (same_any v8 v5 _ _ (Nat.le_trans (listOf_le _ _) (by omega)) _ K8'.out KP8.out).mono ?_
            rintro e w9 ⟨rfl, D9⟩
            rw [decide_eq_true rfl]
            have b9 := D9.below w8.heap.size
            have O9 := Lib.hid (O8.out.grow b9)
            have K9 := Lib.hid (K8.out.below b9)
            have HROW9 := Lib.hid (RowG.below HROW8.out b9)
            clear b9 D9 O8 K8 K8' KP8 HROW8
            go_wp2_with fail
            refine (O9.out.restart A7 L6.length c7 tn cut (L6.map (·.1)) (by simp) (by omega) HROW9.out HA7.out HKB6.out ht0 ht1).mono ?_
            rintro e w10 ⟨rfl, o10, m10⟩
            rw [H9.out] at o10
            have O10 := Lib.hid o10
            have K10 := Lib.hid (K9.out.mod O9.out.dev m10)
            clear o10 m10 O9 K9 HROW9 HA7 H9
            go_wp2_with fail
            refine O10.out.cached.mono ?_
            rintro e w11 ⟨v11, rfl, k11, o11, b11⟩
            have hc0 : s9.caches.length = 0 := by rw [St.caches, HN9.out.2, listOf_none]; rfl
            obtain ⟨A11, c11, rfl⟩ := k11.shape hc0
            have O11 := Lib.hid o11
            have K11 := Lib.hid (K10.out.below b11)
            clear k11 o11 b11 O10 K10 hc0
            go_wp2_with fail
            go_loopw [21] (fun i wr => ReadRel w11 L6.length i wr) (fun i _ => L6.length - (intOf i).toNat)
            case atStart => exact ⟨0, Nat.zero_le _, rfl, Below.refl _ _⟩
            case round =>
              obtain ⟨k3, hk3, rfl, b3⟩ := hrel
              have B3 := Lib.hid b3
              clear b3
              by_cases hlt3 : k3 < L6.length
              · obtain ⟨A, c, e, _, _, _, hk⟩ := K11.out
                obtain ⟨rfl, rfl⟩ : A6 = A ∧ c6 = c := by
                  injection e with e1 e2 e3
                  exact ⟨e1, e3⟩
                obtain ⟨b, off, rfl, hb, hc⟩ := hk (fun e => by rw [e] at hlt3; simp at hlt3)
                obtain ⟨h0, A', c', h1, hr⟩ := hc k3 hlt3
                have h0' : wr.cell? ⟨b, off + k3 * 2, none⟩ = some (.int .i64 L6[k3].1) := by rw [Nat.mul_comm]; exact (B3.out.cell (p := ⟨b, off + 2 * k3, none⟩) hb).trans h0
                have H1 := Lib.hid h1
                have HR := Lib.hid hr
                obtain ⟨g1, g2⟩ := HG9.out k3 hlt3
                have O12 := Lib.hid (O11.out.grow B3.out)
                clear h0 h1 hr hc hk e
                generalize hLk : L6[k3] = p at *
                obtain ⟨x, lx⟩ := p
                simp only at h0' g1 g2
                have HLK := Lib.hid hLk
                have G1 := Lib.hid g1
                have G2 := Lib.hid g2
                clear hLk g1 g2
                go_wp2_with fail
                refine (O12.out.read x).mono ?_
                rintro e w12 ⟨A2, rfl, hr2, _, _, o13, b12⟩
                rw [G1.out] at hr2 ⊢
                rw [G2.out]
                have HR2 := Lib.hid hr2
                have B4 := Lib.hid (B3.out.trans (b12.mono B3.out.size))
                clear hr2 o13 b12 O12 h0' B3
                go_wp2_with fail
                refine region_still (by kernel_rfl) (by kernel_rfl) ?_
                intro w13 hw13
                have D13 : Drew w12 w13 := by rw [hw13]; exact (Drew.refl _).drew
                have B5 := Lib.hid (B4.out.trans (D13.below _))
                have h1 : w13.cell? ⟨b, off + k3 * 2 + 1, none⟩ = some (.slice A' lx.length c') := by rw [Nat.mul_comm]; exact (B5.out.cell (p := ⟨b, off + (2 * k3 + 1), none⟩) hb).trans H1.out
                have u1 := conv_run lx.length rfl (D13.row HR2.out)
                have u2 := conv_run c' rfl (RowG.below HR.out B5.out)
                clear D13 hw13 B4 HR2 HR H1 hb
                generalize strB lx = S at *
                repeat still_step
                refine wpStill_nil ?_
                clear u1 u2 h1
                go_wp2_with fail
                go_roundw
                case rel => exact ⟨k3 + 1, hlt3, by go_num, B5.out⟩
                case measure => simp [intOf]; omega
              · have O12 := Lib.hid (O11.out.grow B3.out)
                clear K11 HG9 B3 O11
                go_wp2_with fail
                refine O12.out.lasting.mono ?_
                rintro e w13 ⟨v13, rfl, k13, o13, _⟩
                have K13 := Lib.hid k13
                have O13 := Lib.hid o13
                clear k13 o13 O12
                go_wp2_with fail
                refine (O13.out.restartW C q f tn cut ks HKS.out (by omega) HK.out HKB.out ht0 ht1).mono ?_
                rintro e w14 ⟨rfl, o14, m14⟩
                have O14 := Lib.hid o14
                have K14 := Lib.hid (K13.out.mod O13.out.dev m14)
                have hsame : (s9.restart ks tn cut).lasts = s9.lasts := by
                  obtain ⟨e1, e2⟩ := restart_none HN9.out.2 ks tn cut
                  unfold St.lasts
                  rw [e1, e2]
                have HSAME := Lib.hid hsame
                clear o14 m14 O13 K13 hsame
                go_wp2_with fail
                refine O14.out.lasting.mono ?_
                rintro e w15 ⟨v15, rfl, k15, o15, b15⟩
                rw [HSAME.out] at k15
                have K15 := Lib.hid k15
                have O15 := Lib.hid o15
                have K14' := Lib.hid (K14.out.below b15)
                have hlen : s9.lasts.length ≤ 4096 := Nat.le_trans (listOf_le _ _) (by rw [HN9.out.1]; omega)
                clear k15 o15 b15 O14 K14
                go_wp2_with fail
                refine (same_any v15 v13 _ _ hlen _ K15.out K14'.out).mono ?_
                rintro e w16 ⟨rfl, D16⟩
                rw [decide_eq_true rfl]
                have O16 := Lib.hid (O15.out.grow (D16.below _))
                clear D16 O15 K15 K14' hlen
                go_wp2_with fail
                go_ret
                exact ⟨rfl, O16.out.below⟩
set_option maxRecDepth 100000 in
theorem lasts_walk (A B C : Option Addr) (n m q c d f : Nat) (l1 l2 : List CallD) (ks : List Int) (tn cut : Int) (w : World) (hl1 : l1.length = n) (hl2 : l2.length = m) (hks : ks.length = q)
    (hS1 : Script w A l1) (hS2 : Script w B l2) (hK : IRow w C ks) (hkb : ∀ x ∈ ks, -9223372036854775808 ≤ x ∧ x ≤ 9223372036854775807) (ht0 : -9223372036854775808 ≤ tn) (ht1 : tn ≤ 9223372036854775807) :
    Calls Try.prog 5 #[.slice A n c, .slice B m d, .slice C q f, .int .i64 tn, .int .i64 cut] w fun e w' => e = .returned (.bool true) ∧ Below w.heap.size w w' := by
  by_cases hq : q ≤ 500
  · exact lasts_core A B C n m q c d f l1 l2 ks tn cut w hl1 hl2 hks hq hS1 hS2 hK hkb ht0 ht1
  · have bq : decide (500 < (q : Int)) = true := by simp; omega
    clear hl1 hl2 hks hS1 hS2 hK hkb
    go_enter Try.func5, Try.ntmps5
    go_wp2_with fail
    refine (awake_any w).mono ?_
    rintro e w1 ⟨rfl, bb1⟩
    go_wp2_with fail
    go_ret
    exact ⟨rfl, bb1⟩
end Go.Proofs.Ytoldkhfnebjacaa.Disk
