/-
  The document's own Put.
-/
import Derived.Test.YtcendcegmhliaaaORef3
import Derived.Test.YtcendcegmhliaaaOChain
namespace Go.Proofs.Ytcendcegmhliaaa.Ord
open Go.RowKit Go.Sort _root_.Go.Proofs.Ytcendcegmhliaaa.Gnd

theorem ins_lt {l : List Or} {m : Int} (hno : l.any (numB m) = false) {k : Nat} (hk : k < insAt l m) (hl : k < l.length) : l[k].num < m := by
  have h1 : numB m l[k] = false := by
    rw [List.any_eq_false] at hno
    have := hno l[k] (List.getElem_mem hl)
    simpa using this
  have h2 : moreB m l[k] = false := by
    unfold insAt at hk
    rcases e : l.findIdx? (moreB m) with _ | i
    · exact List.findIdx?_eq_none_iff.1 e l[k] (List.getElem_mem hl)
    · rw [e] at hk
      have := (List.findIdx?_eq_some_iff_getElem.1 e).2.2 k hk
      simpa using this
  simp only [numB, moreB, beq_eq_false_iff_ne, decide_eq_false_iff_not] at h1 h2
  omega
theorem ins_ge {l : List Or} {m : Int} {p : Nat} (hp : insAt l m = p) (hl : p < l.length) : m < l[p].num := by
  unfold insAt at hp
  rcases e : l.findIdx? (moreB m) with _ | i
  · rw [e] at hp
    simp only at hp
    omega
  · rw [e] at hp
    simp only at hp
    subst hp
    obtain ⟨_, h, _⟩ := List.findIdx?_eq_some_iff_getElem.1 e
    exact of_decide_eq_true h
set_option maxRecDepth 100000 in
set_option maxHeartbeats 4000000 in
theorem rput_any {A : Option Addr} {n c : Nat} {l : List Or} {w : World} (h : AAt w A n c l) (hn : n ≤ 100000) (x : Or) (g1 : x.who.length ≤ 100) (g2 : x.mkt.length ≤ 100) :
    Calls Try.prog 19 #[.slice A n c, .agg (encA x).toArray] w (AcsE (putO l x).1 (putO l x).2 w) := by
  have b1 := Grw.box w (.cells (encA x).toArray 25)
  have a1 := at_new w (encA x).toArray 25
  have h1 := h.below b1.below
  obtain ⟨W1, hW1⟩ : ∃ W1, w.alloc (.cells (encA x).toArray 25) = W1 := ⟨_, rfl⟩
  rw [hW1] at b1 a1 h1
  have L := Lib.hid (load_or a1)
  have cC := rcheck_any x W1 g1 g2
  have CE := Lib.hid (show ∀ W, Below W1.heap.size W1 W → W.cell? ⟨w.heap.size, 0, none⟩ = some (.int .u64 x.num) ∧ At W w.heap.size (encA x).toArray from fun W hb => by
    have a := a1.below hb a1.1
    exact ⟨a.2.2 0 _ rfl, a⟩)
  have CN := Lib.hid (show ∀ W, Below W1.heap.size W1 W → _ from fun W hb => rat_any (h1.below hb) hn x.num)
  have BAD := Lib.hid (show badP l x = true → ∀ W, Below w.heap.size w W → AcsE (putO l x).1 (putO l x).2 w (.returned (.tuple #[.slice none 0 0, .int .i64 130])) W from fun hb W g => by
    unfold putO; rw [hb]; exact ⟨_, rfl, OwnA.nil _ _, g⟩)
  have hbp : badP l x = (!fitO x || decide (200 ≤ l.length) || l.any (numB x.num)) := rfl
  have HBP := Lib.hid hbp
  have hln : l.length = n := h.len
  have HLN := Lib.hid hln
  have HLN' := Lib.hid hln
  have B1 := Lib.hid b1
  have HW := Lib.hid hW1
  clear hW1 hbp hln b1
  rcases hf : fitO x with _ | _
  · rw [hf] at HBP
    unfold CheckE checkO at cC
    rw [hf] at cC
    have B := Lib.hid (BAD.out (by rw [HBP.out]; rfl))
    obtain ⟨E, hE⟩ : ∃ E, AcsE (putO l x).1 (putO l x).2 w = E := ⟨_, rfl⟩
    rw [hE] at B ⊢
    generalize (encA x).toArray = C at *
    clear hf CE CN BAD hE h h1 a1
    go_enter Try.func19, Try.ntmps19
    go_wp2_with (first
      | ((with_reducible refine wpList_box_eq rfl 25 (.tmp 1) rfl C ?_ ?_); (next => rfl); rw [HW.out])
      | ((with_reducible refine wpList_load_eq rfl 25 (.tmp 3) rfl _ ?_ L.out ?_); (next => rfl))
      | (go_at_call 16; refine cC.mono ?_; rintro e w2 ⟨rfl, g⟩))
    (try go_ret2)
    exact B.out _ (B1.out.trans g).below
  unfold CheckE checkO at cC
  rw [hf] at cC
  rw [hf] at HBP
  by_cases hm : 200 ≤ n
  · have t1 : (200 : Int) ≤ (n : Int) := by omega
    have B := Lib.hid (BAD.out (by rw [HBP.out, decide_eq_true (show 200 ≤ l.length by rw [HLN.out]; exact hm)]; rfl))
    obtain ⟨E, hE⟩ : ∃ E, AcsE (putO l x).1 (putO l x).2 w = E := ⟨_, rfl⟩
    rw [hE] at B ⊢
    generalize (encA x).toArray = C at *
    clear hf CE CN BAD hE h h1 a1 hm
    go_enter Try.func19, Try.ntmps19
    go_wp2_with (first
      | ((with_reducible refine wpList_box_eq rfl 25 (.tmp 1) rfl C ?_ ?_); (next => rfl); rw [HW.out])
      | ((with_reducible refine wpList_load_eq rfl 25 (.tmp 3) rfl _ ?_ L.out ?_); (next => rfl))
      | (go_at_call 16; refine cC.mono ?_; rintro e w2 ⟨rfl, g⟩))
    (try go_ret2)
    exact B.out _ (B1.out.trans g).below
  have t1 : ¬ (200 : Int) ≤ (n : Int) := by omega
  rcases idx_neg (numB x.num) l with ⟨e1, e2⟩ | ⟨k, e1, e2⟩
  rotate_left
  · rw [e1] at CN
    rw [e2] at HBP
    have t2 : (0 : Int) ≤ (k : Int) := by omega
    have B := Lib.hid (BAD.out (by rw [HBP.out]; simp))
    obtain ⟨E, hE⟩ : ∃ E, AcsE (putO l x).1 (putO l x).2 w = E := ⟨_, rfl⟩
    rw [hE] at B ⊢
    generalize (encA x).toArray = C at *
    clear hf BAD hE h h1 a1 hm e1 e2
    go_enter Try.func19, Try.ntmps19
    go_wp2_with (first
      | ((with_reducible refine wpList_box_eq rfl 25 (.tmp 1) rfl C ?_ ?_); (next => rfl); rw [HW.out])
      | ((with_reducible refine wpList_load_eq rfl 25 (.tmp 3) rfl _ ?_ L.out ?_); (next => rfl))
      | (go_at_call 16; refine cC.mono ?_; rintro e w2 ⟨rfl, g⟩; have G := Lib.hid g.below; clear g; obtain ⟨k0, _⟩ := CE.out w2 G.out; have cN := CN.out w2 G.out; clear CE CN)
      | (go_at_call 36; refine cN.mono ?_; rintro e w3 ⟨rfl, b3⟩))
    (try go_ret2)
    exact B.out _ (B1.out.below.trans ((G.out.trans (b3.mono G.out.size)).mono B1.out.below.size))
  rw [e1] at CN
  rw [e2] at HBP
  have hno : badP l x = false := by rw [HBP.out, decide_eq_false (show ¬ 200 ≤ l.length by rw [HLN.out]; exact hm)]; rfl
  have hk := insAt_le l x.num
  rw [HLN.out] at hk
  have GOOD := Lib.hid (show ∀ v W, OwnA W W1.heap.size v (insO l x) → Below w.heap.size w W → AcsE (putO l x).1 (putO l x).2 w (.returned (.tuple #[v, .int .i64 0])) W from fun v W o g => by
    unfold putO; rw [hno]; exact ⟨_, rfl, o.down B1.out.below.size, g⟩)
  obtain ⟨p, hkk⟩ : ∃ p, insAt l x.num = p := ⟨_, rfl⟩
  have CC := Lib.hid (show ∀ W, Below W1.heap.size W1 W → _ from fun W hb => And.intro (chain1 (h1.below hb) (k := p) (by rw [← hkk]; exact hk) (by omega) x) (And.intro (chain2 (h1.below hb) (k := p) (by rw [← hkk]; exact hk) (by omega) x) (chain3 (h1.below hb) (k := p) (by rw [← hkk]; exact hk) (by omega) x)))
  unfold AppR E0 EX at CC
  have HI := Lib.hid (show insO l x = l.take p ++ [x] ++ l.drop p by unfold insO; rw [hkk])
  have LO := Lib.hid (show ∀ k (hl : k < l.length), k < p → l[k].num < x.num from fun k hl hkp => ins_lt e2 (by rw [hkk]; exact hkp) hl)
  have GE := Lib.hid (show ∀ (hl : p < l.length), x.num < l[p].num from fun hl => ins_ge hkk hl)
  have HR := Lib.hid h1.row
  rw [hkk] at hk
  have s1 := fun W => acs_head A n c p (Nat.le_trans hk h.cap) W
  have s2 := fun W => acs_tail A n c p hk W
  have AT := Lib.hid (show ∀ W, Below W1.heap.size W1 W → ∀ i v, (encA x)[i]? = some v → W.cell? ⟨w.heap.size, i, none⟩ = some v from fun W hb i v hv => (a1.below hb a1.1).2.2 i v (by simpa using hv))
  have hAX : (encA x).toArray = #[.int .u64 x.num, strV x.who, strV x.mkt, .bool x.buy, .int .i64 x.price, .int .i64 x.left] := rfl
  obtain ⟨E, hE⟩ : ∃ E, AcsE (putO l x).1 (putO l x).2 w = E := ⟨_, rfl⟩
  rw [hE] at GOOD ⊢
  obtain ⟨L1, hL1⟩ : ∃ L1, insO l x = L1 := ⟨_, rfl⟩
  rw [hL1] at GOOD HI
  rw [← HI.out] at CC
  rw [hAX] at L CC HW cC ⊢
  unfold encA at AT
  unfold strV at *
  generalize x.num = y0 at *
  generalize strB x.who = X1 at *
  generalize strB x.mkt = X2 at *
  generalize x.buy = y3 at *
  generalize x.price = y4 at *
  generalize x.left = y5 at *
  clear hf BAD hE h h1 a1 hm e1 e2 HBP hno hkk hL1 HI hAX HLN g1 g2
  have CELL := Lib.hid (show ∀ W, Below W1.heap.size W1 W → W.cell? ⟨w.heap.size, 0, none⟩ = some (.int .u64 y0) ∧ W.cell? ⟨w.heap.size, 1, none⟩ = some (.string X1) ∧ W.cell? ⟨w.heap.size, 2, none⟩ = some (.string X2) ∧ W.cell? ⟨w.heap.size, 3, none⟩ = some (.bool y3) ∧ W.cell? ⟨w.heap.size, 4, none⟩ = some (.int .i64 y4) ∧ W.cell? ⟨w.heap.size, 5, none⟩ = some (.int .i64 y5) from fun W hb =>
    ⟨AT.out W hb 0 _ rfl, AT.out W hb 1 _ rfl, AT.out W hb 2 _ rfl, AT.out W hb 3 _ rfl, AT.out W hb 4 _ rfl, AT.out W hb 5 _ rfl⟩)
  clear AT
  have hWW := HW.out
  clear HW
  go_enter Try.func19, Try.ntmps19
  go_wp2_with (first
    | ((with_reducible refine wpList_load_eq rfl 25 (.tmp 3) rfl _ ?_ L.out ?_); (next => rfl))
    | (go_at_call 16; refine cC.mono ?_; rintro e w2 ⟨rfl, g⟩; have G := Lib.hid g.below; clear g; obtain ⟨k0, _⟩ := CE.out w2 G.out; have cN := CN.out w2 G.out; clear CE CN L)
    | (go_at_call 36; refine cN.mono ?_; rintro e w3 ⟨rfl, b3⟩; have G3 := Lib.hid (G.out.trans (b3.mono G.out.size)); clear b3 G k0 cN))
  go_loopw [6] (fun i wr => ∃ k : Nat, i = .int .i64 (k : Int) ∧ k ≤ p ∧ Hid (Below W1.heap.size W1 wr)) (fun i _ => p - (intOf i).toNat)
  case atStart => exact ⟨0, rfl, Nat.zero_le _, G3⟩
  case round =>
    obtain ⟨k, rfl, hkp, HB⟩ := hrel
    have k0 := (CELL.out _ HB.out).1
    by_cases hlt : k < p
    · have hkl : k < l.length := by rw [HLN'.out]; omega
      have t1 : decide (k < n) = true := decide_eq_true (by omega)
      have t2 : (k : Int) < (n : Int) := by omega
      have t3 : (0 : Int) ≤ (k : Int) := by omega
      obtain ⟨b, off, e, hbl, hc⟩ := HR.out (by intro e; rw [e] at hkl; simp at hkl)
      subst e
      have r0 := (row_six (range_below (hc k hkl) HB.out hbl)).1
      have t4 := LO.out k hkl hlt
      have t5 : decide (l[k].num < y0) = true := decide_eq_true t4
      generalize l[k].num = y at *
      clear hc hbl hkl CC LO GE HR s1 s2 CELL GOOD hWW HLN'
      go_wp2_with fail
      go_quiet (fail)
      go_wp2_with fail
      go_roundw
      case rel => exact ⟨k + 1, by go_num, by omega, Lib.hid (HB.out.trans ((drewN_below _ _).mono HB.out.size))⟩
      case measure => simp [intOf]; omega
    · obtain rfl : k = p := by omega
      have GG : (decide (k < n) = false ∧ ¬ (k : Int) < (n : Int)) ∨ (decide (k < n) = true ∧ (k : Int) < (n : Int) ∧ (0 : Int) ≤ (k : Int) ∧ ∃ b off y, A = some ⟨b, off, none⟩ ∧ wr.cell? ⟨b, off + k * 6, none⟩ = some (.int .u64 y) ∧ decide (y < y0) = false ∧ ¬ y < y0) := by
        by_cases hn2 : k < n
        · have hkl : k < l.length := by rw [HLN'.out]; exact hn2
          obtain ⟨b, off, e, hbl, hc⟩ := HR.out (by intro e; rw [e] at hkl; simp at hkl)
          have r0 := (row_six (range_below (hc k hkl) HB.out hbl)).1
          have := GE.out hkl
          exact .inr ⟨decide_eq_true (by omega), by omega, by omega, b, off, _, e, r0, decide_eq_false (by omega), by omega⟩
        · exact .inl ⟨decide_eq_false (by omega), by omega⟩
      have q1 : ¬ (k : Int) < 0 := by omega
      clear LO GE HR HLN'
      rcases GG with ⟨t1, t2⟩ | ⟨t1, t2, t3, b, off, y, rfl, r0, t5, t6⟩
      all_goals
        go_wp2_with fail
        go_quiet (fail)
        have GQ := Lib.hid (HB.out.trans ((drewN_below wr nq).mono HB.out.size))
        generalize wr.drewN nq = w4 at GQ ⊢
        go_wp2_with fail
        obtain ⟨C1, C2, C3⟩ := CC.out w4 GQ.out
        clear CC
        obtain ⟨v11, V11, v12, V12, v13, V13, r11, r12, r13, o1, b11, b11x, b12, b13⟩ := C1
        obtain ⟨v21, V21, v22, V22, v23, V23, r21, r22, r23, o2, b21, b22, b23⟩ := C2
        obtain ⟨v31, V31, v32, V32, v33, V33, r31, r32, r33, o3, b31, b32, b33⟩ := C3
        have b0 := Below.refl w4.heap.size w4
        have KK := Lib.hid (fun W (h : Below w4.heap.size w4 W) => CELL.out W (GQ.out.trans (h.mono GQ.out.size)))
        have EN := Lib.hid (fun v V (o : OwnA V w4.heap.size v L1) (b : Below w4.heap.size w4 V) => GOOD.out v V (o.down GQ.out.size) (B1.out.below.trans ((GQ.out.trans (b.mono GQ.out.size)).mono B1.out.below.size)))
        have R11 := Lib.hid r11
        have R12 := Lib.hid r12
        have R13 := Lib.hid r13
        have R21 := Lib.hid r21
        have R22 := Lib.hid r22
        have R23 := Lib.hid r23
        have R31 := Lib.hid r31
        have R32 := Lib.hid r32
        have R33 := Lib.hid r33
        clear r11 r12 r13 r21 r22 r23 r31 r32 r33 CELL GOOD GQ k0 HB hWW cC
        have aE := b0.alloc (Nat.le_refl _) (.cells #[] 25)
        have aX := b0.alloc (Nat.le_refl _) (.cells #[.int .u64 y0, .string X1, .string X2, .bool y3, .int .i64 y4, .int .i64 y5] 25)
        have aEX := aE.alloc aE.size (.cells #[.int .u64 y0, .string X1, .string X2, .bool y3, .int .i64 y4, .int .i64 y5] 25)
        have aXE := aX.alloc aX.size (.cells #[] 25)
        go_region_held3 (fun w' => w'.cell? ⟨w.heap.size, 0, none⟩ = some (.int .u64 y0) ∧ w'.cell? ⟨w.heap.size, 1, none⟩ = some (.string X1) ∧ w'.cell? ⟨w.heap.size, 2, none⟩ = some (.string X2) ∧ w'.cell? ⟨w.heap.size, 3, none⟩ = some (.bool y3) ∧ w'.cell? ⟨w.heap.size, 4, none⟩ = some (.int .i64 y4) ∧ w'.cell? ⟨w.heap.size, 5, none⟩ = some (.int .i64 y5))
          (with_reducible (first | exact KK.out _ b0.drew | exact KK.out _ aE.drew | exact KK.out _ aX.drew | exact KK.out _ aEX.drew | exact KK.out _ aXE.drew | exact KK.out _ b11 | exact KK.out _ b11x | exact KK.out _ b12 | exact KK.out _ b13 | exact KK.out _ b21 | exact KK.out _ b22 | exact KK.out _ b23 | exact KK.out _ b31 | exact KK.out _ b32 | exact KK.out _ b33))
          (first
            | ((with_reducible refine step_append2_eq ?_ (.tmp 38) (.tmp 41) _ _ ?_ ?_ ?_ R11.out ?_); (next => rfl); (next => rfl); (next => rfl); (next => rfl))
            | ((with_reducible refine step_append2_eq ?_ (.tmp 38) (.tmp 41) _ _ ?_ ?_ ?_ R21.out ?_); (next => rfl); (next => rfl); (next => rfl); (next => rfl))
            | ((with_reducible refine step_append2_eq ?_ (.tmp 38) (.tmp 41) _ _ ?_ ?_ ?_ R31.out ?_); (next => rfl); (next => rfl); (next => rfl); (next => rfl))
            | ((with_reducible refine step_append2_eq ?_ (.tmp 42) (.tmp 44) _ _ ?_ ?_ ?_ R12.out ?_); (next => rfl); (next => rfl); (next => rfl); (next => rfl))
            | ((with_reducible refine step_append2_eq ?_ (.tmp 42) (.tmp 44) _ _ ?_ ?_ ?_ R22.out ?_); (next => rfl); (next => rfl); (next => rfl); (next => rfl))
            | ((with_reducible refine step_append2_eq ?_ (.tmp 42) (.tmp 44) _ _ ?_ ?_ ?_ R32.out ?_); (next => rfl); (next => rfl); (next => rfl); (next => rfl))
            | ((with_reducible refine step_append2_eq ?_ (.tmp 45) (.tmp 48) _ _ ?_ ?_ ?_ R13.out ?_); (next => rfl); (next => rfl); (next => rfl); (next => rfl))
            | ((with_reducible refine step_append2_eq ?_ (.tmp 45) (.tmp 48) _ _ ?_ ?_ ?_ R23.out ?_); (next => rfl); (next => rfl); (next => rfl); (next => rfl))
            | ((with_reducible refine step_append2_eq ?_ (.tmp 45) (.tmp 48) _ _ ?_ ?_ ?_ R33.out ?_); (next => rfl); (next => rfl); (next => rfl); (next => rfl)))
        all_goals
          go_wp2_with fail
          (try go_ret2)
          first | exact EN.out _ _ o1 b13 | exact EN.out _ _ o2 b23 | exact EN.out _ _ o3 b33
end Go.Proofs.Ytcendcegmhliaaa.Ord
