/-
  Contract of Put.
-/
import Derived.Test.YtcendcegmhliaaaOPut
namespace Go.Proofs.Ytcendcegmhliaaa.Ord
open Go.RowKit Go.Sort _root_.Go.Proofs.Ytcendcegmhliaaa.Gnd

theorem parts3 {W : World} {A : Option Addr} {n c k : Nat} {l : List Or} {x : Or} (h : AAt W A n c l) (hk : k ≤ n) (hn : n ≤ 1000) :
    Calls Try.prog 35 #[.slice (some ⟨W.heap.size + 1, 0, none⟩) 3 3] ((W.alloc (.cells (encA x).toArray 25)).alloc (.cells #[.slice A k c, .slice (some ⟨W.heap.size, 0, none⟩) 1 1, .slice (sub 6 A c k) (n - k) (c - k)] 33))
      (fun e w' => ∃ v, e = .returned v ∧ OwnA w' W.heap.size v (l.take k ++ [x] ++ l.drop k) ∧ Below W.heap.size W w') := by
  have b1 := below_box W (.cells (encA x).toArray 25)
  have r1 := row_one W x
  have h1 := h.below b1
  have sz : (W.alloc (.cells (encA x).toArray 25)).heap.size = W.heap.size + 1 := by simp
  obtain ⟨W1, hW1⟩ : ∃ W1, W.alloc (.cells (encA x).toArray 25) = W1 := ⟨_, rfl⟩
  rw [hW1] at b1 r1 h1 sz ⊢
  have b2 := below_box W1 (.cells #[.slice A k c, .slice (some ⟨W.heap.size, 0, none⟩) 1 1, .slice (sub 6 A c k) (n - k) (c - k)] 33)
  have a2 := at_new W1 #[.slice A k c, .slice (some ⟨W.heap.size, 0, none⟩) 1 1, .slice (sub 6 A c k) (n - k) (c - k)] 33
  have h2 := h1.below b2
  have r2 := r1.below b2
  obtain ⟨W2, hW2⟩ : ∃ W2, W1.alloc (.cells #[.slice A k c, .slice (some ⟨W.heap.size, 0, none⟩) 1 1, .slice (sub 6 A c k) (n - k) (c - k)] 33) = W2 := ⟨_, rfl⟩
  rw [hW2] at b2 a2 h2 r2 ⊢
  rw [sz] at a2
  have hl := h.len
  have hc := h.cap
  have hnil := h.nil
  have c3 := concat_any (A := some ⟨W.heap.size + 1, 0, none⟩) (N := 3) (C := 3) [⟨A, k, c, l.take k⟩, ⟨some ⟨W.heap.size, 0, none⟩, 1, 1, [x]⟩, ⟨sub 6 A c k, n - k, c - k, l.drop k⟩] W2 rfl (by omega)
    (fun _ => ⟨W.heap.size + 1, 0, rfl, a2.1, fun j hj => by
      have hj : j < 3 := hj
      rcases (show j = 0 ∨ j = 1 ∨ j = 2 by omega) with rfl | rfl | rfl
      · exact a2.2.2 0 _ rfl
      · exact a2.2.2 1 _ rfl
      · exact a2.2.2 2 _ rfl⟩)
    (fun p hp => by
      simp only [List.mem_cons, List.not_mem_nil, or_false] at hp
      rcases hp with rfl | rfl | rfl
      · exact ⟨by simp only [List.length_take]; omega, hnil, row_take h2.row k⟩
      · exact ⟨rfl, fun h => (by cases h), r2⟩
      · exact ⟨by simp only [List.length_drop]; omega, fun h => by have := hnil (sub_none h); simp only; omega, row_drop h2.row (by omega) k⟩)
    (by simp [sizes]; omega)
  refine c3.mono ?_
  rintro e w' ⟨v', rfl, o, b⟩
  refine ⟨v', rfl, ?_, b1.trans ((b2.trans (b.mono b2.size)).mono b1.size)⟩
  have := o.down (Nat.le_trans b1.size b2.size)
  simpa using this
set_option maxRecDepth 100000 in
set_option maxHeartbeats 1000000 in
theorem put_any {A : Option Addr} {n c : Nat} {l : List Or} {w : World} (h : AAt w A n c l) (hn : n ≤ 100000) (x : Or) (g1 : x.who.length ≤ 200000000000000) (g2 : x.mkt.length ≤ 200000000000000) :
    Calls Try.prog 18 #[.slice A n c, .agg (encA x).toArray] w (AcsE (putO l x).1 (putO l x).2 w) := by
  have b1 := Grw.box w (.cells (encA x).toArray 25)
  have a1 := at_new w (encA x).toArray 25
  have h1 := h.below b1.below
  obtain ⟨W1, hW1⟩ : ∃ W1, w.alloc (.cells (encA x).toArray 25) = W1 := ⟨_, rfl⟩
  rw [hW1] at b1 a1 h1
  have L := Lib.hid (load_or a1)
  have cC := check_any x W1 g1 g2
  have CE := Lib.hid (show ∀ W, Below W1.heap.size W1 W → W.cell? ⟨w.heap.size, 0, none⟩ = some (.int .u64 x.num) ∧ At W w.heap.size (encA x).toArray from fun W hb => by
    have a := a1.below hb a1.1
    exact ⟨a.2.2 0 _ rfl, a⟩)
  have CN := Lib.hid (show ∀ W, Below W1.heap.size W1 W → _ from fun W hb => numbered_any (h1.below hb) hn x.num)
  have BAD := Lib.hid (show badP l x = true → ∀ W, Below w.heap.size w W → AcsE (putO l x).1 (putO l x).2 w (.returned (.tuple #[.slice none 0 0, .int .i64 130])) W from fun hb W g => by
    unfold putO; rw [hb]; exact ⟨_, rfl, OwnA.nil _ _, g⟩)
  have hbp : badP l x = (!fitO x || decide (200 ≤ l.length) || l.any (numB x.num)) := rfl
  have HBP := Lib.hid hbp
  have hln : l.length = n := h.len
  have HLN := Lib.hid hln
  have HLN' := Lib.hid hln
  have B1 := Lib.hid b1
  have HW := Lib.hid hW1
  clear hW1 hbp hln b1
  rcases hf : fitO x with _ | _
  · rw [hf] at HBP
    unfold CheckE checkO at cC
    rw [hf] at cC
    have B := Lib.hid (BAD.out (by rw [HBP.out]; rfl))
    obtain ⟨E, hE⟩ : ∃ E, AcsE (putO l x).1 (putO l x).2 w = E := ⟨_, rfl⟩
    rw [hE] at B ⊢
    generalize (encA x).toArray = C at *
    clear hf CE CN BAD hE h h1 a1
    go_enter Try.func18, Try.ntmps18
    go_wp2_with (first
      | ((with_reducible refine wpList_box_eq rfl 25 (.tmp 1) rfl C ?_ ?_); (next => rfl); rw [HW.out])
      | ((with_reducible refine wpList_load_eq rfl 25 (.tmp 3) rfl _ ?_ L.out ?_); (next => rfl))
      | (go_at_call 15; refine cC.mono ?_; rintro e w2 ⟨rfl, g⟩))
    (try go_ret2)
    exact B.out _ (B1.out.trans g).below
  unfold CheckE checkO at cC
  rw [hf] at cC
  rw [hf] at HBP
  by_cases hm : 200 ≤ n
  · have t1 : (200 : Int) ≤ (n : Int) := by omega
    have B := Lib.hid (BAD.out (by rw [HBP.out, decide_eq_true (show 200 ≤ l.length by rw [HLN.out]; exact hm)]; rfl))
    obtain ⟨E, hE⟩ : ∃ E, AcsE (putO l x).1 (putO l x).2 w = E := ⟨_, rfl⟩
    rw [hE] at B ⊢
    generalize (encA x).toArray = C at *
    clear hf CE CN BAD hE h h1 a1 hm
    go_enter Try.func18, Try.ntmps18
    go_wp2_with (first
      | ((with_reducible refine wpList_box_eq rfl 25 (.tmp 1) rfl C ?_ ?_); (next => rfl); rw [HW.out])
      | ((with_reducible refine wpList_load_eq rfl 25 (.tmp 3) rfl _ ?_ L.out ?_); (next => rfl))
      | (go_at_call 15; refine cC.mono ?_; rintro e w2 ⟨rfl, g⟩))
    (try go_ret2)
    exact B.out _ (B1.out.trans g).below
  have t1 : ¬ (200 : Int) ≤ (n : Int) := by omega
  rcases idx_neg (numB x.num) l with ⟨e1, e2⟩ | ⟨k, e1, e2⟩
  rotate_left
  · rw [e1] at CN
    rw [e2] at HBP
    have t2 : (0 : Int) ≤ (k : Int) := by omega
    have B := Lib.hid (BAD.out (by rw [HBP.out]; simp))
    obtain ⟨E, hE⟩ : ∃ E, AcsE (putO l x).1 (putO l x).2 w = E := ⟨_, rfl⟩
    rw [hE] at B ⊢
    generalize (encA x).toArray = C at *
    clear hf BAD hE h h1 a1 hm e1 e2
    go_enter Try.func18, Try.ntmps18
    go_wp2_with (first
      | ((with_reducible refine wpList_box_eq rfl 25 (.tmp 1) rfl C ?_ ?_); (next => rfl); rw [HW.out])
      | ((with_reducible refine wpList_load_eq rfl 25 (.tmp 3) rfl _ ?_ L.out ?_); (next => rfl))
      | (go_at_call 15; refine cC.mono ?_; rintro e w2 ⟨rfl, g⟩; have G := Lib.hid g.below; clear g; obtain ⟨k0, _⟩ := CE.out w2 G.out; have cN := CN.out w2 G.out; clear CE CN)
      | (go_at_call 32; refine cN.mono ?_; rintro e w3 ⟨rfl, b3⟩))
    (try go_ret2)
    exact B.out _ (B1.out.below.trans ((G.out.trans (b3.mono G.out.size)).mono B1.out.below.size))
  rw [e1] at CN
  rw [e2] at HBP
  have hno : badP l x = false := by rw [HBP.out, decide_eq_false (show ¬ 200 ≤ l.length by rw [HLN.out]; exact hm)]; rfl
  have hk := insAt_le l x.num
  have hki := ins_idx l x.num
  rw [HLN.out] at hk
  have GOOD := Lib.hid (show ∀ v W, OwnA W W1.heap.size v (insO l x) → Below w.heap.size w W → AcsE (putO l x).1 (putO l x).2 w (.returned (.tuple #[v, .int .i64 0])) W from fun v W o g => by
    unfold putO; rw [hno]; exact ⟨_, rfl, o.down B1.out.below.size, g⟩)
  have CI := Lib.hid (show ∀ W, Below W1.heap.size W1 W → _ from fun W hb => index_any (h1.below hb) (by omega) 34 #[.pointer (some ⟨w.heap.size, 0, none⟩)] (moreB x.num) ent_put (fun V hV y => put1_any y x.num w.heap.size V (by
    have := a1.below (hb.trans (hV.mono hb.size)) a1.1
    exact this.2.2 0 _ rfl)))
  obtain ⟨k, hkk⟩ : ∃ k, insAt l x.num = k := ⟨_, rfl⟩
  have CC := Lib.hid (show ∀ W, Below W1.heap.size W1 W → _ from fun W hb => parts3 (h1.below hb) (k := k) (x := x) (by rw [← hkk]; exact hk) (by omega))
  have HI := Lib.hid (show insO l x = l.take k ++ [x] ++ l.drop k by unfold insO; rw [hkk])
  rw [hkk] at hk hki
  have s1 := fun W => acs_head A n c k (Nat.le_trans hk h.cap) W
  have s2 := fun W => acs_tail A n c k hk W
  have HK := Lib.hid (show insAt l x.num = k from hkk)
  have AT := Lib.hid (show ∀ W, Below W1.heap.size W1 W → ∀ i v, (encA x)[i]? = some v → W.cell? ⟨w.heap.size, i, none⟩ = some v from fun W hb i v hv => (a1.below hb a1.1).2.2 i v (by simpa using hv))
  have hAX : (encA x).toArray = #[.int .u64 x.num, strV x.who, strV x.mkt, .bool x.buy, .int .i64 x.price, .int .i64 x.left] := rfl
  obtain ⟨E, hE⟩ : ∃ E, AcsE (putO l x).1 (putO l x).2 w = E := ⟨_, rfl⟩
  rw [hE] at GOOD ⊢
  obtain ⟨L1, hL1⟩ : ∃ L1, insO l x = L1 := ⟨_, rfl⟩
  rw [hL1] at GOOD HI
  rw [← HI.out] at CC
  have LT := Lib.hid (show ∀ W, Below W1.heap.size W1 W → w.heap.size < W.heap.size from fun W hb => Nat.lt_of_lt_of_le a1.1 hb.size)
  rw [hAX] at L CC HW cC ⊢
  unfold encA at AT
  unfold strV at *
  generalize x.num = y0 at *
  generalize strB x.who = X1 at *
  generalize strB x.mkt = X2 at *
  generalize x.buy = y3 at *
  generalize x.price = y4 at *
  generalize x.left = y5 at *
  clear hf BAD hE h h1 a1 hm e1 e2 HBP hno hkk hL1 HI hAX HK HLN g1 g2
  have CELL := Lib.hid (show ∀ W, Below W1.heap.size W1 W → W.cell? ⟨w.heap.size, 0, none⟩ = some (.int .u64 y0) ∧ W.cell? ⟨w.heap.size, 1, none⟩ = some (.string X1) ∧ W.cell? ⟨w.heap.size, 2, none⟩ = some (.string X2) ∧ W.cell? ⟨w.heap.size, 3, none⟩ = some (.bool y3) ∧ W.cell? ⟨w.heap.size, 4, none⟩ = some (.int .i64 y4) ∧ W.cell? ⟨w.heap.size, 5, none⟩ = some (.int .i64 y5) from fun W hb =>
    ⟨AT.out W hb 0 _ rfl, AT.out W hb 1 _ rfl, AT.out W hb 2 _ rfl, AT.out W hb 3 _ rfl, AT.out W hb 4 _ rfl, AT.out W hb 5 _ rfl⟩)
  clear AT
  rcases hki with ⟨hi, hk0⟩ | hi
  · have hkn : k = n := hk0.trans HLN'.out
    clear hk0 HLN'
    subst hkn
    rw [hi] at CI
    simp only [Nat.sub_self] at s2 CC
    have hWW := HW.out
    clear hi hk HW
    go_enter Try.func18, Try.ntmps18
    go_wp2_with (first
      | ((with_reducible refine wpList_load_eq rfl 25 (.tmp 3) rfl _ ?_ L.out ?_); (next => rfl))
      | (go_at_call 15; refine cC.mono ?_; rintro e w2 ⟨rfl, g⟩; have G := Lib.hid g.below; clear g; obtain ⟨k0, _⟩ := CE.out w2 G.out; have cN := CN.out w2 G.out; clear CE CN L)
      | (go_at_call 32; refine cN.mono ?_; rintro e w3 ⟨rfl, b3⟩; have G3 := Lib.hid (G.out.trans (b3.mono G.out.size)); clear b3 G k0 cN; have cI := CI.out w3 G3.out)
      | (go_at_call 33; refine cI.mono ?_; rintro e w4 ⟨rfl, b4⟩; have G4 := Lib.hid (G3.out.trans (b4.mono G3.out.size)); clear b4 G3 cI CI))
    have GD := Lib.hid (show Below W1.heap.size W1 w4.drew from G4.out.drew)
    have cK := CC.out w4.drew GD.out
    rw [show w4.drew.heap.size = w4.heap.size from rfl] at cK
    rw [show (w4.drew.alloc (.cells #[.int .u64 y0, .string X1, .string X2, .bool y3, .int .i64 y4, .int .i64 y5] 25)).alloc (.cells #[.slice A k c, .slice (some ⟨w4.heap.size, 0, none⟩) 1 1, .slice (sub 6 A c k) 0 (c - k)] 33) = ((w4.alloc (.cells #[.int .u64 y0, .string X1, .string X2, .bool y3, .int .i64 y4, .int .i64 y5] 25)).alloc (.cells #[.slice A k c, .slice (some ⟨w4.heap.size, 0, none⟩) 1 1, .slice (sub 6 A c k) 0 (c - k)] 33)).drew from rfl] at cK
    have G5 := Lib.hid (G4.out.alloc G4.out.size (.cells #[.int .u64 y0, .string X1, .string X2, .bool y3, .int .i64 y4, .int .i64 y5] 25))
    have K0 := Lib.hid (CELL.out _ GD.out)
    have K1 := Lib.hid (CELL.out _ G5.out.drew)
    have K2 := Lib.hid (CELL.out _ (G5.out.alloc G5.out.size (.cells #[.slice A k c, .slice (some ⟨w4.heap.size, 0, none⟩) 1 1, .slice (sub 6 A c k) 0 (c - k)] 33)).drew)
    have SZ := GD.out.size
    clear CC
    go_region_held3 (fun w' => w'.cell? ⟨w.heap.size, 0, none⟩ = some (.int .u64 y0) ∧ w'.cell? ⟨w.heap.size, 1, none⟩ = some (.string X1) ∧ w'.cell? ⟨w.heap.size, 2, none⟩ = some (.string X2) ∧ w'.cell? ⟨w.heap.size, 3, none⟩ = some (.bool y3) ∧ w'.cell? ⟨w.heap.size, 4, none⟩ = some (.int .i64 y4) ∧ w'.cell? ⟨w.heap.size, 5, none⟩ = some (.int .i64 y5))
      (with_reducible (first | exact K0.out | exact K1.out | exact K2.out | exact K3.out))
      (first
        | (go_at_call 35; (with_reducible refine cK.mono ?_); rintro e w5 ⟨v5, rfl, o5, b5⟩; have K3 := Lib.hid (CELL.out _ (GD.out.trans (b5.mono GD.out.size)))))
    all_goals
      go_wp2_with fail
      (try go_ret2)
      exact GOOD.out _ _ (o5.down SZ) (B1.out.below.trans ((GD.out.trans (b5.mono GD.out.size)).mono B1.out.below.size))
  · have hWW := HW.out
    have t3 : ¬ (k : Int) < 0 := by omega
    rw [hi] at CI
    clear hi hk HW HLN'
    go_enter Try.func18, Try.ntmps18
    go_wp2_with (first
      | ((with_reducible refine wpList_load_eq rfl 25 (.tmp 3) rfl _ ?_ L.out ?_); (next => rfl))
      | (go_at_call 15; refine cC.mono ?_; rintro e w2 ⟨rfl, g⟩; have G := Lib.hid g.below; clear g; obtain ⟨k0, _⟩ := CE.out w2 G.out; have cN := CN.out w2 G.out; clear CE CN L)
      | (go_at_call 32; refine cN.mono ?_; rintro e w3 ⟨rfl, b3⟩; have G3 := Lib.hid (G.out.trans (b3.mono G.out.size)); clear b3 G k0 cN; have cI := CI.out w3 G3.out)
      | (go_at_call 33; refine cI.mono ?_; rintro e w4 ⟨rfl, b4⟩; have G4 := Lib.hid (G3.out.trans (b4.mono G3.out.size)); clear b4 G3 cI CI))
    have GD := Lib.hid (show Below W1.heap.size W1 w4.drew from G4.out.drew)
    have cK := CC.out w4.drew GD.out
    rw [show w4.drew.heap.size = w4.heap.size from rfl] at cK
    rw [show (w4.drew.alloc (.cells #[.int .u64 y0, .string X1, .string X2, .bool y3, .int .i64 y4, .int .i64 y5] 25)).alloc (.cells #[.slice A k c, .slice (some ⟨w4.heap.size, 0, none⟩) 1 1, .slice (sub 6 A c k) (n - k) (c - k)] 33) = ((w4.alloc (.cells #[.int .u64 y0, .string X1, .string X2, .bool y3, .int .i64 y4, .int .i64 y5] 25)).alloc (.cells #[.slice A k c, .slice (some ⟨w4.heap.size, 0, none⟩) 1 1, .slice (sub 6 A c k) (n - k) (c - k)] 33)).drew from rfl] at cK
    have G5 := Lib.hid (G4.out.alloc G4.out.size (.cells #[.int .u64 y0, .string X1, .string X2, .bool y3, .int .i64 y4, .int .i64 y5] 25))
    have K0 := Lib.hid (CELL.out _ GD.out)
    have K1 := Lib.hid (CELL.out _ G5.out.drew)
    have K2 := Lib.hid (CELL.out _ (G5.out.alloc G5.out.size (.cells #[.slice A k c, .slice (some ⟨w4.heap.size, 0, none⟩) 1 1, .slice (sub 6 A c k) (n - k) (c - k)] 33)).drew)
    have SZ := GD.out.size
    clear CC
    go_region_held3 (fun w' => w'.cell? ⟨w.heap.size, 0, none⟩ = some (.int .u64 y0) ∧ w'.cell? ⟨w.heap.size, 1, none⟩ = some (.string X1) ∧ w'.cell? ⟨w.heap.size, 2, none⟩ = some (.string X2) ∧ w'.cell? ⟨w.heap.size, 3, none⟩ = some (.bool y3) ∧ w'.cell? ⟨w.heap.size, 4, none⟩ = some (.int .i64 y4) ∧ w'.cell? ⟨w.heap.size, 5, none⟩ = some (.int .i64 y5))
      (with_reducible (first | exact K0.out | exact K1.out | exact K2.out | exact K3.out))
      (first
        | (go_at_call 35; (with_reducible refine cK.mono ?_); rintro e w5 ⟨v5, rfl, o5, b5⟩; have K3 := Lib.hid (CELL.out _ (GD.out.trans (b5.mono GD.out.size)))))
    all_goals
      go_wp2_with fail
      (try go_ret2)
      exact GOOD.out _ _ (o5.down SZ) (B1.out.below.trans ((GD.out.trans (b5.mono GD.out.size)).mono B1.out.below.size))
end Go.Proofs.Ytcendcegmhliaaa.Ord
