/-
  The document's own Drop.
-/
import Derived.Test.YtcendcegmhliaaaORPut
namespace Go.Proofs.Ytcendcegmhliaaa.Ord
open Go.RowKit Go.Sort _root_.Go.Proofs.Ytcendcegmhliaaa.Gnd

theorem chain4 {W : World} {A : Option Addr} {n c k : Nat} {l : List Or} (h : AAt W A n c l) (hk : k < n) (hn : n ≤ 1000) :
    ∃ v1 W1 v2 W2, AppR (W.alloc E0) W1 (.slice (some ⟨W.heap.size, 0, none⟩) 0 0) (.slice A k c) v1 ∧ AppR W1 W2 v1 (.slice (sub 6 A c (k + 1)) (n - (k + 1)) (c - (k + 1))) v2 ∧ OwnA W2 W.heap.size v2 (l.take k ++ l.drop (k + 1)) ∧ Below W.heap.size W W1 ∧ Below W.heap.size W W2 := by
  have hl := h.len
  have b0 : Below W.heap.size W (W.alloc E0) := below_box W E0
  obtain ⟨v1, W1, r1, o1, _, b1⟩ := app_row b0 (own_empty W) (A := A) (m := k) (c := c) (zs := l.take k) (by rw [List.length_take]; omega) h.nil (row_take (h.row.below b0) k) (by simp; omega)
  obtain ⟨v2, W2, r2, o2, b2⟩ := chain_tail h (k := k + 1) hk hn (by simp; omega) b1 o1
  exact ⟨v1, W1, v2, W2, r1, r2, by simpa using o2, b1, b2⟩
set_option maxRecDepth 100000 in
set_option maxHeartbeats 2000000 in
theorem rdrop_any {A : Option Addr} {n c : Nat} {l : List Or} {w : World} (h : AAt w A n c l) (hn : n ≤ 1000) (m : Int) : Calls Try.prog 21 #[.slice A n c, .int .u64 m] w (DropE (dropO l m) w) := by
  have b1 := below_box w (.cells (encA zeroO).toArray 25)
  have a1 := at_new w (encA zeroO).toArray 25
  have h1 := h.below b1
  obtain ⟨W1, hW1⟩ : ∃ W1, w.alloc (.cells (encA zeroO).toArray 25) = W1 := ⟨_, rfl⟩
  rw [hW1] at b1 a1 h1
  rw [zero_cells] at hW1
  have cN := rat_any h1 (by omega) m
  have B1 := Lib.hid b1
  have SZ := Lib.hid (show w.heap.size < W1.heap.size from a1.1)
  rcases idx_cases (numB m) l with ⟨e1, _⟩ | ⟨k, hk, e1, _, _⟩
  · rw [drop_none e1]
    rw [e1] at cN
    have PUT := Lib.hid (show ∀ W, Below W1.heap.size W1 W → ∃ W', (Instr.storeAt 25 (.pointer (some ⟨w.heap.size, 0, none⟩)) (.agg #[.int .u64 0, .string ⟨#[]⟩, .string ⟨#[]⟩, .bool false, .int .i64 0, .int .i64 0])).run Try.prog W = .ok () W' ∧ (loadVar 25 ⟨w.heap.size, 0, none⟩).run Try.prog W' = .ok (.agg (encA zeroO).toArray) W' ∧ Below w.heap.size w W' from fun W hb => by
      obtain ⟨W', h1, h2, h3⟩ := put_ac (a1.below hb a1.1) rfl zeroO (Nat.le_refl w.heap.size)
      exact ⟨W', h1, var_ac h2, (b1.trans (hb.mono b1.size)).trans h3⟩)
    clear h h1 a1 b1 e1
    go_enter Try.func21, Try.ntmps21
    go_wp2_with (first
      | (go_at_call 36; refine cN.mono ?_; rintro e w2 ⟨rfl, b2⟩; obtain ⟨W', r1, r2, r3⟩ := PUT.out w2 b2; have R1 := Lib.hid r1; have R2 := Lib.hid r2; clear r1 r2 b2 PUT cN)
      | ((with_reducible refine wpList_store_eq rfl 25 (.tmp 5) (.tmp 13) rfl _ _ ?_ ?_ R1.out ?_); (next => rfl); (next => rfl)))
    (try simp only [Exit.inBlock, Exit.then])
    refine bodyPost_ret (results_tct rfl rfl R2.out) rfl ?_
    exact ⟨_, rfl, OwnA.nil _ _, r3⟩
  · rw [drop_some hk e1]
    rw [e1] at cN
    have hkn : k < n := by rw [← h.len]; exact hk
    have LOAD := Lib.hid (show ∃ b off, A = some ⟨b, off, none⟩ ∧ ∀ W, Below w.heap.size w W → (Instr.loadAt 25 (.pointer (some ⟨b, off + k * 6, none⟩))).run Try.prog W = .ok (.agg (encA l[k]).toArray) W from by
      obtain ⟨b, off, rfl, hb, hc⟩ := h.row (by intro e; rw [e] at hk; simp at hk)
      exact ⟨b, off, rfl, fun W hW => load_ac (range_below (hc k hk) hW hb)⟩)
    obtain ⟨b, off, rfl, LD⟩ := LOAD.out
    generalize l[k] = x at *
    have PUT := Lib.hid (show ∀ W, Below W1.heap.size W1 W → (Instr.storeAt 25 (.pointer (some ⟨w.heap.size, 0, none⟩)) (.agg (encA x).toArray)).run Try.prog W = .ok () (W.setCells w.heap.size 0 (encA x)) ∧ (loadVar 25 ⟨w.heap.size, 0, none⟩).run Try.prog (W.setCells w.heap.size 0 (encA x)) = .ok (.agg (encA x).toArray) (W.setCells w.heap.size 0 (encA x)) ∧ Below w.heap.size w (W.setCells w.heap.size 0 (encA x)) from fun W hb => by
      obtain ⟨h1, h2, h3⟩ := put_or2 (a1.below hb a1.1) rfl x (Nat.le_refl w.heap.size)
      exact ⟨h1, var_ac h2, (b1.trans (hb.mono b1.size)).trans h3⟩)
    obtain ⟨q, hq⟩ : ∃ q, k + 1 = q := ⟨_, rfl⟩
    have hwr : IntKind.i64.wrap ((k : Int) + 1) = (q : Int) := by rw [IntWalk.i64_in _ (by omega)]; omega
    have s1 := fun W => acs_head (some ⟨b, off, none⟩) n c k (Nat.le_trans (Nat.le_of_lt hkn) h.cap) W
    have s2 := fun W => acs_tail (some ⟨b, off, none⟩) n c q (by omega) W
    have t1 : (k : Int) < (n : Int) := by omega
    have t2 : (0 : Int) ≤ (k : Int) := by omega
    have CC := Lib.hid (show ∀ W, Below W1.heap.size W1 W → _ from fun W hb => chain4 (h1.below hb) hkn hn)
    unfold AppR E0 at CC
    rw [hq] at CC
    rw [hq]
    have HC := Lib.hid (show (encA x).toArray = (encA x).toArray from rfl)
    obtain ⟨C, hC⟩ : ∃ C, (encA x).toArray = C := ⟨_, rfl⟩
    rw [hC] at PUT LD
    have HCC := Lib.hid hC
    have t3 : ¬ (k : Int) < 0 := by omega
    clear h h1 a1 b1 e1 hkn hk LOAD hC HC hq
    go_enter Try.func21, Try.ntmps21
    go_wp2_with (first
      | (go_at_call 36; refine cN.mono ?_; rintro e w2 ⟨rfl, b2⟩; have BW := Lib.hid b2; clear b2 cN))
    have QD : Below w2.heap.size w2 w2.drew := (Below.refl _ _).drew
    obtain ⟨v3, V3, v4, V4, r3, r4, o4, b3, b4⟩ := CC.out w2.drew (BW.out.trans (QD.mono BW.out.size))
    rw [show w2.drew.heap.size = w2.heap.size from rfl] at r3 o4 b3 b4
    have Q1 : Below w2.heap.size w2 (w2.drew.alloc (.cells #[] 25)) := QD.alloc QD.size _
    have SS := Lib.hid (show ∀ W, Below w2.heap.size w2 W → (Instr.loadAt 25 (.pointer (some ⟨b, off + k * 6, none⟩))).run Try.prog W = .ok (.agg C) W from fun W hW => LD W (B1.out.trans ((BW.out.trans (hW.mono BW.out.size)).mono B1.out.size)))
    have Q3 := QD.trans b3
    have Q5 := QD.trans b4
    clear CC
    refine wp_region_held (S := fun V => (Instr.loadAt 25 (.pointer (some ⟨b, off + k * 6, none⟩))).run Try.prog V = .ok (.agg C) V) (by kernel_rfl) ?_
    change wpAnyH _ _ _ _ _ _ _ _ w2.drew
    have hSR := SS.out w2.drew QD
    refine wpAnyH_take (i := 1) (v := ?_) rfl (by kernel_rfl) (by kernel_rfl) (by kernel_rfl) (fun _ _ _ h => h) (Or.inl ⟨by rfl, ?_⟩) hSR ?_
    rotate_left
    · (intro w' hSw; (try dsimp only at hSw); go_simp; (try with_reducible rfl))
    (try simp only [List.getElem_toArray]); (try simp only [List.getElem_cons_succ]); (try simp only [List.getElem_cons_zero]); (try simp only [Act.put]); (try simp only [List.setIfInBounds_toArray]); (try simp only [List.set_cons_succ]); (try simp only [List.set_cons_zero])
    refine wpAnyH_take (i := 2) (v := ?_) rfl (by kernel_rfl) (by kernel_rfl) (by kernel_rfl) (fun _ _ _ h => h) (Or.inl ⟨by rfl, ?_⟩) hSR ?_
    rotate_left
    · (intro w' hSw; (try dsimp only at hSw); go_simp; (try with_reducible rfl))
    (try simp only [List.getElem_toArray]); (try simp only [List.getElem_cons_succ]); (try simp only [List.getElem_cons_zero]); (try simp only [Act.put]); (try simp only [List.setIfInBounds_toArray]); (try simp only [List.set_cons_succ]); (try simp only [List.set_cons_zero])
    refine wpAnyH_take (i := 3) (v := ?_) rfl (by kernel_rfl) (by kernel_rfl) (by kernel_rfl) (fun _ _ _ h => h) (Or.inl ⟨by rfl, ?_⟩) hSR ?_
    rotate_left
    · (intro w' hSw; (try dsimp only at hSw); go_simp; (try with_reducible rfl))
    (try simp only [List.getElem_toArray]); (try simp only [List.getElem_cons_succ]); (try simp only [List.getElem_cons_zero]); (try simp only [Act.put]); (try simp only [List.setIfInBounds_toArray]); (try simp only [List.set_cons_succ]); (try simp only [List.set_cons_zero])
    refine wpAnyH_take (i := 5) (v := ?_) rfl (by kernel_rfl) (by kernel_rfl) (by kernel_rfl) (fun _ _ _ h => h) (Or.inl ⟨by rfl, ?_⟩) hSR ?_
    rotate_left
    · (intro w' hSw; (try dsimp only at hSw); go_simp; (try with_reducible rfl))
    (try simp only [List.getElem_toArray]); (try simp only [List.getElem_cons_succ]); (try simp only [List.getElem_cons_zero]); (try simp only [Act.put]); (try simp only [List.setIfInBounds_toArray]); (try simp only [List.set_cons_succ]); (try simp only [List.set_cons_zero])
    refine wpAnyH_take (i := 6) (v := ?_) rfl (by kernel_rfl) (by kernel_rfl) (by kernel_rfl) (fun _ _ _ h => h) (Or.inl ⟨by rfl, ?_⟩) hSR ?_
    rotate_left
    · (intro w' hSw; (try dsimp only at hSw); go_simp; (try with_reducible rfl))
    (try simp only [List.getElem_toArray]); (try simp only [List.getElem_cons_succ]); (try simp only [List.getElem_cons_zero]); (try simp only [Act.put]); (try simp only [List.setIfInBounds_toArray]); (try simp only [List.set_cons_succ]); (try simp only [List.set_cons_zero])
    refine wpAnyH_take (i := 7) (v := ?_) rfl (by kernel_rfl) (by kernel_rfl) (by kernel_rfl) (fun _ _ _ h => h) (Or.inl ⟨by rfl, ?_⟩) hSR ?_
    rotate_left
    · (intro w' hSw; (try dsimp only at hSw); go_simp; (try with_reducible rfl))
    (try simp only [List.getElem_toArray]); (try simp only [List.getElem_cons_succ]); (try simp only [List.getElem_cons_zero]); (try simp only [Act.put]); (try simp only [List.setIfInBounds_toArray]); (try simp only [List.set_cons_succ]); (try simp only [List.set_cons_zero])
    refine wpAnyH_take (i := 8) (v := ?_) rfl (by kernel_rfl) (by kernel_rfl) (by kernel_rfl) (fun _ _ _ h => h) (Or.inl ⟨by rfl, ?_⟩) hSR ?_
    rotate_left
    · (intro w' hSw; (try dsimp only at hSw); go_simp; (try with_reducible rfl))
    (try simp only [List.getElem_toArray]); (try simp only [List.getElem_cons_succ]); (try simp only [List.getElem_cons_zero]); (try simp only [Act.put]); (try simp only [List.setIfInBounds_toArray]); (try simp only [List.set_cons_succ]); (try simp only [List.set_cons_zero])
    refine wpAnyH_take (i := 10) (v := ?_) rfl (by kernel_rfl) (by kernel_rfl) (by kernel_rfl) (fun _ _ _ h => h) (Or.inl ⟨by rfl, ?_⟩) hSR ?_
    rotate_left
    · (intro w' hSw; (try dsimp only at hSw); go_simp; (try with_reducible rfl))
    (try simp only [List.getElem_toArray]); (try simp only [List.getElem_cons_succ]); (try simp only [List.getElem_cons_zero]); (try simp only [Act.put]); (try simp only [List.setIfInBounds_toArray]); (try simp only [List.set_cons_succ]); (try simp only [List.set_cons_zero])
    refine wpAnyH_take (i := 11) (v := ?_) rfl (by kernel_rfl) (by kernel_rfl) (by kernel_rfl) (fun _ _ _ h => h) (Or.inl ⟨by rfl, ?_⟩) hSR ?_
    rotate_left
    · (intro w' hSw; (try dsimp only at hSw); go_simp; (try with_reducible rfl))
    (try simp only [List.getElem_toArray]); (try simp only [List.getElem_cons_succ]); (try simp only [List.getElem_cons_zero]); (try simp only [Act.put]); (try simp only [List.setIfInBounds_toArray]); (try simp only [List.set_cons_succ]); (try simp only [List.set_cons_zero])
    refine wpAnyH_take (i := 12) (v := ?_) rfl (by kernel_rfl) (by kernel_rfl) (by kernel_rfl) (fun _ _ _ h => h) (Or.inl ⟨by rfl, ?_⟩) hSR ?_
    rotate_left
    · (intro w' hSw; (try dsimp only at hSw); go_simp; (try with_reducible rfl))
    (try simp only [List.getElem_toArray]); (try simp only [List.getElem_cons_succ]); (try simp only [List.getElem_cons_zero]); (try simp only [Act.put]); (try simp only [List.setIfInBounds_toArray]); (try simp only [List.set_cons_succ]); (try simp only [List.set_cons_zero])
    refine wpAnyH_take (i := 13) (v := .agg C) rfl (by kernel_rfl) (by kernel_rfl) (by kernel_rfl) (fun _ _ _ h => h) (Or.inl ⟨by rfl, ?_⟩) hSR ?_
    · intro w' hSw
      refine exec_load (p := .pointer (some ⟨b, off + k * 6, none⟩)) (t := 25) (x := .tmp 26) ?_ ?_ hSw
      · rfl
      · rfl
    (try simp only [List.getElem_toArray]); (try simp only [List.getElem_cons_succ]); (try simp only [List.getElem_cons_zero]); (try simp only [Act.put]); (try simp only [List.setIfInBounds_toArray]); (try simp only [List.set_cons_succ]); (try simp only [List.set_cons_zero])
    refine wpAnyH_ready (rs := [0]) (by kernel_rfl) (by simp) (AllReadyH.cons rfl (fun K hK => ?_) AllReadyH.nil)
    go_simp
    refine hK.out _ _ (SS.out _ Q1) (fun hSR => ?_)
    clear hK K
    (try simp only [List.getElem_toArray]); (try simp only [List.getElem_cons_succ]); (try simp only [List.getElem_cons_zero]); (try simp only [Act.put]); (try simp only [List.setIfInBounds_toArray]); (try simp only [List.set_cons_succ]); (try simp only [List.set_cons_zero])
    refine wpAnyH_ready (rs := [4]) (by kernel_rfl) (by simp) (AllReadyH.cons rfl (fun K hK => ?_) AllReadyH.nil)
    refine step_append2_eq (by rfl) (.tmp 14) (.tmp 17) _ _ (by rfl) (by rfl) (by rfl) r3 ?_
    refine hK.out _ _ (SS.out _ Q3) (fun hSR => ?_)
    clear hK K
    (try simp only [List.getElem_toArray]); (try simp only [List.getElem_cons_succ]); (try simp only [List.getElem_cons_zero]); (try simp only [Act.put]); (try simp only [List.setIfInBounds_toArray]); (try simp only [List.set_cons_succ]); (try simp only [List.set_cons_zero])
    refine wpAnyH_ready (rs := [9]) (by kernel_rfl) (by simp) (AllReadyH.cons rfl (fun K hK => ?_) AllReadyH.nil)
    refine step_append2_eq (by rfl) (.tmp 18) (.tmp 22) _ _ (by rfl) (by rfl) (by rfl) r4 ?_
    refine hK.out _ _ (SS.out _ Q5) (fun hSR => ?_)
    clear hK K
    (try simp only [List.getElem_toArray]); (try simp only [List.getElem_cons_succ]); (try simp only [List.getElem_cons_zero]); (try simp only [Act.put]); (try simp only [List.setIfInBounds_toArray]); (try simp only [List.set_cons_succ]); (try simp only [List.set_cons_zero])
    refine wpAnyH_take (i := 14) (v := ?_) rfl (by kernel_rfl) (by kernel_rfl) (by kernel_rfl) (fun _ _ _ h => h) (Or.inl ⟨by rfl, ?_⟩) hSR ?_
    rotate_left
    · (intro w' hSw; (try dsimp only at hSw); go_simp; (try with_reducible rfl))
    (try simp only [List.getElem_toArray]); (try simp only [List.getElem_cons_succ]); (try simp only [List.getElem_cons_zero]); (try simp only [Act.put]); (try simp only [List.setIfInBounds_toArray]); (try simp only [List.set_cons_succ]); (try simp only [List.set_cons_zero])
    obtain ⟨r1, r2, r5⟩ := PUT.out V4 (BW.out.trans (Q5.mono BW.out.size))
    refine wpAnyH_ready (rs := [15]) (by kernel_rfl) (by simp) (AllReadyH.cons rfl (fun K hK => ?_) AllReadyH.nil)
    refine step_store_eq (by rfl) 25 (.tmp 5) (.tmp 27) (by rfl) (by rfl) (by rfl) r1 ?_
    refine hK.out _ _ (LD _ r5) (fun hSR => ?_)
    clear hK K
    (try simp only [List.getElem_toArray]); (try simp only [List.getElem_cons_succ]); (try simp only [List.getElem_cons_zero]); (try simp only [Act.put]); (try simp only [List.setIfInBounds_toArray]); (try simp only [List.set_cons_succ]); (try simp only [List.set_cons_zero])
    refine wpAnyH_take (i := 16) (v := ?_) rfl (by kernel_rfl) (by kernel_rfl) (by kernel_rfl) (fun _ _ _ h => h) (Or.inl ⟨by rfl, ?_⟩) hSR ?_
    rotate_left
    · (intro w' hSw; (try dsimp only at hSw); go_simp; (try with_reducible rfl))
    (try simp only [List.getElem_toArray]); (try simp only [List.getElem_cons_succ]); (try simp only [List.getElem_cons_zero]); (try simp only [Act.put]); (try simp only [List.setIfInBounds_toArray]); (try simp only [List.set_cons_succ]); (try simp only [List.set_cons_zero])
    refine wpAnyH_done (by kernel_rfl) ?_ _
    have R2 := Lib.hid r2
    have R3 := Lib.hid r5
    have O5 := Lib.hid (o4.past (b := w.heap.size) (by have := SZ.out; have := BW.out.size; have := QD.size; omega) 0 (encA x))
    clear hSR r1 r2 r3 r4 r5
    go_wp2_with fail
    (try simp only [Exit.inBlock, Exit.then])
    refine bodyPost_ret (results_tct rfl rfl R2.out) rfl ?_
    have hC := HCC.out
    subst hC
    exact ⟨v4, rfl, O5.out.down (show w.heap.size ≤ w2.heap.size by have := SZ.out; have := BW.out.size; omega), R3.out⟩
end Go.Proofs.Ytcendcegmhliaaa.Ord
