/-
  Texts of one family, one behind the other: PBranchR, PPageR.
-/
import Derived.Test.YtboaamaneeodfaaGreatKP5
namespace Go.Proofs.YtboaamaneeodfaaGreat.Page
open Go.RowKit Gen

def rKids : Nat → Bs → Option (List (Bs × Int) × Bs)
  | 0, u => some ([], u)
  | k + 1, u => (rText u).bind fun a => (rNum a.2).bind fun b => (rKids k b.2).map fun c => ((a.1, b.1) :: c.1, c.2)
def rBranch (u : Bs) : Option (Pg × Bs) := (rNum u).bind fun a => (rNum a.2).bind fun z => (rKids a.1.toNat z.2).map fun b => ({ kind := 2, keys := b.1.map (·.1), kids := z.1 :: b.1.map (·.2) }, b.2)
abbrev branchC (sk sd : Value) : Array Value := #[.int .i64 2, .slice none 0 0, sk, sd, .slice none 0 0, .int .i64 0, .int .u64 0, .int .i64 0, .int .i64 0, .int .i64 0, .int .i64 0]
structure BrSt (w : World) (rb : Nat) (ks : List Bs) (ds : List Int) (v : Bs) (sk sd : Value) (wr : World) : Prop where
  rd : Rd wr rb v
  at_ : At wr (w.heap.size + 1) (branchC sk sd)
  zero : At wr w.heap.size (pC 0)
  keys : OwnG wr 9 strV (w.heap.size + 2) sk ks
  kids : OwnG wr 3 numV (w.heap.size + 2) sd ds
  grown : w.grownBy wr (some rb)
  size : w.heap.size + 2 ≤ wr.heap.size
theorem BrSt.call {w wr w2 : World} {rb : Nat} {ks : List Bs} {ds : List Int} {v v2 : Bs} {sk sd : Value} (h : BrSt w rb ks ds v sk sd wr) (hlt : rb < w.heap.size) (g : wr.grownBy w2 (some rb)) (r : Rd w2 rb v2) : BrSt w rb ks ds v2 sk sd w2 :=
  ⟨r, h.at_.grown g (by omega), h.zero.grown g (by omega), own_grown h.keys g (by omega), own_grown h.kids g (by omega), h.grown.trans g, Nat.le_trans h.size g.size⟩
theorem own_block {w : World} {e : TypeId} {α : Type} {enc : α → Value} {B : Nat} {v : Value} {l : List α} (h : OwnG w e enc B v l) {k : Nat} (hk : v.ownBlock = some k) : B ≤ k ∧ ∃ cur, w.heap[k]? = some (.cells cur e (0, 0)) := by
  obtain ⟨_, ⟨rfl, _⟩ | ⟨g, cap, cur, rfl, hB, hh, _⟩⟩ := h
  · cases hk
  · cases hk; exact ⟨hB, cur, hh⟩
theorem own_ne {w : World} {e e' : TypeId} {α β : Type} {enc : α → Value} {enc' : β → Value} {B B' : Nat} {v v' : Value} {l : List α} {l' : List β} (h : OwnG w e enc B v l) (h' : OwnG w e' enc' B' v' l') (he : e ≠ e') {k : Nat} (hk : v.ownBlock = some k) : some k ≠ v'.ownBlock := fun e1 => by
  obtain ⟨_, c1, h1⟩ := own_block h hk
  obtain ⟨_, c2, h2⟩ := own_block h' e1.symm
  rw [h1] at h2
  cases h2
  exact he rfl
theorem own_kept {w w' : World} {e : TypeId} {α : Type} {enc : α → Value} {B : Nat} {v : Value} {l : List α} {row : Option Nat} (h : OwnG w e enc B v l) (g : w.grownBy w' row) (hne : ∀ k, v.ownBlock = some k → some k ≠ row) : OwnG w' e enc B v l := by
  obtain ⟨hl, h | ⟨k, cap, cur, rfl, hg, hh, h4, h5, h6, h7⟩⟩ := h
  · exact ⟨hl, .inl h⟩
  · exact ⟨hl, .inr ⟨k, cap, cur, rfl, hg, by rw [g.block k (Array.getElem?_eq_some_iff.1 hh).1 (hne k rfl)]; exact hh, h4, h5, h6, h7⟩⟩

theorem key_more {w w2 : World} {rb : Nat} {ks : List Bs} {ds : List Int} {v2 : Bs} {sk sd : Value} (h : BrSt w rb ks ds v2 sk sd w2) (hlt : rb < w.heap.size) (x : Bs) (X : ByteArray) (hX : strB x = X) (hl : ks.length ≤ 100000) :
    ∃ v' W', (Builtin.append_ #[57, 57] 57 #[sk, .slice (some ⟨w2.heap.size, 0, none⟩) 1 1]).run Tryz.prog (w2.alloc (.cells #[.string X] 9)) = .ok v' W' ∧
      W'.cell? ⟨w.heap.size + 1, 2, none⟩ = some sk ∧ W'.frozen? ⟨w.heap.size + 1, 2, none⟩ = false ∧ BrSt w rb (ks ++ [x]) ds v2 v' sd (W'.setCell ⟨w.heap.size + 1, 2, none⟩ v') := by
  obtain ⟨v', W', hrun, K, G, hown, _⟩ := append_one strs_elem w2 (w.heap.size + 2) sk ks h.keys x (.string X) (by rw [← hX]) (by omega) h.size
  have hne : ∀ b, b < w.heap.size + 2 → some b ≠ sk.ownBlock := fun b hb e => by have := hown b e.symm; omega
  have ha' := h.at_.grownRow G (hne _ (by omega))
  have hz' := h.zero.grownRow G (hne _ (by omega))
  have r' := h.rd.grownRow G (fun k hk => by have := hown k hk; omega)
  have g2 : w.grownBy W' (some rb) := grown_own h.grown G (fun j hj => by have := hown j hj; omega)
  have ha2 := ha'.set 2 v' (by simp)
  have gs := grown_set W' (w.heap.size + 1) 2 v'
  obtain ⟨K1, K2⟩ : OwnG W' 9 strV (w.heap.size + 2) v' (ks ++ [x]) ∧ OwnG W' 3 numV (w.heap.size + 2) sd ds := ⟨K, own_kept h.kids G (fun k hk => own_ne h.kids h.keys (by decide) hk)⟩
  exact ⟨v', W', hrun, ha'.2.2 2 _ rfl, ha'.2.1 2, ⟨r'.set_other (by omega), ha2, hz'.set_other (by omega), own_grown K1 gs (by omega), own_grown K2 gs (by omega), grown_new g2 (by omega), by have := G.size; have := h.size; simp; omega⟩⟩
theorem kid_more {w w2 : World} {rb : Nat} {ks : List Bs} {ds : List Int} {v2 : Bs} {sk sd : Value} (h : BrSt w rb ks ds v2 sk sd w2) (hlt : rb < w.heap.size) (x : Int)  (hl : ds.length ≤ 100000) :
    ∃ v' W', (Builtin.append_ #[68, 68] 68 #[sd, .slice (some ⟨w2.heap.size, 0, none⟩) 1 1]).run Tryz.prog (w2.alloc (.cells #[.int .i64 x] 3)) = .ok v' W' ∧
      W'.cell? ⟨w.heap.size + 1, 3, none⟩ = some sd ∧ W'.frozen? ⟨w.heap.size + 1, 3, none⟩ = false ∧ BrSt w rb ks (ds ++ [x]) v2 sk v' (W'.setCell ⟨w.heap.size + 1, 3, none⟩ v') := by
  obtain ⟨v', W', hrun, K, G, hown, _⟩ := append_one ints_elem w2 (w.heap.size + 2) sd ds h.kids x (.int .i64 x) (rfl) (by omega) h.size
  have hne : ∀ b, b < w.heap.size + 2 → some b ≠ sd.ownBlock := fun b hb e => by have := hown b e.symm; omega
  have ha' := h.at_.grownRow G (hne _ (by omega))
  have hz' := h.zero.grownRow G (hne _ (by omega))
  have r' := h.rd.grownRow G (fun k hk => by have := hown k hk; omega)
  have g2 : w.grownBy W' (some rb) := grown_own h.grown G (fun j hj => by have := hown j hj; omega)
  have ha2 := ha'.set 3 v' (by simp)
  have gs := grown_set W' (w.heap.size + 1) 3 v'
  obtain ⟨K1, K2⟩ : OwnG W' 9 strV (w.heap.size + 2) sk ks ∧ OwnG W' 3 numV (w.heap.size + 2) v' (ds ++ [x]) := ⟨own_kept h.keys G (fun k hk => own_ne h.keys h.kids (by decide) hk), K⟩
  exact ⟨v', W', hrun, ha'.2.2 3 _ rfl, ha'.2.1 3, ⟨r'.set_other (by omega), ha2, hz'.set_other (by omega), own_grown K1 gs (by omega), own_grown K2 gs (by omega), grown_new g2 (by omega), by have := G.size; have := h.size; simp; omega⟩⟩
theorem gdrew (wr : World) (rb : Nat) : wr.grownBy wr.drew (some rb) := ⟨rfl, rfl, rfl, Nat.le_refl _, fun _ _ _ => rfl⟩
set_option maxRecDepth 100000 in
set_option maxHeartbeats 4000000 in
theorem branch_read (rb : Nat) (u0 : Bs) (w : World) (h : Rd w rb u0) : Calls Tryz.prog 183 #[ptr rb] w (PReads (rBranch u0) rb w) := by
  have hlt := h.lt
  obtain ⟨hat, har⟩ := made_two w 2
  have b0 : Below w.heap.size w ((w.alloc (.cells (pC 0) 82)).alloc (.cells (pC 2) 82)) := ((Below.refl _ _).alloc (Nat.le_refl _) _).alloc (by simp) _
  have G0 := Lib.hid (grown_alloc (rb := rb) (grown_alloc (World.grownBy.refl w (some rb)) (.cells (pC 0) 82)) (.cells (pC 2) 82))
  have SZ := Lib.hid (show w.heap.size + 2 ≤ ((w.alloc (.cells (pC 0) 82)).alloc (.cells (pC 2) 82)).heap.size by simp)
  have AP0 := Lib.hid hat
  have AR0 := Lib.hid har
  have LT := Lib.hid hlt
  have cF := number_any rb u0 _ (h.below b0)
  clear hat har b0 h hlt
  unfold pC pgC at *
  rcases hr0 : rNum u0 with _ | ⟨x0, u1⟩
  · rw [hr0] at cF
    have Z0 := Lib.hid hr0
    clear hr0
    go_enter Tryz.func183, Tryz.ntmps183
    go_wp2_with fail
    refine cF.mono ?_
    rintro e w1 ⟨hg, rfl⟩
    exact ⟨rfl, preads_none (by simp [rBranch, Z0.out]) (G0.out.trans hg)⟩
  rw [hr0] at cF
  have hx := num_range hr0
  have E0 := Lib.hid hr0
  clear hr0
  obtain ⟨n, rfl⟩ := Int.eq_ofNat_of_zero_le hx.1
  have hn : n < 65536 := by omega
  clear hx
  go_enter Tryz.func183, Tryz.ntmps183
  go_wp2_with fail
  refine cF.mono ?_
  rintro e wr ⟨hg, rfl, hr⟩
  have HST : Hid (BrSt w rb [] [] u1 (.slice none 0 0) (.slice none 0 0) wr) := Lib.hid ⟨hr, AP0.out.grown hg (by have := LT.out; omega), AR0.out.grown hg (by have := LT.out; omega), OwnG.nil _ _ _ _, OwnG.nil _ _ _ _, G0.out.trans hg, Nat.le_trans SZ.out hg.size⟩
  clear hg hr cF AP0 AR0 G0 SZ
  have cT := number_any rb u1 wr.drew (HST.out.rd.below (Below.refl _ _).drew)
  have S0 : wr.drew.cell? ⟨w.heap.size + 1, 3, none⟩ = some (.slice none 0 0) := HST.out.at_.2.2 3 _ rfl
  rcases hr1 : rNum u1 with _ | ⟨z, u2⟩
  · rw [hr1] at cT
    have EN : Hid (rBranch u0 = none) := Lib.hid (by simp [rBranch, E0.out, hr1])
    clear hr1
    go_wp2_with fail
    refine region_last (S := fun w' => w'.cell? ⟨w.heap.size + 1, 3, none⟩ = some (.slice none 0 0)) 9 (by kernel_rfl) rfl rfl rfl rfl (by kernel_rfl) (by kernel_rfl) ?_
    intro w3 hw3
    subst hw3
    have hSR := S0
    simp only [List.set_cons_zero, List.set_cons_succ]
    refine wpAnyH_take (i := 0) (v := ?_) rfl (by kernel_rfl) (by kernel_rfl) (by kernel_rfl) (fun _ _ _ h => h) (Or.inl ⟨by rfl, ?_⟩) hSR ?_
    rotate_left
    · (intro w' hSw; (try dsimp only at hSw); go_simp; (try with_reducible rfl))
    simp only [Act.put]
    refine wpAnyH_take (i := 1) (v := ?_) rfl (by kernel_rfl) (by kernel_rfl) (by kernel_rfl) (fun _ _ _ h => h) (Or.inl ⟨by rfl, ?_⟩) hSR ?_
    rotate_left
    · (intro w' hSw; (try dsimp only at hSw); go_simp; (try with_reducible rfl))
    simp only [Act.put]
    refine wpAnyH_take (i := 2) (v := ?_) rfl (by kernel_rfl) (by kernel_rfl) (by kernel_rfl) (fun _ _ _ h => h) (Or.inl ⟨by rfl, ?_⟩) hSR ?_
    rotate_left
    · (intro w' hSw; (try dsimp only at hSw); go_simp; (try with_reducible rfl))
    simp only [Act.put]
    refine wpAnyH_take (i := 3) (v := ?_) rfl (by kernel_rfl) (by kernel_rfl) (by kernel_rfl) (fun _ _ _ h => h) (Or.inl ⟨by rfl, ?_⟩) hSR ?_
    rotate_left
    · (intro w' hSw; (try dsimp only at hSw); go_simp; (try with_reducible rfl))
    simp only [Act.put]
    refine wpAnyH_take (i := 4) (v := ?_) rfl (by kernel_rfl) (by kernel_rfl) (by kernel_rfl) (fun _ _ _ h => h) (Or.inl ⟨by rfl, ?_⟩) hSR ?_
    rotate_left
    · (intro w' hSw; (try dsimp only at hSw); go_simp; (try with_reducible rfl))
    simp only [Act.put]
    refine wpAnyH_ready (rs := [5]) (by kernel_rfl) (by simp) (AllReadyH.cons rfl (fun K hK => ?_) AllReadyH.nil)
    go_simp
    refine cT.mono ?_
    rintro e w2 ⟨hg, rfl⟩
    exact ⟨rfl, preads_none EN.out (HST.out.grown.trans ((gdrew wr rb).trans hg))⟩
  rw [hr1] at cT
  have NZ := Lib.hid (num_range hr1)
  obtain ⟨R, hR⟩ : ∃ R, rKids n u2 = R := ⟨_, rfl⟩
  have ER : Hid (rBranch u0 = R.map fun b => ({ kind := 2, keys := b.1.map (·.1), kids := z :: b.1.map (·.2) }, b.2)) := Lib.hid (by simp [rBranch, E0.out, hr1, hR])
  have HR := Lib.hid hR
  clear hr1 hR E0
  go_wp2_with fail
  refine region_last (S := fun w' => w'.cell? ⟨w.heap.size + 1, 3, none⟩ = some (.slice none 0 0)) 9 (by kernel_rfl) rfl rfl rfl rfl (by kernel_rfl) (by kernel_rfl) ?_
  intro w3 hw3
  subst hw3
  have hSR := S0
  simp only [List.set_cons_zero, List.set_cons_succ]
  refine wpAnyH_take (i := 0) (v := ?_) rfl (by kernel_rfl) (by kernel_rfl) (by kernel_rfl) (fun _ _ _ h => h) (Or.inl ⟨by rfl, ?_⟩) hSR ?_
  rotate_left
  · (intro w' hSw; (try dsimp only at hSw); go_simp; (try with_reducible rfl))
  simp only [Act.put]
  refine wpAnyH_take (i := 1) (v := ?_) rfl (by kernel_rfl) (by kernel_rfl) (by kernel_rfl) (fun _ _ _ h => h) (Or.inl ⟨by rfl, ?_⟩) hSR ?_
  rotate_left
  · (intro w' hSw; (try dsimp only at hSw); go_simp; (try with_reducible rfl))
  simp only [Act.put]
  refine wpAnyH_take (i := 2) (v := ?_) rfl (by kernel_rfl) (by kernel_rfl) (by kernel_rfl) (fun _ _ _ h => h) (Or.inl ⟨by rfl, ?_⟩) hSR ?_
  rotate_left
  · (intro w' hSw; (try dsimp only at hSw); go_simp; (try with_reducible rfl))
  simp only [Act.put]
  refine wpAnyH_take (i := 3) (v := ?_) rfl (by kernel_rfl) (by kernel_rfl) (by kernel_rfl) (fun _ _ _ h => h) (Or.inl ⟨by rfl, ?_⟩) hSR ?_
  rotate_left
  · (intro w' hSw; (try dsimp only at hSw); go_simp; (try with_reducible rfl))
  simp only [Act.put]
  refine wpAnyH_take (i := 4) (v := ?_) rfl (by kernel_rfl) (by kernel_rfl) (by kernel_rfl) (fun _ _ _ h => h) (Or.inl ⟨by rfl, ?_⟩) hSR ?_
  rotate_left
  · (intro w' hSw; (try dsimp only at hSw); go_simp; (try with_reducible rfl))
  simp only [Act.put]
  refine wpAnyH_ready (rs := [5]) (by kernel_rfl) (by simp) (AllReadyH.cons rfl (fun K hK => ?_) AllReadyH.nil)
  go_simp
  refine cT.mono ?_
  rintro e w2 ⟨hg, rfl, hr⟩
  have gg := (gdrew wr rb).trans hg
  have q2 := HST.out.call LT.out gg hr
  obtain ⟨v', W', hrun, hc, hf, hst⟩ := kid_more q2 LT.out z (by simp)
  obtain ⟨A', c', rfl, -, -⟩ := OwnG.own_row hst.kids
  obtain ⟨m', hm'⟩ : ∃ m', ([] ++ [z]).length = m' := ⟨_, rfl⟩
  rw [hm'] at hrun hst
  have Q := Lib.hid hrun
  have HN := Lib.hid hst
  have S2 := Lib.hid (q2.at_.2.2 3 _ rfl)
  have S3 := Lib.hid ((q2.at_.below ((Below.refl w2.heap.size w2).alloc (Nat.le_refl _) (.cells #[.int .i64 z] 3)) q2.at_.1).2.2 3 _ rfl)
  have S4 := Lib.hid hc
  clear hrun hst hm' hg hr gg q2 cT HST S0
  refine hK.out _ _ S2.out (fun hSR => ?_)
  clear hK K
  refine wpAnyH_ready (rs := [6]) (by kernel_rfl) (by simp) (AllReadyH.cons rfl (fun K hK => ?_) AllReadyH.nil)
  go_simp
  refine hK.out _ _ S3.out (fun hSR => ?_)
  clear hK K
  refine wpAnyH_ready (rs := [7]) (by kernel_rfl) (by simp) (AllReadyH.cons rfl (fun K hK => ?_) AllReadyH.nil)
  refine step_append2_eq (by rfl) (.tmp 11) (.tmp 16) _ _ (by rfl) (by rfl) (by rfl) Q.out ?_
  refine hK.out _ _ S4.out (fun hSR => ?_)
  clear hK K
  simp only [Act.put]
  refine wpAnyH_take (i := 8) (v := ?_) rfl (by kernel_rfl) (by kernel_rfl) (by kernel_rfl) (fun _ _ _ h => h) (Or.inl ⟨by rfl, ?_⟩) hSR ?_
  rotate_left
  · (intro w' hSw; (try dsimp only at hSw); go_simp; (try with_reducible rfl))
  simp only [Act.put]
  refine wpAnyH_take (i := 9) (v := ?_) rfl (by kernel_rfl) (by kernel_rfl) (by kernel_rfl) (fun _ _ _ h => h) (Or.inl ⟨by rfl, ?_⟩) hSR ?_
  rotate_left
  · (intro w' hSw; (try dsimp only at hSw); go_simp; (try with_reducible rfl))
  simp only [Act.put]
  refine wpAnyH_done (by kernel_rfl) ?_ _
  show Oper.wp _ _ _ _ _ _
  unfold Oper.wp
  go_simp
  clear hSR
  rw [List.nil_append] at HN
  generalize W'.setCell ⟨w.heap.size + 1, 3, none⟩ (.slice A' m' c') = W5 at *
  clear hf
  go_wp2_with fail
  go_loopw [20] (fun i wr => ∃ (k : Nat) (l : List (Bs × Int)) (v : Bs) (sk sd : Value), i = .int .i64 (k : Int) ∧ k ≤ n ∧ BrSt w rb (l.map (·.1)) (z :: l.map (·.2)) v sk sd wr ∧ Hid (ahead l (rKids (n - k) v) = R) ∧ Hid (l.length = k) ∧ Hid (∀ x ∈ l, 0 ≤ x.2 ∧ x.2 < 65536)) (fun i _ => n - (intOf i).toNat)
  case atStart => exact ⟨0, [], u2, _, _, rfl, Nat.zero_le _, HN.out, Lib.hid (by rw [Nat.sub_zero, HR.out, ahead_nil]), Lib.hid rfl, Lib.hid (fun x hx => by cases hx)⟩
  case round =>
    clear HN
    obtain ⟨k, l, v, sk, sd, rfl, hk, hst, hQ, hL, hG⟩ := hrel
    have HST := Lib.hid hst
    by_cases hkn : k < n
    · have cT := text_any rb v wr.drew (hst.rd.below (Below.refl _ _).drew)
      have S0 : wr.drew.cell? ⟨w.heap.size + 1, 2, none⟩ = some sk := hst.at_.2.2 2 _ rfl
      clear hst
      rcases hr1 : rText v with _ | ⟨x, v1⟩
      · rw [hr1] at cT
        have EN : Hid (rBranch u0 = none) := Lib.hid (by
          have h := hQ.out
          rw [show n - k = (n - k - 1) + 1 by omega] at h
          rw [ER.out, ← h]
          simp [rKids, hr1, ahead])
        clear hr1
        go_wp2_with fail
        refine region_last (S := fun w' => w'.cell? ⟨w.heap.size + 1, 2, none⟩ = some sk) 9 (by kernel_rfl) rfl rfl rfl rfl (by kernel_rfl) (by kernel_rfl) ?_
        intro w3 hw3
        subst hw3
        have hSR := S0
        simp only [List.set_cons_zero, List.set_cons_succ]
        refine wpAnyH_take (i := 0) (v := ?_) rfl (by kernel_rfl) (by kernel_rfl) (by kernel_rfl) (fun _ _ _ h => h) (Or.inl ⟨by rfl, ?_⟩) hSR ?_
        rotate_left
        · (intro w' hSw; (try dsimp only at hSw); go_simp; (try with_reducible rfl))
        simp only [Act.put]
        refine wpAnyH_take (i := 1) (v := ?_) rfl (by kernel_rfl) (by kernel_rfl) (by kernel_rfl) (fun _ _ _ h => h) (Or.inl ⟨by rfl, ?_⟩) hSR ?_
        rotate_left
        · (intro w' hSw; (try dsimp only at hSw); go_simp; (try with_reducible rfl))
        simp only [Act.put]
        refine wpAnyH_take (i := 2) (v := ?_) rfl (by kernel_rfl) (by kernel_rfl) (by kernel_rfl) (fun _ _ _ h => h) (Or.inl ⟨by rfl, ?_⟩) hSR ?_
        rotate_left
        · (intro w' hSw; (try dsimp only at hSw); go_simp; (try with_reducible rfl))
        simp only [Act.put]
        refine wpAnyH_take (i := 3) (v := ?_) rfl (by kernel_rfl) (by kernel_rfl) (by kernel_rfl) (fun _ _ _ h => h) (Or.inl ⟨by rfl, ?_⟩) hSR ?_
        rotate_left
        · (intro w' hSw; (try dsimp only at hSw); go_simp; (try with_reducible rfl))
        simp only [Act.put]
        refine wpAnyH_take (i := 4) (v := ?_) rfl (by kernel_rfl) (by kernel_rfl) (by kernel_rfl) (fun _ _ _ h => h) (Or.inl ⟨by rfl, ?_⟩) hSR ?_
        rotate_left
        · (intro w' hSw; (try dsimp only at hSw); go_simp; (try with_reducible rfl))
        simp only [Act.put]
        refine wpAnyH_ready (rs := [5]) (by kernel_rfl) (by simp) (AllReadyH.cons rfl (fun K hK => ?_) AllReadyH.nil)
        go_simp
        refine cT.mono ?_
        rintro e w2 ⟨hg, rfl⟩
        exact ⟨rfl, preads_none EN.out (HST.out.grown.trans ((gdrew wr rb).trans hg))⟩
      rw [hr1] at cT
      have E1 := Lib.hid hr1
      clear hr1
      go_wp2_with fail
      refine region_last (S := fun w' => w'.cell? ⟨w.heap.size + 1, 2, none⟩ = some sk) 9 (by kernel_rfl) rfl rfl rfl rfl (by kernel_rfl) (by kernel_rfl) ?_
      intro w3 hw3
      subst hw3
      have hSR := S0
      simp only [List.set_cons_zero, List.set_cons_succ]
      refine wpAnyH_take (i := 0) (v := ?_) rfl (by kernel_rfl) (by kernel_rfl) (by kernel_rfl) (fun _ _ _ h => h) (Or.inl ⟨by rfl, ?_⟩) hSR ?_
      rotate_left
      · (intro w' hSw; (try dsimp only at hSw); go_simp; (try with_reducible rfl))
      simp only [Act.put]
      refine wpAnyH_take (i := 1) (v := ?_) rfl (by kernel_rfl) (by kernel_rfl) (by kernel_rfl) (fun _ _ _ h => h) (Or.inl ⟨by rfl, ?_⟩) hSR ?_
      rotate_left
      · (intro w' hSw; (try dsimp only at hSw); go_simp; (try with_reducible rfl))
      simp only [Act.put]
      refine wpAnyH_take (i := 2) (v := ?_) rfl (by kernel_rfl) (by kernel_rfl) (by kernel_rfl) (fun _ _ _ h => h) (Or.inl ⟨by rfl, ?_⟩) hSR ?_
      rotate_left
      · (intro w' hSw; (try dsimp only at hSw); go_simp; (try with_reducible rfl))
      simp only [Act.put]
      refine wpAnyH_take (i := 3) (v := ?_) rfl (by kernel_rfl) (by kernel_rfl) (by kernel_rfl) (fun _ _ _ h => h) (Or.inl ⟨by rfl, ?_⟩) hSR ?_
      rotate_left
      · (intro w' hSw; (try dsimp only at hSw); go_simp; (try with_reducible rfl))
      simp only [Act.put]
      refine wpAnyH_take (i := 4) (v := ?_) rfl (by kernel_rfl) (by kernel_rfl) (by kernel_rfl) (fun _ _ _ h => h) (Or.inl ⟨by rfl, ?_⟩) hSR ?_
      rotate_left
      · (intro w' hSw; (try dsimp only at hSw); go_simp; (try with_reducible rfl))
      simp only [Act.put]
      refine wpAnyH_ready (rs := [5]) (by kernel_rfl) (by simp) (AllReadyH.cons rfl (fun K hK => ?_) AllReadyH.nil)
      go_simp
      refine cT.mono ?_
      rintro e w2 ⟨hg, rfl, hr⟩
      obtain ⟨X, hX⟩ : ∃ X, strB x = X := ⟨_, rfl⟩
      rw [show strV x = .string X by rw [← hX]]
      have gg := (gdrew wr rb).trans hg
      have q2 := HST.out.call LT.out gg hr
      obtain ⟨v', W', hrun, hc, hf, hst⟩ := key_more q2 LT.out x X hX (by rw [List.length_map, hL.out]; omega)
      obtain ⟨A', c', rfl, -, -⟩ := OwnG.own_row hst.keys
      obtain ⟨m', hm'⟩ : ∃ m', (l.map (·.1) ++ [x]).length = m' := ⟨_, rfl⟩
      rw [hm'] at hrun hst
      have Q := Lib.hid hrun
      have HN := Lib.hid hst
      have S2 := Lib.hid (q2.at_.2.2 2 _ rfl)
      have S3 := Lib.hid ((q2.at_.below ((Below.refl w2.heap.size w2).alloc (Nat.le_refl _) (.cells #[.string X] 9)) q2.at_.1).2.2 2 _ rfl)
      have S4 := Lib.hid hc
      clear hrun hst hm' hg hr gg q2 cT HST S0
      refine hK.out _ _ S2.out (fun hSR => ?_)
      clear hK K
      refine wpAnyH_ready (rs := [6]) (by kernel_rfl) (by simp) (AllReadyH.cons rfl (fun K hK => ?_) AllReadyH.nil)
      go_simp
      refine hK.out _ _ S3.out (fun hSR => ?_)
      clear hK K
      refine wpAnyH_ready (rs := [7]) (by kernel_rfl) (by simp) (AllReadyH.cons rfl (fun K hK => ?_) AllReadyH.nil)
      refine step_append2_eq (by rfl) (.tmp 23) (.tmp 28) _ _ (by rfl) (by rfl) (by rfl) Q.out ?_
      refine hK.out _ _ S4.out (fun hSR => ?_)
      clear hK K
      simp only [Act.put]
      refine wpAnyH_take (i := 8) (v := ?_) rfl (by kernel_rfl) (by kernel_rfl) (by kernel_rfl) (fun _ _ _ h => h) (Or.inl ⟨by rfl, ?_⟩) hSR ?_
      rotate_left
      · (intro w' hSw; (try dsimp only at hSw); go_simp; (try with_reducible rfl))
      simp only [Act.put]
      refine wpAnyH_take (i := 9) (v := ?_) rfl (by kernel_rfl) (by kernel_rfl) (by kernel_rfl) (fun _ _ _ h => h) (Or.inl ⟨by rfl, ?_⟩) hSR ?_
      rotate_left
      · (intro w' hSw; (try dsimp only at hSw); go_simp; (try with_reducible rfl))
      simp only [Act.put]
      refine wpAnyH_done (by kernel_rfl) ?_ _
      show Oper.wp _ _ _ _ _ _
      unfold Oper.wp
      go_simp
      clear hSR
      clear hX
      generalize W'.setCell ⟨w.heap.size + 1, 2, none⟩ (.slice A' m' c') = W5 at *
      have cT := number_any rb v1 W5.drew (HN.out.rd.below (Below.refl _ _).drew)
      have S0 : W5.drew.cell? ⟨w.heap.size + 1, 3, none⟩ = some sd := HN.out.at_.2.2 3 _ rfl
      clear hf
      rcases hr2 : rNum v1 with _ | ⟨y, v2⟩
      · rw [hr2] at cT
        have EN : Hid (rBranch u0 = none) := Lib.hid (by
          have h := hQ.out
          rw [show n - k = (n - k - 1) + 1 by omega] at h
          rw [ER.out, ← h]
          simp [rKids, E1.out, hr2, ahead])
        clear hr2
        go_wp2_with fail
        refine region_last (S := fun w' => w'.cell? ⟨w.heap.size + 1, 3, none⟩ = some sd) 9 (by kernel_rfl) rfl rfl rfl rfl (by kernel_rfl) (by kernel_rfl) ?_
        intro w3 hw3
        subst hw3
        have hSR := S0
        simp only [List.set_cons_zero, List.set_cons_succ]
        refine wpAnyH_take (i := 0) (v := ?_) rfl (by kernel_rfl) (by kernel_rfl) (by kernel_rfl) (fun _ _ _ h => h) (Or.inl ⟨by rfl, ?_⟩) hSR ?_
        rotate_left
        · (intro w' hSw; (try dsimp only at hSw); go_simp; (try with_reducible rfl))
        simp only [Act.put]
        refine wpAnyH_take (i := 1) (v := ?_) rfl (by kernel_rfl) (by kernel_rfl) (by kernel_rfl) (fun _ _ _ h => h) (Or.inl ⟨by rfl, ?_⟩) hSR ?_
        rotate_left
        · (intro w' hSw; (try dsimp only at hSw); go_simp; (try with_reducible rfl))
        simp only [Act.put]
        refine wpAnyH_take (i := 2) (v := ?_) rfl (by kernel_rfl) (by kernel_rfl) (by kernel_rfl) (fun _ _ _ h => h) (Or.inl ⟨by rfl, ?_⟩) hSR ?_
        rotate_left
        · (intro w' hSw; (try dsimp only at hSw); go_simp; (try with_reducible rfl))
        simp only [Act.put]
        refine wpAnyH_take (i := 3) (v := ?_) rfl (by kernel_rfl) (by kernel_rfl) (by kernel_rfl) (fun _ _ _ h => h) (Or.inl ⟨by rfl, ?_⟩) hSR ?_
        rotate_left
        · (intro w' hSw; (try dsimp only at hSw); go_simp; (try with_reducible rfl))
        simp only [Act.put]
        refine wpAnyH_take (i := 4) (v := ?_) rfl (by kernel_rfl) (by kernel_rfl) (by kernel_rfl) (fun _ _ _ h => h) (Or.inl ⟨by rfl, ?_⟩) hSR ?_
        rotate_left
        · (intro w' hSw; (try dsimp only at hSw); go_simp; (try with_reducible rfl))
        simp only [Act.put]
        refine wpAnyH_ready (rs := [5]) (by kernel_rfl) (by simp) (AllReadyH.cons rfl (fun K hK => ?_) AllReadyH.nil)
        go_simp
        refine cT.mono ?_
        rintro e w2 ⟨hg, rfl⟩
        exact ⟨rfl, preads_none EN.out (HN.out.grown.trans ((gdrew W5 rb).trans hg))⟩
      rw [hr2] at cT
      have HQ2 : Hid (ahead (l ++ [(x, y)]) (rKids (n - (k + 1)) v2) = R) := Lib.hid (by
        have h := hQ.out
        rw [show n - k = (n - (k + 1)) + 1 by omega] at h
        rw [← h, ← ahead_step]
        simp [rKids, E1.out, hr2])
      have NY := num_range hr2
      have HG2 : Hid (∀ q ∈ l ++ [(x, y)], 0 ≤ q.2 ∧ q.2 < 65536) := Lib.hid (fun q hq => by
        rcases List.mem_append.1 hq with hq | hq
        · exact hG.out q hq
        · simp only [List.mem_singleton] at hq; subst hq; exact NY)
      have HL2 : Hid ((l ++ [(x, y)]).length = k + 1) := Lib.hid (by rw [List.length_append, hL.out]; rfl)
      have HLL := Lib.hid (show (z :: l.map (·.2)).length ≤ 100000 by rw [List.length_cons, List.length_map, hL.out]; omega)
      clear hr2 hQ hG hL NY E1
      have HST := HN
      clear HN
      go_wp2_with fail
      refine region_last (S := fun w' => w'.cell? ⟨w.heap.size + 1, 3, none⟩ = some sd) 9 (by kernel_rfl) rfl rfl rfl rfl (by kernel_rfl) (by kernel_rfl) ?_
      intro w3 hw3
      subst hw3
      have hSR := S0
      simp only [List.set_cons_zero, List.set_cons_succ]
      refine wpAnyH_take (i := 0) (v := ?_) rfl (by kernel_rfl) (by kernel_rfl) (by kernel_rfl) (fun _ _ _ h => h) (Or.inl ⟨by rfl, ?_⟩) hSR ?_
      rotate_left
      · (intro w' hSw; (try dsimp only at hSw); go_simp; (try with_reducible rfl))
      simp only [Act.put]
      refine wpAnyH_take (i := 1) (v := ?_) rfl (by kernel_rfl) (by kernel_rfl) (by kernel_rfl) (fun _ _ _ h => h) (Or.inl ⟨by rfl, ?_⟩) hSR ?_
      rotate_left
      · (intro w' hSw; (try dsimp only at hSw); go_simp; (try with_reducible rfl))
      simp only [Act.put]
      refine wpAnyH_take (i := 2) (v := ?_) rfl (by kernel_rfl) (by kernel_rfl) (by kernel_rfl) (fun _ _ _ h => h) (Or.inl ⟨by rfl, ?_⟩) hSR ?_
      rotate_left
      · (intro w' hSw; (try dsimp only at hSw); go_simp; (try with_reducible rfl))
      simp only [Act.put]
      refine wpAnyH_take (i := 3) (v := ?_) rfl (by kernel_rfl) (by kernel_rfl) (by kernel_rfl) (fun _ _ _ h => h) (Or.inl ⟨by rfl, ?_⟩) hSR ?_
      rotate_left
      · (intro w' hSw; (try dsimp only at hSw); go_simp; (try with_reducible rfl))
      simp only [Act.put]
      refine wpAnyH_take (i := 4) (v := ?_) rfl (by kernel_rfl) (by kernel_rfl) (by kernel_rfl) (fun _ _ _ h => h) (Or.inl ⟨by rfl, ?_⟩) hSR ?_
      rotate_left
      · (intro w' hSw; (try dsimp only at hSw); go_simp; (try with_reducible rfl))
      simp only [Act.put]
      refine wpAnyH_ready (rs := [5]) (by kernel_rfl) (by simp) (AllReadyH.cons rfl (fun K hK => ?_) AllReadyH.nil)
      go_simp
      refine cT.mono ?_
      rintro e w2 ⟨hg, rfl, hr⟩
      have gg := (gdrew W5 rb).trans hg
      have q2 := HST.out.call LT.out gg hr
      obtain ⟨v', W', hrun, hc, hf, hst⟩ := kid_more q2 LT.out y HLL.out
      obtain ⟨A', c', rfl, -, -⟩ := OwnG.own_row hst.kids
      obtain ⟨m', hm'⟩ : ∃ m', (z :: l.map (·.2) ++ [y]).length = m' := ⟨_, rfl⟩
      rw [hm'] at hrun hst
      have Q := Lib.hid hrun
      have HN := Lib.hid hst
      have S2 := Lib.hid (q2.at_.2.2 3 _ rfl)
      have S3 := Lib.hid ((q2.at_.below ((Below.refl w2.heap.size w2).alloc (Nat.le_refl _) (.cells #[.int .i64 y] 3)) q2.at_.1).2.2 3 _ rfl)
      have S4 := Lib.hid hc
      clear hrun hst hm' hg hr gg q2 cT HST S0
      refine hK.out _ _ S2.out (fun hSR => ?_)
      clear hK K
      refine wpAnyH_ready (rs := [6]) (by kernel_rfl) (by simp) (AllReadyH.cons rfl (fun K hK => ?_) AllReadyH.nil)
      go_simp
      refine hK.out _ _ S3.out (fun hSR => ?_)
      clear hK K
      refine wpAnyH_ready (rs := [7]) (by kernel_rfl) (by simp) (AllReadyH.cons rfl (fun K hK => ?_) AllReadyH.nil)
      refine step_append2_eq (by rfl) (.tmp 32) (.tmp 37) _ _ (by rfl) (by rfl) (by rfl) Q.out ?_
      refine hK.out _ _ S4.out (fun hSR => ?_)
      clear hK K
      simp only [Act.put]
      refine wpAnyH_take (i := 8) (v := ?_) rfl (by kernel_rfl) (by kernel_rfl) (by kernel_rfl) (fun _ _ _ h => h) (Or.inl ⟨by rfl, ?_⟩) hSR ?_
      rotate_left
      · (intro w' hSw; (try dsimp only at hSw); go_simp; (try with_reducible rfl))
      simp only [Act.put]
      refine wpAnyH_take (i := 9) (v := ?_) rfl (by kernel_rfl) (by kernel_rfl) (by kernel_rfl) (fun _ _ _ h => h) (Or.inl ⟨by rfl, ?_⟩) hSR ?_
      rotate_left
      · (intro w' hSw; (try dsimp only at hSw); go_simp; (try with_reducible rfl))
      simp only [Act.put]
      refine wpAnyH_done (by kernel_rfl) ?_ _
      show Oper.wp _ _ _ _ _ _
      unfold Oper.wp
      go_simp
      clear hSR
      have HN2 : Hid (BrSt w rb ((l ++ [(x, y)]).map (·.1)) (z :: (l ++ [(x, y)]).map (·.2)) v2 _ _ _) := Lib.hid (by simpa using HN.out)
      go_wp2_with fail
      go_roundw
      case rel => exact ⟨k + 1, l ++ [(x, y)], v2, _, _, by go_num, by omega, HN2.out, HQ2, HL2, HG2⟩
      case measure => simp [intOf]; omega
    · obtain rfl : k = n := by omega
      have EN : Hid (rBranch u0 = some ({ kind := 2, keys := l.map (·.1), kids := z :: l.map (·.2) }, v)) := Lib.hid (by
        have h := hQ.out
        rw [Nat.sub_self] at h
        rw [ER.out, ← h]
        simp [rKids, ahead])
      have LN := Lib.hid hL.out
      obtain ⟨A, cA, e0, hcz, hcl, -, -⟩ := OwnG.row hst.keys
      subst e0
      obtain ⟨A2, cB, e0, hdz, hdl, -, -⟩ := OwnG.row hst.kids
      subst e0
      have HCZ := Lib.hid hcz
      have HCL := Lib.hid hcl
      have HDZ := Lib.hid hdz
      have HDL := Lib.hid hdl
      clear hcz hcl hdz hdl
      have AP := Lib.hid hst.at_
      have AR := Lib.hid hst.zero
      have G5 := Lib.hid hst.grown
      have R5 := Lib.hid hst.rd
      have HGE : Hid (∀ a, A = some a → w.heap.size ≤ a.block) := Lib.hid (fun a ha => by subst ha; have := (own_low hst.keys); omega)
      have HGF : Hid (∀ a, A2 = some a → w.heap.size ≤ a.block) := Lib.hid (fun a ha => by subst ha; have := (own_low hst.kids); omega)
      have OK := Lib.hid hst.keys
      have OD := Lib.hid hst.kids
      have NG : Hid (∀ x ∈ z :: l.map (·.2), 0 ≤ x ∧ x < 65536) := Lib.hid (fun x hx => by
        rcases List.mem_cons.1 hx with rfl | hx
        · exact NZ.out
        · obtain ⟨q, hq, rfl⟩ := List.mem_map.1 hx
          exact hG.out q hq)
      have LK : Hid ((l.map (·.1)).length = k ∧ (z :: l.map (·.2)).length = k + 1) := Lib.hid ⟨by rw [List.length_map, hL.out], by rw [List.length_cons, List.length_map, hL.out]⟩
      generalize l.map (·.1) = ks at *
      generalize z :: l.map (·.2) = ds at *
      clear hst HST hQ hL hG

      have c0 : wr.cell? ⟨w.heap.size + 1, 0, none⟩ = some (.int .i64 2) := AP.out.2.2 0 _ rfl
      have c1 : wr.cell? ⟨w.heap.size + 1, 1, none⟩ = some (.slice none 0 0) := AP.out.2.2 1 _ rfl
      have c2 : wr.cell? ⟨w.heap.size + 1, 2, none⟩ = some (.slice A ks.length cA) := AP.out.2.2 2 _ rfl
      have c3 : wr.cell? ⟨w.heap.size + 1, 3, none⟩ = some (.slice A2 ds.length cB) := AP.out.2.2 3 _ rfl
      have c4 : wr.cell? ⟨w.heap.size + 1, 4, none⟩ = some (.slice none 0 0) := AP.out.2.2 4 _ rfl
      have c5 : wr.cell? ⟨w.heap.size + 1, 5, none⟩ = some (.int .i64 0) := AP.out.2.2 5 _ rfl
      have c6 : wr.cell? ⟨w.heap.size + 1, 6, none⟩ = some (.int .u64 0) := AP.out.2.2 6 _ rfl
      have c7 : wr.cell? ⟨w.heap.size + 1, 7, none⟩ = some (.int .i64 0) := AP.out.2.2 7 _ rfl
      have c8 : wr.cell? ⟨w.heap.size + 1, 8, none⟩ = some (.int .i64 0) := AP.out.2.2 8 _ rfl
      have c9 : wr.cell? ⟨w.heap.size + 1, 9, none⟩ = some (.int .i64 0) := AP.out.2.2 9 _ rfl
      have c10 : wr.cell? ⟨w.heap.size + 1, 10, none⟩ = some (.int .i64 0) := AP.out.2.2 10 _ rfl
      have r0 : wr.cell? ⟨w.heap.size, 0, none⟩ = some (.int .i64 0) := AR.out.2.2 0 _ rfl
      have r1 : wr.cell? ⟨w.heap.size, 1, none⟩ = some (.slice none 0 0) := AR.out.2.2 1 _ rfl
      have r2 : wr.cell? ⟨w.heap.size, 2, none⟩ = some (.slice none 0 0) := AR.out.2.2 2 _ rfl
      have r3 : wr.cell? ⟨w.heap.size, 3, none⟩ = some (.slice none 0 0) := AR.out.2.2 3 _ rfl
      have r4 : wr.cell? ⟨w.heap.size, 4, none⟩ = some (.slice none 0 0) := AR.out.2.2 4 _ rfl
      have r5 : wr.cell? ⟨w.heap.size, 5, none⟩ = some (.int .i64 0) := AR.out.2.2 5 _ rfl
      have r6 : wr.cell? ⟨w.heap.size, 6, none⟩ = some (.int .u64 0) := AR.out.2.2 6 _ rfl
      have r7 : wr.cell? ⟨w.heap.size, 7, none⟩ = some (.int .i64 0) := AR.out.2.2 7 _ rfl
      have r8 : wr.cell? ⟨w.heap.size, 8, none⟩ = some (.int .i64 0) := AR.out.2.2 8 _ rfl
      have r9 : wr.cell? ⟨w.heap.size, 9, none⟩ = some (.int .i64 0) := AR.out.2.2 9 _ rfl
      have r10 : wr.cell? ⟨w.heap.size, 10, none⟩ = some (.int .i64 0) := AR.out.2.2 10 _ rfl
      have fz : ∀ j, wr.frozen? ⟨w.heap.size, j, none⟩ = false := AR.out.2.1
      have HAW := Lib.hid (set11_at AR.out (.int .i64 2) (.slice none 0 0) (.slice A ks.length cA) (.slice A2 ds.length cB) (.slice none 0 0) (.int .i64 0) (.int .u64 0) (.int .i64 0) (.int .i64 0) (.int .i64 0) (.int .i64 0))
      have HGW := Lib.hid (set11_grown G5.out (b := w.heap.size) (Nat.le_refl _) (.int .i64 2) (.slice none 0 0) (.slice A ks.length cA) (.slice A2 ds.length cB) (.slice none 0 0) (.int .i64 0) (.int .u64 0) (.int .i64 0) (.int .i64 0) (.int .i64 0) (.int .i64 0))
      have HRW := Lib.hid (set11_rd R5.out LT.out (.int .i64 2) (.slice none 0 0) (.slice A ks.length cA) (.slice A2 ds.length cB) (.slice none 0 0) (.int .i64 0) (.int .u64 0) (.int .i64 0) (.int .i64 0) (.int .i64 0) (.int .i64 0))
      have HOW : Hid (PgRows (set11 wr w.heap.size (.int .i64 2) (.slice none 0 0) (.slice A ks.length cA) (.slice A2 ds.length cB) (.slice none 0 0) (.int .i64 0) (.int .u64 0) (.int .i64 0) (.int .i64 0) (.int .i64 0) (.int .i64 0)) { kind := 2, keys := ks, kids := ds } { A2 := A, c2 := cA, A3 := A2, c3 := cB }) := Lib.hid (by
        have g := set11_only wr w.heap.size (.int .i64 2) (.slice none 0 0) (.slice A ks.length cA) (.slice A2 ds.length cB) (.slice none 0 0) (.int .i64 0) (.int .u64 0) (.int .i64 0) (.int .i64 0) (.int .i64 0) (.int .i64 0)
        exact ⟨fun h => absurd rfl h, own_apart OK.out g (by omega), own_apart OD.out g (by omega), fun h => absurd rfl h⟩)
      clear AP AR R5 G5 OK OD
      generalize hkl : ks.length = kl at *
      generalize hdl : ds.length = dl at *
      go_wp2_with fail
      change bodyPost _ _ _ _ _ (set11 wr w.heap.size (.int .i64 2) (.slice none 0 0) (.slice A kl cA) (.slice A2 dl cB) (.slice none 0 0) (.int .i64 0) (.int .u64 0) (.int .i64 0) (.int .i64 0) (.int .i64 0) (.int .i64 0))
      generalize set11 wr w.heap.size (.int .i64 2) (.slice none 0 0) (.slice A kl cA) (.slice A2 dl cB) (.slice none 0 0) (.int .i64 0) (.int .u64 0) (.int .i64 0) (.int .i64 0) (.int .i64 0) (.int .i64 0) = W at *
      clear c0 r0 c1 r1 c2 r2 c3 r3 c4 r4 c5 r5 c6 r6 c7 r7 c8 r8 c9 r9 c10 r10 fz
      have c0 := HAW.out.2.2 0 _ rfl
      have c1 := HAW.out.2.2 1 _ rfl
      have c2 := HAW.out.2.2 2 _ rfl
      have c3 := HAW.out.2.2 3 _ rfl
      have c4 := HAW.out.2.2 4 _ rfl
      have c5 := HAW.out.2.2 5 _ rfl
      have c6 := HAW.out.2.2 6 _ rfl
      have c7 := HAW.out.2.2 7 _ rfl
      have c8 := HAW.out.2.2 8 _ rfl
      have c9 := HAW.out.2.2 9 _ rfl
      have c10 := HAW.out.2.2 10 _ rfl
      refine bodyPost_ret (v := .agg #[.int .i64 2, .slice none 0 0, .slice A kl cA, .slice A2 dl cB, .slice none 0 0, .int .i64 0, .int .u64 0, .int .i64 0, .int .i64 0, .int .i64 0, .int .i64 0]) (by simp [results, Tryz.results183, go_sem, *]) rfl ?_
      subst hkl hdl
      refine preads_some (p := { kind := 2, keys := ks, kids := ds }) (u := v) { A2 := A, c2 := cA, A3 := A2, c3 := cB } EN.out HGW.out HOW.out (by have := LK.out; refine ⟨?_, ?_, ?_, ?_, ?_, ?_, ?_, ?_, ?_, ?_, ?_⟩ <;> simp [I64] <;> omega) HRW.out ⟨(fun _ h => by cases h), HGE.out, HGF.out, (fun _ h => by cases h), (fun _ => rfl), (by simp), HCL.out, HDL.out, (by simp), (fun _ => rfl), HCZ.out, HDZ.out⟩
end Go.Proofs.YtboaamaneeodfaaGreat.Page
namespace Go.Proofs.YtboaamaneeodfaaGreat.Page
open Go.RowKit Gen

def rBody (k : Nat) (v : Bs) : Option (Pg × Bs) := if k = 1 then rLeaf v else if k = 2 then rBranch v else if k = 3 then rFree v else if k = 4 then rSuper v else none
def rPage (u : Bs) : Option (Pg × Bs) := (rWide 1 u).bind fun a => if 2 ≤ a.2.length then rBody a.1 (a.2.drop 2) else none
theorem PRow.apart {w w' : World} {A : Option Addr} {l : List (Bs × Bs)} {row : Option Nat} (h : PRow w A l) (g : w.grownBy w' row) (hA : ∀ a, A = some a → some a.block ≠ row) : PRow w' A l := fun hne => by
  obtain ⟨b, off, e, hlt, hc⟩ := h hne
  have hb := g.block b hlt (hA _ e)
  refine ⟨b, off, e, Nat.lt_of_lt_of_le hlt g.size, fun j hj => ⟨?_, ?_⟩⟩
  · rw [World.cell?_of_block (w := w) (a := ⟨b, off + j * 2, none⟩) hb]; exact (hc j hj).1
  · rw [World.cell?_of_block (w := w) (a := ⟨b, off + j * 2 + 1, none⟩) hb]; exact (hc j hj).2
theorem PgRows.apart {w w' : World} {p : Pg} {a : Lay} {b n : Nat} (h : PgRows w p a) (g : w.grownBy w' (some b)) (hn : New p a n) (hb : b < n) : PgRows w' p a :=
  ⟨h.r1.apart g (fun x e => by have := hn.n1 x e; simp; omega), row_grown h.r2 g (fun _ x e => by have := hn.n2 x e; simp; omega), row_grown h.r3 g (fun _ x e => by have := hn.n3 x e; simp; omega), row_grown h.r4 g (fun _ x e => by have := hn.n4 x e; simp; omega)⟩
theorem New.mono {p : Pg} {a : Lay} {m n : Nat} (h : New p a n) (hm : m ≤ n) : New p a m := ⟨fun x e => Nat.le_trans hm (h.n1 x e), fun x e => Nat.le_trans hm (h.n2 x e), fun x e => Nat.le_trans hm (h.n3 x e), fun x e => Nat.le_trans hm (h.n4 x e), h.n5, h.k1, h.k2, h.k3, h.k4, h.z1, h.z2, h.z3⟩
theorem wide1_any (rb : Nat) (u : Bs) (w : World) (h : Rd w rb u) : Calls Tryz.prog 162 #[ptr rb, .int .i64 1] w (Reads (rWide 1 u) (fun n : Nat => .int .u64 (n : Int)) rb w) := wide_any rb 1 u w h (by omega)
theorem wide8_any (rb : Nat) (u : Bs) (w : World) (h : Rd w rb u) : Calls Tryz.prog 162 #[ptr rb, .int .i64 8] w (Reads (rWide 8 u) (fun n : Nat => .int .u64 (n : Int)) rb w) := wide_any rb 8 u w h (by omega)
theorem take2_ok (rb : Nat) (u : Bs) (w : World) (h : Rd w rb u) (hk : 2 ≤ u.length) : Calls Tryz.prog 181 #[ptr rb, .int .i64 2] w (Takes 2 u rb w) := take_ok rb 2 u w h hk
theorem take2_bad (rb : Nat) (u : Bs) (w : World) (h : Rd w rb u) (hk : u.length < 2) : Calls Tryz.prog 181 #[ptr rb, .int .i64 2] w fun e w' => e = gaveUp ∧ w.grownBy w' (some rb) := take_bad rb 2 u w h hk
set_option maxRecDepth 100000 in
set_option maxHeartbeats 8000000 in
theorem page_read (rb : Nat) (u0 : Bs) (w : World) (h : Rd w rb u0) : Calls Tryz.prog 161 #[ptr rb] w (PReads (rPage u0) rb w) := by
  have hlt := h.lt
  have b0 : Below w.heap.size w (w.alloc (.cells (pC 0) 82)) := (Below.refl _ _).alloc (Nat.le_refl _) _
  have G0 := Lib.hid (grown_alloc (rb := rb) (World.grownBy.refl w (some rb)) (.cells (pC 0) 82))
  have AR0 := Lib.hid (show At (w.alloc (.cells (pC 0) 82)) w.heap.size (pC 0) from At.of_block (heap_alloc_last w _))
  have LT := Lib.hid hlt
  have cF := wide1_any rb u0 _ (h.below b0)
  have SZ := Lib.hid (show w.heap.size < (w.alloc (.cells (pC 0) 82)).heap.size by simp)
  clear b0 h hlt
  unfold pC pgC at *
  rcases hr0 : rWide 1 u0 with _ | ⟨k, u1⟩
  · rw [hr0] at cF
    have Z0 := Lib.hid hr0
    clear hr0
    go_enter Tryz.func161, Tryz.ntmps161
    go_wp2_with fail
    refine cF.mono ?_
    rintro e w1 ⟨hg, rfl⟩
    exact ⟨rfl, preads_none (by simp [rPage, Z0.out]) (G0.out.trans hg)⟩
  rw [hr0] at cF
  have E0 := Lib.hid hr0
  clear hr0
  go_enter Tryz.func161, Tryz.ntmps161
  go_wp2_with fail
  refine cF.mono ?_
  rintro e w1 ⟨hg, rfl, hr⟩
  have G1 := Lib.hid (G0.out.trans hg)
  have AR1 := Lib.hid (AR0.out.grown hg (by have := LT.out; omega))
  have SZ1 := Lib.hid (Nat.lt_of_lt_of_le SZ.out hg.size)
  by_cases h2 : 2 ≤ u1.length
  rotate_left
  · have cT := take2_bad rb u1 w1 hr (by omega)
    have Z1 : Hid (rPage u0 = none) := Lib.hid (by simp [rPage, E0.out, h2])
    clear hg hr cF h2
    go_wp2_with fail
    refine cT.mono ?_
    rintro e w2 ⟨rfl, hg⟩
    exact ⟨rfl, preads_none Z1.out (G1.out.trans hg)⟩
  have cT := take2_ok rb u1 w1 hr h2
  have Z1 : Hid (rPage u0 = rBody k (u1.drop 2)) := Lib.hid (by simp [rPage, E0.out, h2])
  clear hg hr cF h2 E0 AR0 G0 SZ
  unfold Takes at cT
  generalize u1.drop 2 = u2 at *
  go_wp2_with fail
  refine cT.mono ?_
  rintro e w2 ⟨A, c, rfl, -, hr, hg⟩
  have G2 := Lib.hid (G1.out.trans hg)
  have AR2 := Lib.hid (AR1.out.grown hg (by have := LT.out; omega))
  have SZ2 := Lib.hid (Nat.lt_of_lt_of_le SZ1.out hg.size)
  have RD := Lib.hid hr
  clear hg hr cT AR1 G1 SZ1
  by_cases hk1 : k = 1
  · have b1 : ((k : Int) == 1) = true := by subst hk1; rfl
    have Z2 : Hid (rPage u0 = rLeaf u2) := Lib.hid (by rw [Z1.out]; simp [rBody, hk1])
    have cB := leaf_read rb u2 w2 RD.out
    clear hk1 RD Z1
    rcases hr1 : rLeaf u2 with _ | ⟨p, v⟩
    · rw [hr1] at cB
      have Z3 := Lib.hid (Z2.out.trans hr1)
      clear hr1
      go_wp2_with fail
      refine cB.mono ?_
      rintro e w3 ⟨hg, rfl⟩
      exact ⟨rfl, preads_none Z3.out (G2.out.trans hg)⟩
    rw [hr1] at cB
    have Z3 := Lib.hid (Z2.out.trans hr1)
    clear hr1
    go_wp2_with fail
    refine cB.mono ?_
    rintro e w3 ⟨hg, a, rfl, hrows, hok, hrd, hnew⟩
    have AR3 := AR2.out.grown hg (by have := LT.out; omega)
    have r0 : w3.cell? ⟨w.heap.size, 0, none⟩ = some (.int .i64 0) := AR3.2.2 0 _ rfl
    have r1 : w3.cell? ⟨w.heap.size, 1, none⟩ = some (.slice none 0 0) := AR3.2.2 1 _ rfl
    have r2 : w3.cell? ⟨w.heap.size, 2, none⟩ = some (.slice none 0 0) := AR3.2.2 2 _ rfl
    have r3 : w3.cell? ⟨w.heap.size, 3, none⟩ = some (.slice none 0 0) := AR3.2.2 3 _ rfl
    have r4 : w3.cell? ⟨w.heap.size, 4, none⟩ = some (.slice none 0 0) := AR3.2.2 4 _ rfl
    have r5 : w3.cell? ⟨w.heap.size, 5, none⟩ = some (.int .i64 0) := AR3.2.2 5 _ rfl
    have r6 : w3.cell? ⟨w.heap.size, 6, none⟩ = some (.int .u64 0) := AR3.2.2 6 _ rfl
    have r7 : w3.cell? ⟨w.heap.size, 7, none⟩ = some (.int .i64 0) := AR3.2.2 7 _ rfl
    have r8 : w3.cell? ⟨w.heap.size, 8, none⟩ = some (.int .i64 0) := AR3.2.2 8 _ rfl
    have r9 : w3.cell? ⟨w.heap.size, 9, none⟩ = some (.int .i64 0) := AR3.2.2 9 _ rfl
    have r10 : w3.cell? ⟨w.heap.size, 10, none⟩ = some (.int .i64 0) := AR3.2.2 10 _ rfl
    have fz : ∀ j, w3.frozen? ⟨w.heap.size, j, none⟩ = false := AR3.2.1
    have HAW := Lib.hid (set11_at AR3 (.int .i64 p.kind) (.slice a.A1 p.pairs.length a.c1) (.slice a.A2 p.keys.length a.c2) (.slice a.A3 p.kids.length a.c3) (.slice a.A4 p.pages.length a.c4) (.int .i64 p.next) (.int .u64 (p.epoch : Int)) (.int .i64 p.root) (.int .i64 p.depth) (.int .i64 p.count) (.int .i64 p.high))
    have HGW := Lib.hid (set11_grown (G2.out.trans hg) (b := w.heap.size) (Nat.le_refl _) (.int .i64 p.kind) (.slice a.A1 p.pairs.length a.c1) (.slice a.A2 p.keys.length a.c2) (.slice a.A3 p.kids.length a.c3) (.slice a.A4 p.pages.length a.c4) (.int .i64 p.next) (.int .u64 (p.epoch : Int)) (.int .i64 p.root) (.int .i64 p.depth) (.int .i64 p.count) (.int .i64 p.high))
    have HRW := Lib.hid (set11_rd hrd LT.out (.int .i64 p.kind) (.slice a.A1 p.pairs.length a.c1) (.slice a.A2 p.keys.length a.c2) (.slice a.A3 p.kids.length a.c3) (.slice a.A4 p.pages.length a.c4) (.int .i64 p.next) (.int .u64 (p.epoch : Int)) (.int .i64 p.root) (.int .i64 p.depth) (.int .i64 p.count) (.int .i64 p.high))
    have HOW := Lib.hid (hrows.apart (set11_only w3 w.heap.size (.int .i64 p.kind) (.slice a.A1 p.pairs.length a.c1) (.slice a.A2 p.keys.length a.c2) (.slice a.A3 p.kids.length a.c3) (.slice a.A4 p.pages.length a.c4) (.int .i64 p.next) (.int .u64 (p.epoch : Int)) (.int .i64 p.root) (.int .i64 p.depth) (.int .i64 p.count) (.int .i64 p.high)) hnew SZ2.out)
    have HOK := Lib.hid hok
    have HNW := Lib.hid (hnew.mono (Nat.le_of_lt SZ2.out))
    clear AR3 hg hrows hok hrd hnew cB
    go_wp2_with fail
    change bodyPost _ _ _ _ _ (set11 w3 w.heap.size (.int .i64 p.kind) (.slice a.A1 p.pairs.length a.c1) (.slice a.A2 p.keys.length a.c2) (.slice a.A3 p.kids.length a.c3) (.slice a.A4 p.pages.length a.c4) (.int .i64 p.next) (.int .u64 (p.epoch : Int)) (.int .i64 p.root) (.int .i64 p.depth) (.int .i64 p.count) (.int .i64 p.high))
    generalize set11 w3 w.heap.size (.int .i64 p.kind) (.slice a.A1 p.pairs.length a.c1) (.slice a.A2 p.keys.length a.c2) (.slice a.A3 p.kids.length a.c3) (.slice a.A4 p.pages.length a.c4) (.int .i64 p.next) (.int .u64 (p.epoch : Int)) (.int .i64 p.root) (.int .i64 p.depth) (.int .i64 p.count) (.int .i64 p.high) = W at *
    clear r0 r1 r2 r3 r4 r5 r6 r7 r8 r9 r10 fz
    have c0 := HAW.out.2.2 0 _ rfl
    have c1 := HAW.out.2.2 1 _ rfl
    have c2 := HAW.out.2.2 2 _ rfl
    have c3 := HAW.out.2.2 3 _ rfl
    have c4 := HAW.out.2.2 4 _ rfl
    have c5 := HAW.out.2.2 5 _ rfl
    have c6 := HAW.out.2.2 6 _ rfl
    have c7 := HAW.out.2.2 7 _ rfl
    have c8 := HAW.out.2.2 8 _ rfl
    have c9 := HAW.out.2.2 9 _ rfl
    have c10 := HAW.out.2.2 10 _ rfl
    refine bodyPost_ret (v := pgV p a) (by simp [results, Tryz.results161, go_sem, *]) rfl ?_
    exact preads_some a Z3.out HGW.out HOW.out HOK.out HRW.out HNW.out
  have b1 : ((k : Int) == 1) = false := beq_eq_false_iff_ne.2 (by omega)
  by_cases hk2 : k = 2
  · have b2 : ((k : Int) == 2) = true := by subst hk2; rfl
    have Z2 : Hid (rPage u0 = rBranch u2) := Lib.hid (by rw [Z1.out]; simp [rBody, hk2])
    have cB := branch_read rb u2 w2 RD.out
    clear hk2 hk1 RD Z1
    rcases hr1 : rBranch u2 with _ | ⟨p, v⟩
    · rw [hr1] at cB
      have Z3 := Lib.hid (Z2.out.trans hr1)
      clear hr1
      go_wp2_with fail
      refine cB.mono ?_
      rintro e w3 ⟨hg, rfl⟩
      exact ⟨rfl, preads_none Z3.out (G2.out.trans hg)⟩
    rw [hr1] at cB
    have Z3 := Lib.hid (Z2.out.trans hr1)
    clear hr1
    go_wp2_with fail
    refine cB.mono ?_
    rintro e w3 ⟨hg, a, rfl, hrows, hok, hrd, hnew⟩
    have AR3 := AR2.out.grown hg (by have := LT.out; omega)
    have r0 : w3.cell? ⟨w.heap.size, 0, none⟩ = some (.int .i64 0) := AR3.2.2 0 _ rfl
    have r1 : w3.cell? ⟨w.heap.size, 1, none⟩ = some (.slice none 0 0) := AR3.2.2 1 _ rfl
    have r2 : w3.cell? ⟨w.heap.size, 2, none⟩ = some (.slice none 0 0) := AR3.2.2 2 _ rfl
    have r3 : w3.cell? ⟨w.heap.size, 3, none⟩ = some (.slice none 0 0) := AR3.2.2 3 _ rfl
    have r4 : w3.cell? ⟨w.heap.size, 4, none⟩ = some (.slice none 0 0) := AR3.2.2 4 _ rfl
    have r5 : w3.cell? ⟨w.heap.size, 5, none⟩ = some (.int .i64 0) := AR3.2.2 5 _ rfl
    have r6 : w3.cell? ⟨w.heap.size, 6, none⟩ = some (.int .u64 0) := AR3.2.2 6 _ rfl
    have r7 : w3.cell? ⟨w.heap.size, 7, none⟩ = some (.int .i64 0) := AR3.2.2 7 _ rfl
    have r8 : w3.cell? ⟨w.heap.size, 8, none⟩ = some (.int .i64 0) := AR3.2.2 8 _ rfl
    have r9 : w3.cell? ⟨w.heap.size, 9, none⟩ = some (.int .i64 0) := AR3.2.2 9 _ rfl
    have r10 : w3.cell? ⟨w.heap.size, 10, none⟩ = some (.int .i64 0) := AR3.2.2 10 _ rfl
    have fz : ∀ j, w3.frozen? ⟨w.heap.size, j, none⟩ = false := AR3.2.1
    have HAW := Lib.hid (set11_at AR3 (.int .i64 p.kind) (.slice a.A1 p.pairs.length a.c1) (.slice a.A2 p.keys.length a.c2) (.slice a.A3 p.kids.length a.c3) (.slice a.A4 p.pages.length a.c4) (.int .i64 p.next) (.int .u64 (p.epoch : Int)) (.int .i64 p.root) (.int .i64 p.depth) (.int .i64 p.count) (.int .i64 p.high))
    have HGW := Lib.hid (set11_grown (G2.out.trans hg) (b := w.heap.size) (Nat.le_refl _) (.int .i64 p.kind) (.slice a.A1 p.pairs.length a.c1) (.slice a.A2 p.keys.length a.c2) (.slice a.A3 p.kids.length a.c3) (.slice a.A4 p.pages.length a.c4) (.int .i64 p.next) (.int .u64 (p.epoch : Int)) (.int .i64 p.root) (.int .i64 p.depth) (.int .i64 p.count) (.int .i64 p.high))
    have HRW := Lib.hid (set11_rd hrd LT.out (.int .i64 p.kind) (.slice a.A1 p.pairs.length a.c1) (.slice a.A2 p.keys.length a.c2) (.slice a.A3 p.kids.length a.c3) (.slice a.A4 p.pages.length a.c4) (.int .i64 p.next) (.int .u64 (p.epoch : Int)) (.int .i64 p.root) (.int .i64 p.depth) (.int .i64 p.count) (.int .i64 p.high))
    have HOW := Lib.hid (hrows.apart (set11_only w3 w.heap.size (.int .i64 p.kind) (.slice a.A1 p.pairs.length a.c1) (.slice a.A2 p.keys.length a.c2) (.slice a.A3 p.kids.length a.c3) (.slice a.A4 p.pages.length a.c4) (.int .i64 p.next) (.int .u64 (p.epoch : Int)) (.int .i64 p.root) (.int .i64 p.depth) (.int .i64 p.count) (.int .i64 p.high)) hnew SZ2.out)
    have HOK := Lib.hid hok
    have HNW := Lib.hid (hnew.mono (Nat.le_of_lt SZ2.out))
    clear AR3 hg hrows hok hrd hnew cB
    go_wp2_with fail
    change bodyPost _ _ _ _ _ (set11 w3 w.heap.size (.int .i64 p.kind) (.slice a.A1 p.pairs.length a.c1) (.slice a.A2 p.keys.length a.c2) (.slice a.A3 p.kids.length a.c3) (.slice a.A4 p.pages.length a.c4) (.int .i64 p.next) (.int .u64 (p.epoch : Int)) (.int .i64 p.root) (.int .i64 p.depth) (.int .i64 p.count) (.int .i64 p.high))
    generalize set11 w3 w.heap.size (.int .i64 p.kind) (.slice a.A1 p.pairs.length a.c1) (.slice a.A2 p.keys.length a.c2) (.slice a.A3 p.kids.length a.c3) (.slice a.A4 p.pages.length a.c4) (.int .i64 p.next) (.int .u64 (p.epoch : Int)) (.int .i64 p.root) (.int .i64 p.depth) (.int .i64 p.count) (.int .i64 p.high) = W at *
    clear r0 r1 r2 r3 r4 r5 r6 r7 r8 r9 r10 fz
    have c0 := HAW.out.2.2 0 _ rfl
    have c1 := HAW.out.2.2 1 _ rfl
    have c2 := HAW.out.2.2 2 _ rfl
    have c3 := HAW.out.2.2 3 _ rfl
    have c4 := HAW.out.2.2 4 _ rfl
    have c5 := HAW.out.2.2 5 _ rfl
    have c6 := HAW.out.2.2 6 _ rfl
    have c7 := HAW.out.2.2 7 _ rfl
    have c8 := HAW.out.2.2 8 _ rfl
    have c9 := HAW.out.2.2 9 _ rfl
    have c10 := HAW.out.2.2 10 _ rfl
    refine bodyPost_ret (v := pgV p a) (by simp [results, Tryz.results161, go_sem, *]) rfl ?_
    exact preads_some a Z3.out HGW.out HOW.out HOK.out HRW.out HNW.out
  have b2 : ((k : Int) == 2) = false := beq_eq_false_iff_ne.2 (by omega)
  by_cases hk3 : k = 3
  · have b3 : ((k : Int) == 3) = true := by subst hk3; rfl
    have Z2 : Hid (rPage u0 = rFree u2) := Lib.hid (by rw [Z1.out]; simp [rBody, hk3])
    have cB := free_read rb u2 w2 RD.out
    clear hk3 hk1 hk2 RD Z1
    rcases hr1 : rFree u2 with _ | ⟨p, v⟩
    · rw [hr1] at cB
      have Z3 := Lib.hid (Z2.out.trans hr1)
      clear hr1
      go_wp2_with fail
      refine cB.mono ?_
      rintro e w3 ⟨hg, rfl⟩
      exact ⟨rfl, preads_none Z3.out (G2.out.trans hg)⟩
    rw [hr1] at cB
    have Z3 := Lib.hid (Z2.out.trans hr1)
    clear hr1
    go_wp2_with fail
    refine cB.mono ?_
    rintro e w3 ⟨hg, a, rfl, hrows, hok, hrd, hnew⟩
    have AR3 := AR2.out.grown hg (by have := LT.out; omega)
    have r0 : w3.cell? ⟨w.heap.size, 0, none⟩ = some (.int .i64 0) := AR3.2.2 0 _ rfl
    have r1 : w3.cell? ⟨w.heap.size, 1, none⟩ = some (.slice none 0 0) := AR3.2.2 1 _ rfl
    have r2 : w3.cell? ⟨w.heap.size, 2, none⟩ = some (.slice none 0 0) := AR3.2.2 2 _ rfl
    have r3 : w3.cell? ⟨w.heap.size, 3, none⟩ = some (.slice none 0 0) := AR3.2.2 3 _ rfl
    have r4 : w3.cell? ⟨w.heap.size, 4, none⟩ = some (.slice none 0 0) := AR3.2.2 4 _ rfl
    have r5 : w3.cell? ⟨w.heap.size, 5, none⟩ = some (.int .i64 0) := AR3.2.2 5 _ rfl
    have r6 : w3.cell? ⟨w.heap.size, 6, none⟩ = some (.int .u64 0) := AR3.2.2 6 _ rfl
    have r7 : w3.cell? ⟨w.heap.size, 7, none⟩ = some (.int .i64 0) := AR3.2.2 7 _ rfl
    have r8 : w3.cell? ⟨w.heap.size, 8, none⟩ = some (.int .i64 0) := AR3.2.2 8 _ rfl
    have r9 : w3.cell? ⟨w.heap.size, 9, none⟩ = some (.int .i64 0) := AR3.2.2 9 _ rfl
    have r10 : w3.cell? ⟨w.heap.size, 10, none⟩ = some (.int .i64 0) := AR3.2.2 10 _ rfl
    have fz : ∀ j, w3.frozen? ⟨w.heap.size, j, none⟩ = false := AR3.2.1
    have HAW := Lib.hid (set11_at AR3 (.int .i64 p.kind) (.slice a.A1 p.pairs.length a.c1) (.slice a.A2 p.keys.length a.c2) (.slice a.A3 p.kids.length a.c3) (.slice a.A4 p.pages.length a.c4) (.int .i64 p.next) (.int .u64 (p.epoch : Int)) (.int .i64 p.root) (.int .i64 p.depth) (.int .i64 p.count) (.int .i64 p.high))
    have HGW := Lib.hid (set11_grown (G2.out.trans hg) (b := w.heap.size) (Nat.le_refl _) (.int .i64 p.kind) (.slice a.A1 p.pairs.length a.c1) (.slice a.A2 p.keys.length a.c2) (.slice a.A3 p.kids.length a.c3) (.slice a.A4 p.pages.length a.c4) (.int .i64 p.next) (.int .u64 (p.epoch : Int)) (.int .i64 p.root) (.int .i64 p.depth) (.int .i64 p.count) (.int .i64 p.high))
    have HRW := Lib.hid (set11_rd hrd LT.out (.int .i64 p.kind) (.slice a.A1 p.pairs.length a.c1) (.slice a.A2 p.keys.length a.c2) (.slice a.A3 p.kids.length a.c3) (.slice a.A4 p.pages.length a.c4) (.int .i64 p.next) (.int .u64 (p.epoch : Int)) (.int .i64 p.root) (.int .i64 p.depth) (.int .i64 p.count) (.int .i64 p.high))
    have HOW := Lib.hid (hrows.apart (set11_only w3 w.heap.size (.int .i64 p.kind) (.slice a.A1 p.pairs.length a.c1) (.slice a.A2 p.keys.length a.c2) (.slice a.A3 p.kids.length a.c3) (.slice a.A4 p.pages.length a.c4) (.int .i64 p.next) (.int .u64 (p.epoch : Int)) (.int .i64 p.root) (.int .i64 p.depth) (.int .i64 p.count) (.int .i64 p.high)) hnew SZ2.out)
    have HOK := Lib.hid hok
    have HNW := Lib.hid (hnew.mono (Nat.le_of_lt SZ2.out))
    clear AR3 hg hrows hok hrd hnew cB
    go_wp2_with fail
    change bodyPost _ _ _ _ _ (set11 w3 w.heap.size (.int .i64 p.kind) (.slice a.A1 p.pairs.length a.c1) (.slice a.A2 p.keys.length a.c2) (.slice a.A3 p.kids.length a.c3) (.slice a.A4 p.pages.length a.c4) (.int .i64 p.next) (.int .u64 (p.epoch : Int)) (.int .i64 p.root) (.int .i64 p.depth) (.int .i64 p.count) (.int .i64 p.high))
    generalize set11 w3 w.heap.size (.int .i64 p.kind) (.slice a.A1 p.pairs.length a.c1) (.slice a.A2 p.keys.length a.c2) (.slice a.A3 p.kids.length a.c3) (.slice a.A4 p.pages.length a.c4) (.int .i64 p.next) (.int .u64 (p.epoch : Int)) (.int .i64 p.root) (.int .i64 p.depth) (.int .i64 p.count) (.int .i64 p.high) = W at *
    clear r0 r1 r2 r3 r4 r5 r6 r7 r8 r9 r10 fz
    have c0 := HAW.out.2.2 0 _ rfl
    have c1 := HAW.out.2.2 1 _ rfl
    have c2 := HAW.out.2.2 2 _ rfl
    have c3 := HAW.out.2.2 3 _ rfl
    have c4 := HAW.out.2.2 4 _ rfl
    have c5 := HAW.out.2.2 5 _ rfl
    have c6 := HAW.out.2.2 6 _ rfl
    have c7 := HAW.out.2.2 7 _ rfl
    have c8 := HAW.out.2.2 8 _ rfl
    have c9 := HAW.out.2.2 9 _ rfl
    have c10 := HAW.out.2.2 10 _ rfl
    refine bodyPost_ret (v := pgV p a) (by simp [results, Tryz.results161, go_sem, *]) rfl ?_
    exact preads_some a Z3.out HGW.out HOW.out HOK.out HRW.out HNW.out
  have b3 : ((k : Int) == 3) = false := beq_eq_false_iff_ne.2 (by omega)
  by_cases hk4 : k = 4
  · have b4 : ((k : Int) == 4) = true := by subst hk4; rfl
    have Z2 : Hid (rPage u0 = rSuper u2) := Lib.hid (by rw [Z1.out]; simp [rBody, hk4])
    have cB := super_read rb u2 w2 RD.out
    clear hk4 hk1 hk2 hk3 RD Z1
    rcases hr1 : rSuper u2 with _ | ⟨p, v⟩
    · rw [hr1] at cB
      have Z3 := Lib.hid (Z2.out.trans hr1)
      clear hr1
      go_wp2_with fail
      refine cB.mono ?_
      rintro e w3 ⟨hg, rfl⟩
      exact ⟨rfl, preads_none Z3.out (G2.out.trans hg)⟩
    rw [hr1] at cB
    have Z3 := Lib.hid (Z2.out.trans hr1)
    clear hr1
    go_wp2_with fail
    refine cB.mono ?_
    rintro e w3 ⟨hg, a, rfl, hrows, hok, hrd, hnew⟩
    have AR3 := AR2.out.grown hg (by have := LT.out; omega)
    have r0 : w3.cell? ⟨w.heap.size, 0, none⟩ = some (.int .i64 0) := AR3.2.2 0 _ rfl
    have r1 : w3.cell? ⟨w.heap.size, 1, none⟩ = some (.slice none 0 0) := AR3.2.2 1 _ rfl
    have r2 : w3.cell? ⟨w.heap.size, 2, none⟩ = some (.slice none 0 0) := AR3.2.2 2 _ rfl
    have r3 : w3.cell? ⟨w.heap.size, 3, none⟩ = some (.slice none 0 0) := AR3.2.2 3 _ rfl
    have r4 : w3.cell? ⟨w.heap.size, 4, none⟩ = some (.slice none 0 0) := AR3.2.2 4 _ rfl
    have r5 : w3.cell? ⟨w.heap.size, 5, none⟩ = some (.int .i64 0) := AR3.2.2 5 _ rfl
    have r6 : w3.cell? ⟨w.heap.size, 6, none⟩ = some (.int .u64 0) := AR3.2.2 6 _ rfl
    have r7 : w3.cell? ⟨w.heap.size, 7, none⟩ = some (.int .i64 0) := AR3.2.2 7 _ rfl
    have r8 : w3.cell? ⟨w.heap.size, 8, none⟩ = some (.int .i64 0) := AR3.2.2 8 _ rfl
    have r9 : w3.cell? ⟨w.heap.size, 9, none⟩ = some (.int .i64 0) := AR3.2.2 9 _ rfl
    have r10 : w3.cell? ⟨w.heap.size, 10, none⟩ = some (.int .i64 0) := AR3.2.2 10 _ rfl
    have fz : ∀ j, w3.frozen? ⟨w.heap.size, j, none⟩ = false := AR3.2.1
    have HAW := Lib.hid (set11_at AR3 (.int .i64 p.kind) (.slice a.A1 p.pairs.length a.c1) (.slice a.A2 p.keys.length a.c2) (.slice a.A3 p.kids.length a.c3) (.slice a.A4 p.pages.length a.c4) (.int .i64 p.next) (.int .u64 (p.epoch : Int)) (.int .i64 p.root) (.int .i64 p.depth) (.int .i64 p.count) (.int .i64 p.high))
    have HGW := Lib.hid (set11_grown (G2.out.trans hg) (b := w.heap.size) (Nat.le_refl _) (.int .i64 p.kind) (.slice a.A1 p.pairs.length a.c1) (.slice a.A2 p.keys.length a.c2) (.slice a.A3 p.kids.length a.c3) (.slice a.A4 p.pages.length a.c4) (.int .i64 p.next) (.int .u64 (p.epoch : Int)) (.int .i64 p.root) (.int .i64 p.depth) (.int .i64 p.count) (.int .i64 p.high))
    have HRW := Lib.hid (set11_rd hrd LT.out (.int .i64 p.kind) (.slice a.A1 p.pairs.length a.c1) (.slice a.A2 p.keys.length a.c2) (.slice a.A3 p.kids.length a.c3) (.slice a.A4 p.pages.length a.c4) (.int .i64 p.next) (.int .u64 (p.epoch : Int)) (.int .i64 p.root) (.int .i64 p.depth) (.int .i64 p.count) (.int .i64 p.high))
    have HOW := Lib.hid (hrows.apart (set11_only w3 w.heap.size (.int .i64 p.kind) (.slice a.A1 p.pairs.length a.c1) (.slice a.A2 p.keys.length a.c2) (.slice a.A3 p.kids.length a.c3) (.slice a.A4 p.pages.length a.c4) (.int .i64 p.next) (.int .u64 (p.epoch : Int)) (.int .i64 p.root) (.int .i64 p.depth) (.int .i64 p.count) (.int .i64 p.high)) hnew SZ2.out)
    have HOK := Lib.hid hok
    have HNW := Lib.hid (hnew.mono (Nat.le_of_lt SZ2.out))
    clear AR3 hg hrows hok hrd hnew cB
    go_wp2_with fail
    change bodyPost _ _ _ _ _ (set11 w3 w.heap.size (.int .i64 p.kind) (.slice a.A1 p.pairs.length a.c1) (.slice a.A2 p.keys.length a.c2) (.slice a.A3 p.kids.length a.c3) (.slice a.A4 p.pages.length a.c4) (.int .i64 p.next) (.int .u64 (p.epoch : Int)) (.int .i64 p.root) (.int .i64 p.depth) (.int .i64 p.count) (.int .i64 p.high))
    generalize set11 w3 w.heap.size (.int .i64 p.kind) (.slice a.A1 p.pairs.length a.c1) (.slice a.A2 p.keys.length a.c2) (.slice a.A3 p.kids.length a.c3) (.slice a.A4 p.pages.length a.c4) (.int .i64 p.next) (.int .u64 (p.epoch : Int)) (.int .i64 p.root) (.int .i64 p.depth) (.int .i64 p.count) (.int .i64 p.high) = W at *
    clear r0 r1 r2 r3 r4 r5 r6 r7 r8 r9 r10 fz
    have c0 := HAW.out.2.2 0 _ rfl
    have c1 := HAW.out.2.2 1 _ rfl
    have c2 := HAW.out.2.2 2 _ rfl
    have c3 := HAW.out.2.2 3 _ rfl
    have c4 := HAW.out.2.2 4 _ rfl
    have c5 := HAW.out.2.2 5 _ rfl
    have c6 := HAW.out.2.2 6 _ rfl
    have c7 := HAW.out.2.2 7 _ rfl
    have c8 := HAW.out.2.2 8 _ rfl
    have c9 := HAW.out.2.2 9 _ rfl
    have c10 := HAW.out.2.2 10 _ rfl
    refine bodyPost_ret (v := pgV p a) (by simp [results, Tryz.results161, go_sem, *]) rfl ?_
    exact preads_some a Z3.out HGW.out HOW.out HOK.out HRW.out HNW.out
  have b4 : ((k : Int) == 4) = false := beq_eq_false_iff_ne.2 (by omega)
  have Z2 : Hid (rPage u0 = none) := Lib.hid (by rw [Z1.out]; simp [rBody, hk1, hk2, hk3, hk4])
  clear hk1 hk2 hk3 hk4
  go_wp2_with fail
  exact ⟨rfl, preads_none Z2.out G2.out⟩
end Go.Proofs.YtboaamaneeodfaaGreat.Page
