/-
  Texts of one family, one behind the other: PLeafR, PFreeR.
-/
import Derived.Test.YtboaamaneeodfaaGreatKP4
import Derived.Test.YtboaamaneeodfaaGreatKA1
namespace Go.Proofs.YtboaamaneeodfaaGreat.Page
open Go.RowKit Gen

/-- What a row of the call's own tells besides: room for what it holds. -/
theorem own_cap {w : World} {B : Nat} {v : Value} {l : List (Bs × Bs)} (h : OwnP w B v l) : ∃ A c, v = .slice A l.length c ∧ PRow w A l ∧ (∀ a, A = some a → B ≤ a.block) ∧ (A = none → c = 0) ∧ l.length ≤ c := by
  obtain ⟨A, c, rfl, h1, h2⟩ := h.row
  obtain ⟨hl, ⟨e, hn⟩ | ⟨g, cap, cur, e, hg, hh, hnc, hcm, _, ht⟩⟩ := h
  · injection e with e1 e2 e3
    exact ⟨A, c, rfl, h1, h2, (fun _ => e3), by omega⟩
  · injection e with e1 e2 e3
    exact ⟨A, c, rfl, h1, h2, (fun hA => by rw [e1] at hA; cases hA), by omega⟩

def rPairs : Nat → Bs → Option (List (Bs × Bs) × Bs)
  | 0, u => some ([], u)
  | k + 1, u => (rText u).bind fun a => (rText a.2).bind fun b => (rPairs k b.2).map fun c => ((a.1, b.1) :: c.1, c.2)
def rLeaf (u : Bs) : Option (Pg × Bs) := (rNum u).bind fun a => (rPairs a.1.toNat a.2).map fun b => ({ kind := 1, pairs := b.1 }, b.2)
/-- What was gathered ahead of what is yet to come. -/
def ahead {α : Type} (l : List α) (o : Option (List α × Bs)) : Option (List α × Bs) := o.map fun c => (l ++ c.1, c.2)
theorem ahead_nil {α : Type} (o : Option (List α × Bs)) : ahead [] o = o := by
  rcases o with _ | ⟨a, b⟩ <;> rfl
theorem ahead_step {α : Type} (l : List α) (x : α) (o : Option (List α × Bs)) : ahead l (o.map fun c => (x :: c.1, c.2)) = ahead (l ++ [x]) o := by
  rcases o with _ | ⟨a, b⟩ <;> simp [ahead]
abbrev leafC (sv : Value) : Array Value := #[.int .i64 1, sv, .slice none 0 0, .slice none 0 0, .slice none 0 0, .int .i64 0, .int .u64 0, .int .i64 0, .int .i64 0, .int .i64 0, .int .i64 0]
/-- Between two rounds of the reader's leaf. -/
structure LeafSt (w : World) (rb n : Nat) (R : Option (List (Bs × Bs) × Bs)) (k : Nat) (ps : List (Bs × Bs)) (v : Bs) (sv : Value) (wr : World) : Prop where
  rd : Rd wr rb v
  at_ : At wr (w.heap.size + 1) (leafC sv)
  zero : At wr w.heap.size (pC 0)
  own : OwnP wr (w.heap.size + 2) sv ps
  grown : w.grownBy wr (some rb)
  size : w.heap.size + 2 ≤ wr.heap.size
  left : ahead ps (rPairs (n - k) v) = R
  len : ps.length = k
theorem LeafSt.text {w wr w1 : World} {rb n : Nat} {R : Option (List (Bs × Bs) × Bs)} {k : Nat} {ps : List (Bs × Bs)} {v v1 : Bs} {sv : Value} (h : LeafSt w rb n R k ps v sv wr) (hlt : rb < w.heap.size) (g : wr.grownBy w1 (some rb)) (r : Rd w1 rb v1) :
    Rd w1 rb v1 ∧ At w1 (w.heap.size + 1) (leafC sv) ∧ At w1 w.heap.size (pC 0) ∧ OwnP w1 (w.heap.size + 2) sv ps ∧ w.grownBy w1 (some rb) ∧ w.heap.size + 2 ≤ w1.heap.size :=
  ⟨r, h.at_.grown g (by omega), h.zero.grown g (by omega), h.own.grown g (by omega), h.grown.trans g, Nat.le_trans h.size g.size⟩
/-- A pair more. -/
theorem leaf_more {w w2 : World} {rb n : Nat} {R : Option (List (Bs × Bs) × Bs)} {k : Nat} {ps : List (Bs × Bs)} {x y : Bs} {v2 : Bs} {sv : Value} (hlt : rb < w.heap.size) (r : Rd w2 rb v2) (ha : At w2 (w.heap.size + 1) (leafC sv)) (hz : At w2 w.heap.size (pC 0)) (ho : OwnP w2 (w.heap.size + 2) sv ps) (hg : w.grownBy w2 (some rb)) (hs : w.heap.size + 2 ≤ w2.heap.size)
    (hR : ahead (ps ++ [(x, y)]) (rPairs (n - (k + 1)) v2) = R) (hl : ps.length = k) (hk : k ≤ 100000) (X Y : ByteArray) (hX : strB x = X) (hY : strB y = Y) :
    ∃ v' W', (Builtin.append_ #[27, 27] 27 #[sv, .slice (some ⟨w2.heap.size, 0, none⟩) 1 1]).run Tryz.prog (w2.alloc (.cells #[.string X, .string Y] 36)) = .ok v' W' ∧
      W'.cell? ⟨w.heap.size + 1, 1, none⟩ = some sv ∧ W'.frozen? ⟨w.heap.size + 1, 1, none⟩ = false ∧ LeafSt w rb n R (k + 1) (ps ++ [(x, y)]) v2 v' (W'.setCell ⟨w.heap.size + 1, 1, none⟩ v') := by
  obtain ⟨v', W', hrun, ho', hg', hown⟩ := append_pair w2 (w.heap.size + 2) sv ps ho x y X Y hX hY (by omega) hs
  have hne : ∀ b, b < w.heap.size + 2 → some b ≠ sv.ownBlock := fun b hb e => by have := hown b e.symm; omega
  have ha' := ha.grownRow hg' (hne _ (by omega))
  have hz' := hz.grownRow hg' (hne _ (by omega))
  have r' := r.grownRow hg' (fun k hk => by have := hown k hk; omega)
  have g2 : w.grownBy W' (some rb) := grown_own hg hg' (fun j hj => by have := hown j hj; omega)
  have ha2 := ha'.set 1 v' (by simp)
  exact ⟨v', W', hrun, ha'.2.2 1 _ rfl, ha'.2.1 1, ⟨r'.set_other (by omega), ha2, hz'.set_other (by omega), OwnP.grown ho' (grown_set _ _ _ _) (by omega), grown_new g2 (by omega), by have := hg'.size; simp; omega, hR, by rw [List.length_append, hl]; rfl⟩⟩
set_option maxRecDepth 100000 in
set_option maxHeartbeats 4000000 in
theorem leaf_read (rb : Nat) (u0 : Bs) (w : World) (h : Rd w rb u0) : Calls Tryz.prog 182 #[ptr rb] w (PReads (rLeaf u0) rb w) := by
  have hlt := h.lt
  obtain ⟨hat, har⟩ := made_two w 1
  have b0 : Below w.heap.size w ((w.alloc (.cells (pC 0) 82)).alloc (.cells (pC 1) 82)) := ((Below.refl _ _).alloc (Nat.le_refl _) _).alloc (by simp) _
  have G0 := Lib.hid (grown_alloc (rb := rb) (grown_alloc (World.grownBy.refl w (some rb)) (.cells (pC 0) 82)) (.cells (pC 1) 82))
  have SZ := Lib.hid (show w.heap.size + 2 ≤ ((w.alloc (.cells (pC 0) 82)).alloc (.cells (pC 1) 82)).heap.size by simp)
  have AP0 := Lib.hid hat
  have AR0 := Lib.hid har
  have LT := Lib.hid hlt
  have cF := number_any rb u0 _ (h.below b0)
  clear hat har b0 h hlt
  unfold pC pgC at *
  rcases hr0 : rNum u0 with _ | ⟨x0, u1⟩
  · rw [hr0] at cF
    have Z0 := Lib.hid hr0
    clear hr0
    go_enter Tryz.func182, Tryz.ntmps182
    go_wp2_with fail
    refine cF.mono ?_
    rintro e w1 ⟨hg, rfl⟩
    exact ⟨rfl, preads_none (by simp [rLeaf, Z0.out]) (G0.out.trans hg)⟩
  rw [hr0] at cF
  have hx := num_range hr0
  have E0 := Lib.hid hr0
  clear hr0
  obtain ⟨n, rfl⟩ := Int.eq_ofNat_of_zero_le hx.1
  have hn : n < 65536 := by omega
  obtain ⟨R, hR⟩ : ∃ R, rPairs n u1 = R := ⟨_, rfl⟩
  have ER : Hid (rLeaf u0 = R.map fun b => ({ kind := 1, pairs := b.1 }, b.2)) := Lib.hid (by simp [rLeaf, E0.out, hR])
  have HR := Lib.hid hR
  clear hx hR E0
  go_enter Tryz.func182, Tryz.ntmps182
  go_wp2_with fail
  refine cF.mono ?_
  rintro e w1 ⟨hg, rfl, hr⟩
  have ST : Hid (LeafSt w rb n R 0 [] u1 (.slice none 0 0) w1) := Lib.hid ⟨hr, AP0.out.grown hg (by have := LT.out; omega), AR0.out.grown hg (by have := LT.out; omega), OwnP.nil _ _, G0.out.trans hg, Nat.le_trans SZ.out hg.size, by rw [Nat.sub_zero, HR.out, ahead_nil], rfl⟩
  clear hg hr cF AP0 AR0 G0 SZ HR
  go_wp2_with fail
  go_loopw [11] (fun i wr => ∃ (k : Nat) (ps : List (Bs × Bs)) (v : Bs) (sv : Value), i = .int .i64 (k : Int) ∧ k ≤ n ∧ LeafSt w rb n R k ps v sv wr) (fun i _ => n - (intOf i).toNat)
  case atStart => exact ⟨0, [], u1, _, rfl, Nat.zero_le _, ST.out⟩
  case round =>
    obtain ⟨k, ps, v, sv, rfl, hk, hst⟩ := hrel
    by_cases hkn : k < n
    · have HST := Lib.hid hst
      have cT := text_any rb v wr hst.rd
      rcases hr1 : rText v with _ | ⟨x, v1⟩
      · rw [hr1] at cT
        have EN : Hid (rLeaf u0 = none) := Lib.hid (by
          have h := hst.left
          rw [show n - k = (n - k - 1) + 1 by omega] at h
          rw [ER.out, ← h]
          simp [rPairs, hr1, ahead])
        clear hr1 hst
        go_wp2_with fail
        refine cT.mono ?_
        rintro e w1 ⟨hg, rfl⟩
        exact ⟨rfl, preads_none EN.out (HST.out.grown.trans hg)⟩
      rw [hr1] at cT
      have E1 := Lib.hid hr1
      clear hst hr1
      go_wp2_with fail
      refine cT.mono ?_
      rintro e w2 ⟨hg, rfl, hr⟩
      have P2 := Lib.hid (HST.out.text LT.out hg hr)
      have cU := text_any rb v1 w2 hr
      clear hg hr cT
      rcases hr2 : rText v1 with _ | ⟨y, v2⟩
      · rw [hr2] at cU
        have EN : Hid (rLeaf u0 = none) := Lib.hid (by
          have h := HST.out.left
          rw [show n - k = (n - k - 1) + 1 by omega] at h
          rw [ER.out, ← h]
          simp [rPairs, E1.out, hr2, ahead])
        clear hr2
        go_wp2_with fail
        refine cU.mono ?_
        rintro e w3 ⟨hg, rfl⟩
        exact ⟨rfl, preads_none EN.out (P2.out.2.2.2.2.1.trans hg)⟩
      rw [hr2] at cU
      have E2 := Lib.hid hr2
      clear hr2
      go_wp2_with fail
      refine cU.mono ?_
      rintro e w3 ⟨hg, rfl, hr⟩
      obtain ⟨X, hX⟩ : ∃ X, strB x = X := ⟨_, rfl⟩
      obtain ⟨Y, hY⟩ : ∃ Y, strB y = Y := ⟨_, rfl⟩
      rw [show strV x = .string X by rw [← hX], show strV y = .string Y by rw [← hY]]
      obtain ⟨-, q2, q3, q4, q5, q6⟩ := P2.out
      have q2' := q2.grown hg (by have := LT.out; omega)
      have c1 := q2'.2.2 1 _ rfl
      obtain ⟨v', W', hrun, hc, hf, hst⟩ := leaf_more (n := n) (R := R) (k := k) (x := x) (y := y) LT.out hr q2' (q3.grown hg (by have := LT.out; omega)) (q4.grown hg (by have := LT.out; omega)) (q5.trans hg) (Nat.le_trans q6 hg.size) (by
        have h := HST.out.left
        rw [show n - k = (n - (k + 1)) + 1 by omega] at h
        rw [← h, ← ahead_step]
        simp [rPairs, E1.out, E2.out]) HST.out.len (by omega) X Y hX hY
      obtain ⟨A', c', rfl, -, -⟩ := hst.own.row
      obtain ⟨m', hm'⟩ : ∃ m', (ps ++ [(x, y)]).length = m' := ⟨_, rfl⟩
      rw [hm'] at hrun hst
      have Q := Lib.hid hrun
      have HN := Lib.hid hst
      clear hrun hst hm' hX hY q2 q3 q4 q5 q6 q2' hg hr cU HST P2
      go_wp2_with (at_builtin; (refine wpList_append_eq rfl (.tmp 22) (.tmp 26) _ rfl rfl rfl Q.out ?_; clear Q))
      go_roundw
      case rel => exact ⟨k + 1, _, _, _, by go_num, by omega, HN.out⟩
      case measure => simp [intOf]; omega
    · obtain rfl : k = n := by omega
      obtain ⟨A, c, e0, hrow, hge, hcz, hcl⟩ := own_cap hst.own
      subst e0
      have HCZ := Lib.hid hcz
      have HCL := Lib.hid hcl
      clear hcz hcl

      have c0 : wr.cell? ⟨w.heap.size + 1, 0, none⟩ = some (.int .i64 1) := hst.at_.2.2 0 _ rfl
      have c1 : wr.cell? ⟨w.heap.size + 1, 1, none⟩ = some (.slice A ps.length c) := hst.at_.2.2 1 _ rfl
      have c2 : wr.cell? ⟨w.heap.size + 1, 2, none⟩ = some (.slice none 0 0) := hst.at_.2.2 2 _ rfl
      have c3 : wr.cell? ⟨w.heap.size + 1, 3, none⟩ = some (.slice none 0 0) := hst.at_.2.2 3 _ rfl
      have c4 : wr.cell? ⟨w.heap.size + 1, 4, none⟩ = some (.slice none 0 0) := hst.at_.2.2 4 _ rfl
      have c5 : wr.cell? ⟨w.heap.size + 1, 5, none⟩ = some (.int .i64 0) := hst.at_.2.2 5 _ rfl
      have c6 : wr.cell? ⟨w.heap.size + 1, 6, none⟩ = some (.int .u64 0) := hst.at_.2.2 6 _ rfl
      have c7 : wr.cell? ⟨w.heap.size + 1, 7, none⟩ = some (.int .i64 0) := hst.at_.2.2 7 _ rfl
      have c8 : wr.cell? ⟨w.heap.size + 1, 8, none⟩ = some (.int .i64 0) := hst.at_.2.2 8 _ rfl
      have c9 : wr.cell? ⟨w.heap.size + 1, 9, none⟩ = some (.int .i64 0) := hst.at_.2.2 9 _ rfl
      have c10 : wr.cell? ⟨w.heap.size + 1, 10, none⟩ = some (.int .i64 0) := hst.at_.2.2 10 _ rfl
      have r0 : wr.cell? ⟨w.heap.size, 0, none⟩ = some (.int .i64 0) := hst.zero.2.2 0 _ rfl
      have r1 : wr.cell? ⟨w.heap.size, 1, none⟩ = some (.slice none 0 0) := hst.zero.2.2 1 _ rfl
      have r2 : wr.cell? ⟨w.heap.size, 2, none⟩ = some (.slice none 0 0) := hst.zero.2.2 2 _ rfl
      have r3 : wr.cell? ⟨w.heap.size, 3, none⟩ = some (.slice none 0 0) := hst.zero.2.2 3 _ rfl
      have r4 : wr.cell? ⟨w.heap.size, 4, none⟩ = some (.slice none 0 0) := hst.zero.2.2 4 _ rfl
      have r5 : wr.cell? ⟨w.heap.size, 5, none⟩ = some (.int .i64 0) := hst.zero.2.2 5 _ rfl
      have r6 : wr.cell? ⟨w.heap.size, 6, none⟩ = some (.int .u64 0) := hst.zero.2.2 6 _ rfl
      have r7 : wr.cell? ⟨w.heap.size, 7, none⟩ = some (.int .i64 0) := hst.zero.2.2 7 _ rfl
      have r8 : wr.cell? ⟨w.heap.size, 8, none⟩ = some (.int .i64 0) := hst.zero.2.2 8 _ rfl
      have r9 : wr.cell? ⟨w.heap.size, 9, none⟩ = some (.int .i64 0) := hst.zero.2.2 9 _ rfl
      have r10 : wr.cell? ⟨w.heap.size, 10, none⟩ = some (.int .i64 0) := hst.zero.2.2 10 _ rfl
      have fz : ∀ j, wr.frozen? ⟨w.heap.size, j, none⟩ = false := hst.zero.2.1
      have AW := set11_at hst.zero (.int .i64 1) (.slice A ps.length c) (.slice none 0 0) (.slice none 0 0) (.slice none 0 0) (.int .i64 0) (.int .u64 0) (.int .i64 0) (.int .i64 0) (.int .i64 0) (.int .i64 0)
      have GW := set11_grown hst.grown (b := w.heap.size) (Nat.le_refl _) (.int .i64 1) (.slice A ps.length c) (.slice none 0 0) (.slice none 0 0) (.slice none 0 0) (.int .i64 0) (.int .u64 0) (.int .i64 0) (.int .i64 0) (.int .i64 0) (.int .i64 0)
      have RW := set11_rd hst.rd LT.out (.int .i64 1) (.slice A ps.length c) (.slice none 0 0) (.slice none 0 0) (.slice none 0 0) (.int .i64 0) (.int .u64 0) (.int .i64 0) (.int .i64 0) (.int .i64 0) (.int .i64 0)
      have OW : PRow (set11 wr w.heap.size (.int .i64 1) (.slice A ps.length c) (.slice none 0 0) (.slice none 0 0) (.slice none 0 0) (.int .i64 0) (.int .u64 0) (.int .i64 0) (.int .i64 0) (.int .i64 0) (.int .i64 0)) A ps := by
        have g := set11_only wr w.heap.size (.int .i64 1) (.slice A ps.length c) (.slice none 0 0) (.slice none 0 0) (.slice none 0 0) (.int .i64 0) (.int .u64 0) (.int .i64 0) (.int .i64 0) (.int .i64 0) (.int .i64 0)
        intro hne
        obtain ⟨b, off, e, hlt, hc⟩ := hrow hne
        have hb := hge _ e
        simp only at hb
        have hne2 : some b ≠ some w.heap.size := by simp; omega
        refine ⟨b, off, e, Nat.lt_of_lt_of_le hlt g.size, fun j hj => ⟨?_, ?_⟩⟩
        · rw [World.cell?_of_block (w := wr) (a := ⟨b, off + j * 2, none⟩) (g.block b hlt hne2)]; exact (hc j hj).1
        · rw [World.cell?_of_block (w := wr) (a := ⟨b, off + j * 2 + 1, none⟩) (g.block b hlt hne2)]; exact (hc j hj).2
      have EN : Hid (rLeaf u0 = some ({ kind := 1, pairs := ps }, v)) := Lib.hid (by
        have h := hst.left
        rw [Nat.sub_self] at h
        rw [ER.out, ← h]
        simp [rPairs, ahead])
      have HAW := Lib.hid AW
      have HGW := Lib.hid GW
      have HRW := Lib.hid RW
      have HOW := Lib.hid OW
      have HLN := Lib.hid hst.len
      have HGE : Hid (∀ a, A = some a → w.heap.size ≤ a.block) := Lib.hid (fun a ha => Nat.le_trans (by omega) (hge a ha))
      clear AW GW RW OW hst hrow hge
      generalize hpl : ps.length = pl at *
      go_wp2_with fail
      change bodyPost _ _ _ _ _ (set11 wr w.heap.size (.int .i64 1) (.slice A pl c) (.slice none 0 0) (.slice none 0 0) (.slice none 0 0) (.int .i64 0) (.int .u64 0) (.int .i64 0) (.int .i64 0) (.int .i64 0) (.int .i64 0))
      generalize set11 wr w.heap.size (.int .i64 1) (.slice A pl c) (.slice none 0 0) (.slice none 0 0) (.slice none 0 0) (.int .i64 0) (.int .u64 0) (.int .i64 0) (.int .i64 0) (.int .i64 0) (.int .i64 0) = W at *
      clear c0 r0 c1 r1 c2 r2 c3 r3 c4 r4 c5 r5 c6 r6 c7 r7 c8 r8 c9 r9 c10 r10 fz

      have c0 := HAW.out.2.2 0 _ rfl
      have c1 := HAW.out.2.2 1 _ rfl
      have c2 := HAW.out.2.2 2 _ rfl
      have c3 := HAW.out.2.2 3 _ rfl
      have c4 := HAW.out.2.2 4 _ rfl
      have c5 := HAW.out.2.2 5 _ rfl
      have c6 := HAW.out.2.2 6 _ rfl
      have c7 := HAW.out.2.2 7 _ rfl
      have c8 := HAW.out.2.2 8 _ rfl
      have c9 := HAW.out.2.2 9 _ rfl
      have c10 := HAW.out.2.2 10 _ rfl
      refine bodyPost_ret (v := .agg #[.int .i64 1, .slice A pl c, .slice none 0 0, .slice none 0 0, .slice none 0 0, .int .i64 0, .int .u64 0, .int .i64 0, .int .i64 0, .int .i64 0, .int .i64 0]) (by simp [results, Tryz.results182, go_sem, *]) rfl ?_
      subst hpl
      refine preads_some (p := { kind := 1, pairs := ps }) (u := v) { A1 := A, c1 := c } EN.out HGW.out ⟨HOW.out, fun h => absurd rfl h, fun h => absurd rfl h, fun h => absurd rfl h⟩ (by have := HLN.out; refine ⟨?_, ?_, ?_, ?_, ?_, ?_, ?_, ?_, ?_, ?_, ?_⟩ <;> simp [I64] <;> omega) HRW.out ⟨HGE.out, (fun _ h => by cases h), (fun _ h => by cases h), (fun _ h => by cases h), (fun _ => rfl), HCL.out, (by simp), (by simp), (by simp), HCZ.out, (fun _ => rfl), (fun _ => rfl)⟩
end Go.Proofs.YtboaamaneeodfaaGreat.Page
namespace Go.Proofs.YtboaamaneeodfaaGreat.Page
open Go.RowKit Gen

def rInts : Nat → Bs → Option (List Int × Bs)
  | 0, u => some ([], u)
  | k + 1, u => (rNum u).bind fun a => (rInts k a.2).map fun c => (a.1 :: c.1, c.2)
def rFree (u : Bs) : Option (Pg × Bs) := (rNum u).bind fun a => (rInts a.1.toNat a.2).bind fun b => (rNum b.2).map fun c => ({ kind := 3, pages := b.1, next := c.1 }, c.2)
/-- One element more, of a cell. -/
theorem append_one {α : Type} {t e : TypeId} {enc : α → Value} (E : Elem Tryz.prog t e enc) (W : World) (B : Nat) (v : Value) (l : List α) (h : OwnG W e enc B v l) (x : α) (X : Value) (hX : X = enc x) (hn : l.length ≤ 1000000) (hB : B ≤ W.heap.size) :
    ∃ v' W', (Builtin.append_ #[t, t] t #[v, .slice (some ⟨W.heap.size, 0, none⟩) 1 1]).run Tryz.prog (W.alloc (.cells #[X] e)) = .ok v' W' ∧ OwnG W' e enc B v' (l ++ [x]) ∧ W.grownBy W' v.ownBlock ∧ (∀ k, v.ownBlock = some k → B ≤ k) ∧ (∀ b o, b < W.heap.size → some b ≠ v.ownBlock → W'.cell? ⟨b, o, none⟩ = W.cell? ⟨b, o, none⟩) := by
  have h2 := own_alloc h (.cells #[X] e)
  obtain ⟨v', W', h1, h3, h4, h5⟩ := append_row E (W.alloc (.cells #[X] e)) B v l h2 (some ⟨W.heap.size, 0, none⟩) 1 1 [x] rfl (fun h => by cases h) (lit1 W X e _ x hX) (by omega) (by simp; omega)
  have g : W.grownBy W' v.ownBlock := (World.grownBy_alloc W _ _).trans h4
  exact ⟨v', W', h1, h3, g, fun k hk => (World.ownsRow.lt h k hk).1, fun b o hb hne => World.cell?_of_block (w := W) (a := ⟨b, o, none⟩) (g.block b hb hne)⟩
theorem OwnG.own_row {w : World} {e : TypeId} {α : Type} {enc : α → Value} {B : Nat} {v : Value} {l : List α} (h : OwnG w e enc B v l) : ∃ A c, v = .slice A l.length c ∧ RowG w enc A l ∧ ∀ a, A = some a → B ≤ a.block := by
  have h0 := h
  obtain ⟨A, c, e, _, _, _, h4⟩ := OwnG.row h
  refine ⟨A, c, e, h4, fun a ha => ?_⟩
  subst ha
  rw [e] at h0
  exact (World.ownsRow.lt h0 a.block rfl).1
theorem own_low {w : World} {e : TypeId} {α : Type} {enc : α → Value} {B : Nat} {a : Addr} {n c : Nat} {l : List α} (h : OwnG w e enc B (.slice (some a) n c) l) : B ≤ a.block := by
  obtain ⟨A', c', e, _, hge⟩ := OwnG.own_row h
  cases e
  exact hge a rfl
theorem own_apart {w w' : World} {e : TypeId} {α : Type} {enc : α → Value} {B b : Nat} {A : Option Addr} {n c : Nat} {l : List α} (h : OwnG w e enc B (.slice A n c) l) (g : w.grownBy w' (some b)) (hb : b < B) : RowG w' enc A l := by
  obtain ⟨A', c', e, hr, hge⟩ := OwnG.own_row h
  cases e
  exact row_grown hr g (fun _ a ha => by have := hge a ha; simp; omega)
abbrev freeC (sv : Value) (nx : Int) : Array Value := #[.int .i64 3, .slice none 0 0, .slice none 0 0, .slice none 0 0, sv, .int .i64 nx, .int .u64 0, .int .i64 0, .int .i64 0, .int .i64 0, .int .i64 0]
structure FreeSt (w : World) (rb n : Nat) (R : Option (List Int × Bs)) (k : Nat) (ps : List Int) (v : Bs) (sv : Value) (wr : World) : Prop where
  rd : Rd wr rb v
  at_ : At wr (w.heap.size + 1) (freeC sv 0)
  zero : At wr w.heap.size (pC 0)
  own : OwnG wr 3 numV (w.heap.size + 2) sv ps
  grown : w.grownBy wr (some rb)
  size : w.heap.size + 2 ≤ wr.heap.size
  left : ahead ps (rInts (n - k) v) = R
  len : ps.length = k
  rng : ∀ x ∈ ps, 0 ≤ x ∧ x < 65536
theorem free_more {w w2 : World} {rb n : Nat} {R : Option (List Int × Bs)} {k : Nat} {ps : List Int} {x : Int} {v2 : Bs} {sv : Value} (hlt : rb < w.heap.size) (r : Rd w2 rb v2) (ha : At w2 (w.heap.size + 1) (freeC sv 0)) (hz : At w2 w.heap.size (pC 0)) (ho : OwnG w2 3 numV (w.heap.size + 2) sv ps) (hg : w.grownBy w2 (some rb)) (hs : w.heap.size + 2 ≤ w2.heap.size)
    (hR : ahead (ps ++ [x]) (rInts (n - (k + 1)) v2) = R) (hl : ps.length = k) (hk : k ≤ 100000) (hx : 0 ≤ x ∧ x < 65536) (hp : ∀ x ∈ ps, 0 ≤ x ∧ x < 65536) :
    ∃ v' W', (Builtin.append_ #[68, 68] 68 #[sv, .slice (some ⟨w2.heap.size, 0, none⟩) 1 1]).run Tryz.prog (w2.alloc (.cells #[.int .i64 x] 3)) = .ok v' W' ∧
      W'.cell? ⟨w.heap.size + 1, 4, none⟩ = some sv ∧ W'.frozen? ⟨w.heap.size + 1, 4, none⟩ = false ∧ FreeSt w rb n R (k + 1) (ps ++ [x]) v2 v' (W'.setCell ⟨w.heap.size + 1, 4, none⟩ v') := by
  obtain ⟨v', W', hrun, ho', hg', hown, _⟩ := append_one ints_elem w2 (w.heap.size + 2) sv ps ho x (.int .i64 x) rfl (by omega) hs
  have hne : ∀ b, b < w.heap.size + 2 → some b ≠ sv.ownBlock := fun b hb e => by have := hown b e.symm; omega
  have ha' := ha.grownRow hg' (hne _ (by omega))
  have hz' := hz.grownRow hg' (hne _ (by omega))
  have r' := r.grownRow hg' (fun k hk => by have := hown k hk; omega)
  have g2 : w.grownBy W' (some rb) := grown_own hg hg' (fun j hj => by have := hown j hj; omega)
  have ha2 := ha'.set 4 v' (by simp)
  refine ⟨v', W', hrun, ha'.2.2 4 _ rfl, ha'.2.1 4, ⟨r'.set_other (by omega), ha2, hz'.set_other (by omega), own_grown ho' (grown_set _ _ _ _) (by omega), grown_new g2 (by omega), by have := hg'.size; simp; omega, hR, by rw [List.length_append, hl]; rfl, fun y hy => ?_⟩⟩
  rcases List.mem_append.1 hy with hy | hy
  · exact hp y hy
  · simp only [List.mem_singleton] at hy; subst hy; exact hx
set_option maxRecDepth 100000 in
set_option maxHeartbeats 4000000 in
theorem free_read (rb : Nat) (u0 : Bs) (w : World) (h : Rd w rb u0) : Calls Tryz.prog 184 #[ptr rb] w (PReads (rFree u0) rb w) := by
  have hlt := h.lt
  obtain ⟨hat, har⟩ := made_two w 3
  have b0 : Below w.heap.size w ((w.alloc (.cells (pC 0) 82)).alloc (.cells (pC 3) 82)) := ((Below.refl _ _).alloc (Nat.le_refl _) _).alloc (by simp) _
  have G0 := Lib.hid (grown_alloc (rb := rb) (grown_alloc (World.grownBy.refl w (some rb)) (.cells (pC 0) 82)) (.cells (pC 3) 82))
  have SZ := Lib.hid (show w.heap.size + 2 ≤ ((w.alloc (.cells (pC 0) 82)).alloc (.cells (pC 3) 82)).heap.size by simp)
  have AP0 := Lib.hid hat
  have AR0 := Lib.hid har
  have LT := Lib.hid hlt
  have cF := number_any rb u0 _ (h.below b0)
  clear hat har b0 h hlt
  unfold pC pgC at *
  rcases hr0 : rNum u0 with _ | ⟨x0, u1⟩
  · rw [hr0] at cF
    have Z0 := Lib.hid hr0
    clear hr0
    go_enter Tryz.func184, Tryz.ntmps184
    go_wp2_with fail
    refine cF.mono ?_
    rintro e w1 ⟨hg, rfl⟩
    exact ⟨rfl, preads_none (by simp [rFree, Z0.out]) (G0.out.trans hg)⟩
  rw [hr0] at cF
  have hx := num_range hr0
  have E0 := Lib.hid hr0
  clear hr0
  obtain ⟨n, rfl⟩ := Int.eq_ofNat_of_zero_le hx.1
  have hn : n < 65536 := by omega
  obtain ⟨R, hR⟩ : ∃ R, rInts n u1 = R := ⟨_, rfl⟩
  have ER : Hid (rFree u0 = R.bind fun b => (rNum b.2).map fun c => ({ kind := 3, pages := b.1, next := c.1 }, c.2)) := Lib.hid (by simp [rFree, E0.out, hR])
  have HR := Lib.hid hR
  clear hx hR E0
  go_enter Tryz.func184, Tryz.ntmps184
  go_wp2_with fail
  refine cF.mono ?_
  rintro e w1 ⟨hg, rfl, hr⟩
  have ST : Hid (FreeSt w rb n R 0 [] u1 (.slice none 0 0) w1) := Lib.hid ⟨hr, AP0.out.grown hg (by have := LT.out; omega), AR0.out.grown hg (by have := LT.out; omega), OwnG.nil _ _ _ _, G0.out.trans hg, Nat.le_trans SZ.out hg.size, by rw [Nat.sub_zero, HR.out, ahead_nil], rfl, fun x hx => by cases hx⟩
  clear hg hr cF AP0 AR0 G0 SZ HR
  go_wp2_with fail
  go_loopw [9] (fun i wr => ∃ (k : Nat) (ps : List Int) (v : Bs) (sv : Value), i = .int .i64 (k : Int) ∧ k ≤ n ∧ FreeSt w rb n R k ps v sv wr) (fun i _ => n - (intOf i).toNat)
  case atStart => exact ⟨0, [], u1, _, rfl, Nat.zero_le _, ST.out⟩
  case round =>
    obtain ⟨k, ps, v, sv, rfl, hk, hst⟩ := hrel
    by_cases hkn : k < n
    · have HST := Lib.hid hst
      have rdd : Rd wr.drew rb v := hst.rd.below (Below.refl _ _).drew
      have cT := number_any rb v wr.drew rdd
      have gd : wr.grownBy wr.drew (some rb) := ⟨rfl, rfl, rfl, Nat.le_refl _, fun _ _ _ => rfl⟩
      have GD := Lib.hid gd
      have S0 : wr.drew.cell? ⟨w.heap.size + 1, 4, none⟩ = some sv := hst.at_.2.2 4 _ rfl
      rcases hr1 : rNum v with _ | ⟨x, v1⟩
      · rw [hr1] at cT
        have EN : Hid (rFree u0 = none) := Lib.hid (by
          have h := hst.left
          rw [show n - k = (n - k - 1) + 1 by omega] at h
          rw [ER.out, ← h]
          simp [rInts, hr1, ahead])
        clear hr1 hst rdd gd
        go_wp2_with fail
        refine region_last (S := fun w' => w'.cell? ⟨w.heap.size + 1, 4, none⟩ = some sv) 9 (by kernel_rfl) rfl rfl rfl rfl (by kernel_rfl) (by kernel_rfl) ?_
        intro w3 hw3
        subst hw3
        have hSR := S0
        simp only [List.set_cons_zero, List.set_cons_succ]
        refine wpAnyH_take (i := 0) (v := ?_) rfl (by kernel_rfl) (by kernel_rfl) (by kernel_rfl) (fun _ _ _ h => h) (Or.inl ⟨by rfl, ?_⟩) hSR ?_
        rotate_left
        · (intro w' hSw; (try dsimp only at hSw); go_simp; (try with_reducible rfl))
        simp only [Act.put]
        refine wpAnyH_take (i := 1) (v := ?_) rfl (by kernel_rfl) (by kernel_rfl) (by kernel_rfl) (fun _ _ _ h => h) (Or.inl ⟨by rfl, ?_⟩) hSR ?_
        rotate_left
        · (intro w' hSw; (try dsimp only at hSw); go_simp; (try with_reducible rfl))
        simp only [Act.put]
        refine wpAnyH_take (i := 2) (v := ?_) rfl (by kernel_rfl) (by kernel_rfl) (by kernel_rfl) (fun _ _ _ h => h) (Or.inl ⟨by rfl, ?_⟩) hSR ?_
        rotate_left
        · (intro w' hSw; (try dsimp only at hSw); go_simp; (try with_reducible rfl))
        simp only [Act.put]
        refine wpAnyH_take (i := 3) (v := ?_) rfl (by kernel_rfl) (by kernel_rfl) (by kernel_rfl) (fun _ _ _ h => h) (Or.inl ⟨by rfl, ?_⟩) hSR ?_
        rotate_left
        · (intro w' hSw; (try dsimp only at hSw); go_simp; (try with_reducible rfl))
        simp only [Act.put]
        refine wpAnyH_take (i := 4) (v := ?_) rfl (by kernel_rfl) (by kernel_rfl) (by kernel_rfl) (fun _ _ _ h => h) (Or.inl ⟨by rfl, ?_⟩) hSR ?_
        rotate_left
        · (intro w' hSw; (try dsimp only at hSw); go_simp; (try with_reducible rfl))
        simp only [Act.put]
        refine wpAnyH_ready (rs := [5]) (by kernel_rfl) (by simp) (AllReadyH.cons rfl (fun K hK => ?_) AllReadyH.nil)
        go_simp
        refine cT.mono ?_
        rintro e w2 ⟨hg, rfl⟩
        exact ⟨rfl, preads_none EN.out (HST.out.grown.trans (GD.out.trans hg))⟩
      rw [hr1] at cT
      have E1 := Lib.hid hr1
      have N1 := Lib.hid (num_range hr1)
      clear hst hr1 rdd gd
      go_wp2_with fail
      refine region_last (S := fun w' => w'.cell? ⟨w.heap.size + 1, 4, none⟩ = some sv) 9 (by kernel_rfl) rfl rfl rfl rfl (by kernel_rfl) (by kernel_rfl) ?_
      intro w3 hw3
      subst hw3
      have hSR := S0
      simp only [List.set_cons_zero, List.set_cons_succ]
      refine wpAnyH_take (i := 0) (v := ?_) rfl (by kernel_rfl) (by kernel_rfl) (by kernel_rfl) (fun _ _ _ h => h) (Or.inl ⟨by rfl, ?_⟩) hSR ?_
      rotate_left
      · (intro w' hSw; (try dsimp only at hSw); go_simp; (try with_reducible rfl))
      simp only [Act.put]
      refine wpAnyH_take (i := 1) (v := ?_) rfl (by kernel_rfl) (by kernel_rfl) (by kernel_rfl) (fun _ _ _ h => h) (Or.inl ⟨by rfl, ?_⟩) hSR ?_
      rotate_left
      · (intro w' hSw; (try dsimp only at hSw); go_simp; (try with_reducible rfl))
      simp only [Act.put]
      refine wpAnyH_take (i := 2) (v := ?_) rfl (by kernel_rfl) (by kernel_rfl) (by kernel_rfl) (fun _ _ _ h => h) (Or.inl ⟨by rfl, ?_⟩) hSR ?_
      rotate_left
      · (intro w' hSw; (try dsimp only at hSw); go_simp; (try with_reducible rfl))
      simp only [Act.put]
      refine wpAnyH_take (i := 3) (v := ?_) rfl (by kernel_rfl) (by kernel_rfl) (by kernel_rfl) (fun _ _ _ h => h) (Or.inl ⟨by rfl, ?_⟩) hSR ?_
      rotate_left
      · (intro w' hSw; (try dsimp only at hSw); go_simp; (try with_reducible rfl))
      simp only [Act.put]
      refine wpAnyH_take (i := 4) (v := ?_) rfl (by kernel_rfl) (by kernel_rfl) (by kernel_rfl) (fun _ _ _ h => h) (Or.inl ⟨by rfl, ?_⟩) hSR ?_
      rotate_left
      · (intro w' hSw; (try dsimp only at hSw); go_simp; (try with_reducible rfl))
      simp only [Act.put]
      refine wpAnyH_ready (rs := [5]) (by kernel_rfl) (by simp) (AllReadyH.cons rfl (fun K hK => ?_) AllReadyH.nil)
      go_simp
      refine cT.mono ?_
      rintro e w2 ⟨hg, rfl, hr⟩
      have gg := GD.out.trans hg
      have q2 := HST.out.at_.grown gg (by have := LT.out; omega)
      obtain ⟨v', W', hrun, hc, hf, hst⟩ := free_more (n := n) (R := R) (k := k) (x := x) LT.out hr q2 (HST.out.zero.grown gg (by have := LT.out; omega)) (own_grown HST.out.own gg (by have := LT.out; omega)) (HST.out.grown.trans gg) (Nat.le_trans HST.out.size gg.size) (by
        have h := HST.out.left
        rw [show n - k = (n - (k + 1)) + 1 by omega] at h
        rw [← h, ← ahead_step]
        simp [rInts, E1.out]) HST.out.len (by omega) N1.out HST.out.rng
      obtain ⟨A', c', rfl, -, -⟩ := OwnG.own_row hst.own
      obtain ⟨m', hm'⟩ : ∃ m', (ps ++ [x]).length = m' := ⟨_, rfl⟩
      rw [hm'] at hrun hst
      have Q := Lib.hid hrun
      have HN := Lib.hid hst
      have S2 := Lib.hid (q2.2.2 4 _ rfl)
      have S3 := Lib.hid ((q2.below ((Below.refl w2.heap.size w2).alloc (Nat.le_refl _) (.cells #[.int .i64 x] 3)) q2.1).2.2 4 _ rfl)
      have S4 := Lib.hid hc
      clear hrun hst hm' hg hr gg q2 cT HST S0
      refine hK.out _ _ S2.out (fun hSR => ?_)
      clear hK K
      refine wpAnyH_ready (rs := [6]) (by kernel_rfl) (by simp) (AllReadyH.cons rfl (fun K hK => ?_) AllReadyH.nil)
      go_simp
      refine hK.out _ _ S3.out (fun hSR => ?_)
      clear hK K
      refine wpAnyH_ready (rs := [7]) (by kernel_rfl) (by simp) (AllReadyH.cons rfl (fun K hK => ?_) AllReadyH.nil)
      refine step_append2_eq (by rfl) (.tmp 12) (.tmp 17) _ _ (by rfl) (by rfl) (by rfl) Q.out ?_
      refine hK.out _ _ S4.out (fun hSR => ?_)
      clear hK K
      simp only [Act.put]
      refine wpAnyH_take (i := 8) (v := ?_) rfl (by kernel_rfl) (by kernel_rfl) (by kernel_rfl) (fun _ _ _ h => h) (Or.inl ⟨by rfl, ?_⟩) hSR ?_
      rotate_left
      · (intro w' hSw; (try dsimp only at hSw); go_simp; (try with_reducible rfl))
      simp only [Act.put]
      refine wpAnyH_take (i := 9) (v := ?_) rfl (by kernel_rfl) (by kernel_rfl) (by kernel_rfl) (fun _ _ _ h => h) (Or.inl ⟨by rfl, ?_⟩) hSR ?_
      rotate_left
      · (intro w' hSw; (try dsimp only at hSw); go_simp; (try with_reducible rfl))
      simp only [Act.put]
      refine wpAnyH_done (by kernel_rfl) ?_ _
      show Oper.wp _ _ _ _ _ _
      unfold Oper.wp
      go_simp
      clear hSR
      go_wp2_with fail
      go_roundw
      case rel => exact ⟨k + 1, _, _, _, by go_num, by omega, HN.out⟩
      case measure => simp [intOf]; omega
    · obtain rfl : k = n := by omega
      have RE : Hid (R = some (ps, v)) := Lib.hid (by
        have h := hst.left
        rw [Nat.sub_self] at h
        rw [← h]
        simp [rInts, ahead])
      have HST := Lib.hid hst
      have cN := number_any rb v wr hst.rd
      rcases hr1 : rNum v with _ | ⟨y, v2⟩
      · rw [hr1] at cN
        have EN : Hid (rFree u0 = none) := Lib.hid (by rw [ER.out, RE.out]; simp [hr1])
        clear hr1 hst
        go_wp2_with fail
        refine cN.mono ?_
        rintro e w2 ⟨hg, rfl⟩
        exact ⟨rfl, preads_none EN.out (HST.out.grown.trans hg)⟩
      rw [hr1] at cN
      have EN : Hid (rFree u0 = some ({ kind := 3, pages := ps, next := y }, v2)) := Lib.hid (by rw [ER.out, RE.out]; simp [hr1])
      have NY := Lib.hid (num_range hr1)
      clear hst hr1
      go_wp2_with fail
      refine cN.mono ?_
      rintro e w2 ⟨hg, rfl, hr⟩
      have lt := LT.out
      have q1 := HST.out.at_.grown hg (by omega)
      obtain ⟨A, c, e0, hnc, hcl, -⟩ := OwnG.row HST.out.own
      subst e0
      have HNC := Lib.hid hnc
      have HCL := Lib.hid hcl
      clear hnc hcl
      have s0 := q1.2.2 5 _ rfl
      have f0 := q1.2.1 5
      have AP := Lib.hid (q1.set 5 (.int .i64 y) (by simp))
      have AR := Lib.hid ((HST.out.zero.grown hg (by omega)).set_other (b' := w.heap.size + 1) (i := 5) (v := .int .i64 y) (by omega))
      have R5 := Lib.hid (hr.set_other (b := w.heap.size + 1) (o := 5) (v := .int .i64 y) (by omega))
      have G5 := Lib.hid (grown_new (b := w.heap.size + 1) (o := 5) (v := .int .i64 y) (HST.out.grown.trans hg) (by omega))
      have OW := Lib.hid (own_grown (own_grown HST.out.own hg (by omega)) (grown_set w2 (w.heap.size + 1) 5 (.int .i64 y)) (by omega))
      have HGE : Hid (∀ a, A = some a → w.heap.size ≤ a.block) := Lib.hid (fun a ha => by subst ha; have := (own_low HST.out.own); omega)
      have LN := Lib.hid HST.out.len
      have RG := Lib.hid HST.out.rng
      clear hg hr q1 cN HST lt

      have c0 : (w2.setCell ⟨w.heap.size + 1, 5, none⟩ (.int .i64 y)).cell? ⟨w.heap.size + 1, 0, none⟩ = some (.int .i64 3) := AP.out.2.2 0 _ rfl
      have c1 : (w2.setCell ⟨w.heap.size + 1, 5, none⟩ (.int .i64 y)).cell? ⟨w.heap.size + 1, 1, none⟩ = some (.slice none 0 0) := AP.out.2.2 1 _ rfl
      have c2 : (w2.setCell ⟨w.heap.size + 1, 5, none⟩ (.int .i64 y)).cell? ⟨w.heap.size + 1, 2, none⟩ = some (.slice none 0 0) := AP.out.2.2 2 _ rfl
      have c3 : (w2.setCell ⟨w.heap.size + 1, 5, none⟩ (.int .i64 y)).cell? ⟨w.heap.size + 1, 3, none⟩ = some (.slice none 0 0) := AP.out.2.2 3 _ rfl
      have c4 : (w2.setCell ⟨w.heap.size + 1, 5, none⟩ (.int .i64 y)).cell? ⟨w.heap.size + 1, 4, none⟩ = some (.slice A ps.length c) := AP.out.2.2 4 _ rfl
      have c5 : (w2.setCell ⟨w.heap.size + 1, 5, none⟩ (.int .i64 y)).cell? ⟨w.heap.size + 1, 5, none⟩ = some (.int .i64 y) := AP.out.2.2 5 _ rfl
      have c6 : (w2.setCell ⟨w.heap.size + 1, 5, none⟩ (.int .i64 y)).cell? ⟨w.heap.size + 1, 6, none⟩ = some (.int .u64 0) := AP.out.2.2 6 _ rfl
      have c7 : (w2.setCell ⟨w.heap.size + 1, 5, none⟩ (.int .i64 y)).cell? ⟨w.heap.size + 1, 7, none⟩ = some (.int .i64 0) := AP.out.2.2 7 _ rfl
      have c8 : (w2.setCell ⟨w.heap.size + 1, 5, none⟩ (.int .i64 y)).cell? ⟨w.heap.size + 1, 8, none⟩ = some (.int .i64 0) := AP.out.2.2 8 _ rfl
      have c9 : (w2.setCell ⟨w.heap.size + 1, 5, none⟩ (.int .i64 y)).cell? ⟨w.heap.size + 1, 9, none⟩ = some (.int .i64 0) := AP.out.2.2 9 _ rfl
      have c10 : (w2.setCell ⟨w.heap.size + 1, 5, none⟩ (.int .i64 y)).cell? ⟨w.heap.size + 1, 10, none⟩ = some (.int .i64 0) := AP.out.2.2 10 _ rfl
      have r0 : (w2.setCell ⟨w.heap.size + 1, 5, none⟩ (.int .i64 y)).cell? ⟨w.heap.size, 0, none⟩ = some (.int .i64 0) := AR.out.2.2 0 _ rfl
      have r1 : (w2.setCell ⟨w.heap.size + 1, 5, none⟩ (.int .i64 y)).cell? ⟨w.heap.size, 1, none⟩ = some (.slice none 0 0) := AR.out.2.2 1 _ rfl
      have r2 : (w2.setCell ⟨w.heap.size + 1, 5, none⟩ (.int .i64 y)).cell? ⟨w.heap.size, 2, none⟩ = some (.slice none 0 0) := AR.out.2.2 2 _ rfl
      have r3 : (w2.setCell ⟨w.heap.size + 1, 5, none⟩ (.int .i64 y)).cell? ⟨w.heap.size, 3, none⟩ = some (.slice none 0 0) := AR.out.2.2 3 _ rfl
      have r4 : (w2.setCell ⟨w.heap.size + 1, 5, none⟩ (.int .i64 y)).cell? ⟨w.heap.size, 4, none⟩ = some (.slice none 0 0) := AR.out.2.2 4 _ rfl
      have r5 : (w2.setCell ⟨w.heap.size + 1, 5, none⟩ (.int .i64 y)).cell? ⟨w.heap.size, 5, none⟩ = some (.int .i64 0) := AR.out.2.2 5 _ rfl
      have r6 : (w2.setCell ⟨w.heap.size + 1, 5, none⟩ (.int .i64 y)).cell? ⟨w.heap.size, 6, none⟩ = some (.int .u64 0) := AR.out.2.2 6 _ rfl
      have r7 : (w2.setCell ⟨w.heap.size + 1, 5, none⟩ (.int .i64 y)).cell? ⟨w.heap.size, 7, none⟩ = some (.int .i64 0) := AR.out.2.2 7 _ rfl
      have r8 : (w2.setCell ⟨w.heap.size + 1, 5, none⟩ (.int .i64 y)).cell? ⟨w.heap.size, 8, none⟩ = some (.int .i64 0) := AR.out.2.2 8 _ rfl
      have r9 : (w2.setCell ⟨w.heap.size + 1, 5, none⟩ (.int .i64 y)).cell? ⟨w.heap.size, 9, none⟩ = some (.int .i64 0) := AR.out.2.2 9 _ rfl
      have r10 : (w2.setCell ⟨w.heap.size + 1, 5, none⟩ (.int .i64 y)).cell? ⟨w.heap.size, 10, none⟩ = some (.int .i64 0) := AR.out.2.2 10 _ rfl
      have fz : ∀ j, (w2.setCell ⟨w.heap.size + 1, 5, none⟩ (.int .i64 y)).frozen? ⟨w.heap.size, j, none⟩ = false := AR.out.2.1
      have HAW := Lib.hid (set11_at AR.out (.int .i64 3) (.slice none 0 0) (.slice none 0 0) (.slice none 0 0) (.slice A ps.length c) (.int .i64 y) (.int .u64 0) (.int .i64 0) (.int .i64 0) (.int .i64 0) (.int .i64 0))
      have HGW := Lib.hid (set11_grown G5.out (b := w.heap.size) (Nat.le_refl _) (.int .i64 3) (.slice none 0 0) (.slice none 0 0) (.slice none 0 0) (.slice A ps.length c) (.int .i64 y) (.int .u64 0) (.int .i64 0) (.int .i64 0) (.int .i64 0) (.int .i64 0))
      have HRW := Lib.hid (set11_rd R5.out LT.out (.int .i64 3) (.slice none 0 0) (.slice none 0 0) (.slice none 0 0) (.slice A ps.length c) (.int .i64 y) (.int .u64 0) (.int .i64 0) (.int .i64 0) (.int .i64 0) (.int .i64 0))
      have HOW : Hid (PgRows (set11 (w2.setCell ⟨w.heap.size + 1, 5, none⟩ (.int .i64 y)) w.heap.size (.int .i64 3) (.slice none 0 0) (.slice none 0 0) (.slice none 0 0) (.slice A ps.length c) (.int .i64 y) (.int .u64 0) (.int .i64 0) (.int .i64 0) (.int .i64 0) (.int .i64 0)) { kind := 3, pages := ps, next := y } { A4 := A, c4 := c }) := Lib.hid (by
        have g := set11_only (w2.setCell ⟨w.heap.size + 1, 5, none⟩ (.int .i64 y)) w.heap.size (.int .i64 3) (.slice none 0 0) (.slice none 0 0) (.slice none 0 0) (.slice A ps.length c) (.int .i64 y) (.int .u64 0) (.int .i64 0) (.int .i64 0) (.int .i64 0) (.int .i64 0)
        exact ⟨fun h => absurd rfl h, fun h => absurd rfl h, fun h => absurd rfl h, own_apart OW.out g (by omega)⟩)
      clear AP AR R5 G5 OW
      generalize hpl : ps.length = pl at *
      go_wp2_with fail
      change bodyPost _ _ _ _ _ (set11 (w2.setCell ⟨w.heap.size + 1, 5, none⟩ (.int .i64 y)) w.heap.size (.int .i64 3) (.slice none 0 0) (.slice none 0 0) (.slice none 0 0) (.slice A pl c) (.int .i64 y) (.int .u64 0) (.int .i64 0) (.int .i64 0) (.int .i64 0) (.int .i64 0))
      generalize set11 (w2.setCell ⟨w.heap.size + 1, 5, none⟩ (.int .i64 y)) w.heap.size (.int .i64 3) (.slice none 0 0) (.slice none 0 0) (.slice none 0 0) (.slice A pl c) (.int .i64 y) (.int .u64 0) (.int .i64 0) (.int .i64 0) (.int .i64 0) (.int .i64 0) = W at *
      clear c0 r0 c1 r1 c2 r2 c3 r3 c4 r4 c5 r5 c6 r6 c7 r7 c8 r8 c9 r9 c10 r10 fz
      have c0 := HAW.out.2.2 0 _ rfl
      have c1 := HAW.out.2.2 1 _ rfl
      have c2 := HAW.out.2.2 2 _ rfl
      have c3 := HAW.out.2.2 3 _ rfl
      have c4 := HAW.out.2.2 4 _ rfl
      have c5 := HAW.out.2.2 5 _ rfl
      have c6 := HAW.out.2.2 6 _ rfl
      have c7 := HAW.out.2.2 7 _ rfl
      have c8 := HAW.out.2.2 8 _ rfl
      have c9 := HAW.out.2.2 9 _ rfl
      have c10 := HAW.out.2.2 10 _ rfl
      refine bodyPost_ret (v := .agg #[.int .i64 3, .slice none 0 0, .slice none 0 0, .slice none 0 0, .slice A pl c, .int .i64 y, .int .u64 0, .int .i64 0, .int .i64 0, .int .i64 0, .int .i64 0]) (by simp [results, Tryz.results184, go_sem, *]) rfl ?_
      subst hpl
      refine preads_some (p := { kind := 3, pages := ps, next := y }) (u := v2) { A4 := A, c4 := c } EN.out HGW.out HOW.out (by have := LN.out; have := NY.out; refine ⟨?_, ?_, ?_, ?_, ?_, ?_, ?_, ?_, ?_, ?_, ?_⟩ <;> simp [I64] <;> omega) HRW.out ⟨(fun _ h => by cases h), (fun _ h => by cases h), (fun _ h => by cases h), HGE.out, HNC.out, (by simp), (by simp), (by simp), HCL.out, (fun _ => rfl), (fun _ => rfl), (fun _ => rfl)⟩
end Go.Proofs.YtboaamaneeodfaaGreat.Page
