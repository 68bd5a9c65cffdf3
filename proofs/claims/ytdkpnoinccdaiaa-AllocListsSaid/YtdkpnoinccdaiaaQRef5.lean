/-
  Contract of the document's own Take.
-/
import Derived.Test.YtdkpnoinccdaiaaQRef4
namespace Go.Proofs.Ytdkpnoinccdaiaa.Pool
open Go.RowKit Gen

theorem tail_low {A : Option Addr} {c k n : Nat} (h : ∀ x, A = some x → n ≤ x.block) : ∀ x, (if c = k then A else A.map (·.add k)) = some x → n ≤ x.block := fun x hx => by
  split at hx
  · exact h x hx
  · obtain ⟨y, hy, rfl⟩ := Option.map_eq_some_iff.1 hx
    have := h y hy
    unfold Addr.add
    split <;> simpa
/-- A list apart from two boxes. -/
theorem nat_two {w W : World} {A : Option Addr} {n c b b' i : Nat} {l : List Int} (h : NAt w A n c l) (hb : Below w.heap.size w W) (hA : ∀ x, A = some x → b + 1 ≤ x.block) (h' : w.heap.size ≤ b') (v v0 v1 v2 : Value) : NAt (set3 (W.setCell ⟨b', i, none⟩ v) b v0 v1 v2) A n c l :=
  nat_set3 (h.below (hb.setCell (p := ⟨b', i, none⟩) h' v)) (fun a e => by have := hA a e; omega) v0 v1 v2
set_option maxRecDepth 100000 in
set_option maxHeartbeats 8000000 in
theorem rTake_any (p : Po) (a : La) (most : Int) (w : World) (h : PoAt w p a) (hf : p.free.length ≤ 100000) (hl : p.limbo.length ≤ 100000) (hi : -9223372036854775808 ≤ p.high) (hm : most ≤ 9223372036854775807) : Calls Try.prog 13 #[poV p a, .int .i64 most] w (PoolN (takeP p most) w) := by
  obtain ⟨t1, t2, t3, t4⟩ := two_boxes w p a
  have h0 := h.below t3
  have AT := Lib.hid t1
  have AZ := Lib.hid t2
  have BB := Lib.hid t3
  unfold poV
  obtain ⟨W0, hW0⟩ : ∃ W0, (w.alloc (.cells (poC p a) 25)).alloc (.cells #[.int .i64 0, .slice none 0 0, .slice none 0 0] 25) = W0 := ⟨_, rfl⟩
  have e0 : poC { high := 0 } {} = #[.int .i64 0, .slice none 0 0, .slice none 0 0] := rfl
  rw [e0] at t4 h0 AT AZ BB
  rw [hW0] at AT AZ BB t4 h0
  have HP := Lib.hid h0
  have HS := Lib.hid (Nat.le_of_eq t4.symm)
  obtain ⟨c0, c1, c2⟩ := po_cells AT.out
  clear t1 t2 t3 t4 h0 h e0
  have cO := rOwn_any p a W0 HP.out hf hl
  unfold poV at cO
  go_enter Try.func13, Try.ntmps13
  go_wp2_with fail
  refine cO.mono ?_
  rintro e w1 ⟨a1, rfl, hp1, hb1, hfr1⟩
  have AZ1 := Lib.hid (AZ.out.below hb1 (by have := HS.out; omega))
  have BB1 := Lib.hid (BB.out.trans (hb1.mono BB.out.size))
  have HF1 := Lib.hid (show (∀ x, a1.A1 = some x → w.heap.size + 2 ≤ x.block) ∧ ∀ x, a1.A2 = some x → w.heap.size + 2 ≤ x.block from ⟨fun x e => Nat.le_trans HS.out (hfr1.1 x e), fun x e => Nat.le_trans HS.out (hfr1.2 x e)⟩)
  have SZ1 := Lib.hid (show w.heap.size + 2 ≤ w1.heap.size from Nat.le_trans HS.out hb1.size)
  have P1 := Lib.hid hp1
  clear hb1 hp1 hfr1 cO HP AT AZ BB HS c0 c1 c2 hW0
  obtain ⟨Wz, W1, z1, r0, r1, r2, fz, s1, at1, bl1, lt1⟩ := put_box w1 (.int .i64 p.high) (.slice a1.A1 p.free.length a1.c1) (.slice a1.A2 p.limbo.length a1.c2)
  have A1 := Lib.hid (show At W1 w1.heap.size (poC p a1) from at1)
  have BL1 := Lib.hid bl1
  have AZ2 := Lib.hid (AZ1.out.below bl1 (by have := SZ1.out; omega))
  have BB2 := Lib.hid (BB1.out.trans (bl1.mono BB1.out.size))
  clear at1 bl1
  rcases hfr : p.free with _ | ⟨x, fs⟩
  rotate_left
  · have HN := Lib.hid (show takeP p most = ({ high := p.high, free := fs, limbo := p.limbo }, x, 0) by unfold takeP; rw [hfr])
    have hf2 := P1.out.f
    rw [hfr] at hf2
    obtain ⟨b, off, hA, hlt, hc⟩ := hf2.row (by simp)
    have hx : W1.cell? ⟨b, off, none⟩ = some (.int .i64 x) := (BL1.out.cell (p := ⟨b, off, none⟩) hlt).trans (hc 0 (by simp))
    have ht := hf2.tail (k := 1) (by simp)
    have hlow := tail_low (c := a1.c1) (k := 1) HF1.out.1
    have q : ∀ W, (Instr.slice 23 (.slice a1.A1 (x :: fs).length a1.c1) (some (.int .i64 1)) none none).run Try.prog W = .ok (.slice (if a1.c1 = 1 then a1.A1 else a1.A1.map (·.add 1)) ((x :: fs).length - 1) (a1.c1 - 1)) W := fun W => tail_run a1.A1 _ a1.c1 1 (by simp) W
    rw [show (x :: fs).length - 1 = fs.length from rfl] at q ht
    rw [show (x :: fs).drop 1 = fs from rfl] at ht
    generalize (if a1.c1 = 1 then a1.A1 else a1.A1.map (·.add 1)) = AX at q ht hlow
    generalize a1.c1 - 1 = c3 at q ht
    obtain ⟨nf, hnf⟩ : ∃ nf, (x :: fs).length = nf := ⟨_, rfl⟩
    rw [hnf, hA] at q
    have hnf0 : (0 : Int) < (nf : Int) := by rw [← hnf]; simp
    have HT := Lib.hid ht
    have HLW := Lib.hid hlow
    have hx1 : W1.cell? ⟨w1.heap.size, 1, none⟩ = some (.slice (some ⟨b, off, none⟩) nf a1.c1) := by
      have := A1.out.2.2 1 (.slice a1.A1 p.free.length a1.c1) rfl
      rw [hfr, hnf, hA] at this
      exact this
    unfold poV poC
    rw [hfr, hnf, hA] at s1 ⊢
    clear hf2 hc ht hlow
    have AB := Lib.hid (show At (W1.setCell ⟨w1.heap.size, 1, none⟩ (.slice AX fs.length c3)) w1.heap.size #[.int .i64 p.high, .slice AX fs.length c3, .slice a1.A2 p.limbo.length a1.c2] from A1.out.set 1 (.slice AX fs.length c3) (by simp))
    have AY := Lib.hid (AZ2.out.set_other (b' := w1.heap.size) (i := 1) (v := .slice AX fs.length c3) (by have := SZ1.out; omega))
    have BY := Lib.hid (BB2.out.setCell (p := ⟨w1.heap.size, 1, none⟩) (by have := SZ1.out; show w.heap.size ≤ w1.heap.size; omega) (.slice AX fs.length c3))
    have x0 := hx1
    have xf := A1.out.2.1 1
    have y0 : (W1.setCell ⟨w1.heap.size, 1, none⟩ (.slice AX fs.length c3)).cell? ⟨w1.heap.size, 0, none⟩ = some (.int .i64 p.high) := AB.out.2.2 0 _ rfl
    have y1 : (W1.setCell ⟨w1.heap.size, 1, none⟩ (.slice AX fs.length c3)).cell? ⟨w1.heap.size, 1, none⟩ = some (.slice AX fs.length c3) := AB.out.2.2 1 _ rfl
    have y2 : (W1.setCell ⟨w1.heap.size, 1, none⟩ (.slice AX fs.length c3)).cell? ⟨w1.heap.size, 2, none⟩ = some (.slice a1.A2 p.limbo.length a1.c2) := AB.out.2.2 2 _ rfl
    have k0 : (W1.setCell ⟨w1.heap.size, 1, none⟩ (.slice AX fs.length c3)).cell? ⟨w.heap.size + 1, 0, none⟩ = some (.int .i64 0) := AY.out.2.2 0 _ rfl
    have k1 : (W1.setCell ⟨w1.heap.size, 1, none⟩ (.slice AX fs.length c3)).cell? ⟨w.heap.size + 1, 1, none⟩ = some (.slice none 0 0) := AY.out.2.2 1 _ rfl
    have k2 : (W1.setCell ⟨w1.heap.size, 1, none⟩ (.slice AX fs.length c3)).cell? ⟨w.heap.size + 1, 2, none⟩ = some (.slice none 0 0) := AY.out.2.2 2 _ rfl
    have fk := AY.out.2.1
    have A3 := Lib.hid (set3_at AY.out rfl (.int .i64 p.high) (.slice AX fs.length c3) (.slice a1.A2 p.limbo.length a1.c2))
    have B3 := Lib.hid (set3_below BY.out (Nat.le_succ _) (.int .i64 p.high) (.slice AX fs.length c3) (.slice a1.A2 p.limbo.length a1.c2))
    have N3 := Lib.hid (show PoAt (set3 (W1.setCell ⟨w1.heap.size, 1, none⟩ (.slice AX fs.length c3)) (w.heap.size + 1) (.int .i64 p.high) (.slice AX fs.length c3) (.slice a1.A2 p.limbo.length a1.c2)) { high := p.high, free := fs, limbo := p.limbo } { A1 := AX, c1 := c3, A2 := a1.A2, c2 := a1.c2 } from ⟨nat_two HT.out BL1.out HLW.out (Nat.le_refl _) _ _ _ _, nat_two P1.out.l BL1.out HF1.out.2 (Nat.le_refl _) _ _ _ _⟩)
    go_wp2_with fail
    clear z1 r0 r1 r2 fz s1 lt1 hx hx1
    change bodyPost _ _ _ _ _ (set3 (W1.setCell ⟨w1.heap.size, 1, none⟩ (.slice AX fs.length c3)) (w.heap.size + 1) (.int .i64 p.high) (.slice AX fs.length c3) (.slice a1.A2 p.limbo.length a1.c2))
    generalize set3 (W1.setCell ⟨w1.heap.size, 1, none⟩ (.slice AX fs.length c3)) (w.heap.size + 1) (.int .i64 p.high) (.slice AX fs.length c3) (.slice a1.A2 p.limbo.length a1.c2) = W9 at *
    clear x0 xf y0 y1 y2 k0 k1 k2 fk
    have c0 := A3.out.2.2 0 _ rfl
    have c1 := A3.out.2.2 1 _ rfl
    have c2 := A3.out.2.2 2 _ rfl
    refine bodyPost_ret (v := .tuple #[poV { high := p.high, free := fs, limbo := p.limbo } { A1 := AX, c1 := c3, A2 := a1.A2, c2 := a1.c2 }, numV x, numV 0]) (by simp [results, Try.results13, go_sem, *]) rfl ?_
    rw [HN.out]
    exact ⟨{ A1 := AX, c1 := c3, A2 := a1.A2, c2 := a1.c2 }, rfl, N3.out, B3.out⟩
  have hx1 : W1.cell? ⟨w1.heap.size, 1, none⟩ = some (.slice a1.A1 0 a1.c1) := by
    have := A1.out.2.2 1 (.slice a1.A1 p.free.length a1.c1) rfl
    rw [hfr] at this
    exact this
  have hx0 : W1.cell? ⟨w1.heap.size, 0, none⟩ = some (.int .i64 p.high) := A1.out.2.2 0 _ rfl
  unfold poV poC
  rw [show p.free.length = 0 by rw [hfr]; rfl] at s1 ⊢
  have d0 : decide ((0 : Int) < (0 : Int)) = false := by simp
  by_cases hmh : most ≤ p.high
  · have HN : Hid (takeP p most = ({ high := 0 }, 0, 60)) := Lib.hid (by unfold takeP; rw [hfr]; simp only; rw [if_pos hmh])
    have d1 : decide (most ≤ p.high) = true := by simp [hmh]
    clear hmh hf hl
    have R := Lib.hid (show W1.cell? ⟨w.heap.size + 1, 0, none⟩ = some (.int .i64 0) from AZ2.out.2.2 0 _ rfl)
    have k0 : W1.cell? ⟨w.heap.size + 1, 0, none⟩ = some (.int .i64 0) := AZ2.out.2.2 0 _ rfl
    have k1 : W1.cell? ⟨w.heap.size + 1, 1, none⟩ = some (.slice none 0 0) := AZ2.out.2.2 1 _ rfl
    have k2 : W1.cell? ⟨w.heap.size + 1, 2, none⟩ = some (.slice none 0 0) := AZ2.out.2.2 2 _ rfl
    have fk := AZ2.out.2.1
    have A3 := Lib.hid (set3_at AZ2.out rfl (.int .i64 0) (.slice none 0 0) (.slice none 0 0))
    have B3 := Lib.hid (set3_below BB2.out (Nat.le_succ _) (.int .i64 0) (.slice none 0 0) (.slice none 0 0))
    go_wp2_with fail
    change bodyPost _ _ _ _ _ (set3 W1 (w.heap.size + 1) (.int .i64 0) (.slice none 0 0) (.slice none 0 0))
    generalize set3 W1 (w.heap.size + 1) (.int .i64 0) (.slice none 0 0) (.slice none 0 0) = W9 at *
    clear k0 k1 k2 fk z1 r0 r1 r2 fz s1 lt1 hx1 hx0
    have c0 := A3.out.2.2 0 _ rfl
    have c1 := A3.out.2.2 1 _ rfl
    have c2 := A3.out.2.2 2 _ rfl
    refine bodyPost_ret (v := .tuple #[poV { high := 0 } {}, numV 0, numV 60]) (by simp [results, Try.results13, go_sem, *]) rfl ?_
    rw [HN.out]
    exact ⟨{}, rfl, none_at _, B3.out⟩
  have HN : Hid (takeP p most = ({ high := p.high + 1, limbo := p.limbo }, p.high, 0)) := Lib.hid (by unfold takeP; rw [hfr]; simp only; rw [if_neg hmh])
  have d1 : decide (most ≤ p.high) = false := by simp; omega
  have hw : IntKind.i64.wrap (p.high + 1) = p.high + 1 := IntWalk.i64_in _ (by omega)
  have hw2 : IntKind.i64.wrap p.high = p.high := IntWalk.i64_in _ (by omega)
  have hw3 : IntKind.i64.wrap (p.high + 1 - 1) = p.high := by rw [show p.high + 1 - 1 = p.high by omega]; exact hw2
  clear hmh hf hl
  clear hx0
  have AB := Lib.hid (show At (W1.setCell ⟨w1.heap.size, 0, none⟩ (.int .i64 (p.high + 1))) w1.heap.size #[.int .i64 (p.high + 1), .slice a1.A1 0 a1.c1, .slice a1.A2 p.limbo.length a1.c2] from by have := A1.out.set 0 (.int .i64 (p.high + 1)) (by simp); unfold poC at this; rw [hfr] at this; exact this)
  have AY := Lib.hid (AZ2.out.set_other (b' := w1.heap.size) (i := 0) (v := .int .i64 (p.high + 1)) (by have := SZ1.out; omega))
  have BY := Lib.hid (BB2.out.setCell (p := ⟨w1.heap.size, 0, none⟩) (by have := SZ1.out; show w.heap.size ≤ w1.heap.size; omega) (.int .i64 (p.high + 1)))
  have x0 : W1.cell? ⟨w1.heap.size, 0, none⟩ = some (.int .i64 p.high) := A1.out.2.2 0 _ rfl
  have xf := A1.out.2.1 0
  have y0 : (W1.setCell ⟨w1.heap.size, 0, none⟩ (.int .i64 (p.high + 1))).cell? ⟨w1.heap.size, 0, none⟩ = some (.int .i64 (p.high + 1)) := AB.out.2.2 0 _ rfl
  have y1 : (W1.setCell ⟨w1.heap.size, 0, none⟩ (.int .i64 (p.high + 1))).cell? ⟨w1.heap.size, 1, none⟩ = some (.slice a1.A1 0 a1.c1) := AB.out.2.2 1 _ rfl
  have y2 : (W1.setCell ⟨w1.heap.size, 0, none⟩ (.int .i64 (p.high + 1))).cell? ⟨w1.heap.size, 2, none⟩ = some (.slice a1.A2 p.limbo.length a1.c2) := AB.out.2.2 2 _ rfl
  have k0 : (W1.setCell ⟨w1.heap.size, 0, none⟩ (.int .i64 (p.high + 1))).cell? ⟨w.heap.size + 1, 0, none⟩ = some (.int .i64 0) := AY.out.2.2 0 _ rfl
  have k1 : (W1.setCell ⟨w1.heap.size, 0, none⟩ (.int .i64 (p.high + 1))).cell? ⟨w.heap.size + 1, 1, none⟩ = some (.slice none 0 0) := AY.out.2.2 1 _ rfl
  have k2 : (W1.setCell ⟨w1.heap.size, 0, none⟩ (.int .i64 (p.high + 1))).cell? ⟨w.heap.size + 1, 2, none⟩ = some (.slice none 0 0) := AY.out.2.2 2 _ rfl
  have fk := AY.out.2.1
  have A3 := Lib.hid (set3_at AY.out rfl (.int .i64 (p.high + 1)) (.slice a1.A1 0 a1.c1) (.slice a1.A2 p.limbo.length a1.c2))
  have B3 := Lib.hid (set3_below BY.out (Nat.le_succ _) (.int .i64 (p.high + 1)) (.slice a1.A1 0 a1.c1) (.slice a1.A2 p.limbo.length a1.c2))
  have N3 := Lib.hid (show PoAt (set3 (W1.setCell ⟨w1.heap.size, 0, none⟩ (.int .i64 (p.high + 1))) (w.heap.size + 1) (.int .i64 (p.high + 1)) (.slice a1.A1 0 a1.c1) (.slice a1.A2 p.limbo.length a1.c2)) { high := p.high + 1, limbo := p.limbo } { A1 := a1.A1, c1 := a1.c1, A2 := a1.A2, c2 := a1.c2 } from ⟨nat_two (by have := P1.out.f; rw [hfr] at this; exact this) BL1.out HF1.out.1 (Nat.le_refl _) _ _ _ _, nat_two P1.out.l BL1.out HF1.out.2 (Nat.le_refl _) _ _ _ _⟩)
  have K0 := Lib.hid (show (fun w' => w'.cell? ⟨w1.heap.size, 0, none⟩ = some (.int .i64 (p.high + 1)) ∧ w'.cell? ⟨w1.heap.size, 1, none⟩ = some (.slice a1.A1 0 a1.c1) ∧ w'.cell? ⟨w1.heap.size, 2, none⟩ = some (.slice a1.A2 p.limbo.length a1.c2)) (W1.setCell ⟨w1.heap.size, 0, none⟩ (.int .i64 (p.high + 1))).drew from ⟨y0, y1, y2⟩)
  have K1 := Lib.hid (show (fun w' => w'.cell? ⟨w1.heap.size, 0, none⟩ = some (.int .i64 (p.high + 1)) ∧ w'.cell? ⟨w1.heap.size, 1, none⟩ = some (.slice a1.A1 0 a1.c1) ∧ w'.cell? ⟨w1.heap.size, 2, none⟩ = some (.slice a1.A2 p.limbo.length a1.c2)) (set3 (W1.setCell ⟨w1.heap.size, 0, none⟩ (.int .i64 (p.high + 1))) (w.heap.size + 1) (.int .i64 (p.high + 1)) (.slice a1.A1 0 a1.c1) (.slice a1.A2 p.limbo.length a1.c2)).drew from by
    have hh := set3_other AB.out (b' := w.heap.size + 1) (by have := SZ1.out; omega) (.int .i64 (p.high + 1)) (.slice a1.A1 0 a1.c1) (.slice a1.A2 p.limbo.length a1.c2)
    exact ⟨hh.2.2 0 _ rfl, hh.2.2 1 _ rfl, hh.2.2 2 _ rfl⟩)
  unfold set3 at K1
  go_wp2_with fail
  clear z1 r0 r1 r2 fz s1 lt1 hx1
  go_region_held3 (fun w' => w'.cell? ⟨w1.heap.size, 0, none⟩ = some (.int .i64 (p.high + 1)) ∧ w'.cell? ⟨w1.heap.size, 1, none⟩ = some (.slice a1.A1 0 a1.c1) ∧ w'.cell? ⟨w1.heap.size, 2, none⟩ = some (.slice a1.A2 p.limbo.length a1.c2)) (with_reducible (first | exact K0.out | exact K1.out)) (fail)
  clear K0 K1 hw hw2 hw3
  go_wp2_with fail
  change bodyPost _ _ _ _ _ (set3 (W1.setCell ⟨w1.heap.size, 0, none⟩ (.int .i64 (p.high + 1))) (w.heap.size + 1) (.int .i64 (p.high + 1)) (.slice a1.A1 0 a1.c1) (.slice a1.A2 p.limbo.length a1.c2)).drew
  generalize set3 (W1.setCell ⟨w1.heap.size, 0, none⟩ (.int .i64 (p.high + 1))) (w.heap.size + 1) (.int .i64 (p.high + 1)) (.slice a1.A1 0 a1.c1) (.slice a1.A2 p.limbo.length a1.c2) = W9 at *
  clear x0 xf y0 y1 y2 k0 k1 k2 fk
  have c0 : W9.drew.cell? _ = _ := A3.out.2.2 0 _ rfl
  have c1 : W9.drew.cell? _ = _ := A3.out.2.2 1 _ rfl
  have c2 : W9.drew.cell? _ = _ := A3.out.2.2 2 _ rfl
  refine bodyPost_ret (v := .tuple #[poV { high := p.high + 1, limbo := p.limbo } { A1 := a1.A1, c1 := a1.c1, A2 := a1.A2, c2 := a1.c2 }, numV p.high, numV 0]) (by simp [results, Try.results13, go_sem, *]) rfl ?_
  rw [HN.out]
  exact ⟨{ A1 := a1.A1, c1 := a1.c1, A2 := a1.A2, c2 := a1.c2 }, rfl, N3.out.below (Below.refl _ _).drew, B3.out.drew⟩
end Go.Proofs.Ytdkpnoinccdaiaa.Pool
