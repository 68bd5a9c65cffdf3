/-
  Contracts of alloc's Take, Give, Back.
-/
import Derived.Test.YtdkpnoinccdaiaaQLent
namespace Go.Proofs.Ytdkpnoinccdaiaa.Pool
open Go.RowKit Gen

/-- joined, of a list that a literal holds. -/
theorem join_at (x : Part) (W : World) (b : Nat) (hc : W.cell? ⟨b, 0, none⟩ = some (encS x)) (hb : b < W.heap.size) (h : NAt W x.1 x.2.2.length x.2.1 x.2.2) (hn : x.2.2.length ≤ 1000000) :
    Calls Try.prog 28 #[.slice (some ⟨b, 0, none⟩) 1 1] W (Owns x.2.2 W) := by
  have e : allOf [x] = x.2.2 := by simp [allOf]
  rw [← e]
  exact joined_any (some ⟨b, 0, none⟩) 1 1 [x] W rfl (by omega) (fun _ => ⟨b, 0, rfl, hb, fun k hk => by
    obtain rfl : k = 0 := by simp at hk; omega
    exact hc⟩) (fun y hy => by rw [List.mem_singleton.1 hy]; exact h) (by rw [e]; omega)
/-- laid, of a page that a literal holds. -/
theorem laid_at (A : Option Addr) (n c : Nat) (l : List Int) (p : Int) (W : World) (b : Nat) (hc : W.cell? ⟨b, 0, none⟩ = some (.int .i64 p)) (hb : b < W.heap.size) (h : NAt W A n c l) (hn : n ≤ 100000) :
    Calls Try.prog 31 #[.slice A n c, .slice (some ⟨b, 0, none⟩) 1 1] W (Owns (lay1 p l) W) :=
  laid_any A (some ⟨b, 0, none⟩) n c 1 1 l [p] W h ⟨rfl, Nat.le_refl _, by unfold maxLen; omega, fun e => (by cases e), fun _ => ⟨b, 0, rfl, hb, fun k hk => by
    obtain rfl : k = 0 := by simp at hk; omega
    exact hc⟩⟩ hn (by omega)
theorem cell1 (W : World) (x : Value) (t : TypeId) : (W.alloc (.cells #[x] t)).cell? ⟨W.heap.size, 0, none⟩ = some x ∧ W.heap.size < (W.alloc (.cells #[x] t)).heap.size := ⟨by simp, by simp⟩
theorem cell1D (W : World) (x : Value) (t : TypeId) : (W.drew.alloc (.cells #[x] t)).cell? ⟨W.heap.size, 0, none⟩ = some x ∧ W.heap.size < (W.drew.alloc (.cells #[x] t)).heap.size := cell1 W.drew x t
theorem cell2D (W : World) (x : Value) (t : TypeId) (y : Value) (s : TypeId) : ((W.drew.alloc (.cells #[x] t)).alloc (.cells #[y] s)).cell? ⟨W.heap.size, 0, none⟩ = some x ∧ ((W.drew.alloc (.cells #[x] t)).alloc (.cells #[y] s)).cell? ⟨W.heap.size + 1, 0, none⟩ = some y ∧
    W.heap.size + 1 < ((W.drew.alloc (.cells #[x] t)).alloc (.cells #[y] s)).heap.size ∧ W.heap.size < ((W.drew.alloc (.cells #[x] t)).alloc (.cells #[y] s)).heap.size := by
  have h1 := cell1D W x t
  have h2 := cell1 (W.drew.alloc (.cells #[x] t)) y s
  have e : (W.drew.alloc (.cells #[x] t)).heap.size = W.heap.size + 1 := World.size_alloc _ _
  rw [e] at h2
  exact ⟨((below_box _ _).cell (p := ⟨W.heap.size, 0, none⟩) h1.2).trans h1.1, h2.1, h2.2, by omega⟩
def takeP (p : Po) (most : Int) : Po × Int × Int := match p.free with
  | x :: fs => ({ high := p.high, free := fs, limbo := p.limbo }, x, 0)
  | [] => if most ≤ p.high then ({ high := 0 }, 0, 60) else ({ high := p.high + 1, limbo := p.limbo }, p.high, 0)
def giveP (p : Po) (n : Int) : Po × Int := if May p n then ({ high := p.high, free := p.free, limbo := lay1 n p.limbo }, 0) else ({ high := 0 }, 1)
def backP (p : Po) (n : Int) : Po × Int := if May p n then ({ high := p.high, free := lay1 n p.free, limbo := p.limbo }, 0) else ({ high := 0 }, 1)
/-- A pool and an error are handed back. -/
def PoolE (r : Po × Int) (w : World) (e : Ending) (w' : World) : Prop := ∃ a, e = .returned (.tuple #[poV r.1 a, numV r.2]) ∧ PoAt w' r.1 a ∧ Below w.heap.size w w'
/-- A pool, a page and an error. -/
def PoolN (r : Po × Int × Int) (w : World) (e : Ending) (w' : World) : Prop := ∃ a, e = .returned (.tuple #[poV r.1 a, numV r.2.1, numV r.2.2]) ∧ PoAt w' r.1 a ∧ Below w.heap.size w w'
/-- A pool's lists lie in blocks from n on. -/
def Fresh (n : Nat) (a : La) : Prop := (∀ x, a.A1 = some x → n ≤ x.block) ∧ ∀ x, a.A2 = some x → n ≤ x.block
def PoolNF (r : Po × Int × Int) (w : World) (e : Ending) (w' : World) : Prop := ∃ a, e = .returned (.tuple #[poV r.1 a, numV r.2.1, numV r.2.2]) ∧ PoAt w' r.1 a ∧ Below w.heap.size w w' ∧ Fresh w.heap.size a
theorem none_at (w : World) : PoAt w { high := 0 } {} := ⟨NAt.none w, NAt.none w⟩
set_option maxRecDepth 100000 in
set_option maxHeartbeats 8000000 in
theorem give_any (p : Po) (a : La) (n : Int) (w : World) (h : PoAt w p a) (hf : p.free.length ≤ 100000) (hl : p.limbo.length ≤ 100000) : Calls Try.prog 14 #[poV p a, .int .i64 n] w (PoolE (giveP p n) w) := by
  obtain ⟨t1, t2, t3, t4⟩ := two_boxes w p a
  have h0 := h.below t3
  have AT := Lib.hid t1
  have AZ := Lib.hid t2
  have BB := Lib.hid t3
  unfold poV
  obtain ⟨W0, hW0⟩ : ∃ W0, (w.alloc (.cells (poC p a) 25)).alloc (.cells #[.int .i64 0, .slice none 0 0, .slice none 0 0] 25) = W0 := ⟨_, rfl⟩
  have e0 : poC { high := 0 } {} = #[.int .i64 0, .slice none 0 0, .slice none 0 0] := rfl
  rw [e0] at t4 h0 AT AZ BB
  rw [hW0] at AT AZ BB t4 h0
  have HP := Lib.hid h0
  have HS := Lib.hid (Nat.le_of_eq t4.symm)
  obtain ⟨c0, c1, c2⟩ := po_cells AT.out
  clear t1 t2 t3 t4 h0 h e0
  have cM := lent_any p a n W0 HP.out
  have hh0 : W0.cell? ⟨w.heap.size + 1, 0, none⟩ = some (.int .i64 0) := AZ.out.2.2 0 _ rfl
  unfold poV at cM
  go_enter Try.func14, Try.ntmps14
  go_wp2_with fail
  refine cM.mono ?_
  rintro e W1 ⟨r, rfl, hr, hb⟩
  clear hW0 c0 c1 c2 cM hh0
  replace AT := Lib.hid (AT.out.below hb AT.out.1)
  replace AZ := Lib.hid (AZ.out.below hb (by have := HS.out; omega))
  replace BB := Lib.hid (BB.out.trans (hb.mono BB.out.size))
  replace HP := Lib.hid (HP.out.below hb)
  replace HS := Lib.hid (Nat.le_trans HS.out hb.size)
  clear hb
  rcases r with _ | _
  · have HN : Hid (giveP p n = ({ high := 0 }, 1)) := Lib.hid (by unfold giveP; rw [if_neg (fun g => by cases hr.2 g)])
    have r0 : W1.cell? ⟨w.heap.size + 1, 0, none⟩ = some (.int .i64 0) := AZ.out.2.2 0 _ rfl
    have r1 : W1.cell? ⟨w.heap.size + 1, 1, none⟩ = some (.slice none 0 0) := AZ.out.2.2 1 _ rfl
    have r2 : W1.cell? ⟨w.heap.size + 1, 2, none⟩ = some (.slice none 0 0) := AZ.out.2.2 2 _ rfl
    have fz := AZ.out.2.1
    have A3 := Lib.hid (set3_at AZ.out rfl (.int .i64 0) (.slice none 0 0) (.slice none 0 0))
    have B3 := Lib.hid (set3_below BB.out (Nat.le_succ _) (.int .i64 0) (.slice none 0 0) (.slice none 0 0))
    clear hr
    go_wp2_with fail
    change bodyPost _ _ _ _ _ (set3 W1 (w.heap.size + 1) (.int .i64 0) (.slice none 0 0) (.slice none 0 0))
    generalize set3 W1 (w.heap.size + 1) (.int .i64 0) (.slice none 0 0) (.slice none 0 0) = W9 at *
    clear r0 r1 r2 fz
    have c0 := A3.out.2.2 0 _ rfl
    have c1 := A3.out.2.2 1 _ rfl
    have c2 := A3.out.2.2 2 _ rfl
    refine bodyPost_ret (v := .tuple #[poV { high := 0 } {}, numV 1]) (by simp [results, Try.results14, go_sem, *]) rfl ?_
    rw [HN.out]
    exact ⟨{}, rfl, none_at _, B3.out⟩
  have HN : Hid (giveP p n = ({ high := p.high, free := p.free, limbo := (lay1 n p.limbo) }, 0)) := Lib.hid (by unfold giveP; rw [if_pos (hr.1 rfl)])
  clear hr
  go_wp2_with fail
  have KS := Lib.hid (show ∀ w', Below W1.heap.size W1 w' → w'.cell? ⟨w.heap.size, 0, none⟩ = some (.int .i64 p.high) ∧ w'.cell? ⟨w.heap.size, 1, none⟩ = some (.slice a.A1 p.free.length a.c1) ∧ w'.cell? ⟨w.heap.size, 2, none⟩ = some (.slice a.A2 p.limbo.length a.c2) from fun w' hB => po_cells (AT.out.below hB AT.out.1))
  have KX := Lib.hid (show ∀ w', Below W1.heap.size W1 w' → ∀ v1 v2, (fun w' => w'.cell? ⟨w.heap.size, 0, none⟩ = some (.int .i64 p.high) ∧ w'.cell? ⟨w.heap.size, 1, none⟩ = some (.slice a.A1 p.free.length a.c1) ∧ w'.cell? ⟨w.heap.size, 2, none⟩ = some (.slice a.A2 p.limbo.length a.c2)) (set3 w' (w.heap.size + 1) (.int .i64 p.high) v1 v2) from fun w' hB v1 v2 => po_cells (set3_other (AT.out.below hB AT.out.1) (Nat.succ_ne_self _) _ v1 v2))
  have J1 := Lib.hid (show ∀ W b, Below W1.heap.size W1 W → W.cell? ⟨b, 0, none⟩ = some (.slice a.A1 p.free.length a.c1) → b < W.heap.size → Calls Try.prog 28 #[.slice (some ⟨b, 0, none⟩) 1 1] W (Owns p.free W) from fun W b hB hc hb => join_at (a.A1, a.c1, p.free) W b hc hb (HP.out.f.below hB) (by simp only; omega))
  have J2 := Lib.hid (show ∀ W b, Below W1.heap.size W1 W → W.cell? ⟨b, 0, none⟩ = some (.int .i64 n) → b < W.heap.size → Calls Try.prog 31 #[.slice a.A2 p.limbo.length a.c2, .slice (some ⟨b, 0, none⟩) 1 1] W (Owns (lay1 n p.limbo) W) from fun W b hB hc hb => laid_at a.A2 _ a.c2 p.limbo n W b hc hb (HP.out.l.below hB) hl)
  have BD := Lib.hid (show Below W1.heap.size W1 W1.drew from (Below.refl _ _).drew)
  have Ba := Lib.hid (show Below W1.heap.size W1 (W1.alloc (.cells #[.slice a.A1 p.free.length a.c1] 23)).drew from (below_box W1 _).drew)
  have Bb := Lib.hid (show Below W1.heap.size W1 (W1.alloc (.cells #[.int .i64 n] 3)).drew from (below_box W1 _).drew)
  have Bab := Lib.hid (show Below W1.heap.size W1 ((W1.alloc (.cells #[.slice a.A1 p.free.length a.c1] 23)).alloc (.cells #[.int .i64 n] 3)).drew from ((below_box W1 _).alloc (below_box W1 _).size _).drew)
  have Bba := Lib.hid (show Below W1.heap.size W1 ((W1.alloc (.cells #[.int .i64 n] 3)).alloc (.cells #[.slice a.A1 p.free.length a.c1] 23)).drew from ((below_box W1 _).alloc (below_box W1 _).size _).drew)
  have K0 := Lib.hid (KS.out _ BD.out)
  have Ka := Lib.hid (KS.out _ Ba.out)
  have Kb := Lib.hid (KS.out _ Bb.out)
  have Kab := Lib.hid (KS.out _ Bab.out)
  have Kba := Lib.hid (KS.out _ Bba.out)
  have cA := J1.out (W1.alloc (.cells #[.slice a.A1 p.free.length a.c1] 23)).drew W1.heap.size Ba.out (cell1D W1 (.slice a.A1 p.free.length a.c1) 23).1 (cell1D W1 (.slice a.A1 p.free.length a.c1) 23).2
  have cB := J1.out ((W1.alloc (.cells #[.slice a.A1 p.free.length a.c1] 23)).alloc (.cells #[.int .i64 n] 3)).drew W1.heap.size Bab.out (cell2D W1 (.slice a.A1 p.free.length a.c1) 23 (.int .i64 n) 3).1 (cell2D W1 (.slice a.A1 p.free.length a.c1) 23 (.int .i64 n) 3).2.2.2
  have cC := J1.out ((W1.alloc (.cells #[.int .i64 n] 3)).alloc (.cells #[.slice a.A1 p.free.length a.c1] 23)).drew (W1.heap.size + 1) Bba.out (cell2D W1 (.int .i64 n) 3 (.slice a.A1 p.free.length a.c1) 23).2.1 (cell2D W1 (.int .i64 n) 3 (.slice a.A1 p.free.length a.c1) 23).2.2.1
  have xb := Lib.hid (cell2D W1 (.slice a.A1 p.free.length a.c1) 23 (.int .i64 n) 3).2.1
  have xc := Lib.hid (cell2D W1 (.int .i64 n) 3 (.slice a.A1 p.free.length a.c1) 23).1
  have sb := Lib.hid (cell2D W1 (.slice a.A1 p.free.length a.c1) 23 (.int .i64 n) 3).2.2.1
  have sc := Lib.hid (cell2D W1 (.int .i64 n) 3 (.slice a.A1 p.free.length a.c1) 23).2.2.2
  clear J1
  go_region_held3 (fun w' => w'.cell? ⟨w.heap.size, 0, none⟩ = some (.int .i64 p.high) ∧ w'.cell? ⟨w.heap.size, 1, none⟩ = some (.slice a.A1 p.free.length a.c1) ∧ w'.cell? ⟨w.heap.size, 2, none⟩ = some (.slice a.A2 p.limbo.length a.c2))
    (with_reducible (first | exact K0.out | exact Ka.out | exact Kb.out | exact Kab.out | exact Kba.out | exact K1.out | exact K1b.out | exact K2.out | exact K3.out))
    (first
      | (go_at_call 28; (with_reducible refine cA.mono ?_); rintro e w1 ⟨v1, rfl, ho, hb⟩
         have hB : Below W1.heap.size W1 w1 := Ba.out.trans (hb.mono Ba.out.size); have ho' := own_base ho Ba.out.size; have K1 := Lib.hid (KS.out _ hB); have hB2 := hB.alloc hB.size (.cells #[.int .i64 n] 3); have K1b := Lib.hid (KS.out _ hB2); have HBc := Lib.hid hB2; have HO1 := Lib.hid (OwnG.kept ho' (below_box w1 (.cells #[.int .i64 n] 3))); have cD := J2.out _ w1.heap.size hB2 (cell1 w1 (.int .i64 n) 3).1 (cell1 w1 (.int .i64 n) 3).2; clear hB2; clear ho hb hB ho')
      | (go_at_call 28; (with_reducible refine cB.mono ?_); rintro e w1 ⟨v1, rfl, ho, hb⟩
         have hB : Below W1.heap.size W1 w1 := Bab.out.trans (hb.mono Bab.out.size); have ho' := own_base ho Bab.out.size; have K1 := Lib.hid (KS.out _ hB); have HBc := Lib.hid hB; have HO1 := Lib.hid ho'; have cD := J2.out w1 (W1.heap.size + 1) hB ((hb.cell (p := ⟨W1.heap.size + 1, 0, none⟩) sb.out).trans xb.out) (Nat.lt_of_lt_of_le sb.out hb.size); clear ho hb hB ho')
      | (go_at_call 28; (with_reducible refine cC.mono ?_); rintro e w1 ⟨v1, rfl, ho, hb⟩
         have hB : Below W1.heap.size W1 w1 := Bba.out.trans (hb.mono Bba.out.size); have ho' := own_base ho Bba.out.size; have K1 := Lib.hid (KS.out _ hB); have HBc := Lib.hid hB; have HO1 := Lib.hid ho'; have cD := J2.out w1 W1.heap.size hB ((hb.cell (p := ⟨W1.heap.size, 0, none⟩) sc.out).trans xc.out) (Nat.lt_of_lt_of_le sc.out hb.size); clear ho hb hB ho')
      | (go_at_call 31; (with_reducible refine cD.mono ?_); rintro e w2 ⟨v2, rfl, ho2, hb2⟩
         have hB3 := HBc.out.trans (hb2.mono HBc.out.size)
         have K2 := Lib.hid (KS.out _ hB3)
         have HO1' := own_set3 (OwnG.kept HO1.out hb2) (b := w.heap.size + 1) (show w.heap.size + 1 < W1.heap.size by have := HS.out; omega) (.int .i64 p.high) v1 v2
         have HO2' := own_set3 (own_base ho2 HBc.out.size) (b := w.heap.size + 1) (show w.heap.size + 1 < W1.heap.size by have := HS.out; omega) (.int .i64 p.high) v1 v2
         have AZ2 := Lib.hid (AZ.out.below hB3 (by have := HS.out; omega))
         have A3 := Lib.hid (set3_at AZ2.out rfl (.int .i64 p.high) v1 v2)
         have B3 := Lib.hid (set3_below (BB.out.trans (hB3.mono BB.out.size)) (Nat.le_succ _) (.int .i64 p.high) v1 v2)
         have K3 := Lib.hid (KX.out _ hB3 v1 v2)
         have r0 : w2.cell? ⟨w.heap.size + 1, 0, none⟩ = some (.int .i64 0) := AZ2.out.2.2 0 _ rfl
         have r1 : w2.cell? ⟨w.heap.size + 1, 1, none⟩ = some (.slice none 0 0) := AZ2.out.2.2 1 _ rfl
         have r2 : w2.cell? ⟨w.heap.size + 1, 2, none⟩ = some (.slice none 0 0) := AZ2.out.2.2 2 _ rfl
         have fz := AZ2.out.2.1
         obtain ⟨X1', n1', d1', rfl, hN1, hf1⟩ := own_nums HO1'
         obtain ⟨X2', n2', d2', rfl, hN2, hf2⟩ := own_nums HO2'
         have HN1 := Lib.hid hN1
         have HN2 := Lib.hid hN2
         have HF1 := Lib.hid hf1
         have HF2 := Lib.hid hf2
         unfold set3 at K3
         clear ho2 hb2 hB3 hN1 hN2 hf1 hf2 HO1' HO2' HO1 cD))
  all_goals
    go_wp2_with fail
    change bodyPost _ _ _ _ _ (set3 w2 (w.heap.size + 1) (.int .i64 p.high) (.slice X1' n1' d1') (.slice X2' n2' d2'))
    generalize set3 w2 (w.heap.size + 1) (.int .i64 p.high) (.slice X1' n1' d1') (.slice X2' n2' d2') = W9 at *
    clear r0 r1 r2 fz K0 Ka Kb Kab Kba K2 K3
    have c0 := A3.out.2.2 0 _ rfl
    have c1 := A3.out.2.2 1 _ rfl
    have c2 := A3.out.2.2 2 _ rfl
    obtain rfl := HN1.out.len
    obtain rfl := HN2.out.len
    refine bodyPost_ret (v := .tuple #[poV { high := p.high, free := p.free, limbo := (lay1 n p.limbo) } { A1 := X1', c1 := d1', A2 := X2', c2 := d2' }, numV 0]) (by simp [results, Try.results14, go_sem, *]) rfl ?_
    exact ⟨{ A1 := X1', c1 := d1', A2 := X2', c2 := d2' }, by rw [HN.out], by rw [HN.out]; exact ⟨HN1.out, HN2.out⟩, B3.out⟩
set_option maxRecDepth 100000 in
set_option maxHeartbeats 8000000 in
theorem back_any (p : Po) (a : La) (n : Int) (w : World) (h : PoAt w p a) (hf : p.free.length ≤ 100000) (hl : p.limbo.length ≤ 100000) : Calls Try.prog 16 #[poV p a, .int .i64 n] w (PoolE (backP p n) w) := by
  obtain ⟨t1, t2, t3, t4⟩ := two_boxes w p a
  have h0 := h.below t3
  have AT := Lib.hid t1
  have AZ := Lib.hid t2
  have BB := Lib.hid t3
  unfold poV
  obtain ⟨W0, hW0⟩ : ∃ W0, (w.alloc (.cells (poC p a) 25)).alloc (.cells #[.int .i64 0, .slice none 0 0, .slice none 0 0] 25) = W0 := ⟨_, rfl⟩
  have e0 : poC { high := 0 } {} = #[.int .i64 0, .slice none 0 0, .slice none 0 0] := rfl
  rw [e0] at t4 h0 AT AZ BB
  rw [hW0] at AT AZ BB t4 h0
  have HP := Lib.hid h0
  have HS := Lib.hid (Nat.le_of_eq t4.symm)
  obtain ⟨c0, c1, c2⟩ := po_cells AT.out
  clear t1 t2 t3 t4 h0 h e0
  have cM := lent_any p a n W0 HP.out
  have hh0 : W0.cell? ⟨w.heap.size + 1, 0, none⟩ = some (.int .i64 0) := AZ.out.2.2 0 _ rfl
  unfold poV at cM
  go_enter Try.func16, Try.ntmps16
  go_wp2_with fail
  refine cM.mono ?_
  rintro e W1 ⟨r, rfl, hr, hb⟩
  clear hW0 c0 c1 c2 cM hh0
  replace AT := Lib.hid (AT.out.below hb AT.out.1)
  replace AZ := Lib.hid (AZ.out.below hb (by have := HS.out; omega))
  replace BB := Lib.hid (BB.out.trans (hb.mono BB.out.size))
  replace HP := Lib.hid (HP.out.below hb)
  replace HS := Lib.hid (Nat.le_trans HS.out hb.size)
  clear hb
  rcases r with _ | _
  · have HN : Hid (backP p n = ({ high := 0 }, 1)) := Lib.hid (by unfold backP; rw [if_neg (fun g => by cases hr.2 g)])
    have r0 : W1.cell? ⟨w.heap.size + 1, 0, none⟩ = some (.int .i64 0) := AZ.out.2.2 0 _ rfl
    have r1 : W1.cell? ⟨w.heap.size + 1, 1, none⟩ = some (.slice none 0 0) := AZ.out.2.2 1 _ rfl
    have r2 : W1.cell? ⟨w.heap.size + 1, 2, none⟩ = some (.slice none 0 0) := AZ.out.2.2 2 _ rfl
    have fz := AZ.out.2.1
    have A3 := Lib.hid (set3_at AZ.out rfl (.int .i64 0) (.slice none 0 0) (.slice none 0 0))
    have B3 := Lib.hid (set3_below BB.out (Nat.le_succ _) (.int .i64 0) (.slice none 0 0) (.slice none 0 0))
    clear hr
    go_wp2_with fail
    change bodyPost _ _ _ _ _ (set3 W1 (w.heap.size + 1) (.int .i64 0) (.slice none 0 0) (.slice none 0 0))
    generalize set3 W1 (w.heap.size + 1) (.int .i64 0) (.slice none 0 0) (.slice none 0 0) = W9 at *
    clear r0 r1 r2 fz
    have c0 := A3.out.2.2 0 _ rfl
    have c1 := A3.out.2.2 1 _ rfl
    have c2 := A3.out.2.2 2 _ rfl
    refine bodyPost_ret (v := .tuple #[poV { high := 0 } {}, numV 1]) (by simp [results, Try.results16, go_sem, *]) rfl ?_
    rw [HN.out]
    exact ⟨{}, rfl, none_at _, B3.out⟩
  have HN : Hid (backP p n = ({ high := p.high, free := (lay1 n p.free), limbo := p.limbo }, 0)) := Lib.hid (by unfold backP; rw [if_pos (hr.1 rfl)])
  clear hr
  go_wp2_with fail
  have KS := Lib.hid (show ∀ w', Below W1.heap.size W1 w' → w'.cell? ⟨w.heap.size, 0, none⟩ = some (.int .i64 p.high) ∧ w'.cell? ⟨w.heap.size, 1, none⟩ = some (.slice a.A1 p.free.length a.c1) ∧ w'.cell? ⟨w.heap.size, 2, none⟩ = some (.slice a.A2 p.limbo.length a.c2) from fun w' hB => po_cells (AT.out.below hB AT.out.1))
  have KX := Lib.hid (show ∀ w', Below W1.heap.size W1 w' → ∀ v1 v2, (fun w' => w'.cell? ⟨w.heap.size, 0, none⟩ = some (.int .i64 p.high) ∧ w'.cell? ⟨w.heap.size, 1, none⟩ = some (.slice a.A1 p.free.length a.c1) ∧ w'.cell? ⟨w.heap.size, 2, none⟩ = some (.slice a.A2 p.limbo.length a.c2)) (set3 w' (w.heap.size + 1) (.int .i64 p.high) v1 v2) from fun w' hB v1 v2 => po_cells (set3_other (AT.out.below hB AT.out.1) (Nat.succ_ne_self _) _ v1 v2))
  have J1 := Lib.hid (show ∀ W b, Below W1.heap.size W1 W → W.cell? ⟨b, 0, none⟩ = some (.int .i64 n) → b < W.heap.size → Calls Try.prog 31 #[.slice a.A1 p.free.length a.c1, .slice (some ⟨b, 0, none⟩) 1 1] W (Owns (lay1 n p.free) W) from fun W b hB hc hb => laid_at a.A1 _ a.c1 p.free n W b hc hb (HP.out.f.below hB) hf)
  have J2 := Lib.hid (show ∀ W b, Below W1.heap.size W1 W → W.cell? ⟨b, 0, none⟩ = some (.slice a.A2 p.limbo.length a.c2) → b < W.heap.size → Calls Try.prog 28 #[.slice (some ⟨b, 0, none⟩) 1 1] W (Owns p.limbo W) from fun W b hB hc hb => join_at (a.A2, a.c2, p.limbo) W b hc hb (HP.out.l.below hB) (by simp only; omega))
  have BD := Lib.hid (show Below W1.heap.size W1 W1.drew from (Below.refl _ _).drew)
  have Ba := Lib.hid (show Below W1.heap.size W1 (W1.alloc (.cells #[.int .i64 n] 3)).drew from (below_box W1 _).drew)
  have Bb := Lib.hid (show Below W1.heap.size W1 (W1.alloc (.cells #[.slice a.A2 p.limbo.length a.c2] 23)).drew from (below_box W1 _).drew)
  have Bab := Lib.hid (show Below W1.heap.size W1 ((W1.alloc (.cells #[.int .i64 n] 3)).alloc (.cells #[.slice a.A2 p.limbo.length a.c2] 23)).drew from ((below_box W1 _).alloc (below_box W1 _).size _).drew)
  have Bba := Lib.hid (show Below W1.heap.size W1 ((W1.alloc (.cells #[.slice a.A2 p.limbo.length a.c2] 23)).alloc (.cells #[.int .i64 n] 3)).drew from ((below_box W1 _).alloc (below_box W1 _).size _).drew)
  have K0 := Lib.hid (KS.out _ BD.out)
  have Ka := Lib.hid (KS.out _ Ba.out)
  have Kb := Lib.hid (KS.out _ Bb.out)
  have Kab := Lib.hid (KS.out _ Bab.out)
  have Kba := Lib.hid (KS.out _ Bba.out)
  have cA := J1.out (W1.alloc (.cells #[.int .i64 n] 3)).drew W1.heap.size Ba.out (cell1D W1 (.int .i64 n) 3).1 (cell1D W1 (.int .i64 n) 3).2
  have cB := J1.out ((W1.alloc (.cells #[.int .i64 n] 3)).alloc (.cells #[.slice a.A2 p.limbo.length a.c2] 23)).drew W1.heap.size Bab.out (cell2D W1 (.int .i64 n) 3 (.slice a.A2 p.limbo.length a.c2) 23).1 (cell2D W1 (.int .i64 n) 3 (.slice a.A2 p.limbo.length a.c2) 23).2.2.2
  have cC := J1.out ((W1.alloc (.cells #[.slice a.A2 p.limbo.length a.c2] 23)).alloc (.cells #[.int .i64 n] 3)).drew (W1.heap.size + 1) Bba.out (cell2D W1 (.slice a.A2 p.limbo.length a.c2) 23 (.int .i64 n) 3).2.1 (cell2D W1 (.slice a.A2 p.limbo.length a.c2) 23 (.int .i64 n) 3).2.2.1
  have xb := Lib.hid (cell2D W1 (.int .i64 n) 3 (.slice a.A2 p.limbo.length a.c2) 23).2.1
  have xc := Lib.hid (cell2D W1 (.slice a.A2 p.limbo.length a.c2) 23 (.int .i64 n) 3).1
  have sb := Lib.hid (cell2D W1 (.int .i64 n) 3 (.slice a.A2 p.limbo.length a.c2) 23).2.2.1
  have sc := Lib.hid (cell2D W1 (.slice a.A2 p.limbo.length a.c2) 23 (.int .i64 n) 3).2.2.2
  clear J1
  go_region_held3 (fun w' => w'.cell? ⟨w.heap.size, 0, none⟩ = some (.int .i64 p.high) ∧ w'.cell? ⟨w.heap.size, 1, none⟩ = some (.slice a.A1 p.free.length a.c1) ∧ w'.cell? ⟨w.heap.size, 2, none⟩ = some (.slice a.A2 p.limbo.length a.c2))
    (with_reducible (first | exact K0.out | exact Ka.out | exact Kb.out | exact Kab.out | exact Kba.out | exact K1.out | exact K1b.out | exact K2.out | exact K3.out))
    (first
      | (go_at_call 31; (with_reducible refine cA.mono ?_); rintro e w1 ⟨v1, rfl, ho, hb⟩
         have hB : Below W1.heap.size W1 w1 := Ba.out.trans (hb.mono Ba.out.size); have ho' := own_base ho Ba.out.size; have K1 := Lib.hid (KS.out _ hB); have hB2 := hB.alloc hB.size (.cells #[.slice a.A2 p.limbo.length a.c2] 23); have K1b := Lib.hid (KS.out _ hB2); have HBc := Lib.hid hB2; have HO1 := Lib.hid (OwnG.kept ho' (below_box w1 (.cells #[.slice a.A2 p.limbo.length a.c2] 23))); have cD := J2.out _ w1.heap.size hB2 (cell1 w1 (.slice a.A2 p.limbo.length a.c2) 23).1 (cell1 w1 (.slice a.A2 p.limbo.length a.c2) 23).2; clear hB2; clear ho hb hB ho')
      | (go_at_call 31; (with_reducible refine cB.mono ?_); rintro e w1 ⟨v1, rfl, ho, hb⟩
         have hB : Below W1.heap.size W1 w1 := Bab.out.trans (hb.mono Bab.out.size); have ho' := own_base ho Bab.out.size; have K1 := Lib.hid (KS.out _ hB); have HBc := Lib.hid hB; have HO1 := Lib.hid ho'; have cD := J2.out w1 (W1.heap.size + 1) hB ((hb.cell (p := ⟨W1.heap.size + 1, 0, none⟩) sb.out).trans xb.out) (Nat.lt_of_lt_of_le sb.out hb.size); clear ho hb hB ho')
      | (go_at_call 31; (with_reducible refine cC.mono ?_); rintro e w1 ⟨v1, rfl, ho, hb⟩
         have hB : Below W1.heap.size W1 w1 := Bba.out.trans (hb.mono Bba.out.size); have ho' := own_base ho Bba.out.size; have K1 := Lib.hid (KS.out _ hB); have HBc := Lib.hid hB; have HO1 := Lib.hid ho'; have cD := J2.out w1 W1.heap.size hB ((hb.cell (p := ⟨W1.heap.size, 0, none⟩) sc.out).trans xc.out) (Nat.lt_of_lt_of_le sc.out hb.size); clear ho hb hB ho')
      | (go_at_call 28; (with_reducible refine cD.mono ?_); rintro e w2 ⟨v2, rfl, ho2, hb2⟩
         have hB3 := HBc.out.trans (hb2.mono HBc.out.size)
         have K2 := Lib.hid (KS.out _ hB3)
         have HO1' := own_set3 (OwnG.kept HO1.out hb2) (b := w.heap.size + 1) (show w.heap.size + 1 < W1.heap.size by have := HS.out; omega) (.int .i64 p.high) v1 v2
         have HO2' := own_set3 (own_base ho2 HBc.out.size) (b := w.heap.size + 1) (show w.heap.size + 1 < W1.heap.size by have := HS.out; omega) (.int .i64 p.high) v1 v2
         have AZ2 := Lib.hid (AZ.out.below hB3 (by have := HS.out; omega))
         have A3 := Lib.hid (set3_at AZ2.out rfl (.int .i64 p.high) v1 v2)
         have B3 := Lib.hid (set3_below (BB.out.trans (hB3.mono BB.out.size)) (Nat.le_succ _) (.int .i64 p.high) v1 v2)
         have K3 := Lib.hid (KX.out _ hB3 v1 v2)
         have r0 : w2.cell? ⟨w.heap.size + 1, 0, none⟩ = some (.int .i64 0) := AZ2.out.2.2 0 _ rfl
         have r1 : w2.cell? ⟨w.heap.size + 1, 1, none⟩ = some (.slice none 0 0) := AZ2.out.2.2 1 _ rfl
         have r2 : w2.cell? ⟨w.heap.size + 1, 2, none⟩ = some (.slice none 0 0) := AZ2.out.2.2 2 _ rfl
         have fz := AZ2.out.2.1
         obtain ⟨X1', n1', d1', rfl, hN1, hf1⟩ := own_nums HO1'
         obtain ⟨X2', n2', d2', rfl, hN2, hf2⟩ := own_nums HO2'
         have HN1 := Lib.hid hN1
         have HN2 := Lib.hid hN2
         have HF1 := Lib.hid hf1
         have HF2 := Lib.hid hf2
         unfold set3 at K3
         clear ho2 hb2 hB3 hN1 hN2 hf1 hf2 HO1' HO2' HO1 cD))
  all_goals
    go_wp2_with fail
    change bodyPost _ _ _ _ _ (set3 w2 (w.heap.size + 1) (.int .i64 p.high) (.slice X1' n1' d1') (.slice X2' n2' d2'))
    generalize set3 w2 (w.heap.size + 1) (.int .i64 p.high) (.slice X1' n1' d1') (.slice X2' n2' d2') = W9 at *
    clear r0 r1 r2 fz K0 Ka Kb Kab Kba K2 K3
    have c0 := A3.out.2.2 0 _ rfl
    have c1 := A3.out.2.2 1 _ rfl
    have c2 := A3.out.2.2 2 _ rfl
    obtain rfl := HN1.out.len
    obtain rfl := HN2.out.len
    refine bodyPost_ret (v := .tuple #[poV { high := p.high, free := (lay1 n p.free), limbo := p.limbo } { A1 := X1', c1 := d1', A2 := X2', c2 := d2' }, numV 0]) (by simp [results, Try.results16, go_sem, *]) rfl ?_
    exact ⟨{ A1 := X1', c1 := d1', A2 := X2', c2 := d2' }, by rw [HN.out], by rw [HN.out]; exact ⟨HN1.out, HN2.out⟩, B3.out⟩
end Go.Proofs.Ytdkpnoinccdaiaa.Pool
