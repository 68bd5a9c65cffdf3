/-
  Contracts of the document's own Turn, Check.
-/
import Derived.Test.YtdkpnoinccdaiaaQRef6
import Derived.Test.YtdkpnoinccdaiaaLast
namespace Go.Proofs.Ytdkpnoinccdaiaa.Pool
open Go.RowKit Gen

theorem layAll_step {l ps : List Int} {k : Nat} (h : k < ps.length) : layAll l (ps.take (k + 1)) = lay1 ps[k] (layAll l (ps.take k)) := by
  rw [List.take_succ_eq_append_getElem h, layAll, List.foldl_append]; rfl
theorem nat_one {w : World} {A : Option Addr} {n c b i : Nat} {l : List Int} (h : NAt w A n c l) (hA : l ≠ [] → ∀ a, A = some a → a.block ≠ b) (v : Value) : NAt (w.setCell ⟨b, i, none⟩ v) A n c l :=
  nat_grown h (grown_set w b i v) (fun hne a e e2 => hA hne a e (Option.some.inj e2))
def PoolsB (q : Po) (w : World) (e : Ending) (w' : World) : Prop := ∃ a, e = .returned (poV q a) ∧ PoAt w' q a ∧ Below w.heap.size w w'
/-- Between two rounds of Turn. -/
structure TurnSt (w1 : World) (lo : Nat) (h : Int) (u : Value) (T : List Int) (X : Option Addr) (c : Nat) (wr : World) : Prop where
  box : At wr w1.heap.size #[.int .i64 h, .slice X T.length c, u]
  row : NAt wr X T.length c T
  apart : T ≠ [] → ∀ a, X = some a → a.block ≠ w1.heap.size
  low : ∀ a, X = some a → lo ≤ a.block
  below : Below w1.heap.size w1 wr
theorem TurnSt.more {w1 w2 : World} {lo : Nat} {h : Int} {u : Value} {T T' : List Int} {X : Option Addr} {c B : Nat} {v : Value} {wr : World} (s : TurnSt w1 lo h u T X c wr) (hB : wr.heap.size = B) (hlo : lo ≤ B) (hb : Below B wr w2) (ho : OwnI w2 B v T') :
    ∃ X' c', v = .slice X' T'.length c' ∧ w2.cell? ⟨w1.heap.size, 1, none⟩ = some (.slice X T.length c) ∧ w2.frozen? ⟨w1.heap.size, 1, none⟩ = false ∧ TurnSt w1 lo h u T' X' c' (w2.setCell ⟨w1.heap.size, 1, none⟩ (.slice X' T'.length c')) := by
  subst hB
  have hA := s.box.below hb s.box.1
  obtain ⟨X', n', c', rfl, hN, hX⟩ := own_nums ho
  obtain rfl := hN.len
  have hlt := s.box.1
  refine ⟨X', c', rfl, hA.2.2 1 _ rfl, hA.2.1 1, ⟨hA.set 1 _ (by simp), nat_one hN (fun _ a e => by have := hX a e; omega) _, fun _ a e => by have := hX a e; omega, fun a e => Nat.le_trans hlo (hX a e), ?_⟩⟩
  exact (s.below.trans (hb.mono (Nat.le_of_lt hlt))).setCell (p := ⟨w1.heap.size, 1, none⟩) (Nat.le_refl _) _
set_option maxRecDepth 100000 in
set_option maxHeartbeats 8000000 in
theorem rTurn_any (p : Po) (a : La) (w : World) (h : PoAt w p a) (hf : p.free.length ≤ 100000) (hl : p.limbo.length ≤ 100000) : Calls Try.prog 20 #[poV p a] w (PoolsB { high := p.high, free := layAll p.free p.limbo } w) := by
  obtain ⟨t1, t2, t3, t4⟩ := two_boxes w p a
  have h0 := h.below t3
  have AT := Lib.hid t1
  have AZ := Lib.hid t2
  have BB := Lib.hid t3
  unfold poV
  obtain ⟨W0, hW0⟩ : ∃ W0, (w.alloc (.cells (poC p a) 25)).alloc (.cells #[.int .i64 0, .slice none 0 0, .slice none 0 0] 25) = W0 := ⟨_, rfl⟩
  have e0 : poC { high := 0 } {} = #[.int .i64 0, .slice none 0 0, .slice none 0 0] := rfl
  rw [e0] at t4 h0 AT AZ BB
  rw [hW0] at AT AZ BB t4 h0
  have HP := Lib.hid h0
  have HS := Lib.hid (Nat.le_of_eq t4.symm)
  obtain ⟨c0, c1, c2⟩ := po_cells AT.out
  clear t1 t2 t3 t4 h0 h e0
  have cO := rOwn_any p a W0 HP.out hf hl
  unfold poV at cO
  go_enter Try.func20, Try.ntmps20
  go_wp2_with fail
  refine cO.mono ?_
  rintro e w1 ⟨a1, rfl, hp1, hb1, hfr1⟩
  have AZ1 := Lib.hid (AZ.out.below hb1 (by have := HS.out; omega))
  have BB1 := Lib.hid (BB.out.trans (hb1.mono BB.out.size))
  have HF1 := Lib.hid (show (∀ x, a1.A1 = some x → w.heap.size + 2 ≤ x.block) ∧ ∀ x, a1.A2 = some x → w.heap.size + 2 ≤ x.block from ⟨fun x e => Nat.le_trans HS.out (hfr1.1 x e), fun x e => Nat.le_trans HS.out (hfr1.2 x e)⟩)
  have SZ1 := Lib.hid (show w.heap.size + 2 ≤ w1.heap.size from Nat.le_trans HS.out hb1.size)
  have P1 := Lib.hid hp1
  have AT1 := Lib.hid (AT.out.below hb1 AT.out.1)
  have HP1 := Lib.hid (HP.out.below hb1)
  clear AT HP HS hb1 hp1 hfr1 cO AZ BB c0 c1 c2 hW0
  obtain ⟨Wz, W1, z1, r0, r1, r2, fz, s1, at1, bl1, lt1⟩ := put_box w1 (.int .i64 p.high) (.slice a1.A1 p.free.length a1.c1) (.slice a1.A2 p.limbo.length a1.c2)
  have A1 := Lib.hid (show At W1 w1.heap.size (poC p a1) from at1)
  have BL1 := Lib.hid bl1
  have AZ2 := Lib.hid (AZ1.out.below bl1 (by have := SZ1.out; omega))
  have BB2 := Lib.hid (BB1.out.trans (bl1.mono BB1.out.size))
  clear at1 bl1
  have x2 : W1.cell? ⟨w.heap.size, 2, none⟩ = some (.slice a.A2 p.limbo.length a.c2) := (AT1.out.below BL1.out AT1.out.1).2.2 2 _ rfl
  have ST := Lib.hid (show TurnSt w1 (w.heap.size + 2) p.high (.slice a1.A2 p.limbo.length a1.c2) p.free a1.A1 a1.c1 W1 from ⟨A1.out, P1.out.f.below BL1.out, fun hne x e => by
    obtain ⟨b, off, e2, hlt, -⟩ := P1.out.f.row hne
    rw [e] at e2; cases e2; exact Nat.ne_of_lt hlt, HF1.out.1, BL1.out⟩)
  clear A1
  have HLM := Lib.hid (show p.free.length + p.limbo.length ≤ 200000 by omega)
  clear hf hl
  go_wp2_with fail
  clear z1 r0 r1 r2 fz s1 lt1 x2
  obtain ⟨m, hm⟩ : ∃ m, p.limbo.length = m := ⟨_, rfl⟩
  have HM := Lib.hid hm
  have hmb : m ≤ 200000 := by have := HLM.out; omega
  clear hm
  go_loopw [4] (fun i wr => ∃ (k : Nat) (X : Option Addr) (c : Nat), i = .int .i64 (k : Int) ∧ k ≤ m ∧ TurnSt w1 (w.heap.size + 2) p.high (.slice a1.A2 p.limbo.length a1.c2) (layAll p.free (p.limbo.take k)) X c wr) (fun i _ => m - (intOf i).toNat)
  case atStart => exact ⟨0, _, _, rfl, Nat.zero_le _, ST.out⟩
  case round =>
    obtain ⟨k, X, c, rfl, hk, hst⟩ := hrel
    have HST := Lib.hid hst
    have x2 : wr.cell? ⟨w.heap.size, 2, none⟩ = some (.slice a.A2 m a.c2) := by
      have := (AT1.out.below hst.below AT1.out.1).2.2 2 (.slice a.A2 p.limbo.length a.c2) rfl
      rw [HM.out] at this
      exact this
    by_cases hlt : k < m
    · have hkl : k < p.limbo.length := by rw [HM.out]; exact hlt
      have HN := Lib.hid (layAll_step (l := p.free) hkl)
      obtain ⟨b, off, hA, hb, hc⟩ := HP1.out.l.row (by intro e; rw [e] at hkl; simp at hkl)
      have hck := (hst.below.cell (p := ⟨b, off + k, none⟩) hb).trans (hc k hkl)
      have hTl := layAll_len p.free (p.limbo.take k)
      rw [List.length_take] at hTl
      generalize p.limbo[k] = x at hck HN
      generalize layAll p.free (p.limbo.take k) = T at HST HN hTl hst
      have hTb : T.length ≤ 200000 := by have := HLM.out; omega
      obtain ⟨nT, hnT⟩ : ∃ nT, T.length = nT := ⟨_, rfl⟩
      have S1 : wr.drew.cell? ⟨w1.heap.size, 1, none⟩ = some (.slice X nT c) := by rw [← hnT]; exact hst.box.2.2 1 _ rfl
      have S2 : wr.drew.cell? ⟨w.heap.size, 2, none⟩ = some (.slice (some ⟨b, off, none⟩) m a.c2) := by rw [← hA]; exact x2
      have S3 : wr.drew.cell? ⟨b, off + k, none⟩ = some (.int .i64 x) := hck
      rw [hA] at x2
      have cT := rLaid_any X nT c T x wr.drew (by rw [← hnT]; exact hst.row.below (Below.refl _ _).drew) (by omega)
      have HLO := Lib.hid (show b < wr.heap.size ∧ w.heap.size < wr.heap.size from ⟨Nat.lt_of_lt_of_le hb hst.below.size, Nat.lt_of_lt_of_le AT1.out.1 hst.below.size⟩)
      have t1 : (0 : Int) ≤ (k : Int) := by omega
      have t2 : (k : Int) < (m : Int) := by omega
      have HNT := Lib.hid hnT
      clear hc hkl hb hst hTl hTb hnT hck
      go_wp2_with fail
      refine region_last (S := fun w' => w'.cell? ⟨w1.heap.size, 1, none⟩ = some (.slice X nT c) ∧ w'.cell? ⟨w.heap.size, 2, none⟩ = some (.slice (some ⟨b, off, none⟩) m a.c2) ∧ w'.cell? ⟨b, off + k, none⟩ = some (.int .i64 x)) 9 (by kernel_rfl) rfl rfl rfl rfl (by kernel_rfl) (by kernel_rfl) ?_
      intro w3 hw3
      subst hw3
      have hSR : (fun w' : World => w'.cell? ⟨w1.heap.size, 1, none⟩ = some (.slice X nT c) ∧ w'.cell? ⟨w.heap.size, 2, none⟩ = some (.slice (some ⟨b, off, none⟩) m a.c2) ∧ w'.cell? ⟨b, off + k, none⟩ = some (.int .i64 x)) wr.drew := ⟨S1, S2, S3⟩
      simp only [List.set_cons_zero, List.set_cons_succ]
      refine wpAnyH_take (i := 0) (v := ?_) rfl (by kernel_rfl) (by kernel_rfl) (by kernel_rfl) (fun _ _ _ h => h) (Or.inl ⟨by rfl, ?_⟩) hSR ?_
      rotate_left
      · (intro w' hSw; (try dsimp only at hSw); go_simp; (try with_reducible rfl))
      simp only [Act.put]
      refine wpAnyH_take (i := 1) (v := ?_) rfl (by kernel_rfl) (by kernel_rfl) (by kernel_rfl) (fun _ _ _ h => h) (Or.inl ⟨by rfl, ?_⟩) hSR ?_
      rotate_left
      · (intro w' hSw; (try dsimp only at hSw); go_simp; (try with_reducible rfl))
      simp only [Act.put]
      refine wpAnyH_take (i := 2) (v := ?_) rfl (by kernel_rfl) (by kernel_rfl) (by kernel_rfl) (fun _ _ _ h => h) (Or.inl ⟨by rfl, ?_⟩) hSR ?_
      rotate_left
      · (intro w' hSw; (try dsimp only at hSw); go_simp; (try with_reducible rfl))
      simp only [Act.put]
      refine wpAnyH_take (i := 3) (v := ?_) rfl (by kernel_rfl) (by kernel_rfl) (by kernel_rfl) (fun _ _ _ h => h) (Or.inl ⟨by rfl, ?_⟩) hSR ?_
      rotate_left
      · (intro w' hSw; (try dsimp only at hSw); go_simp; (try with_reducible rfl))
      simp only [Act.put]
      refine wpAnyH_take (i := 4) (v := ?_) rfl (by kernel_rfl) (by kernel_rfl) (by kernel_rfl) (fun _ _ _ h => h) (Or.inl ⟨by rfl, ?_⟩) hSR ?_
      rotate_left
      · (intro w' hSw; (try dsimp only at hSw); go_simp; (try with_reducible rfl))
      simp only [Act.put]
      refine wpAnyH_take (i := 5) (v := ?_) rfl (by kernel_rfl) (by kernel_rfl) (by kernel_rfl) (fun _ _ _ h => h) (Or.inl ⟨by rfl, ?_⟩) hSR ?_
      rotate_left
      · (intro w' hSw; (try dsimp only at hSw); go_simp; (try with_reducible rfl))
      simp only [Act.put]
      refine wpAnyH_take (i := 6) (v := ?_) rfl (by kernel_rfl) (by kernel_rfl) (by kernel_rfl) (fun _ _ _ h => h) (Or.inl ⟨by rfl, ?_⟩) hSR ?_
      rotate_left
      · (intro w' hSw; (try dsimp only at hSw); go_simp; (try with_reducible rfl))
      simp only [Act.put]
      refine wpAnyH_ready (rs := [7]) (by kernel_rfl) (by simp) (AllReadyH.cons rfl (fun K hK => ?_) AllReadyH.nil)
      go_simp
      refine cT.mono ?_
      rintro e w2 ⟨v, rfl, ho, hb⟩
      have hbx : Below wr.heap.size wr w2 := (Below.refl wr.heap.size wr).drew.trans hb
      obtain ⟨X', c', rfl, y1, yf, hst2⟩ := HST.out.more rfl (show w.heap.size + 2 ≤ wr.heap.size from Nat.le_trans SZ1.out HST.out.below.size) hbx ho
      rw [HNT.out] at y1
      have S4 := Lib.hid (show (fun w' : World => w'.cell? ⟨w1.heap.size, 1, none⟩ = some (.slice X nT c) ∧ w'.cell? ⟨w.heap.size, 2, none⟩ = some (.slice (some ⟨b, off, none⟩) m a.c2) ∧ w'.cell? ⟨b, off + k, none⟩ = some (.int .i64 x)) w2 from ⟨y1, (hbx.cell (p := ⟨w.heap.size, 2, none⟩) HLO.out.2).trans x2, (hbx.cell (p := ⟨b, off + k, none⟩) HLO.out.1).trans S3⟩)
      rw [← HN.out] at hst2
      have HN2 := Lib.hid hst2
      rw [← HN.out]
      obtain ⟨n5, hn5⟩ : ∃ n5, (layAll p.free (p.limbo.take (k + 1))).length = n5 := ⟨_, rfl⟩
      rw [hn5] at HN2 ⊢
      clear hst2 ho hb hbx cT S1 S2 S3 x2 HST HN hn5
      refine hK.out _ _ S4.out (fun hSR => ?_)
      clear hK K
      refine wpAnyH_take (i := 8) (v := ?_) rfl (by kernel_rfl) (by kernel_rfl) (by kernel_rfl) (fun _ _ _ h => h) (Or.inl ⟨by rfl, ?_⟩) hSR ?_
      rotate_left
      · (intro w' hSw; (try dsimp only at hSw); go_simp; (try with_reducible rfl))
      simp only [Act.put]
      refine wpAnyH_take (i := 9) (v := ?_) rfl (by kernel_rfl) (by kernel_rfl) (by kernel_rfl) (fun _ _ _ h => h) (Or.inl ⟨by rfl, ?_⟩) hSR ?_
      rotate_left
      · (intro w' hSw; (try dsimp only at hSw); go_simp; (try with_reducible rfl))
      simp only [Act.put]
      refine wpAnyH_done (by kernel_rfl) ?_ _
      show Oper.wp _ _ _ _ _ _
      unfold Oper.wp
      go_simp
      clear hSR
      go_wp2_with fail
      go_roundw
      case rel => exact ⟨k + 1, by go_num, by omega, X', c', HN2.out⟩
      case measure => simp [intOf]; omega
    · obtain rfl : k = m := by omega
      have HT : Hid (layAll p.free (p.limbo.take k) = layAll p.free p.limbo) := Lib.hid (by rw [List.take_of_length_le (by rw [HM.out]; omega)])
      rw [HT.out] at HST
      have AZ3 := Lib.hid (AZ1.out.below HST.out.below (by have := SZ1.out; omega))
      have BB3 := Lib.hid (BB1.out.trans (HST.out.below.mono BB1.out.size))
      have A5 := Lib.hid HST.out.box
      clear hst HT
      have AB := Lib.hid (show At (wr.setCell ⟨w1.heap.size, 2, none⟩ (.slice none 0 0)) w1.heap.size #[.int .i64 p.high, .slice X (layAll p.free p.limbo).length c, .slice none 0 0] from A5.out.set 2 (.slice none 0 0) (by simp))
      have AY := Lib.hid (AZ3.out.set_other (b' := w1.heap.size) (i := 2) (v := .slice none 0 0) (by have := SZ1.out; omega))
      have BY := Lib.hid (BB3.out.setCell (p := ⟨w1.heap.size, 2, none⟩) (by have := SZ1.out; show w.heap.size ≤ w1.heap.size; omega) (.slice none 0 0))
      have x0 : wr.cell? ⟨w1.heap.size, 2, none⟩ = some (.slice a1.A2 p.limbo.length a1.c2) := A5.out.2.2 2 _ rfl
      have xf := A5.out.2.1 2
      have y0 : (wr.setCell ⟨w1.heap.size, 2, none⟩ (.slice none 0 0)).cell? ⟨w1.heap.size, 0, none⟩ = some (.int .i64 p.high) := AB.out.2.2 0 _ rfl
      have y1 : (wr.setCell ⟨w1.heap.size, 2, none⟩ (.slice none 0 0)).cell? ⟨w1.heap.size, 1, none⟩ = some (.slice X (layAll p.free p.limbo).length c) := AB.out.2.2 1 _ rfl
      have y2 : (wr.setCell ⟨w1.heap.size, 2, none⟩ (.slice none 0 0)).cell? ⟨w1.heap.size, 2, none⟩ = some (.slice none 0 0) := AB.out.2.2 2 _ rfl
      have k0 : (wr.setCell ⟨w1.heap.size, 2, none⟩ (.slice none 0 0)).cell? ⟨w.heap.size + 1, 0, none⟩ = some (.int .i64 0) := AY.out.2.2 0 _ rfl
      have k1 : (wr.setCell ⟨w1.heap.size, 2, none⟩ (.slice none 0 0)).cell? ⟨w.heap.size + 1, 1, none⟩ = some (.slice none 0 0) := AY.out.2.2 1 _ rfl
      have k2 : (wr.setCell ⟨w1.heap.size, 2, none⟩ (.slice none 0 0)).cell? ⟨w.heap.size + 1, 2, none⟩ = some (.slice none 0 0) := AY.out.2.2 2 _ rfl
      have fk := AY.out.2.1
      have A3 := Lib.hid (set3_at AY.out rfl (.int .i64 p.high) (.slice X (layAll p.free p.limbo).length c) (.slice none 0 0))
      have B3 := Lib.hid (set3_below BY.out (Nat.le_succ _) (.int .i64 p.high) (.slice X (layAll p.free p.limbo).length c) (.slice none 0 0))
      have N3 := Lib.hid (show PoAt (set3 (wr.setCell ⟨w1.heap.size, 2, none⟩ (.slice none 0 0)) (w.heap.size + 1) (.int .i64 p.high) (.slice X (layAll p.free p.limbo).length c) (.slice none 0 0)) { high := p.high, free := layAll p.free p.limbo } { A1 := X, c1 := c } from ⟨nat_set3 (nat_one HST.out.row HST.out.apart _) (fun a e => by have := HST.out.low a e; omega) _ _ _, NAt.none _⟩)
      go_wp2_with fail
      change bodyPost _ _ _ _ _ (set3 (wr.setCell ⟨w1.heap.size, 2, none⟩ (.slice none 0 0)) (w.heap.size + 1) (.int .i64 p.high) (.slice X (layAll p.free p.limbo).length c) (.slice none 0 0))
      generalize set3 (wr.setCell ⟨w1.heap.size, 2, none⟩ (.slice none 0 0)) (w.heap.size + 1) (.int .i64 p.high) (.slice X (layAll p.free p.limbo).length c) (.slice none 0 0) = W9 at *
      clear x2 x0 xf y0 y1 y2 k0 k1 k2 fk
      have c0 := A3.out.2.2 0 _ rfl
      have c1 := A3.out.2.2 1 _ rfl
      have c2 := A3.out.2.2 2 _ rfl
      refine bodyPost_ret (v := poV { high := p.high, free := layAll p.free p.limbo } { A1 := X, c1 := c }) (by simp [results, Try.results20, go_sem, *]) rfl ?_
      exact ⟨{ A1 := X, c1 := c }, rfl, N3.out, B3.out⟩
theorem poolOk_fine (p : Po) (most : Int) : PoolOk p most ↔ 2 ≤ p.high ∧ p.high ≤ most ∧ Fine p.free p.high ∧ Fine p.limbo p.high ∧ ∀ x ∈ p.limbo, x ∉ p.free :=
  ⟨fun h => ⟨h.low, h.top, ⟨h.free, h.f⟩, ⟨h.limbo, h.l⟩, h.apart⟩, fun ⟨h1, h2, h3, h4, h5⟩ => ⟨h1, h2, h3.1, h4.1, h3.2, h4.2, h5⟩⟩
set_option maxRecDepth 100000 in
set_option maxHeartbeats 8000000 in
theorem rCheck_any (p : Po) (a : La) (most : Int) (w : World) (h : PoAt w p a) : Calls Try.prog 22 #[poV p a, .int .i64 most] w (Checks p most w) := by
  have hb := below_box w (.cells (poC p a) 25)
  have hat := po_box w p a
  have HP := Lib.hid (h.below hb)
  have HB := Lib.hid hb
  have AT := Lib.hid hat
  have HI := Lib.hid (poolOk_fine p most)
  obtain ⟨c0, c1, c2⟩ := po_cells hat
  clear h hb hat
  obtain ⟨W0, hW0⟩ : ∃ W0, w.alloc (.cells (poC p a) 25) = W0 := ⟨_, rfl⟩
  rw [hW0] at HP HB AT c0 c1 c2
  have cF := rFine_any a.A1 _ a.c1 p.free p.high W0 HP.out.f
  unfold poV
  go_enter Try.func22, Try.ntmps22
  go_wp2_with fail
  refine cF.mono ?_
  rintro e w1 ⟨r1, rfl, h1, hb⟩
  clear hW0 c0 c1 c2 cF
  replace AT := Lib.hid (AT.out.below hb AT.out.1)
  replace HB := Lib.hid (HB.out.trans (hb.mono HB.out.size))
  replace HP := Lib.hid (HP.out.below hb)
  have H1 := Lib.hid h1
  clear h1 hb
  obtain ⟨c0, c1, c2⟩ := po_cells AT.out
  have cL := rFine_any a.A2 _ a.c2 p.limbo p.high w1 HP.out.l
  go_wp2_with fail
  refine cL.mono ?_
  rintro e w2 ⟨r2, rfl, h2, hb⟩
  clear c0 c1 c2 cL
  replace AT := Lib.hid (AT.out.below hb AT.out.1)
  replace HB := Lib.hid (HB.out.trans (hb.mono HB.out.size))
  replace HP := Lib.hid (HP.out.below hb)
  have H2 := Lib.hid h2
  clear h2 hb
  obtain ⟨c0, c1, c2⟩ := po_cells AT.out
  by_cases g1 : p.high < 2
  · have d1 : decide (p.high < 2) = true := by simp [g1]
    have HN : Hid (¬ PoolOk p most) := Lib.hid (fun g => by have := g.low; omega)
    go_wp2_with fail
    go_ret
    exact ⟨by rw [if_neg HN.out]; rfl, HB.out⟩
  have d1 : decide (p.high < 2) = false := by simp [g1]
  by_cases g2 : most < p.high
  · have d2 : decide (most < p.high) = true := by simp [g2]
    have HN : Hid (¬ PoolOk p most) := Lib.hid (fun g => by have := g.top; omega)
    go_wp2_with fail
    go_ret
    exact ⟨by rw [if_neg HN.out]; rfl, HB.out⟩
  have d2 : decide (most < p.high) = false := by simp [g2]
  have HG := Lib.hid (show 2 ≤ p.high ∧ p.high ≤ most by omega)
  clear g1 g2
  rcases r1 with _ | _
  · have HN : Hid (¬ PoolOk p most) := Lib.hid (fun g => by cases H1.out.2 (HI.out.1 g).2.2.1)
    go_wp2_with fail
    go_ret
    exact ⟨by rw [if_neg HN.out]; rfl, HB.out⟩
  rcases r2 with _ | _
  · have HN : Hid (¬ PoolOk p most) := Lib.hid (fun g => by cases H2.out.2 (HI.out.1 g).2.2.2.1)
    go_wp2_with fail
    go_ret
    exact ⟨by rw [if_neg HN.out]; rfl, HB.out⟩
  have K1 := Lib.hid (H1.out.1 rfl)
  have K2 := Lib.hid (H2.out.1 rfl)
  clear H1 H2
  go_wp2_with fail
  clear d1 d2 c0 c1 c2
  obtain ⟨m, hm⟩ : ∃ m, p.limbo.length = m := ⟨_, rfl⟩
  have HM := Lib.hid hm
  have hmb : m ≤ 9223372036854775807 := by rw [← hm]; have h1 := HP.out.l.cap; have h2 := HP.out.l.max; unfold maxLen at h2; omega
  clear hm
  go_loopw [7, 8] (fun i _ wr => ∃ k : Nat, i = .int .i64 (k : Int) ∧ k ≤ m ∧ Hid (∀ j (h : j < p.limbo.length), j < k → p.limbo[j] ∉ p.free) ∧ Below w2.heap.size w2 wr) (fun i _ _ => m - (intOf i).toNat)
  case atStart => exact ⟨0, rfl, Nat.zero_le _, Lib.hid (fun j h hj => absurd hj (Nat.not_lt_zero j)), Below.refl _ _⟩
  case round =>
    obtain ⟨k, rfl, hk, hQ, hD⟩ := hrel
    have HD := Lib.hid hD
    have AT1 := Lib.hid (AT.out.below hD AT.out.1)
    have c2 : wr.cell? ⟨w.heap.size, 2, none⟩ = some (.slice a.A2 m a.c2) := by
      have := AT1.out.2.2 2 (.slice a.A2 p.limbo.length a.c2) rfl
      rw [HM.out] at this
      exact this
    by_cases hlt : k < m
    · have hkl : k < p.limbo.length := by rw [HM.out]; exact hlt
      obtain ⟨b, off, hA, hb, hc⟩ := HP.out.l.row (by intro e; rw [e] at hkl; simp at hkl)
      have hck := (hD.cell (p := ⟨b, off + k, none⟩) hb).trans (hc k hkl)
      rw [hA] at c2
      have HY : Hid (p.limbo[k] ∉ p.free → ∀ j (h : j < p.limbo.length), j < k + 1 → p.limbo[j] ∉ p.free) := Lib.hid (fun g j hj hjk => by
        by_cases e : j = k
        · subst e; exact g
        · exact hQ.out j hj (by omega))
      have HZ : Hid (p.limbo[k] ∈ p.free → ¬ PoolOk p most) := Lib.hid (fun g h => h.apart _ (List.getElem_mem hkl) g)
      generalize p.limbo[k] = x at hck HY HZ
      have cI := rIn_any a.A1 _ a.c1 p.free x wr.drew ((HP.out.f.below hD).below (Below.refl _ _).drew)
      have KS := Lib.hid (fun w' (hW : Below wr.heap.size wr w') => show w'.cell? ⟨w.heap.size, 1, none⟩ = some (.slice a.A1 p.free.length a.c1) ∧ w'.cell? ⟨w.heap.size, 2, none⟩ = some (.slice (some ⟨b, off, none⟩) m a.c2) ∧ w'.cell? ⟨b, off + k, none⟩ = some (.int .i64 x) from
        ⟨(AT1.out.below hW AT1.out.1).2.2 1 _ rfl, (hW.cell (p := ⟨w.heap.size, 2, none⟩) AT1.out.1).trans c2, (hW.cell (p := ⟨b, off + k, none⟩) (Nat.lt_of_lt_of_le hb hD.size)).trans hck⟩)
      have K0 := Lib.hid (KS.out wr.drew (Below.refl _ _).drew)
      have t1 : (0 : Int) ≤ (k : Int) := by omega
      have t2 : (k : Int) < (m : Int) := by omega
      clear hc hkl hb hD hQ hck hA
      go_wp2_with fail
      clear c2
      go_region_held3 (fun w' => w'.cell? ⟨w.heap.size, 1, none⟩ = some (.slice a.A1 p.free.length a.c1) ∧ w'.cell? ⟨w.heap.size, 2, none⟩ = some (.slice (some ⟨b, off, none⟩) m a.c2) ∧ w'.cell? ⟨b, off + k, none⟩ = some (.int .i64 x)) (with_reducible (first | exact K0.out | exact K3.out))
        ((go_at_call 40; (with_reducible refine cI.mono ?_); rintro e w3 ⟨r, rfl, hr, hb⟩
          have hB := (Below.refl wr.heap.size wr).drew.trans hb
          have K3 := Lib.hid (KS.out _ hB)
          have HD3 := Lib.hid (HD.out.trans (hB.mono HD.out.size))
          clear hb hB cI))
      rcases r with _ | _
      · have HN := Lib.hid (HY.out (fun g => by cases hr.2 g))
        clear hr HY HZ
        go_wp2_with fail
        go_roundw
        case rel => exact ⟨k + 1, by go_num, by omega, HN, HD3.out⟩
        case measure => simp [intOf]; omega
      · have HN := Lib.hid (HZ.out (hr.1 rfl))
        clear hr HY HZ
        go_wp2_with fail
        go_ret
        exact ⟨by rw [if_neg HN.out]; rfl, HB.out.trans (HD3.out.mono HB.out.size)⟩
    · have HN : Hid (PoolOk p most) := Lib.hid (HI.out.2 ⟨HG.out.1, HG.out.2, K1.out, K2.out, fun x hx => by
        obtain ⟨j, hj, rfl⟩ := List.getElem_of_mem hx
        exact hQ.out j hj (by have := HM.out; omega)⟩)
      clear hQ
      go_wp2_with fail
      go_ret
      exact ⟨by rw [if_pos HN.out]; rfl, HB.out.trans (HD.out.mono HB.out.size)⟩
end Go.Proofs.Ytdkpnoinccdaiaa.Pool
