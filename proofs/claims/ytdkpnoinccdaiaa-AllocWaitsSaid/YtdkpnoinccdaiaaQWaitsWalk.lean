/-
  The walk of AllocWaits.
-/
import Derived.Test.YtdkpnoinccdaiaaQWaits1
namespace Go.Proofs.Ytdkpnoinccdaiaa.Pool
open Go.RowKit Gen

set_option maxRecDepth 100000 in
set_option maxHeartbeats 32000000 in
theorem waits_walk (p : Po) (a : La) (most page : Int) (w : World) (h : PoAt w p a) (hm : I64 most) : Calls Try.prog 7 #[poV p a, .int .i64 most, .int .i64 page] w (fun e w' => e = .returned (.bool true) ∧ Below w.heap.size w w') := by
  have hb := below_box w (.cells (poC p a) 25)
  have AT := Lib.hid (po_box w p a)
  have HP := Lib.hid (h.below hb)
  have BB := Lib.hid hb
  clear h hb
  obtain ⟨W0, hW0⟩ : ∃ W0, w.alloc (.cells (poC p a) 25) = W0 := ⟨_, rfl⟩
  rw [hW0] at AT HP BB
  have cA := awake_any W0
  unfold poV
  go_enter Try.func7, Try.ntmps7
  go_wp2_with fail
  clear hW0
  refine cA.mono ?_
  rintro e w1 ⟨rfl, hb⟩
  clear cA
  replace AT := Lib.hid (AT.out.below hb AT.out.1)
  replace HP := Lib.hid (HP.out.below hb)
  replace BB := Lib.hid (BB.out.trans (hb.mono BB.out.size))
  clear hb
  obtain ⟨x0, x1, x2⟩ := po_cells AT.out
  have cF := few_any p a w1
  unfold poV at cF
  go_wp2_with fail
  clear x0 x1 x2
  refine cF.mono ?_
  rintro e w2 ⟨r, rfl, hr, hb⟩
  clear cF
  replace AT := Lib.hid (AT.out.below hb AT.out.1)
  replace HP := Lib.hid (HP.out.below hb)
  replace BB := Lib.hid (BB.out.trans (hb.mono BB.out.size))
  clear hb
  rcases r with _ | _
  · clear hr
    go_wp2_with fail
    go_ret
    exact ⟨rfl, BB.out⟩
  have HF := Lib.hid (hr.1 rfl)
  clear hr
  have cK := check_any p a most w2 HP.out (by have := HF.out; omega) (by have := HF.out; omega)
  unfold Checks poV at cK
  obtain ⟨x0, x1, x2⟩ := po_cells AT.out
  by_cases hok : PoolOk p most
  rotate_left
  · rw [if_neg hok] at cK
    clear hok
    go_wp2_with fail
    refine cK.mono ?_
    rintro e w3 ⟨rfl, hb⟩
    replace BB := Lib.hid (BB.out.trans (hb.mono BB.out.size))
    clear hb cK x0 x1 x2
    go_wp2_with fail
    go_ret
    exact ⟨rfl, BB.out⟩
  rw [if_pos hok] at cK
  have HOK := Lib.hid hok
  clear hok
  go_wp2_with fail
  clear x0 x1 x2
  refine cK.mono ?_
  rintro e w3 ⟨rfl, hb⟩
  clear cK
  replace AT := Lib.hid (AT.out.below hb AT.out.1)
  replace HP := Lib.hid (HP.out.below hb)
  replace BB := Lib.hid (BB.out.trans (hb.mono BB.out.size))
  clear hb
  by_cases h5 : 500 < most
  · have d5 : decide ((500 : Int) < most) = true := by simp [h5]
    go_wp2_with fail
    go_ret
    exact ⟨rfl, BB.out⟩
  have d5 : decide ((500 : Int) < most) = false := by simp [h5]
  have H5 := Lib.hid (show most ≤ 500 by omega)
  clear h5
  obtain ⟨x0, x1, x2⟩ := po_cells AT.out
  have cG := give_any p a page w3 HP.out (by have := HF.out; omega) (by have := HF.out; omega)
  unfold PoolE at cG
  by_cases hmay : May p page
  rotate_left
  · rw [show giveP p page = ({ high := 0 }, 1) from if_neg hmay] at cG
    unfold poV poC at cG
    dsimp only at cG
    simp only [List.length_nil] at cG
    clear hmay
    go_wp2_with fail
    refine cG.mono ?_
    rintro e w4 ⟨a4, rfl, -, hb⟩
    clear cG
    replace BB := Lib.hid (BB.out.trans (hb.mono BB.out.size))
    clear hb x0 x1 x2 d5
    obtain ⟨Wz, W4, z1, r0, r1, r2, fz, s1, at1, bl1, lt1⟩ := put_box w4 (.int .i64 0) (.slice a4.A1 0 a4.c1) (.slice a4.A2 0 a4.c2)
    replace BB := Lib.hid (BB.out.trans (bl1.mono BB.out.size))
    have A4 := Lib.hid (show At W4 w4.heap.size (poC { high := 0 } a4) from at1)
    clear at1
    clear A4
    go_wp2_with fail
    go_ret
    exact ⟨rfl, BB.out⟩
  have HQ5 := Lib.hid (show PoolOk (giveP p page).1 most ∧ page ∈ (giveP p page).1.limbo ∧ (giveP p page).2 = 0 from by
    rw [show giveP p page = ({ high := p.high, free := p.free, limbo := lay1 page p.limbo }, 0) from if_pos hmay]
    exact ⟨give_ok HOK.out hmay, (lay1_mem _ _ _).2 (.inl rfl), rfl⟩)
  generalize giveP p page = r5 at cG HQ5
  obtain ⟨q5, e5⟩ := r5
  dsimp only at cG HQ5
  obtain rfl : e5 = 0 := HQ5.out.2.2
  unfold poV poC at cG
  clear hmay
  go_wp2_with fail
  refine cG.mono ?_
  rintro e w4 ⟨a5, rfl, hp5, hb⟩
  clear cG
  replace BB := Lib.hid (BB.out.trans (hb.mono BB.out.size))
  have P5 := Lib.hid hp5
  clear hb hp5 x0 x1 x2 d5 AT HP
  obtain ⟨Wz, W4, z1, r0, r1, r2, fz, s1, at1, bl1, lt1⟩ := put_box w4 (.int .i64 q5.high) (.slice a5.A1 q5.free.length a5.c1) (.slice a5.A2 q5.limbo.length a5.c2)
  replace BB := Lib.hid (BB.out.trans (bl1.mono BB.out.size))
  replace P5 := Lib.hid (P5.out.below bl1)
  have A5 := Lib.hid (show At W4 w4.heap.size (poC q5 a5) from at1)
  clear at1
  have PB := Lib.hid (show (q5.free ≠ [] → ∀ x, a5.A1 = some x → x.block < W4.heap.size) ∧ (q5.limbo ≠ [] → ∀ x, a5.A2 = some x → x.block < W4.heap.size) from ⟨fun hne x e => by
    obtain ⟨b, o, e2, hl, -⟩ := P5.out.f.row hne
    rw [e] at e2
    cases e2
    exact hl, fun hne x e => by
    obtain ⟨b, o, e2, hl, -⟩ := P5.out.l.row hne
    rw [e] at e2
    cases e2
    exact hl⟩)
  have PBW := Lib.hid BB.out.size
  have PBW : Hid (w.heap.size ≤ W4.heap.size) := PBW
  have hmk := make_seen
  have hb5 := below_box W4 (.cells (madeCells #[.bool false] 501) 4)
  have AS := Lib.hid (seen_made W4)
  obtain ⟨W5, z5⟩ : ∃ W5, W4.alloc (.cells (madeCells #[.bool false] 501) 4) = W5 := ⟨_, rfl⟩
  rw [z5] at hb5 AS
  replace BB := Lib.hid (BB.out.trans (hb5.mono BB.out.size))
  replace P5 := Lib.hid (P5.out.below hb5)
  replace A5 := Lib.hid (A5.out.below hb5 A5.out.1)
  obtain ⟨y0, y1, y2⟩ := po_cells A5.out
  have hs4 := P5.out
  obtain ⟨Wy, W6, z6, u0, u1, u2, uz, s6, at6, bl6, lt6⟩ := put_box W5 (.int .i64 q5.high) (.slice a5.A1 q5.free.length a5.c1) (.slice a5.A2 q5.limbo.length a5.c2)
  replace BB := Lib.hid (BB.out.trans (bl6.mono BB.out.size))
  replace P5 := Lib.hid (P5.out.below bl6)
  replace A5 := Lib.hid (A5.out.below bl6 A5.out.1)
  replace AS := Lib.hid (AS.out.below bl6)
  have hlt4 : W4.heap.size < W5.heap.size := by rw [← z5]; simp
  have HW := Lib.hid (show WI w W6 W4.heap.size W5.heap.size most q5 a5 (fun _ => false) from ⟨at6, P5.out, fun hne x e => by
    obtain ⟨b, o, e2, hl, -⟩ := hs4.f.row hne
    rw [e] at e2
    cases e2
    have h9 := PB.out.1 hne _ e
    exact ⟨by simp only at h9 ⊢; omega, by simp only at h9 ⊢; omega⟩, fun hne x e => by
    obtain ⟨b, o, e2, hl, -⟩ := hs4.l.row hne
    rw [e] at e2
    cases e2
    have h9 := PB.out.2 hne _ e
    exact ⟨by simp only at h9 ⊢; omega, by simp only at h9 ⊢; omega⟩, AS.out, BB.out, HQ5.out.1, fun k hk => (by cases hk), ⟨by have := PBW.out; omega, PBW.out, by omega⟩⟩)
  clear at6 hs4
  go_wp2_with fail
  clear z1 r0 r1 r2 fz s1 bl1 lt1 hmk z5 hb5 y0 y1 y2 z6 u0 u1 u2 uz s6 bl6 lt6 BB P5 A5 AS PB PBW
  go_loopw [12] (fun s12 wl => ∃ (i : Nat) (c : Po) (ac : La) (S : Nat → Bool), s12 = .int .i64 (i : Int) ∧ i ≤ 600 ∧ Hid (WI w wl W4.heap.size W5.heap.size most c ac S) ∧ Hid (page ∈ c.limbo)) (fun s12 _ => 600 - (intOf s12).toNat)
  case atStart => exact ⟨0, q5, a5, _, rfl, by omega, HW, Lib.hid HQ5.out.2.1⟩
  case round =>
    clear HW HQ5
    obtain ⟨i, c, ac, S, rfl, hi, H, HPG⟩ := hrel
    by_cases hlt : i < 600
    · have t9 : (i : Int) < 600 := by omega
      obtain ⟨x0, x1, x2⟩ := po_cells H.out.q
      have hcl := ok_len H.out.ok H5.out
      have cT := take_fresh c ac most _ H.out.pa (by omega) (by omega) (by have := H.out.ok.low; omega) hm.2
      unfold PoolNF at cT
      have HS := Lib.hid (take_step (most := most) H.out.ok H.out.seen)
      have HO := Lib.hid (take_out (c := c) (most := most))
      have HK := Lib.hid (fun he : (takeP c most).2.2 = 0 => take_ok H.out.ok he)
      generalize takeP c most = r4 at cT HS HO HK
      obtain ⟨q4, k4, e4⟩ := r4
      dsimp only at cT HS HO HK
      unfold poV poC at cT
      clear hcl
      go_wp2_with fail
      refine cT.mono ?_
      rintro e w1' ⟨a4, rfl, hp4, hb, hfr⟩
      clear cT
      clear x0 x1 x2
      obtain ⟨Wz, W1', z1, r0, r1, r2, fz, s1, at1, bl1, lt1⟩ := put_box w1' (.int .i64 q4.high) (.slice a4.A1 q4.free.length a4.c1) (.slice a4.A2 q4.limbo.length a4.c2)
      by_cases he : e4 = 0
      · subst he
        obtain ⟨k, rfl, hk2, hkm, hSk, hkl, hseen, hlim, hfree⟩ := HS.out rfl
        have h5' := H5.out
        have hk5 : k < 501 := by omega
        obtain ⟨⟨v1, v2⟩, ⟨⟨t0, t1, t2⟩, ⟨y0, y1, y2⟩, y3⟩, hN⟩ := H.out.next hb hp4 hfr bl1 at1 hk5 (HK.out rfl).1 hseen
        rw [hSk] at v2
        obtain ⟨W2', s2⟩ : ∃ W2', W1'.setCell ⟨W4.heap.size, k, none⟩ (.bool true) = W2' := ⟨_, rfl⟩
        rw [s2] at t0 t1 t2 y0 y1 y2 y3 hN
        obtain ⟨W3', s3⟩ : ∃ W3', set3 W2' W5.heap.size (.int .i64 q4.high) (.slice a4.A1 q4.free.length a4.c1) (.slice a4.A2 q4.limbo.length a4.c2) = W3' := ⟨_, rfl⟩
        rw [s3] at hN
        unfold set3 at s3
        have HN := Lib.hid hN
        have HLM := Lib.hid hlim
        have HFE := Lib.hid hfree
        have HKL := Lib.hid hkl
        have d1 : decide ((k : Int) < 2) = false := by simp; omega
        have d2 : decide (most ≤ (k : Int)) = false := by simp; omega
        have i1 : (0 : Int) ≤ (k : Int) := by omega
        have i2 : (k : Int) < 501 := by omega
        have dk : ((k : Int) == page) = false := beq_eq_false_iff_ne.2 (fun e => hkl (by rw [e]; exact HPG.out))
        clear hb hp4 hfr at1 hN hlim hfree hkl hseen hSk HS HO HK hk2 hkm h5' hk5
        go_wp2_with fail
        go_roundw
        case rel => exact ⟨i + 1, q4, a4, _, by go_num, by omega, HN, Lib.hid (by rw [HLM.out]; exact HPG.out)⟩
        case measure => simp [intOf]; omega
      · have be : (e4 != 0) = true := by simp [bne, he]
        have HE := Lib.hid (H.out.below (hb.trans (bl1.mono hb.size)))
        clear hb hp4 hfr at1 HS HO HK he H
        obtain ⟨x0, x1, x2⟩ := po_cells HE.out.q
        have hcl := ok_len HE.out.ok H5.out
        have cN := turn_any c ac W1' HE.out.pa (by omega) (by omega)
        have HU := Lib.hid (show PoolOk { high := c.high, free := layAll c.free c.limbo } most ∧ page ∈ (layAll c.free c.limbo) ∧ Seen S { high := c.high, free := layAll c.free c.limbo } from ⟨turn_ok HE.out.ok, (layAll_mem _ _ _).2 (.inr HPG.out), fun k hk => by
          have := HE.out.seen k hk
          exact ⟨fun hm => by rcases (layAll_mem _ _ _).1 hm with hm | hm; exact this.1 hm; exact this.2.2 hm, this.2.1, by simp⟩⟩)
        generalize layAll c.free c.limbo = R at cN HU
        unfold Pools poV poC at cN
        simp only [List.length_nil] at cN
        clear hcl
        go_wp2_with fail
        refine cN.mono ?_
        rintro e w7 ⟨a7, rfl, hp7, hb7, hf7⟩
        clear cN
        obtain ⟨Wz7, W7, z7, g0, g1, g2, gz, s7, at7, bl7, lt7⟩ := put_box w7 (.int .i64 c.high) (.slice a7.A1 R.length a7.c1) (.slice a7.A2 0 a7.c2)
        have hsq := HE.out.q.1
        have hss := HE.out.s.lt
        have hz := HE.out.z
        have H7 := Lib.hid (show WI w W7 W4.heap.size w7.heap.size most { high := c.high, free := R } a7 S from ⟨at7, hp7.below bl7, fun hne x e => ⟨by
          obtain ⟨b, o, e2, hl, -⟩ := hp7.f.row hne
          rw [e] at e2
          cases e2
          exact Nat.ne_of_lt hl, by have := hf7 x e; omega⟩, fun hne => absurd rfl hne, (HE.out.s.below hb7).below bl7, (HE.out.b.trans (hb7.mono HE.out.b.size)).trans (bl7.mono (Nat.le_trans HE.out.b.size hb7.size)), HU.out.1, HU.out.2.2, ⟨Nat.le_trans HE.out.b.size hb7.size, hz.2.1, by have := hb7.size; omega⟩⟩)
        have HPF := Lib.hid HU.out.2.1
        have HRL : Hid (R.length ≤ 498) := Lib.hid (ok_len HU.out.1 H5.out).1
        clear hp7 hb7 hf7 hsq hss hz at7 x0 x1 x2 HU
        go_wp2_with fail
        clear z7 g0 g1 g2 gz s7 bl7 lt7
        go_loopw [17, 18] (fun s17 s18 wl => ∃ (i : Nat) (c : Po) (ac : La) (S : Nat → Bool) (got : Bool), s17 = .bool got ∧ s18 = .int .i64 (i : Int) ∧ i ≤ 600 ∧ Hid (WI w wl W4.heap.size w7.heap.size most c ac S) ∧ Hid (got = false → page ∈ c.free ∧ c.free.length + i ≤ 598)) (fun _ s18 _ => 600 - (intOf s18).toNat)
        case atStart => exact ⟨0, _, a7, _, false, rfl, rfl, by omega, H7, Lib.hid (fun _ => ⟨HPF.out, by have := HRL.out; show R.length + 0 ≤ 598; omega⟩)⟩
        case round =>
          clear H7 HPF HRL
          obtain ⟨i, c, ac, S, got, rfl, rfl, hi, H, HGT⟩ := hrel
          by_cases hlt : i < 600
          · have t9 : (i : Int) < 600 := by omega
            obtain ⟨x0, x1, x2⟩ := po_cells H.out.q
            have hcl := ok_len H.out.ok H5.out
            have cT := take_fresh c ac most _ H.out.pa (by omega) (by omega) (by have := H.out.ok.low; omega) hm.2
            unfold PoolNF at cT
            have HS := Lib.hid (take_step (most := most) H.out.ok H.out.seen)
            have HO := Lib.hid (take_out (c := c) (most := most))
            have HK := Lib.hid (fun he : (takeP c most).2.2 = 0 => take_ok H.out.ok he)
            generalize takeP c most = r4 at cT HS HO HK
            obtain ⟨q4, k4, e4⟩ := r4
            dsimp only at cT HS HO HK
            unfold poV poC at cT
            clear hcl
            go_wp2_with fail
            refine cT.mono ?_
            rintro e w1' ⟨a4, rfl, hp4, hb, hfr⟩
            clear cT
            clear x0 x1 x2
            obtain ⟨Wz, W1', z1, r0, r1, r2, fz, s1, at1, bl1, lt1⟩ := put_box w1' (.int .i64 q4.high) (.slice a4.A1 q4.free.length a4.c1) (.slice a4.A2 q4.limbo.length a4.c2)
            by_cases he : e4 = 0
            · rcases got with _ | _
              · have hx := HS.out he
                by_cases hkp : k4 = page
                · have dk : (k4 == page) = true := by simp [hkp]
                  clear hkp hx
                  subst he
                  obtain ⟨k, rfl, hk2, hkm, hSk, hkl, hseen, hlim, hfree⟩ := HS.out rfl
                  have h5' := H5.out
                  have hk5 : k < 501 := by omega
                  obtain ⟨⟨v1, v2⟩, ⟨⟨t0, t1, t2⟩, ⟨y0, y1, y2⟩, y3⟩, hN⟩ := H.out.next hb hp4 hfr bl1 at1 hk5 (HK.out rfl).1 hseen
                  rw [hSk] at v2
                  obtain ⟨W2', s2⟩ : ∃ W2', W1'.setCell ⟨W4.heap.size, k, none⟩ (.bool true) = W2' := ⟨_, rfl⟩
                  rw [s2] at t0 t1 t2 y0 y1 y2 y3 hN
                  obtain ⟨W3', s3⟩ : ∃ W3', set3 W2' w7.heap.size (.int .i64 q4.high) (.slice a4.A1 q4.free.length a4.c1) (.slice a4.A2 q4.limbo.length a4.c2) = W3' := ⟨_, rfl⟩
                  rw [s3] at hN
                  unfold set3 at s3
                  have HN := Lib.hid hN
                  have HLM := Lib.hid hlim
                  have HFE := Lib.hid hfree
                  have HKL := Lib.hid hkl
                  have d1 : decide ((k : Int) < 2) = false := by simp; omega
                  have d2 : decide (most ≤ (k : Int)) = false := by simp; omega
                  have i1 : (0 : Int) ≤ (k : Int) := by omega
                  have i2 : (k : Int) < 501 := by omega
                  clear hb hp4 hfr at1 hN hlim hfree hkl hseen hSk HS HO HK hk2 hkm h5' hk5
                  go_wp2_with fail
                  go_roundw
                  case rel => exact ⟨i + 1, q4, a4, _, true, rfl, by go_num, by omega, HN, Lib.hid (fun e => by cases e)⟩
                  case measure => simp [intOf]; omega
                · have HKP := Lib.hid hkp
                  have dk : (k4 == page) = false := beq_eq_false_iff_ne.2 hkp
                  clear hkp hx
                  subst he
                  obtain ⟨k, rfl, hk2, hkm, hSk, hkl, hseen, hlim, hfree⟩ := HS.out rfl
                  have h5' := H5.out
                  have hk5 : k < 501 := by omega
                  obtain ⟨⟨v1, v2⟩, ⟨⟨t0, t1, t2⟩, ⟨y0, y1, y2⟩, y3⟩, hN⟩ := H.out.next hb hp4 hfr bl1 at1 hk5 (HK.out rfl).1 hseen
                  rw [hSk] at v2
                  obtain ⟨W2', s2⟩ : ∃ W2', W1'.setCell ⟨W4.heap.size, k, none⟩ (.bool true) = W2' := ⟨_, rfl⟩
                  rw [s2] at t0 t1 t2 y0 y1 y2 y3 hN
                  obtain ⟨W3', s3⟩ : ∃ W3', set3 W2' w7.heap.size (.int .i64 q4.high) (.slice a4.A1 q4.free.length a4.c1) (.slice a4.A2 q4.limbo.length a4.c2) = W3' := ⟨_, rfl⟩
                  rw [s3] at hN
                  unfold set3 at s3
                  have HN := Lib.hid hN
                  have HLM := Lib.hid hlim
                  have HFE := Lib.hid hfree
                  have HKL := Lib.hid hkl
                  have d1 : decide ((k : Int) < 2) = false := by simp; omega
                  have d2 : decide (most ≤ (k : Int)) = false := by simp; omega
                  have i1 : (0 : Int) ≤ (k : Int) := by omega
                  have i2 : (k : Int) < 501 := by omega
                  clear hb hp4 hfr at1 hN hlim hfree hkl hseen hSk HS HO HK hk2 hkm h5' hk5
                  go_wp2_with fail
                  go_roundw
                  case rel => exact ⟨i + 1, q4, a4, _, false, rfl, by go_num, by omega, HN, Lib.hid (fun _ => by
                    obtain ⟨g1, g2⟩ := HGT.out (by first | trivial | rfl)
                    obtain ⟨h1, h2⟩ := HFE.out (fun e => by rw [e] at g1; cases g1)
                    refine ⟨(h2 page g1).resolve_left (fun e => HKP.out e.symm), by omega⟩)⟩
                  case measure => simp [intOf]; omega
              · subst he
                obtain ⟨k, rfl, hk2, hkm, hSk, hkl, hseen, hlim, hfree⟩ := HS.out rfl
                have h5' := H5.out
                have hk5 : k < 501 := by omega
                obtain ⟨⟨v1, v2⟩, ⟨⟨t0, t1, t2⟩, ⟨y0, y1, y2⟩, y3⟩, hN⟩ := H.out.next hb hp4 hfr bl1 at1 hk5 (HK.out rfl).1 hseen
                rw [hSk] at v2
                obtain ⟨W2', s2⟩ : ∃ W2', W1'.setCell ⟨W4.heap.size, k, none⟩ (.bool true) = W2' := ⟨_, rfl⟩
                rw [s2] at t0 t1 t2 y0 y1 y2 y3 hN
                obtain ⟨W3', s3⟩ : ∃ W3', set3 W2' w7.heap.size (.int .i64 q4.high) (.slice a4.A1 q4.free.length a4.c1) (.slice a4.A2 q4.limbo.length a4.c2) = W3' := ⟨_, rfl⟩
                rw [s3] at hN
                unfold set3 at s3
                have HN := Lib.hid hN
                have HLM := Lib.hid hlim
                have HFE := Lib.hid hfree
                have HKL := Lib.hid hkl
                have d1 : decide ((k : Int) < 2) = false := by simp; omega
                have d2 : decide (most ≤ (k : Int)) = false := by simp; omega
                have i1 : (0 : Int) ≤ (k : Int) := by omega
                have i2 : (k : Int) < 501 := by omega
                clear hb hp4 hfr at1 hN hlim hfree hkl hseen hSk HS HO HK hk2 hkm h5' hk5
                go_wp2_with fail
                go_roundw
                case rel => exact ⟨i + 1, q4, a4, _, true, rfl, by go_num, by omega, HN, Lib.hid (fun e => by cases e)⟩
                case measure => simp [intOf]; omega
            · have be : (e4 != 0) = true := by simp [bne, he]
              have hcn := HO.out he
              have hgt : got = true := by
                rcases got with _ | _
                · have := (HGT.out rfl).1; rw [hcn] at this; cases this
                · rfl
              subst hgt
              have HE := Lib.hid (H.out.below (hb.trans (bl1.mono hb.size)))
              clear hb hp4 hfr at1 HS HO HK he hcn
              go_wp2_with fail
              go_ret
              exact ⟨rfl, HE.out.b⟩
          · have t9 : decide ((i : Int) < 600) = false := by simp; omega
            have hgt : got = true := by
              rcases got with _ | _
              · have := (HGT.out rfl).2; omega
              · rfl
            subst hgt
            go_wp2_with fail
            go_ret
            exact ⟨rfl, H.out.b⟩
    · have t9 : decide ((i : Int) < 600) = false := by simp; omega
      obtain ⟨x0, x1, x2⟩ := po_cells H.out.q
      have hcl := ok_len H.out.ok H5.out
      have cN := turn_any c ac wr H.out.pa (by omega) (by omega)
      have HU := Lib.hid (show PoolOk { high := c.high, free := layAll c.free c.limbo } most ∧ page ∈ (layAll c.free c.limbo) ∧ Seen S { high := c.high, free := layAll c.free c.limbo } from ⟨turn_ok H.out.ok, (layAll_mem _ _ _).2 (.inr HPG.out), fun k hk => by
        have := H.out.seen k hk
        exact ⟨fun hm => by rcases (layAll_mem _ _ _).1 hm with hm | hm; exact this.1 hm; exact this.2.2 hm, this.2.1, by simp⟩⟩)
      generalize layAll c.free c.limbo = R at cN HU
      unfold Pools poV poC at cN
      simp only [List.length_nil] at cN
      clear hcl
      go_wp2_with fail
      refine cN.mono ?_
      rintro e w7 ⟨a7, rfl, hp7, hb7, hf7⟩
      clear cN
      obtain ⟨Wz7, W7, z7, g0, g1, g2, gz, s7, at7, bl7, lt7⟩ := put_box w7 (.int .i64 c.high) (.slice a7.A1 R.length a7.c1) (.slice a7.A2 0 a7.c2)
      have hsq := H.out.q.1
      have hss := H.out.s.lt
      have hz := H.out.z
      have H7 := Lib.hid (show WI w W7 W4.heap.size w7.heap.size most { high := c.high, free := R } a7 S from ⟨at7, hp7.below bl7, fun hne x e => ⟨by
        obtain ⟨b, o, e2, hl, -⟩ := hp7.f.row hne
        rw [e] at e2
        cases e2
        exact Nat.ne_of_lt hl, by have := hf7 x e; omega⟩, fun hne => absurd rfl hne, (H.out.s.below hb7).below bl7, (H.out.b.trans (hb7.mono H.out.b.size)).trans (bl7.mono (Nat.le_trans H.out.b.size hb7.size)), HU.out.1, HU.out.2.2, ⟨Nat.le_trans H.out.b.size hb7.size, hz.2.1, by have := hb7.size; omega⟩⟩)
      have HPF := Lib.hid HU.out.2.1
      have HRL : Hid (R.length ≤ 498) := Lib.hid (ok_len HU.out.1 H5.out).1
      clear hp7 hb7 hf7 hsq hss hz at7 x0 x1 x2 HU
      go_wp2_with fail
      clear z7 g0 g1 g2 gz s7 bl7 lt7
      go_loopw [17, 18] (fun s17 s18 wl => ∃ (i : Nat) (c : Po) (ac : La) (S : Nat → Bool) (got : Bool), s17 = .bool got ∧ s18 = .int .i64 (i : Int) ∧ i ≤ 600 ∧ Hid (WI w wl W4.heap.size w7.heap.size most c ac S) ∧ Hid (got = false → page ∈ c.free ∧ c.free.length + i ≤ 598)) (fun _ s18 _ => 600 - (intOf s18).toNat)
      case atStart => exact ⟨0, _, a7, _, false, rfl, rfl, by omega, H7, Lib.hid (fun _ => ⟨HPF.out, by have := HRL.out; show R.length + 0 ≤ 598; omega⟩)⟩
      case round =>
        clear H7 HPF HRL
        obtain ⟨i, c, ac, S, got, rfl, rfl, hi, H, HGT⟩ := hrel
        by_cases hlt : i < 600
        · have t9 : (i : Int) < 600 := by omega
          obtain ⟨x0, x1, x2⟩ := po_cells H.out.q
          have hcl := ok_len H.out.ok H5.out
          have cT := take_fresh c ac most _ H.out.pa (by omega) (by omega) (by have := H.out.ok.low; omega) hm.2
          unfold PoolNF at cT
          have HS := Lib.hid (take_step (most := most) H.out.ok H.out.seen)
          have HO := Lib.hid (take_out (c := c) (most := most))
          have HK := Lib.hid (fun he : (takeP c most).2.2 = 0 => take_ok H.out.ok he)
          generalize takeP c most = r4 at cT HS HO HK
          obtain ⟨q4, k4, e4⟩ := r4
          dsimp only at cT HS HO HK
          unfold poV poC at cT
          clear hcl
          go_wp2_with fail
          refine cT.mono ?_
          rintro e w1' ⟨a4, rfl, hp4, hb, hfr⟩
          clear cT
          clear x0 x1 x2
          obtain ⟨Wz, W1', z1, r0, r1, r2, fz, s1, at1, bl1, lt1⟩ := put_box w1' (.int .i64 q4.high) (.slice a4.A1 q4.free.length a4.c1) (.slice a4.A2 q4.limbo.length a4.c2)
          by_cases he : e4 = 0
          · rcases got with _ | _
            · have hx := HS.out he
              by_cases hkp : k4 = page
              · have dk : (k4 == page) = true := by simp [hkp]
                clear hkp hx
                subst he
                obtain ⟨k, rfl, hk2, hkm, hSk, hkl, hseen, hlim, hfree⟩ := HS.out rfl
                have h5' := H5.out
                have hk5 : k < 501 := by omega
                obtain ⟨⟨v1, v2⟩, ⟨⟨t0, t1, t2⟩, ⟨y0, y1, y2⟩, y3⟩, hN⟩ := H.out.next hb hp4 hfr bl1 at1 hk5 (HK.out rfl).1 hseen
                rw [hSk] at v2
                obtain ⟨W2', s2⟩ : ∃ W2', W1'.setCell ⟨W4.heap.size, k, none⟩ (.bool true) = W2' := ⟨_, rfl⟩
                rw [s2] at t0 t1 t2 y0 y1 y2 y3 hN
                obtain ⟨W3', s3⟩ : ∃ W3', set3 W2' w7.heap.size (.int .i64 q4.high) (.slice a4.A1 q4.free.length a4.c1) (.slice a4.A2 q4.limbo.length a4.c2) = W3' := ⟨_, rfl⟩
                rw [s3] at hN
                unfold set3 at s3
                have HN := Lib.hid hN
                have HLM := Lib.hid hlim
                have HFE := Lib.hid hfree
                have HKL := Lib.hid hkl
                have d1 : decide ((k : Int) < 2) = false := by simp; omega
                have d2 : decide (most ≤ (k : Int)) = false := by simp; omega
                have i1 : (0 : Int) ≤ (k : Int) := by omega
                have i2 : (k : Int) < 501 := by omega
                clear hb hp4 hfr at1 hN hlim hfree hkl hseen hSk HS HO HK hk2 hkm h5' hk5
                go_wp2_with fail
                go_roundw
                case rel => exact ⟨i + 1, q4, a4, _, true, rfl, by go_num, by omega, HN, Lib.hid (fun e => by cases e)⟩
                case measure => simp [intOf]; omega
              · have HKP := Lib.hid hkp
                have dk : (k4 == page) = false := beq_eq_false_iff_ne.2 hkp
                clear hkp hx
                subst he
                obtain ⟨k, rfl, hk2, hkm, hSk, hkl, hseen, hlim, hfree⟩ := HS.out rfl
                have h5' := H5.out
                have hk5 : k < 501 := by omega
                obtain ⟨⟨v1, v2⟩, ⟨⟨t0, t1, t2⟩, ⟨y0, y1, y2⟩, y3⟩, hN⟩ := H.out.next hb hp4 hfr bl1 at1 hk5 (HK.out rfl).1 hseen
                rw [hSk] at v2
                obtain ⟨W2', s2⟩ : ∃ W2', W1'.setCell ⟨W4.heap.size, k, none⟩ (.bool true) = W2' := ⟨_, rfl⟩
                rw [s2] at t0 t1 t2 y0 y1 y2 y3 hN
                obtain ⟨W3', s3⟩ : ∃ W3', set3 W2' w7.heap.size (.int .i64 q4.high) (.slice a4.A1 q4.free.length a4.c1) (.slice a4.A2 q4.limbo.length a4.c2) = W3' := ⟨_, rfl⟩
                rw [s3] at hN
                unfold set3 at s3
                have HN := Lib.hid hN
                have HLM := Lib.hid hlim
                have HFE := Lib.hid hfree
                have HKL := Lib.hid hkl
                have d1 : decide ((k : Int) < 2) = false := by simp; omega
                have d2 : decide (most ≤ (k : Int)) = false := by simp; omega
                have i1 : (0 : Int) ≤ (k : Int) := by omega
                have i2 : (k : Int) < 501 := by omega
                clear hb hp4 hfr at1 hN hlim hfree hkl hseen hSk HS HO HK hk2 hkm h5' hk5
                go_wp2_with fail
                go_roundw
                case rel => exact ⟨i + 1, q4, a4, _, false, rfl, by go_num, by omega, HN, Lib.hid (fun _ => by
                  obtain ⟨g1, g2⟩ := HGT.out (by first | trivial | rfl)
                  obtain ⟨h1, h2⟩ := HFE.out (fun e => by rw [e] at g1; cases g1)
                  refine ⟨(h2 page g1).resolve_left (fun e => HKP.out e.symm), by omega⟩)⟩
                case measure => simp [intOf]; omega
            · subst he
              obtain ⟨k, rfl, hk2, hkm, hSk, hkl, hseen, hlim, hfree⟩ := HS.out rfl
              have h5' := H5.out
              have hk5 : k < 501 := by omega
              obtain ⟨⟨v1, v2⟩, ⟨⟨t0, t1, t2⟩, ⟨y0, y1, y2⟩, y3⟩, hN⟩ := H.out.next hb hp4 hfr bl1 at1 hk5 (HK.out rfl).1 hseen
              rw [hSk] at v2
              obtain ⟨W2', s2⟩ : ∃ W2', W1'.setCell ⟨W4.heap.size, k, none⟩ (.bool true) = W2' := ⟨_, rfl⟩
              rw [s2] at t0 t1 t2 y0 y1 y2 y3 hN
              obtain ⟨W3', s3⟩ : ∃ W3', set3 W2' w7.heap.size (.int .i64 q4.high) (.slice a4.A1 q4.free.length a4.c1) (.slice a4.A2 q4.limbo.length a4.c2) = W3' := ⟨_, rfl⟩
              rw [s3] at hN
              unfold set3 at s3
              have HN := Lib.hid hN
              have HLM := Lib.hid hlim
              have HFE := Lib.hid hfree
              have HKL := Lib.hid hkl
              have d1 : decide ((k : Int) < 2) = false := by simp; omega
              have d2 : decide (most ≤ (k : Int)) = false := by simp; omega
              have i1 : (0 : Int) ≤ (k : Int) := by omega
              have i2 : (k : Int) < 501 := by omega
              clear hb hp4 hfr at1 hN hlim hfree hkl hseen hSk HS HO HK hk2 hkm h5' hk5
              go_wp2_with fail
              go_roundw
              case rel => exact ⟨i + 1, q4, a4, _, true, rfl, by go_num, by omega, HN, Lib.hid (fun e => by cases e)⟩
              case measure => simp [intOf]; omega
          · have be : (e4 != 0) = true := by simp [bne, he]
            have hcn := HO.out he
            have hgt : got = true := by
              rcases got with _ | _
              · have := (HGT.out rfl).1; rw [hcn] at this; cases this
              · rfl
            subst hgt
            have HE := Lib.hid (H.out.below (hb.trans (bl1.mono hb.size)))
            clear hb hp4 hfr at1 HS HO HK he hcn
            go_wp2_with fail
            go_ret
            exact ⟨rfl, HE.out.b⟩
        · have t9 : decide ((i : Int) < 600) = false := by simp; omega
          have hgt : got = true := by
            rcases got with _ | _
            · have := (HGT.out rfl).2; omega
            · rfl
          subst hgt
          go_wp2_with fail
          go_ret
          exact ⟨rfl, H.out.b⟩
end Go.Proofs.Ytdkpnoinccdaiaa.Pool
