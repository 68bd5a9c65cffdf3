/-
  The walk of DeviceTears.
-/
import Derived.Test.YtoldkhfnebjacaaDZeros
import Derived.Test.YtoldkhfnebjacaaDOrderWalk
namespace Go.Proofs.Ytoldkhfnebjacaa.Disk
open Go.RowKit Go.Maps Gen

theorem tail_row {w : World} {A : Option Addr} {l : Bs} {n : Nat} (c k : Nat) (hl : l.length = n) (hR : BRow w A l) (hk : k ≤ n) (hc : n ≤ c) :
    ∃ A2, (∀ W, (Instr.slice 32 (.slice A n c) (some (.int .i64 k)) none none).run Try.prog W = .ok (.slice A2 (n - k) (c - k)) W) ∧ BRow w A2 (l.drop k) := by
  refine ⟨if c = k then A else A.map (·.add k), fun W => ?_, fun hne => ?_⟩
  · rw [run_slice_l W 32 A n c elem_bytes .i64 (k : Int) (by omega) (by omega), size_byte]
    unfold sliced
    simp [Result.andThen]
  · have hkl : k < n := by
      rcases Nat.lt_or_ge k n with h | h
      · exact h
      · exact absurd (List.drop_eq_nil_of_le (by omega)) hne
    obtain ⟨b, off, rfl, hb, hcell⟩ := hR (by intro e; subst e; simp at hne)
    rw [if_neg (by omega)]
    have e : (⟨b, off, none⟩ : Addr).add k = ⟨b, off + k, none⟩ := by unfold Addr.add; split <;> simp_all
    refine ⟨b, off + k, by simp [e], hb, fun j hj => ?_⟩
    rw [List.length_drop] at hj
    rw [Nat.add_assoc, hcell (k + j) (by omega), List.getElem_drop]
/-- What DeviceTears makes of a device, step by step. -/
def te4 (x y : Int) (a b : Bs) : St := wr1 (ordS x y a a) x b
def te5 (x y : Int) (a b : Bs) : St := wr1 (te4 x y a b) y b
def te6 (x y : Int) (a b : Bs) (cut : Int) : St := (te5 x y a b).restart [] x cut
theorem te_read (x y : Int) (a b : Bs) (h0 : 0 ≤ x) (h1 : x < 8) (h : x ≠ y) : (te5 x y a b).readB x = pad b ∧ (te5 x y a b).readE x = 0 := by
  have hoff : (te5 x y a b).off = false := rfl
  have hhas : (te5 x y a b).has x = true := by
    show (decide (0 ≤ x) && decide (x < ((8 : Nat) : Int))) = true
    simp [h0, h1]
  have hC : (te5 x y a b).C x = some (pad b) := by
    simp only [te5, te4, wr1]
    rw [upd_other _ _ h, upd_same]
  refine ⟨?_, by simp [St.readE, hoff, hhas]⟩
  simp [St.readB, hoff, hhas, St.get, hC]
theorem te_last (x y : Int) (a b : Bs) (z : Int) (h : z = x ∨ z = y) : ((te5 x y a b).L z).getD zeros = pad a := by
  have hL : (te5 x y a b).L z = laid (pad a) := by
    simp only [te5, te4, wr1, ordS, St.synced, merged]
    rcases h with rfl | rfl
    · by_cases e : z = y
      · rw [e, upd_same]; rfl
      · rw [upd_other _ _ e, upd_same]; rfl
    · rw [upd_same]; rfl
  rw [hL, laid_getD]
theorem te_end (x y : Int) (a b : Bs) (cut : Int) (h0 : 0 ≤ x) (h1 : x < 8) (g0 : 0 ≤ y) (g1 : y < 8) (h : x ≠ y) :
    (te6 x y a b cut).readB x = torn (pad b) (pad a) (cutN cut) ∧ (te6 x y a b cut).readE x = 0 ∧ (te6 x y a b cut).readB y = pad a ∧ (te6 x y a b cut).readE y = 0 := by
  have hC : (te5 x y a b).C x = some (pad b) := by
    simp only [te5, te4, wr1]
    rw [upd_other _ _ h, upd_same]
  have hs : te6 x y a b cut = ((te5 x y a b).lay x (torn (pad b) (pad a) (cutN cut))).reset := by
    unfold te6 St.restart
    rw [show (te5 x y a b).keeps [] = te5 x y a b by rfl]
    unfold St.tear1
    rw [hC]
    simp only [te_last x y a b x (.inl rfl)]
  have hoff : (te6 x y a b cut).off = false := by rw [hs]; rfl
  have hn : (te6 x y a b cut).n = 8 := by rw [hs]; rfl
  have hhx : (te6 x y a b cut).has x = true := by simp [St.has, hn, h0]; omega
  have hhy : (te6 x y a b cut).has y = true := by simp [St.has, hn, g0]; omega
  have hCx : ∀ z, (te6 x y a b cut).C z = none := fun z => by rw [hs]; rfl
  have hLx : (te6 x y a b cut).L x = laid (torn (pad b) (pad a) (cutN cut)) := by
    rw [hs]
    show upd _ x _ x = _
    rw [upd_same]; rfl
  have hLy : (te6 x y a b cut).L y = (te5 x y a b).L y := by
    rw [hs]
    show upd _ x _ y = _
    rw [upd_other _ _ h.symm]
  refine ⟨?_, by simp [St.readE, hoff, hhx], ?_, by simp [St.readE, hoff, hhy]⟩
  · simp only [St.readB, hoff, hhx, Bool.false_eq_true, if_false, if_true, St.get, hCx, hLx, Option.getD_none]
    exact laid_getD _
  · simp only [St.readB, hoff, hhy, Bool.false_eq_true, if_false, if_true, St.get, hCx, hLy, Option.getD_none]
    exact te_last x y a b y (.inr rfl)
theorem torn_take {l m : Bs} {k : Nat} (hl : l.length = 1024) (hk : k ≤ 1024) : (torn l m k).take k = l.take k := by
  unfold torn over
  exact List.take_left' (by simp; omega)
theorem torn_drop {l m : Bs} {k : Nat} (hl : l.length = 1024) (hk : k ≤ 1024) : (torn l m k).drop k = m.drop k := by
  unfold torn over
  have e : (l.take k).length = k := by simp; omega
  rw [List.drop_left' e, e]
theorem cutN_le (cut : Int) : cutN cut ≤ 1024 := by unfold cutN; omega
set_option maxRecDepth 100000 in
set_option maxHeartbeats 8000000 in
theorem tears_core (A B : Option Addr) (n m c d : Nat) (a b : Bs) (x y : Int) (p : Nat) (cut : Int) (k : Nat) (hkc : cutN cut = k) (hp : p < 256) (hx : (p : Int) % 8 = x) (hy : (x + 1) % 8 = y) (w : World) (ha : a.length = n) (hb : b.length = m) (hA0 : A = none → c = 0) (hAR : BRow w A a) (hBR : BRow w B b) (hn : n ≤ 1000) (hm : m ≤ 1000) :
    Calls Try.prog 6 #[.slice A n c, .slice B m d, .int .u8 (p : Int), .int .i64 cut] w fun e w' => e = .returned (.bool true) ∧ Below w.heap.size w w' := by
  have bn : decide (1000 < (n : Int)) = false := by simp; omega
  have bm : decide (1000 < (m : Int)) = false := by simp; omega
  have hx0 : 0 ≤ x ∧ x < 8 := by omega
  have hy0 : 0 ≤ y ∧ y < 8 := by omega
  have hxy : x ≠ y := by omega
  have hk : k ≤ 1024 := by rw [← hkc]; exact cutN_le cut
  have HCUT := Lib.hid (show min (max cut 0) 1024 = (k : Int) by rw [cut_eq, hkc])
  have HKC := Lib.hid hkc
  have HXY := Lib.hid hxy
  have HA := Lib.hid ha
  have HB := Lib.hid hb
  have HA0 := Lib.hid hA0
  have HAR := Lib.hid hAR
  have HBR := Lib.hid hBR
  have wxa : ∀ s : St, s.off = false → s.fused = false → s.n = 8 → s.write x a = wr1 s x a := fun s h1 h2 h3 => (write_good h1 h2 x a hx0.1 (by rw [h3]; exact hx0.2) (by omega)).1
  have wya : ∀ s : St, s.off = false → s.fused = false → s.n = 8 → s.write y a = wr1 s y a := fun s h1 h2 h3 => (write_good h1 h2 y a hy0.1 (by rw [h3]; exact hy0.2) (by omega)).1
  have wxb : ∀ s : St, s.off = false → s.fused = false → s.n = 8 → s.write x b = wr1 s x b := fun s h1 h2 h3 => (write_good h1 h2 x b hx0.1 (by rw [h3]; exact hx0.2) (by omega)).1
  have wyb : ∀ s : St, s.off = false → s.fused = false → s.n = 8 → s.write y b = wr1 s y b := fun s h1 h2 h3 => (write_good h1 h2 y b hy0.1 (by rw [h3]; exact hy0.2) (by omega)).1
  have WXA := Lib.hid wxa
  have WYA := Lib.hid wya
  have WXB := Lib.hid wxb
  have WYB := Lib.hid wyb
  clear ha hb hAR hBR hA0 wxa wya wxb wyb hkc hxy
  go_enter Try.func6, Try.ntmps6
  go_wp2_with fail
  refine (awake_any w).mono ?_
  rintro e w1 ⟨rfl, bb1⟩
  go_wp2_with fail
  refine (new_on bb1 8 (by omega) (by omega)).mono ?_
  rintro e w2 ⟨sb, bl, bc, rfl, o2, _⟩
  have O2 := Lib.hid o2
  clear o2 bb1
  go_wp2_with fail
  refine (O2.out.write0 x A n c a HA.out HAR.out).mono ?_
  rintro e w3 ⟨rfl, o3, _⟩
  rw [WXA.out _ rfl rfl rfl] at o3
  have O3 := Lib.hid o3
  clear o3 O2
  generalize (St.fresh 8).writeE x a = E3
  go_wp2_with fail
  refine (O3.out.write0 y A n c a HA.out HAR.out).mono ?_
  rintro e w4 ⟨rfl, o4, _⟩
  rw [WYA.out _ rfl rfl rfl] at o4
  have O4 := Lib.hid o4
  clear o4 O3
  generalize (wr1 (St.fresh 8) x a).writeE y a = E4
  go_wp2_with fail
  have cS := O4.out.sync
  rw [(sync_good (s := wr1 (wr1 (St.fresh 8) x a) y a) rfl rfl).1] at cS
  refine cS.mono ?_
  rintro e w5 ⟨rfl, o5, _⟩
  have O5 : Hid (On w w5 sb bl bc (ordS x y a a)) := Lib.hid o5
  clear o5 O4 cS
  generalize (wr1 (wr1 (St.fresh 8) x a) y a).syncE = E5
  go_wp2_with fail
  refine (O5.out.write0 x B m d b HB.out HBR.out).mono ?_
  rintro e w6 ⟨rfl, o6, _⟩
  rw [WXB.out _ rfl rfl rfl] at o6
  have O6 : Hid (On w w6 sb bl bc (te4 x y a b)) := Lib.hid o6
  clear o6 O5
  generalize (ordS x y a a).writeE x b = E6
  go_wp2_with fail
  refine (O6.out.write0 y B m d b HB.out HBR.out).mono ?_
  rintro e w7 ⟨rfl, o7, _⟩
  rw [WYB.out _ rfl rfl rfl] at o7
  have O7 : Hid (On w w7 sb bl bc (te5 x y a b)) := Lib.hid o7
  clear o7 O6
  generalize (te4 x y a b).writeE y b = E7
  go_wp2_with fail
  refine (O7.out.read x).mono ?_
  rintro e w8 ⟨A1, rfl, hr, _, hd1, o8, _⟩
  rw [(te_read x y a b hx0.1 hx0.2 HXY.out).1] at hr ⊢
  rw [(te_read x y a b hx0.1 hx0.2 HXY.out).2, pad_len (by have := HB.out; omega)]
  have HR1 := Lib.hid hr
  have HD1 := Lib.hid hd1
  have O8 := Lib.hid o8
  clear hr o8 O7 hd1
  go_wp2_with fail
  refine (O8.out.restart0 x cut (by omega) (by omega)).mono ?_
  rintro e w9 ⟨rfl, o9, m9⟩
  have O9 : Hid (On w w9 sb bl bc (te6 x y a b cut)) := Lib.hid o9
  have HR1' := Lib.hid (HR1.out.mod m9 (fun _ a h => by have := HD1.out a h; simp; exact this))
  clear o9 O8 m9 HR1 HD1
  go_wp2_with fail
  refine (O9.out.read x).mono ?_
  rintro e w10 ⟨A2, rfl, hr, _, _, o10, b10⟩
  obtain ⟨t1, t2, t3, t4⟩ := te_end x y a b cut hx0.1 hx0.2 hy0.1 hy0.2 HXY.out
  rw [HKC.out] at t1
  rw [t1] at hr ⊢
  rw [t2, torn_len (pad_len (by have := HB.out; omega)) (pad_len (by have := HA.out; omega)) hk]
  have HT3 := Lib.hid t3
  have HT4 := Lib.hid t4
  have HR1 := Lib.hid (HR1'.out.below b10)
  have HR2 := Lib.hid hr
  have O10 := Lib.hid o10
  clear hr o10 O9 t1 t2 t3 t4 b10 HR1'
  go_wp2_with fail
  refine (O10.out.read y).mono ?_
  rintro e w11 ⟨A3, rfl, hr, _, _, o11, b11⟩
  rw [HT3.out] at hr ⊢
  rw [HT4.out, pad_len (by have := HA.out; omega)]
  have HR1' := Lib.hid (HR1.out.below b11)
  have HR2' := Lib.hid (HR2.out.below b11)
  have HR3 := Lib.hid hr
  have O11 := Lib.hid o11
  clear hr o11 O10 b11 HR1 HR2 HT3 HT4
  have hcut := HCUT.out
  obtain ⟨v1, W1, A4, c4, W2, r1, r2, hc4, hc5, hr4, _, b4⟩ := pad_row w11 A n c a HA.out HA0.out (RowG.below HAR.out O11.out.below) (by omega)
  have R1 := Lib.hid r1
  have R2 := Lib.hid r2
  have HR4 := Lib.hid hr4
  have B4 := Lib.hid b4
  clear r1 r2 hr4 b4
  go_wp2_with (first
    | (at_builtin; ((with_reducible refine wpList_append_eq rfl (.tmp 111) (.tmp 112) _ rfl ?_ ?_ R1.out ?_); (next => rfl); (next => rfl)))
    | ((with_reducible refine wpList_append2_eq rfl (.tmp 113) (.tmp 116) _ _ rfl ?_ ?_ R2.out ?_); (next => rfl); (next => rfl)))
  refine region_still (by kernel_rfl) (by kernel_rfl) ?_
  intro w13 hw13
  have D13 : Drew W2 w13 := by rw [hw13]; exact (Drew.refl _).drew
  have O13 := Lib.hid ((O11.out.grow B4.out).grow (D13.below _))
  have la := HA.out
  have lb := HB.out
  have hpa : (pad a).length = 1024 := pad_len (by omega)
  have hpb : (pad b).length = 1024 := pad_len (by omega)
  have htl := torn_len hpb hpa hk
  have q1 := D13.row (HR1'.out.below B4.out)
  have q2 := D13.row (HR2'.out.below B4.out)
  have q3 := D13.row (HR3.out.below B4.out)
  have q4 := D13.row HR4.out
  have s1 := head_run A1 1024 1024 k hk
  have s2 := head_run A2 1024 1024 k hk
  obtain ⟨T2, s3, z2⟩ := tail_row 1024 k htl q2 hk (Nat.le_refl _)
  obtain ⟨T4, s4, z4⟩ := tail_row c4 k hpa q4 hk hc4
  rw [torn_drop hpb hk] at z2
  have y2 := BRow.take q2 k
  rw [torn_take hpb hk] at y2
  have u1 := conv_run 1024 (show ((pad b).take k).length = k by simp; omega) (BRow.take q1 k)
  have u2 := conv_run 1024 (show ((pad b).take k).length = k by simp; omega) y2
  have u3 := conv_run (1024 - k) (show ((pad a).drop k).length = 1024 - k by simp; omega) z2
  have u4 := conv_run (c4 - k) (show ((pad a).drop k).length = 1024 - k by simp; omega) z4
  have u5 := conv_run 1024 hpa q3
  have u6 := conv_run c4 hpa q4
  clear D13 hw13 q1 q2 q3 q4 y2 z2 z4 la lb hpa hpb htl hcut HR1' HR2' HR3 HR4 B4 R1 R2
  generalize strB ((pad b).take k) = S1 at *
  generalize strB ((pad a).drop k) = S2 at *
  generalize strB (pad a) = S3 at *
  repeat still_step
  refine wpStill_nil ?_
  clear u1 u2 u3 u4 u5 u6 s1 s2 s3 s4
  go_wp2_with fail
  go_ret
  exact ⟨rfl, O13.out.below⟩
set_option maxRecDepth 100000 in
theorem tears_walk (A B : Option Addr) (n m c d : Nat) (a b : Bs) (p : UInt8) (cut : Int) (w : World) (ha : a.length = n) (hb : b.length = m) (hn : n ≤ 9223372036854775807) (hm : m ≤ 9223372036854775807) (hA0 : A = none → c = 0) (hAR : BRow w A a) (hBR : BRow w B b) :
    Calls Try.prog 6 #[.slice A n c, .slice B m d, byteV p, .int .i64 cut] w fun e w' => e = .returned (.bool true) ∧ Below w.heap.size w w' := by
  by_cases h1 : n ≤ 1000
  · by_cases h2 : m ≤ 1000
    · exact tears_core A B n m c d a b _ _ p.toNat cut _ rfl p.toNat_lt rfl rfl w ha hb hA0 hAR hBR h1 h2
    · clear hAR hBR ha hb hA0
      have bn : decide (1000 < (n : Int)) = false := by simp; omega
      have bm : decide (1000 < (m : Int)) = true := by simp; omega
      go_enter Try.func6, Try.ntmps6
      go_wp2_with fail
      refine (awake_any w).mono ?_
      rintro e w1 ⟨rfl, bb1⟩
      go_wp2_with fail
      go_ret
      exact ⟨rfl, bb1⟩
  · clear hAR hBR ha hb hA0
    have bn : decide (1000 < (n : Int)) = true := by simp; omega
    go_enter Try.func6, Try.ntmps6
    go_wp2_with fail
    refine (awake_any w).mono ?_
    rintro e w1 ⟨rfl, bb1⟩
    go_wp2_with fail
    go_ret
    exact ⟨rfl, bb1⟩
end Go.Proofs.Ytoldkhfnebjacaa.Disk
