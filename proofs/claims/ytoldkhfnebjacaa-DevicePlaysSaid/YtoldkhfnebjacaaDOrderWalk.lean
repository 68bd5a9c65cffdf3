/-
  The walk of DeviceOrder.
-/
import Derived.Test.YtoldkhfnebjacaaDSame
namespace Go.Proofs.Ytoldkhfnebjacaa.Disk
open Go.RowKit Go.Maps Gen

theorem write_good {s : St} (ho : s.off = false) (hf : s.fused = false) (n : Int) (l : Bs) (h0 : 0 ≤ n) (h1 : n < s.n) (hl : l.length ≤ 1024) : s.write n l = { s with C := upd s.C n (some (pad l)) } ∧ s.writeE n l = 0 := by
  have hb : s.bad n l.length = false := by simp [St.bad, St.has, h0, h1, hl]
  have ha : s.actE = 0 := by simp [St.actE, hf]
  have hs : s.act = s := by simp [St.act, hf]
  exact ⟨by simp [St.write, ho, hb, ha, hs], by simp [St.writeE, ho, hb, ha]⟩
theorem sync_good {s : St} (ho : s.off = false) (hf : s.fused = false) : s.sync = s.synced ∧ s.syncE = 0 := by
  have ha : s.actE = 0 := by simp [St.actE, hf]
  have hs : s.act = s := by simp [St.act, hf]
  exact ⟨by simp [St.sync, ho, ha, hs], by simp [St.syncE, ho, ha]⟩
def wr1 (s : St) (n : Int) (l : Bs) : St := { s with C := upd s.C n (some (pad l)) }
theorem laid_getD (l : Bs) : (laid l).getD zeros = l := by
  unfold laid
  split
  · rename_i h; rw [h]; rfl
  · rfl
theorem upd_comm (f : Int → Option Bs) {x y : Int} (u v : Option Bs) (h : x ≠ y) : upd (upd f x u) y v = upd (upd f y v) x u := by
  funext z
  unfold upd
  by_cases h1 : z = y
  · by_cases h2 : z = x
    · exact absurd (h2.symm.trans h1) h
    · simp [h1, h.symm]
  · simp [h1]
theorem upd_twice (f : Int → Option Bs) (x : Int) (u v : Option Bs) : upd (upd f x u) x v = upd f x v := by
  funext z
  unfold upd
  by_cases h1 : z = x <;> simp [h1]
theorem pad_take (b : Bs) : (pad b).take b.length = b := by simp [pad]
theorem listOf_none (N : Nat) : listOf N (fun _ => none) = [] := by simp [listOf]
/-- One device's blocks are not another's. -/
theorem On.aside {w0 w w' : World} {sb bl bc : Nat} {s : St} (h : On w0 w sb bl bc s) {S : List Nat} (m : Mod S w w') (hS : ∀ k ∈ S, w0.heap.size ≤ k) (h1 : sb ∉ S) (h2 : bl ∉ S) (h3 : bc ∉ S) : On w0 w' sb bl bc s :=
  ⟨h.dev.kept m h1 h2 h3, h.below.trans (m.below h.below.size hS), h.b1, h.b2, h.b3⟩
theorem elem_bytes : Try.prog.underlying 32 = some (.slice (Try.prog.elem 32)) := by kernel_rfl
theorem size_byte (w : World) : (sizeOf (Try.prog.elem 32)).run Try.prog w = .ok 1 w := by kernel_rfl
theorem add_zero (a : Addr) : a.add 0 = a := by unfold Addr.add; split <;> simp_all
theorem head_run (A : Option Addr) (n c k : Nat) (h : k ≤ c) (W : World) : (Instr.slice 32 (.slice A n c) none (some (.int .i64 k)) none).run Try.prog W = .ok (.slice A k c) W := by
  rw [run_slice_h W 32 A n c elem_bytes .i64 (k : Int) (by omega) (by omega), size_byte]
  unfold sliced
  rcases A with _ | a
  · simp [Result.andThen]
  · simp [Result.andThen, add_zero]
/-- What both orders leave. -/
def ordS (x y : Int) (a b : Bs) : St := (wr1 (wr1 (St.fresh 8) x a) y b).synced
theorem ord_read (x y : Int) (a b : Bs) (h0 : 0 ≤ y) (h1 : y < 8) : (ordS x y a b).readB y = pad b ∧ (ordS x y a b).readE y = 0 := by
  have hoff : (ordS x y a b).off = false := rfl
  have hhas : (ordS x y a b).has y = true := by simp [St.has, h0, ordS, St.synced, wr1, St.fresh, h1]
  refine ⟨?_, by simp [St.readE, hoff, hhas]⟩
  have hL : (ordS x y a b).L y = laid (pad b) := by simp [ordS, St.synced, merged, wr1, upd_same]
  have hC : (ordS x y a b).C y = none := rfl
  simp only [St.readB, hoff, hhas, Bool.false_eq_true, if_false, if_true, St.get, hC, hL, Option.getD_none]
  exact laid_getD _
/-- Two devices. -/
structure Two (w0 w : World) (sb bl bc sb' bl' bc' : Nat) (s s' : St) : Prop where
  l : On w0 w sb bl bc s
  r : On w0 w sb' bl' bc' s'
  dj : ∀ k, k ∈ [sb, bl, bc] → k ∉ [sb', bl', bc']
theorem Two.onL {w0 w w' : World} {sb bl bc sb' bl' bc' : Nat} {s s' s1 : St} (h : Two w0 w sb bl bc sb' bl' bc' s s') (o : On w0 w' sb bl bc s1) (m : Mod [sb, bl, bc] w w') : Two w0 w' sb bl bc sb' bl' bc' s1 s' :=
  ⟨o, h.r.aside m (fun k hk => by simp at hk; have := h.l.b1; have := h.l.b2; have := h.l.b3; omega) (fun e => h.dj _ e (by simp)) (fun e => h.dj _ e (by simp)) (fun e => h.dj _ e (by simp)), h.dj⟩
theorem Two.onR {w0 w w' : World} {sb bl bc sb' bl' bc' : Nat} {s s' s1 : St} (h : Two w0 w sb bl bc sb' bl' bc' s s') (o : On w0 w' sb' bl' bc' s1) (m : Mod [sb', bl', bc'] w w') : Two w0 w' sb bl bc sb' bl' bc' s s1 :=
  ⟨h.l.aside m (fun k hk => by simp at hk; have := h.r.b1; have := h.r.b2; have := h.r.b3; omega) (h.dj _ (by simp)) (h.dj _ (by simp)) (h.dj _ (by simp)), o, h.dj⟩
theorem Two.grow {w0 w w' : World} {sb bl bc sb' bl' bc' : Nat} {s s' : St} (h : Two w0 w sb bl bc sb' bl' bc' s s') (b : Below w.heap.size w w') : Two w0 w' sb bl bc sb' bl' bc' s s' := ⟨h.l.grow b, h.r.grow b, h.dj⟩
theorem Two.mk' {w0 w w' : World} {sb bl bc sb' bl' bc' : Nat} {s s' : St} (h : On w0 w sb bl bc s) (r : On w0 w' sb' bl' bc' s') (b : Below w.heap.size w w') (h1 : w.heap.size ≤ sb') (h2 : w.heap.size ≤ bl') (h3 : w.heap.size ≤ bc') : Two w0 w' sb bl bc sb' bl' bc' s s' :=
  ⟨h.grow b, r, fun k hk => by
    have a1 := h.dev.lt
    have a2 := h.dev.last.lt
    have a3 := h.dev.cache.lt
    simp at hk ⊢
    omega⟩
/-- What is told at the end is told alike. -/
theorem ord_end (x y : Int) (a b : Bs) (h : x ≠ y) : (wr1 (wr1 (St.fresh 8) y b) x a).synced = ordS x y a b := by
  unfold ordS wr1
  simp only
  rw [upd_comm _ _ _ h.symm]
theorem ord_same (x : Int) (a b : Bs) : (wr1 (St.fresh 8) x b).synced = ordS x x a b := by
  unfold ordS wr1
  simp only
  rw [upd_twice]
theorem ord_len {x y : Int} {a b : Bs} : (ordS x y a b).lasts.length ≤ 4096 := Nat.le_trans (listOf_le _ _) (by show 8 ≤ 4096; omega)
theorem ord_none {x y : Int} {a b : Bs} : (ordS x y a b).caches.length = 0 := by
  show (listOf 8 (fun _ => none)).length = 0
  rw [listOf_none]; rfl
set_option maxRecDepth 100000 in
set_option maxHeartbeats 8000000 in
theorem order_core (A B : Option Addr) (n m c d : Nat) (a b : Bs) (x y : Int) (p q : Nat) (hp : p < 256) (hq : q < 256) (hx : (p : Int) % 8 = x) (hy : (q : Int) % 8 = y) (w : World) (ha : a.length = n) (hb : b.length = m) (hAR : BRow w A a) (hBR : BRow w B b) (hn : n ≤ 1000) (hm : m ≤ 1000) :
    Calls Try.prog 9 #[.slice A n c, .slice B m d, .int .u8 (p : Int), .int .u8 (q : Int)] w fun e w' => e = .returned (.bool true) ∧ Below w.heap.size w w' := by
  have bn : decide (1000 < (n : Int)) = false := by simp; omega
  have bm : decide (1000 < (m : Int)) = false := by simp; omega
  have hx0 : 0 ≤ x ∧ x < 8 := by omega
  have hy0 : 0 ≤ y ∧ y < 8 := by omega
  have HA := Lib.hid ha
  have HB := Lib.hid hb
  have HAR := Lib.hid hAR
  have HBR := Lib.hid hBR
  have wa : ∀ s : St, s.off = false → s.fused = false → s.n = 8 → s.write x a = wr1 s x a := fun s h1 h2 h3 => (write_good h1 h2 x a hx0.1 (by rw [h3]; exact hx0.2) (by omega)).1
  have wb : ∀ s : St, s.off = false → s.fused = false → s.n = 8 → s.write y b = wr1 s y b := fun s h1 h2 h3 => (write_good h1 h2 y b hy0.1 (by rw [h3]; exact hy0.2) (by omega)).1
  have WA := Lib.hid wa
  have WB := Lib.hid wb
  clear ha hb hAR hBR wa wb
  go_enter Try.func9, Try.ntmps9
  go_wp2_with fail
  refine (awake_any w).mono ?_
  rintro e w1 ⟨rfl, bb1⟩
  go_wp2_with fail
  refine (new_on bb1 8 (by omega) (by omega)).mono ?_
  rintro e w2 ⟨sb, bl, bc, rfl, o2, _⟩
  have O2 := Lib.hid o2
  clear o2 bb1
  go_wp2_with fail
  refine (new_on O2.out.below 8 (by omega) (by omega)).mono ?_
  rintro e w3 ⟨sb', bl', bc', rfl, o3, b3, k1, k2, k3⟩
  have T3 := Lib.hid (Two.mk' O2.out o3 b3 k1 k2 k3)
  clear o3 b3 k1 k2 k3 O2
  go_wp2_with fail
  refine (T3.out.l.write0 x A n c a HA.out HAR.out).mono ?_
  rintro e w4 ⟨rfl, o4, m4⟩
  rw [WA.out _ rfl rfl rfl] at o4
  have T4 := Lib.hid (T3.out.onL o4 m4)
  clear o4 m4 T3
  generalize (St.fresh 8).writeE x a = E4
  go_wp2_with fail
  refine (T4.out.l.write0 y B m d b HB.out HBR.out).mono ?_
  rintro e w5 ⟨rfl, o5, m5⟩
  rw [WB.out _ rfl rfl rfl] at o5
  have T5 := Lib.hid (T4.out.onL o5 m5)
  clear o5 m5 T4
  generalize (wr1 (St.fresh 8) x a).writeE y b = E5
  go_wp2_with fail
  refine (T5.out.r.write0 y B m d b HB.out HBR.out).mono ?_
  rintro e w6 ⟨rfl, o6, m6⟩
  rw [WB.out _ rfl rfl rfl] at o6
  have T6 := Lib.hid (T5.out.onR o6 m6)
  clear o6 m6 T5
  generalize (St.fresh 8).writeE y b = E6
  by_cases hxy : x = y
  · have bxy : (x != y) = false := by simp [hxy]
    have HXY := Lib.hid hxy
    clear hxy
    go_wp2_with fail
    have cS := T6.out.l.sync
    rw [(sync_good (s := wr1 (wr1 (St.fresh 8) x a) y b) rfl rfl).1] at cS
    refine cS.mono ?_
    rintro e w8 ⟨rfl, o8, m8⟩
    have T8 := Lib.hid (T6.out.onL o8 m8)
    clear o8 m8 T6 cS
    generalize (wr1 (wr1 (St.fresh 8) x a) y b).syncE = E8
    go_wp2_with fail
    have cS := T8.out.r.sync
    rw [(sync_good (s := wr1 (St.fresh 8) y b) rfl rfl).1, ord_same y a b, show ordS y y a b = ordS x y a b by rw [HXY.out]] at cS
    refine cS.mono ?_
    rintro e w9 ⟨rfl, o9, m9⟩
    have T9 : Hid (Two w w9 sb bl bc sb' bl' bc' (ordS x y a b) (ordS x y a b)) := Lib.hid (T8.out.onR o9 m9)
    clear o9 m9 T8 cS
    generalize (wr1 (St.fresh 8) y b).syncE = E9
    go_wp2_with fail
    refine T9.out.l.lasting.mono ?_
    rintro e w10 ⟨v1, rfl, k1, _, b10⟩
    have T10 := Lib.hid (T9.out.grow b10)
    have K1 := Lib.hid k1
    clear k1 T9 b10
    go_wp2_with fail
    refine T10.out.r.lasting.mono ?_
    rintro e w11 ⟨v2, rfl, k2, _, b11⟩
    have T11 := Lib.hid (T10.out.grow b11)
    have K1' := Lib.hid (K1.out.below b11)
    have K2 := Lib.hid k2
    clear k2 T10 b11 K1
    go_wp2_with fail
    refine (same_any v1 v2 _ _ ord_len _ K1'.out K2.out).mono ?_
    rintro e w12 ⟨rfl, D12⟩
    rw [decide_eq_true rfl]
    have T12 := Lib.hid (T11.out.grow (D12.below _))
    clear D12 T11 K1' K2
    go_wp2_with fail
    refine (T12.out.l.read y).mono ?_
    rintro e w13 ⟨A', rfl, hr, _, _, o13, _⟩
    rw [(ord_read x y a b hy0.1 hy0.2).1] at hr ⊢
    rw [(ord_read x y a b hy0.1 hy0.2).2, pad_len (by have := HB.out; omega)]
    have HR := Lib.hid hr
    have O13 := Lib.hid o13
    clear hr o13 T12
    go_wp2_with fail
    refine region_tail 22 (by kernel_rfl) (by kernel_rfl) ?_
    intro w14 hw14
    simp only [List.take_succ_cons, List.take_zero, List.drop_succ_cons, List.drop_zero]
    have D14 : Drew w13 w14 := by rw [hw14]; exact (Drew.refl _).drew
    have O14 := Lib.hid (O13.out.grow (D14.below _))
    have hs := head_run A' 1024 1024 m (by omega)
    have r1 : BRow w14 A' b := by
      have h1 := BRow.take (D14.row HR.out) b.length
      rwa [pad_take] at h1
    have r2 : BRow w14 B b := RowG.below HBR.out O14.out.below
    have u1 := conv_run 1024 HB.out r1
    have u2 := conv_run d HB.out r2
    clear D14 hw14 r1 r2 HR O13
    generalize strB b = S at *
    repeat still_step
    refine wpStill_nil ?_
    clear u1 u2 hs
    go_wp2_with fail
    refine O14.out.cached.mono ?_
    rintro e w15 ⟨v, rfl, k15, o15, _⟩
    obtain ⟨A2, c2, rfl⟩ := k15.shape ord_none
    clear k15 O14
    go_wp2_with fail
    go_ret
    exact ⟨rfl, o15.below⟩
  · have bxy : (x != y) = true := by simp [hxy]
    have HXY := Lib.hid hxy
    clear hxy
    go_wp2_with fail
    refine (T6.out.r.write0 x A n c a HA.out HAR.out).mono ?_
    rintro e w7 ⟨rfl, o7, m7⟩
    rw [WA.out _ rfl rfl rfl] at o7
    have T7 := Lib.hid (T6.out.onR o7 m7)
    clear o7 m7 T6
    generalize (wr1 (St.fresh 8) y b).writeE x a = E7
    go_wp2_with fail
    have cS := T7.out.l.sync
    rw [(sync_good (s := wr1 (wr1 (St.fresh 8) x a) y b) rfl rfl).1] at cS
    refine cS.mono ?_
    rintro e w8 ⟨rfl, o8, m8⟩
    have T8 := Lib.hid (T7.out.onL o8 m8)
    clear o8 m8 T7 cS
    generalize (wr1 (wr1 (St.fresh 8) x a) y b).syncE = E8
    go_wp2_with fail
    have cS := T8.out.r.sync
    rw [(sync_good (s := wr1 (wr1 (St.fresh 8) y b) x a) rfl rfl).1, ord_end x y a b HXY.out] at cS
    refine cS.mono ?_
    rintro e w9 ⟨rfl, o9, m9⟩
    have T9 : Hid (Two w w9 sb bl bc sb' bl' bc' (ordS x y a b) (ordS x y a b)) := Lib.hid (T8.out.onR o9 m9)
    clear o9 m9 T8 cS
    generalize (wr1 (wr1 (St.fresh 8) y b) x a).syncE = E9
    go_wp2_with fail
    refine T9.out.l.lasting.mono ?_
    rintro e w10 ⟨v1, rfl, k1, _, b10⟩
    have T10 := Lib.hid (T9.out.grow b10)
    have K1 := Lib.hid k1
    clear k1 T9 b10
    go_wp2_with fail
    refine T10.out.r.lasting.mono ?_
    rintro e w11 ⟨v2, rfl, k2, _, b11⟩
    have T11 := Lib.hid (T10.out.grow b11)
    have K1' := Lib.hid (K1.out.below b11)
    have K2 := Lib.hid k2
    clear k2 T10 b11 K1
    go_wp2_with fail
    refine (same_any v1 v2 _ _ ord_len _ K1'.out K2.out).mono ?_
    rintro e w12 ⟨rfl, D12⟩
    rw [decide_eq_true rfl]
    have T12 := Lib.hid (T11.out.grow (D12.below _))
    clear D12 T11 K1' K2
    go_wp2_with fail
    refine (T12.out.l.read y).mono ?_
    rintro e w13 ⟨A', rfl, hr, _, _, o13, _⟩
    rw [(ord_read x y a b hy0.1 hy0.2).1] at hr ⊢
    rw [(ord_read x y a b hy0.1 hy0.2).2, pad_len (by have := HB.out; omega)]
    have HR := Lib.hid hr
    have O13 := Lib.hid o13
    clear hr o13 T12
    go_wp2_with fail
    refine region_tail 22 (by kernel_rfl) (by kernel_rfl) ?_
    intro w14 hw14
    simp only [List.take_succ_cons, List.take_zero, List.drop_succ_cons, List.drop_zero]
    have D14 : Drew w13 w14 := by rw [hw14]; exact (Drew.refl _).drew
    have O14 := Lib.hid (O13.out.grow (D14.below _))
    have hs := head_run A' 1024 1024 m (by omega)
    have r1 : BRow w14 A' b := by
      have h1 := BRow.take (D14.row HR.out) b.length
      rwa [pad_take] at h1
    have r2 : BRow w14 B b := RowG.below HBR.out O14.out.below
    have u1 := conv_run 1024 HB.out r1
    have u2 := conv_run d HB.out r2
    clear D14 hw14 r1 r2 HR O13
    generalize strB b = S at *
    repeat still_step
    refine wpStill_nil ?_
    clear u1 u2 hs
    go_wp2_with fail
    refine O14.out.cached.mono ?_
    rintro e w15 ⟨v, rfl, k15, o15, _⟩
    obtain ⟨A2, c2, rfl⟩ := k15.shape ord_none
    clear k15 O14
    go_wp2_with fail
    go_ret
    exact ⟨rfl, o15.below⟩
set_option maxRecDepth 100000 in
theorem order_walk (A B : Option Addr) (n m c d : Nat) (a b : Bs) (p q : UInt8) (w : World) (ha : a.length = n) (hb : b.length = m) (hn : n ≤ 9223372036854775807) (hm : m ≤ 9223372036854775807) (hAR : BRow w A a) (hBR : BRow w B b) :
    Calls Try.prog 9 #[.slice A n c, .slice B m d, byteV p, byteV q] w fun e w' => e = .returned (.bool true) ∧ Below w.heap.size w w' := by
  by_cases h1 : n ≤ 1000
  · by_cases h2 : m ≤ 1000
    · exact order_core A B n m c d a b _ _ p.toNat q.toNat p.toNat_lt q.toNat_lt rfl rfl w ha hb hAR hBR h1 h2
    · clear hAR hBR ha hb
      have bn : decide (1000 < (n : Int)) = false := by simp; omega
      have bm : decide (1000 < (m : Int)) = true := by simp; omega
      go_enter Try.func9, Try.ntmps9
      go_wp2_with fail
      refine (awake_any w).mono ?_
      rintro e w1 ⟨rfl, bb1⟩
      go_wp2_with fail
      go_ret
      exact ⟨rfl, bb1⟩
  · clear hAR hBR ha hb
    have bn : decide (1000 < (n : Int)) = true := by simp; omega
    go_enter Try.func9, Try.ntmps9
    go_wp2_with fail
    refine (awake_any w).mono ?_
    rintro e w1 ⟨rfl, bb1⟩
    go_wp2_with fail
    go_ret
    exact ⟨rfl, bb1⟩
end Go.Proofs.Ytoldkhfnebjacaa.Disk
