/-
  Contracts of page's laySuper, layBranch.
-/
import Derived.Test.YtiebaeahimeedaaPEnc2
namespace Go.Proofs.Ytiebaeahimeedaa.Page
open Go.RowKit Gen

def bodySuper (p : Pg) : Bs := num2 p.root ++ (num2 p.depth ++ (be 4 p.count.toNat ++ (num2 p.high ++ num2 p.next)))
theorem layNumber_num (x : Int) (w : World) (h : 0 ≤ x ∧ x ≤ 9223372036854775807) : Calls Try.prog 53 #[.int .i64 x] w (Lays (num2 x) w) := layNumber_any x w h.1 h.2
theorem lay_four (x : Int) (w : World) (h : 0 ≤ x ∧ x ≤ 9223372036854775807) : Calls Try.prog 46 #[.int .i64 4, .int .u64 x] w (Lays (be 4 x.toNat) w) := by
  have := lay_any 4 x.toNat w (by omega) (by omega)
  rw [Int.toNat_of_nonneg h.1] at this
  exact this
def Nat63 (x : Int) : Prop := 0 ≤ x ∧ x ≤ 9223372036854775807
theorem keep5 {w : World} {b : Nat} {v5 v7 v8 v9 v10 : Value} (h5 : w.cell? ⟨b, 5, none⟩ = some v5) (h7 : w.cell? ⟨b, 7, none⟩ = some v7) (h8 : w.cell? ⟨b, 8, none⟩ = some v8) (h9 : w.cell? ⟨b, 9, none⟩ = some v9) (h10 : w.cell? ⟨b, 10, none⟩ = some v10) :
    ∀ W, Below w.heap.size w W → W.cell? ⟨b, 7, none⟩ = some v7 ∧ W.cell? ⟨b, 8, none⟩ = some v8 ∧ W.cell? ⟨b, 9, none⟩ = some v9 ∧ W.cell? ⟨b, 10, none⟩ = some v10 ∧ W.cell? ⟨b, 5, none⟩ = some v5 :=
  fun _ hb => ⟨cell_below h7 hb, cell_below h8 hb, cell_below h9 hb, cell_below h10 hb, cell_below h5 hb⟩
set_option maxRecDepth 100000 in
set_option maxHeartbeats 1000000 in
theorem laySuper_any (p : Pg) (a : Lay) (w : World) (h1 : Nat63 p.root) (h2 : Nat63 p.depth) (h3 : Nat63 p.count) (h4 : Nat63 p.high) (h5 : Nat63 p.next) : Calls Try.prog 52 #[pgV p a] w (Lays (bodySuper p) w) := by
  have HB1 := Lib.hid ((Below.refl w.heap.size w).alloc (Nat.le_refl _) (.cells (pgC p a) 28))
  have HSZ := Lib.hid (show w.heap.size ≤ (w.alloc (.cells (pgC p a) 28)).heap.size by simp)
  have KS := Lib.hid (keep5 (w := w.alloc (.cells (pgC p a) 28)) (b := w.heap.size) (v5 := .int .i64 p.next) (v7 := .int .i64 p.root) (v8 := .int .i64 p.depth) (v9 := .int .i64 p.count) (v10 := .int .i64 p.high) (by simp [pgC]) (by simp [pgC]) (by simp [pgC]) (by simp [pgC]) (by simp [pgC]))
  have R0 := Lib.hid ((Below.refl (w.alloc (.cells (pgC p a) 28)).heap.size (w.alloc (.cells (pgC p a) 28))).drew)
  have G1 := Lib.hid (fun W => layNumber_num p.root W h1)
  have G2 := Lib.hid (fun W => layNumber_num p.depth W h2)
  have G3 := Lib.hid (fun W => lay_four p.count W h3)
  have G4 := Lib.hid (fun W => layNumber_num p.high W h4)
  have G5 := Lib.hid (fun W => layNumber_num p.next W h5)
  have hw : IntKind.u64.wrap p.count = p.count := by rw [IntKind.wrap_u64]; have := h3.1; have := h3.2; omega
  unfold bodySuper
  have L1 := Lib.hid (num2_len p.root)
  have L2 := Lib.hid (num2_len p.depth)
  have L3 := Lib.hid (be_len 4 p.count.toNat)
  have L4 := Lib.hid (num2_len p.high)
  have L5 := Lib.hid (num2_len p.next)
  have K0 := Lib.hid (KS.out _ R0.out)
  clear h1 h2 h3 h4 h5
  unfold pgV
  unfold pgC at *
  generalize num2 p.root = t1 at *
  generalize num2 p.depth = t2 at *
  generalize be 4 p.count.toNat = t3 at *
  generalize num2 p.high = t4 at *
  generalize num2 p.next = t5 at *
  generalize p.root = x1 at *
  generalize p.depth = x2 at *
  generalize p.count = x3 at *
  generalize p.high = x4 at *
  generalize p.next = x5 at *
  go_enter Try.func52, Try.ntmps52
  go_wp2_with fail
  go_region_held3 (fun w' => w'.cell? ⟨w.heap.size, 7, none⟩ = some (.int .i64 x1) ∧ w'.cell? ⟨w.heap.size, 8, none⟩ = some (.int .i64 x2) ∧ w'.cell? ⟨w.heap.size, 9, none⟩ = some (.int .i64 x3) ∧ w'.cell? ⟨w.heap.size, 10, none⟩ = some (.int .i64 x4) ∧ w'.cell? ⟨w.heap.size, 5, none⟩ = some (.int .i64 x5))
    (with_reducible (first | exact K0.out | exact K1.out | exact K2.out | exact K3.out | exact K4.out | exact K5.out | exact K6.out | exact K7.out))
    (first
      | (go_at_call 53; (with_reducible refine (G1.out _).mono ?_); rintro e w1 ⟨A1, n1, c1, rfl, h1, b1, f1⟩; have R1 := Lib.hid (R0.out.trans (b1.mono R0.out.size)); have K1 := Lib.hid (KS.out _ R1.out); have H1 := Lib.hid h1;  clear h1 b1 f1)
      | (go_at_call 53; (with_reducible refine (G2.out _).mono ?_); rintro e w2 ⟨A2, n2, c2, rfl, h2, b2, f2⟩; have R2 := Lib.hid (R1.out.trans (b2.mono R1.out.size)); have K2 := Lib.hid (KS.out _ R2.out); have H2 := Lib.hid h2; have H1 := Lib.hid (H1.out.below b2); clear h2 b2 f2)
      | (go_at_call 46; (with_reducible refine (G3.out _).mono ?_); rintro e w3 ⟨A3, n3, c3, rfl, h3, b3, f3⟩; have R3 := Lib.hid (R2.out.trans (b3.mono R2.out.size)); have K3 := Lib.hid (KS.out _ R3.out); have H3 := Lib.hid h3; have H1 := Lib.hid (H1.out.below b3); have H2 := Lib.hid (H2.out.below b3); clear h3 b3 f3)
      | (go_at_call 53; (with_reducible refine (G4.out _).mono ?_); rintro e w4 ⟨A4, n4, c4, rfl, h4, b4, f4⟩; have R4 := Lib.hid (R3.out.trans (b4.mono R3.out.size)); have K4 := Lib.hid (KS.out _ R4.out); have H4 := Lib.hid h4; have H1 := Lib.hid (H1.out.below b4); have H2 := Lib.hid (H2.out.below b4); have H3 := Lib.hid (H3.out.below b4); clear h4 b4 f4)
      | (go_at_call 53; (with_reducible refine (G5.out _).mono ?_); rintro e w5 ⟨A5, n5, c5, rfl, h5, b5, f5⟩; have R5 := Lib.hid (R4.out.trans (b5.mono R4.out.size)); have K5 := Lib.hid (KS.out _ R5.out); have H5 := Lib.hid h5; have H1 := Lib.hid (H1.out.below b5); have H2 := Lib.hid (H2.out.below b5); have H3 := Lib.hid (H3.out.below b5); have H4 := Lib.hid (H4.out.below b5); have R6 := Lib.hid (R5.out.alloc R5.out.size (.cells #[.slice A1 n1 c1, .slice A2 n2 c2, .slice A3 n3 c3, .slice A4 n4 c4, .slice A5 n5 c5] 30)); have K6 := Lib.hid (KS.out _ R6.out);
          have CJ := Lib.hid (joined_any (some ⟨w5.heap.size, 0, none⟩) 5 5 [(A1, c1, t1), (A2, c2, t2), (A3, c3, t3), (A4, c4, t4), (A5, c5, t5)] (w5.alloc (.cells #[.slice A1 n1 c1, .slice A2 n2 c2, .slice A3 n3 c3, .slice A4 n4 c4, .slice A5 n5 c5] 30)) rfl (by omega) (lits _ _ _ _ _ (by rw [enc_at H1.out, enc_at H2.out, enc_at H3.out, enc_at H4.out, enc_at H5.out]; rfl)) ((PartsIn.nil _).cons (H5.out.alloc _) |>.cons (H4.out.alloc _) |>.cons (H3.out.alloc _) |>.cons (H2.out.alloc _) |>.cons (H1.out.alloc _)) (by simp [allOf, L1.out, L2.out, L3.out, L4.out, L5.out])); clear h5 b5 f5)
      | (go_at_call 48; (with_reducible refine CJ.out.mono ?_); rintro e w7 ⟨A7, n7, c7, rfl, h7, b7, f7⟩; have R7 := Lib.hid (R6.out.trans (b7.mono R6.out.size)); have K7 := Lib.hid (KS.out _ R7.out); have H7 := Lib.hid h7; have F7 := Lib.hid (fun a ha => Nat.le_trans HSZ.out (Nat.le_trans R6.out.size (f7 a ha))); clear h7 b7 f7))
  clear K0 K1 K2 K3 K4 K5 K6 K7
  go_wp2_with fail
  go_ret
  refine ⟨_, _, _, rfl, ?_, HB1.out.trans (R7.out.mono HSZ.out), F7.out⟩
  have h := H7.out
  simpa [allOf] using h


def bodyBranch (p : Pg) : Bs := num2 p.keys.length ++ num2 (p.kids.headD 0) ++ (p.keys.zip p.kids.tail).flatMap fun x => txt x.1 ++ num2 x.2
/-- Between two rounds of layBranch. -/
def BranchRel (w : World) (H : Bs) (ks : List Bs) (kd : List Int) (kv v i : Value) (wr : World) : Prop := ∃ (k : Nat) (xs : List Part), i = .int .i64 k ∧ k ≤ ks.length ∧ OwnS wr (w.heap.size + 1) v xs ∧ xs.length = 2 + 2 * k ∧ allOf xs = H ++ ((ks.zip kd).take k).flatMap (fun x => txt x.1 ++ num2 x.2) ∧ Below w.heap.size w wr ∧ w.heap.size + 1 ≤ wr.heap.size ∧ wr.cell? ⟨w.heap.size, 3, none⟩ = some kv
theorem flat_len {α : Type} (f : α → Bs) (m : Nat) : ∀ (l : List α), (∀ x ∈ l, (f x).length ≤ m) → (l.flatMap f).length ≤ m * l.length
  | [], _ => by simp
  | x :: l, h => by
    have h1 := h x (List.mem_cons_self ..)
    have h2 := flat_len f m l (fun y hy => h y (List.mem_cons_of_mem _ hy))
    rw [List.flatMap_cons, List.length_append, List.length_cons, Nat.mul_succ]
    omega
theorem keep3 {w : World} {b : Nat} {u v x : Value} {b3 o3 o1 o2 : Nat} (h1 : w.cell? ⟨b, o1, none⟩ = some u) (h2 : w.cell? ⟨b, o2, none⟩ = some v) (h3 : w.cell? ⟨b3, o3, none⟩ = some x) :
    ∀ W, Below w.heap.size w W → W.cell? ⟨b, o1, none⟩ = some u ∧ W.cell? ⟨b, o2, none⟩ = some v ∧ W.cell? ⟨b3, o3, none⟩ = some x := fun _ hb => ⟨cell_below h1 hb, cell_below h2 hb, cell_below h3 hb⟩
set_option maxRecDepth 100000 in
set_option maxHeartbeats 2000000 in
theorem layBranch_any (p : Pg) (a : Lay) (w : World) (hR : SRow w a.A2 p.keys) (hK : IRow w a.A3 p.kids) (hn6 : p.keys.length ≤ 12) (hkl : p.kids.length = p.keys.length + 1) (hs : ∀ x ∈ p.keys, x.length ≤ 100) (hx : ∀ x ∈ p.kids, Nat63 x) : Calls Try.prog 50 #[pgV p a] w (Lays (bodyBranch p) w) := by
  have HB1 := Lib.hid ((Below.refl w.heap.size w).alloc (Nat.le_refl _) (.cells (pgC p a) 28))
  have HSZ := Lib.hid (show w.heap.size + 1 ≤ (w.alloc (.cells (pgC p a) 28)).heap.size by simp)
  have HR := Lib.hid hR
  have HK := Lib.hid hK
  have HX := Lib.hid hx
  have HS := Lib.hid hs
  have HKL := Lib.hid hkl
  have c2 : (w.alloc (.cells (pgC p a) 28)).cell? ⟨w.heap.size, 2, none⟩ = some (.slice a.A2 p.keys.length a.c2) := by simp [pgC]
  have c3 : (w.alloc (.cells (pgC p a) 28)).cell? ⟨w.heap.size, 3, none⟩ = some (.slice a.A3 p.kids.length a.c3) := by simp [pgC]
  have G1 := Lib.hid (fun W => layNumber_num p.keys.length W ⟨by omega, by omega⟩)
  have R0 := Lib.hid ((Below.refl (w.alloc (.cells (pgC p a) 28)).heap.size (w.alloc (.cells (pgC p a) 28))).drew)
  unfold bodyBranch
  clear hR hK hs hkl
  unfold pgV
  unfold pgC at *
  generalize hks : p.keys = ks at *
  generalize hkd : p.kids = kd at *
  generalize a.A2 = Ak at *
  generalize a.A3 = Ad at *
  rcases kd with _ | ⟨x0, kd⟩
  · have := HKL.out; simp at this
  rw [List.headD_cons, List.tail_cons]
  have hx0 := hx x0 (List.mem_cons_self ..)
  obtain ⟨bd, od, rfl, hld, hcd⟩ := HK.out (by simp)
  have e0 := hcd 0 (by simp)
  rw [List.getElem_cons_zero, Nat.add_zero, ← HB1.out.cell (p := ⟨bd, od, none⟩) hld] at e0
  have KS := Lib.hid (keep3 c2 c3 e0)
  have HLD := Lib.hid hld
  have HCD := Lib.hid hcd
  have G2 := Lib.hid (fun W => layNumber_num x0 W hx0)
  have K0 := Lib.hid (KS.out _ R0.out)
  have L1 := Lib.hid (num2_len (ks.length : Int))
  have L2 := Lib.hid (num2_len x0)
  obtain ⟨n, hn⟩ : ∃ n, ks.length = n := ⟨_, rfl⟩
  obtain ⟨m, hm⟩ : ∃ m, (x0 :: kd).length = m := ⟨_, rfl⟩
  have hmn : Hid (m = n + 1) := Lib.hid (by have := HKL.out; omega)
  generalize num2 (ks.length : Int) = t1 at *
  generalize num2 x0 = t2 at *
  have hm0 : 0 < m := by have := hmn.out; omega
  have hm1 : (0 : Int) < (m : Int) := by omega
  have hm2 : (0 : Int) ≤ (0 : Int) := Int.le_refl _
  rw [hn] at HB1 HSZ R0 KS K0 G1 hn6 ⊢
  rw [hm] at HB1 HSZ R0 KS K0 ⊢
  have HN := Lib.hid hn
  have HM := Lib.hid hm
  clear hx c2 c3 e0 hcd hx0 hn hm hld
  go_enter Try.func50, Try.ntmps50
  go_wp2_with fail
  go_region_held3 (fun w' => w'.cell? ⟨w.heap.size, 2, none⟩ = some (.slice Ak n a.c2) ∧ w'.cell? ⟨w.heap.size, 3, none⟩ = some (.slice (some ⟨bd, od, none⟩) m a.c3) ∧ w'.cell? ⟨bd, od, none⟩ = some (.int .i64 x0))
    (with_reducible (first | exact K0.out | exact K1.out | exact K2.out | exact K3.out))
    (first
      | (go_at_call 53; (with_reducible refine (G1.out _).mono ?_); rintro e w1 ⟨A1, n1, c1, rfl, h1, b1, f1⟩; have R1 := Lib.hid (R0.out.trans (b1.mono R0.out.size)); have K1 := Lib.hid (KS.out _ R1.out); have H1 := Lib.hid h1; clear h1 b1 f1)
      | (go_at_call 53; (with_reducible refine (G2.out _).mono ?_); rintro e w2 ⟨A2, n2, c2, rfl, h2, b2, f2⟩; have R2 := Lib.hid (R1.out.trans (b2.mono R1.out.size)); have K2 := Lib.hid (KS.out _ R2.out); have H2 := Lib.hid h2; have H1 := Lib.hid (H1.out.below b2); have R3 := Lib.hid (R2.out.alloc R2.out.size (.cells #[.slice A1 n1 c1, .slice A2 n2 c2] 30)); have K3 := Lib.hid (KS.out _ R3.out); clear h2 b2 f2))
  have d2 := K3.out.1
  have HC3 := Lib.hid K3.out.2.1
  have HSZ3 := Lib.hid (Nat.le_trans HSZ.out R3.out.size)
  have HB3 := Lib.hid (HB1.out.trans (R3.out.mono HB1.out.size))
  have HO := Lib.hid (own_lit w2 (w.heap.size + 1) #[.slice A1 n1 c1, .slice A2 n2 c2] 2 [(A1, c1, t1), (A2, c2, t2)] rfl (by rw [enc_at H1.out, enc_at H2.out]; rfl) ((PartsIn.nil _).cons H2.out |>.cons H1.out) (Nat.le_trans HSZ.out R2.out.size) (by omega))
  clear K0 K1 K2 K3 hm0 hm1 hm2
  go_wp2_with fail
  clear d2
  go_loopw [3, 19] (fun v i wr => BranchRel w (t1 ++ t2) ks kd (.slice (some ⟨bd, od, none⟩) m a.c3) v i wr) (fun _ i _ => n - (intOf i).toNat)
  case atStart => exact ⟨0, [(A1, c1, t1), (A2, c2, t2)], rfl, Nat.zero_le _, HO.out, rfl, by simp [allOf], HB3.out, HSZ3.out, HC3.out⟩
  case round =>
    obtain ⟨k, xs, rfl, hk, ho, hxl, hall, hb, hsz, h3⟩ := hrel
    by_cases hlt : k < n
    · have hkl : k < ks.length := by have := HN.out; omega
      have hkd2 : k < kd.length := by have h9 := HM.out; rw [List.length_cons] at h9; have := hmn.out; omega
      obtain ⟨b, off, rfl, hlb, hc⟩ := HR.out (by intro e; subst e; simp at hkl)
      have hc1 := hc k hkl
      rw [← hb.cell (p := ⟨b, off + k, none⟩) hlb] at hc1
      have hd0 := HCD.out (k + 1) (by simp; omega)
      rw [List.getElem_cons_succ] at hd0
      have hd1 := (hb.cell (p := ⟨bd, od + (k + 1), none⟩) HLD.out).trans hd0
      have hxk := HX.out kd[k] (List.mem_cons_of_mem _ (List.getElem_mem hkd2))
      obtain ⟨X, hX⟩ : ∃ X, strB ks[k] = X := ⟨_, rfl⟩
      rw [show strV ks[k] = .string X by rw [← hX]] at hc1
      have hsk := HS.out _ (List.getElem_mem hkl)
      have HT1 := Lib.hid (fun W => layText_any ks[k] W (by omega))
      rw [show strV ks[k] = .string X by rw [← hX], show be 1 ks[k].length ++ ks[k] = txt ks[k] from rfl] at HT1
      have HT2 := Lib.hid (fun W => layNumber_num kd[k] W hxk)
      have HAL : Hid (∀ z1 z2 : Part, z1.2.2 = txt ks[k] → z2.2.2 = num2 kd[k] → allOf (xs ++ [z1, z2]) = t1 ++ t2 ++ ((ks.zip kd).take (k + 1)).flatMap (fun x => txt x.1 ++ num2 x.2)) := Lib.hid (fun z1 z2 h1 h2 => by
        rw [allOf_append, hall, flat_step _ _ (by rw [List.length_zip]; omega), List.getElem_zip]; simp [allOf, h1, h2])
      generalize txt ks[k] = tx at HT1 HAL
      generalize num2 kd[k] = ty at HT2 HAL
      generalize kd[k] = y at hd0 hd1 HT2
      have hbl := hb.size
      have KS2 := Lib.hid (two_keep h3 hd1)
      have R0 := Lib.hid (Below.refl wr.heap.size wr).drew
      have K0 := Lib.hid (KS2.out _ R0.out)
      have NE := Lib.hid (show some w.heap.size ≠ u3.ownBlock from fun e => by have := (World.ownsRow.lt ho.1 w.heap.size e.symm).1; omega)
      have HO3 := Lib.hid ho
      have HBB := Lib.hid hb
      have HXL := Lib.hid hxl
      have HSZ4 := Lib.hid hsz
      have HD0 := Lib.hid hd0
      have i1 : IntKind.i64.wrap ((k : Int) + 1) = (k : Int) + 1 := by rw [IntKind.wrap_i64]; omega
      have i2 : (0 : Int) ≤ (k : Int) + 1 := by omega
      have i3 : (k : Int) + 1 < (m : Int) := by have := hmn.out; omega
      have i4 : ((k : Int) + 1).toNat = k + 1 := by omega
      have HI := Lib.hid hlt
      clear hc hX hb ho hsk hxl hall hsz h3 hd0 hd1 hxk
      go_wp2_with fail
      go_region_held3 (fun w' => w'.cell? ⟨w.heap.size, 3, none⟩ = some (.slice (some ⟨bd, od, none⟩) m a.c3) ∧ w'.cell? ⟨bd, od + (k + 1), none⟩ = some (.int .i64 y))
        (with_reducible (first | exact K0.out | exact K2.out | exact K3.out | exact K4.out | exact K5.out))
        (first
          | (go_at_call 68; (with_reducible refine (HT1.out _).mono ?_); rintro e w2 ⟨A3, n3, c3, rfl, h3, b3, f3⟩; have R2 := Lib.hid (R0.out.trans (b3.mono R0.out.size)); have H3 := Lib.hid h3; have F3 := Lib.hid f3; have K2 := Lib.hid (KS2.out _ R2.out); clear h3 b3 f3)
          | (go_at_call 53; (with_reducible refine (HT2.out _).mono ?_); rintro e w3 ⟨A4, n4, c4, rfl, h4, b4, f4⟩; have R3 := Lib.hid (R2.out.trans (b4.mono R2.out.size)); have H4 := Lib.hid h4; have F4 := Lib.hid f4; have H3' := Lib.hid (H3.out.below b4); have K3 := Lib.hid (KS2.out _ R3.out); have K4 := Lib.hid (KS2.out _ (R3.out.alloc R3.out.size (.cells #[.slice A3 n3 c3, .slice A4 n4 c4] 30))); clear h4 b4 f4;
              obtain ⟨v5, w5, hrun5, ho5, hb5, hB5, hk5⟩ := two_append HO3.out HBB.out (Nat.le_succ _) HSZ4.out (Below.refl _ _) R2.out R3.out H3'.out H4.out F3.out F4.out (by have := HXL.out; have := HI.out; omega);
              have Q5 := Lib.hid hrun5; have O5 := Lib.hid ho5; have B5 := Lib.hid hb5; have S5 := Lib.hid hB5; have K5 := Lib.hid (And.intro ((hk5 w.heap.size 3 (Nat.lt_of_lt_of_le (Nat.lt_of_succ_le HSZ4.out) R3.out.size) NE.out).trans K3.out.1) ((hb5.cell (p := ⟨bd, od + (k + 1), none⟩) HLD.out).trans HD0.out)); clear hrun5 ho5 hb5 hB5 hk5)
          | (refine step_append2_eq (by rfl) (.tmp 24) (.tmp 34) _ _ (by rfl) (by rfl) (by rfl) Q5.out ?_; skip))
      have KF := Lib.hid K5.out.1
      clear K0 K2 K3 K4 K5 HT1 HT2 KS2 i1 i2 i3 i4
      go_wp2_with fail
      go_roundw
      case rel => exact ⟨k + 1, xs ++ [(A3, c3, tx), (A4, c4, ty)], by go_num, hkl, O5.out, by rw [List.length_append, HXL.out]; simp; omega, HAL.out _ _ rfl rfl, B5.out, S5.out, KF.out⟩
      case measure => have := HI.out; simp [intOf]; omega
    · have hfin : allOf xs = t1 ++ t2 ++ (ks.zip kd).flatMap (fun x => txt x.1 ++ num2 x.2) := by rw [hall, List.take_of_length_le (by rw [List.length_zip]; have := HN.out; omega)]
      obtain ⟨A, c, hv, _, _, _, hrow⟩ := OwnG.row ho.1
      subst hv
      have hle : (allOf xs).length ≤ 1000000 := by
        have h1 := flat_len (fun x : Bs × Int => txt x.1 ++ num2 x.2) 200 (ks.zip kd) (fun x hx => by
          have := HS.out x.1 (List.of_mem_zip hx).1
          rw [List.length_append, txt_len, num2_len]; omega)
        rw [hfin, List.length_append, List.length_append, L1.out, L2.out]
        rw [List.length_zip] at h1
        have := HN.out
        have : min ks.length kd.length ≤ 12 := by omega
        omega
      have cJ := joined_any A xs.length c xs wr rfl (by have := HN.out; omega) hrow ho.parts (by omega)
      rw [hfin] at cJ
      have HJ := Lib.hid cJ
      have HBB := Lib.hid hb
      generalize xs.length = mm at *
      clear hfin hrow ho hall hxl cJ hb hle h3 hsz
      go_wp2_with fail
      refine HJ.out.mono ?_
      rintro e w3 ⟨A3, n3, c3, rfl, h3, b3, f3⟩
      have B3 := Lib.hid (HBB.out.trans (b3.mono HBB.out.size))
      have H3 := Lib.hid h3
      have F3 := Lib.hid (fun a ha => Nat.le_trans HBB.out.size (f3 a ha))
      clear b3 h3 f3
      go_wp2_with fail
      go_ret
      exact ⟨_, _, _, rfl, H3.out, B3.out, F3.out⟩
end Go.Proofs.Ytiebaeahimeedaa.Page
