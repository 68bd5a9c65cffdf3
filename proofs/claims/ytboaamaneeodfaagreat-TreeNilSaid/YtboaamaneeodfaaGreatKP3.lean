/-
  Texts of one family, one behind the other: PEnc3, PEnc4, PDouble, PEncode.
-/
import Derived.Test.YtboaamaneeodfaaGreatKP2
namespace Go.Proofs.YtboaamaneeodfaaGreat.Page
open Go.RowKit Gen

def bodySuper (p : Pg) : Bs := num2 p.root ++ (num2 p.depth ++ (be 4 p.count.toNat ++ (num2 p.high ++ num2 p.next)))
theorem layNumber_num (x : Int) (w : World) (h : 0 ≤ x ∧ x ≤ 9223372036854775807) : Calls Tryz.prog 176 #[.int .i64 x] w (Lays (num2 x) w) := layNumber_any x w h.1 h.2
theorem lay_four (x : Int) (w : World) (h : 0 ≤ x ∧ x ≤ 9223372036854775807) : Calls Tryz.prog 169 #[.int .i64 4, .int .u64 x] w (Lays (be 4 x.toNat) w) := by
  have := lay_any 4 x.toNat w (by omega) (by omega)
  rw [Int.toNat_of_nonneg h.1] at this
  exact this
def Nat63 (x : Int) : Prop := 0 ≤ x ∧ x ≤ 9223372036854775807
theorem keep5 {w : World} {b : Nat} {v5 v7 v8 v9 v10 : Value} (h5 : w.cell? ⟨b, 5, none⟩ = some v5) (h7 : w.cell? ⟨b, 7, none⟩ = some v7) (h8 : w.cell? ⟨b, 8, none⟩ = some v8) (h9 : w.cell? ⟨b, 9, none⟩ = some v9) (h10 : w.cell? ⟨b, 10, none⟩ = some v10) :
    ∀ W, Below w.heap.size w W → W.cell? ⟨b, 7, none⟩ = some v7 ∧ W.cell? ⟨b, 8, none⟩ = some v8 ∧ W.cell? ⟨b, 9, none⟩ = some v9 ∧ W.cell? ⟨b, 10, none⟩ = some v10 ∧ W.cell? ⟨b, 5, none⟩ = some v5 :=
  fun _ hb => ⟨cell_below h7 hb, cell_below h8 hb, cell_below h9 hb, cell_below h10 hb, cell_below h5 hb⟩
set_option maxRecDepth 100000 in
set_option maxHeartbeats 1000000 in
theorem laySuper_any (p : Pg) (a : Lay) (w : World) (h1 : Nat63 p.root) (h2 : Nat63 p.depth) (h3 : Nat63 p.count) (h4 : Nat63 p.high) (h5 : Nat63 p.next) : Calls Tryz.prog 175 #[pgV p a] w (Lays (bodySuper p) w) := by
  have HB1 := Lib.hid ((Below.refl w.heap.size w).alloc (Nat.le_refl _) (.cells (pgC p a) 82))
  have HSZ := Lib.hid (show w.heap.size ≤ (w.alloc (.cells (pgC p a) 82)).heap.size by simp)
  have KS := Lib.hid (keep5 (w := w.alloc (.cells (pgC p a) 82)) (b := w.heap.size) (v5 := .int .i64 p.next) (v7 := .int .i64 p.root) (v8 := .int .i64 p.depth) (v9 := .int .i64 p.count) (v10 := .int .i64 p.high) (by simp [pgC]) (by simp [pgC]) (by simp [pgC]) (by simp [pgC]) (by simp [pgC]))
  have R0 := Lib.hid ((Below.refl (w.alloc (.cells (pgC p a) 82)).heap.size (w.alloc (.cells (pgC p a) 82))).drew)
  have G1 := Lib.hid (fun W => layNumber_num p.root W h1)
  have G2 := Lib.hid (fun W => layNumber_num p.depth W h2)
  have G3 := Lib.hid (fun W => lay_four p.count W h3)
  have G4 := Lib.hid (fun W => layNumber_num p.high W h4)
  have G5 := Lib.hid (fun W => layNumber_num p.next W h5)
  have hw : IntKind.u64.wrap p.count = p.count := by rw [IntKind.wrap_u64]; have := h3.1; have := h3.2; omega
  unfold bodySuper
  have L1 := Lib.hid (num2_len p.root)
  have L2 := Lib.hid (num2_len p.depth)
  have L3 := Lib.hid (be_len 4 p.count.toNat)
  have L4 := Lib.hid (num2_len p.high)
  have L5 := Lib.hid (num2_len p.next)
  have K0 := Lib.hid (KS.out _ R0.out)
  clear h1 h2 h3 h4 h5
  unfold pgV
  unfold pgC at *
  generalize num2 p.root = t1 at *
  generalize num2 p.depth = t2 at *
  generalize be 4 p.count.toNat = t3 at *
  generalize num2 p.high = t4 at *
  generalize num2 p.next = t5 at *
  generalize p.root = x1 at *
  generalize p.depth = x2 at *
  generalize p.count = x3 at *
  generalize p.high = x4 at *
  generalize p.next = x5 at *
  go_enter Tryz.func175, Tryz.ntmps175
  go_wp2_with fail
  go_region_held3 (fun w' => w'.cell? ⟨w.heap.size, 7, none⟩ = some (.int .i64 x1) ∧ w'.cell? ⟨w.heap.size, 8, none⟩ = some (.int .i64 x2) ∧ w'.cell? ⟨w.heap.size, 9, none⟩ = some (.int .i64 x3) ∧ w'.cell? ⟨w.heap.size, 10, none⟩ = some (.int .i64 x4) ∧ w'.cell? ⟨w.heap.size, 5, none⟩ = some (.int .i64 x5))
    (with_reducible (first | exact K0.out | exact K1.out | exact K2.out | exact K3.out | exact K4.out | exact K5.out | exact K6.out | exact K7.out))
    (first
      | (go_at_call 176; (with_reducible refine (G1.out _).mono ?_); rintro e w1 ⟨A1, n1, c1, rfl, h1, b1, f1⟩; have R1 := Lib.hid (R0.out.trans (b1.mono R0.out.size)); have K1 := Lib.hid (KS.out _ R1.out); have H1 := Lib.hid h1;  clear h1 b1 f1)
      | (go_at_call 176; (with_reducible refine (G2.out _).mono ?_); rintro e w2 ⟨A2, n2, c2, rfl, h2, b2, f2⟩; have R2 := Lib.hid (R1.out.trans (b2.mono R1.out.size)); have K2 := Lib.hid (KS.out _ R2.out); have H2 := Lib.hid h2; have H1 := Lib.hid (H1.out.below b2); clear h2 b2 f2)
      | (go_at_call 169; (with_reducible refine (G3.out _).mono ?_); rintro e w3 ⟨A3, n3, c3, rfl, h3, b3, f3⟩; have R3 := Lib.hid (R2.out.trans (b3.mono R2.out.size)); have K3 := Lib.hid (KS.out _ R3.out); have H3 := Lib.hid h3; have H1 := Lib.hid (H1.out.below b3); have H2 := Lib.hid (H2.out.below b3); clear h3 b3 f3)
      | (go_at_call 176; (with_reducible refine (G4.out _).mono ?_); rintro e w4 ⟨A4, n4, c4, rfl, h4, b4, f4⟩; have R4 := Lib.hid (R3.out.trans (b4.mono R3.out.size)); have K4 := Lib.hid (KS.out _ R4.out); have H4 := Lib.hid h4; have H1 := Lib.hid (H1.out.below b4); have H2 := Lib.hid (H2.out.below b4); have H3 := Lib.hid (H3.out.below b4); clear h4 b4 f4)
      | (go_at_call 176; (with_reducible refine (G5.out _).mono ?_); rintro e w5 ⟨A5, n5, c5, rfl, h5, b5, f5⟩; have R5 := Lib.hid (R4.out.trans (b5.mono R4.out.size)); have K5 := Lib.hid (KS.out _ R5.out); have H5 := Lib.hid h5; have H1 := Lib.hid (H1.out.below b5); have H2 := Lib.hid (H2.out.below b5); have H3 := Lib.hid (H3.out.below b5); have H4 := Lib.hid (H4.out.below b5); have R6 := Lib.hid (R5.out.alloc R5.out.size (.cells #[.slice A1 n1 c1, .slice A2 n2 c2, .slice A3 n3 c3, .slice A4 n4 c4, .slice A5 n5 c5] 129)); have K6 := Lib.hid (KS.out _ R6.out);
          have CJ := Lib.hid (joined_any (some ⟨w5.heap.size, 0, none⟩) 5 5 [(A1, c1, t1), (A2, c2, t2), (A3, c3, t3), (A4, c4, t4), (A5, c5, t5)] (w5.alloc (.cells #[.slice A1 n1 c1, .slice A2 n2 c2, .slice A3 n3 c3, .slice A4 n4 c4, .slice A5 n5 c5] 129)) rfl (by omega) (lits _ _ _ _ _ (by rw [enc_at H1.out, enc_at H2.out, enc_at H3.out, enc_at H4.out, enc_at H5.out]; rfl)) ((PartsIn.nil _).cons (H5.out.alloc _) |>.cons (H4.out.alloc _) |>.cons (H3.out.alloc _) |>.cons (H2.out.alloc _) |>.cons (H1.out.alloc _)) (by simp [allOf, L1.out, L2.out, L3.out, L4.out, L5.out])); clear h5 b5 f5)
      | (go_at_call 171; (with_reducible refine CJ.out.mono ?_); rintro e w7 ⟨A7, n7, c7, rfl, h7, b7, f7⟩; have R7 := Lib.hid (R6.out.trans (b7.mono R6.out.size)); have K7 := Lib.hid (KS.out _ R7.out); have H7 := Lib.hid h7; have F7 := Lib.hid (fun a ha => Nat.le_trans HSZ.out (Nat.le_trans R6.out.size (f7 a ha))); clear h7 b7 f7))
  clear K0 K1 K2 K3 K4 K5 K6 K7
  go_wp2_with fail
  go_ret
  refine ⟨_, _, _, rfl, ?_, HB1.out.trans (R7.out.mono HSZ.out), F7.out⟩
  have h := H7.out
  simpa [allOf] using h


def bodyBranch (p : Pg) : Bs := num2 p.keys.length ++ num2 (p.kids.headD 0) ++ (p.keys.zip p.kids.tail).flatMap fun x => txt x.1 ++ num2 x.2
/-- Between two rounds of layBranch. -/
def BranchRel (w : World) (H : Bs) (ks : List Bs) (kd : List Int) (kv v i : Value) (wr : World) : Prop := ∃ (k : Nat) (xs : List Part), i = .int .i64 k ∧ k ≤ ks.length ∧ OwnS wr (w.heap.size + 1) v xs ∧ xs.length = 2 + 2 * k ∧ allOf xs = H ++ ((ks.zip kd).take k).flatMap (fun x => txt x.1 ++ num2 x.2) ∧ Below w.heap.size w wr ∧ w.heap.size + 1 ≤ wr.heap.size ∧ wr.cell? ⟨w.heap.size, 3, none⟩ = some kv
theorem flat_len {α : Type} (f : α → Bs) (m : Nat) : ∀ (l : List α), (∀ x ∈ l, (f x).length ≤ m) → (l.flatMap f).length ≤ m * l.length
  | [], _ => by simp
  | x :: l, h => by
    have h1 := h x (List.mem_cons_self ..)
    have h2 := flat_len f m l (fun y hy => h y (List.mem_cons_of_mem _ hy))
    rw [List.flatMap_cons, List.length_append, List.length_cons, Nat.mul_succ]
    omega
theorem keep3 {w : World} {b : Nat} {u v x : Value} {b3 o3 o1 o2 : Nat} (h1 : w.cell? ⟨b, o1, none⟩ = some u) (h2 : w.cell? ⟨b, o2, none⟩ = some v) (h3 : w.cell? ⟨b3, o3, none⟩ = some x) :
    ∀ W, Below w.heap.size w W → W.cell? ⟨b, o1, none⟩ = some u ∧ W.cell? ⟨b, o2, none⟩ = some v ∧ W.cell? ⟨b3, o3, none⟩ = some x := fun _ hb => ⟨cell_below h1 hb, cell_below h2 hb, cell_below h3 hb⟩
set_option maxRecDepth 100000 in
set_option maxHeartbeats 2000000 in
theorem layBranch_any (p : Pg) (a : Lay) (w : World) (hR : SRow w a.A2 p.keys) (hK : IRow w a.A3 p.kids) (hn6 : p.keys.length ≤ 12) (hkl : p.kids.length = p.keys.length + 1) (hs : ∀ x ∈ p.keys, x.length ≤ 100) (hx : ∀ x ∈ p.kids, Nat63 x) : Calls Tryz.prog 173 #[pgV p a] w (Lays (bodyBranch p) w) := by
  have HB1 := Lib.hid ((Below.refl w.heap.size w).alloc (Nat.le_refl _) (.cells (pgC p a) 82))
  have HSZ := Lib.hid (show w.heap.size + 1 ≤ (w.alloc (.cells (pgC p a) 82)).heap.size by simp)
  have HR := Lib.hid hR
  have HK := Lib.hid hK
  have HX := Lib.hid hx
  have HS := Lib.hid hs
  have HKL := Lib.hid hkl
  have c2 : (w.alloc (.cells (pgC p a) 82)).cell? ⟨w.heap.size, 2, none⟩ = some (.slice a.A2 p.keys.length a.c2) := by simp [pgC]
  have c3 : (w.alloc (.cells (pgC p a) 82)).cell? ⟨w.heap.size, 3, none⟩ = some (.slice a.A3 p.kids.length a.c3) := by simp [pgC]
  have G1 := Lib.hid (fun W => layNumber_num p.keys.length W ⟨by omega, by omega⟩)
  have R0 := Lib.hid ((Below.refl (w.alloc (.cells (pgC p a) 82)).heap.size (w.alloc (.cells (pgC p a) 82))).drew)
  unfold bodyBranch
  clear hR hK hs hkl
  unfold pgV
  unfold pgC at *
  generalize hks : p.keys = ks at *
  generalize hkd : p.kids = kd at *
  generalize a.A2 = Ak at *
  generalize a.A3 = Ad at *
  rcases kd with _ | ⟨x0, kd⟩
  · have := HKL.out; simp at this
  rw [List.headD_cons, List.tail_cons]
  have hx0 := hx x0 (List.mem_cons_self ..)
  obtain ⟨bd, od, rfl, hld, hcd⟩ := HK.out (by simp)
  have e0 := hcd 0 (by simp)
  rw [List.getElem_cons_zero, Nat.add_zero, ← HB1.out.cell (p := ⟨bd, od, none⟩) hld] at e0
  have KS := Lib.hid (keep3 c2 c3 e0)
  have HLD := Lib.hid hld
  have HCD := Lib.hid hcd
  have G2 := Lib.hid (fun W => layNumber_num x0 W hx0)
  have K0 := Lib.hid (KS.out _ R0.out)
  have L1 := Lib.hid (num2_len (ks.length : Int))
  have L2 := Lib.hid (num2_len x0)
  obtain ⟨n, hn⟩ : ∃ n, ks.length = n := ⟨_, rfl⟩
  obtain ⟨m, hm⟩ : ∃ m, (x0 :: kd).length = m := ⟨_, rfl⟩
  have hmn : Hid (m = n + 1) := Lib.hid (by have := HKL.out; omega)
  generalize num2 (ks.length : Int) = t1 at *
  generalize num2 x0 = t2 at *
  have hm0 : 0 < m := by have := hmn.out; omega
  have hm1 : (0 : Int) < (m : Int) := by omega
  have hm2 : (0 : Int) ≤ (0 : Int) := Int.le_refl _
  rw [hn] at HB1 HSZ R0 KS K0 G1 hn6 ⊢
  rw [hm] at HB1 HSZ R0 KS K0 ⊢
  have HN := Lib.hid hn
  have HM := Lib.hid hm
  clear hx c2 c3 e0 hcd hx0 hn hm hld
  go_enter Tryz.func173, Tryz.ntmps173
  go_wp2_with fail
  go_region_held3 (fun w' => w'.cell? ⟨w.heap.size, 2, none⟩ = some (.slice Ak n a.c2) ∧ w'.cell? ⟨w.heap.size, 3, none⟩ = some (.slice (some ⟨bd, od, none⟩) m a.c3) ∧ w'.cell? ⟨bd, od, none⟩ = some (.int .i64 x0))
    (with_reducible (first | exact K0.out | exact K1.out | exact K2.out | exact K3.out))
    (first
      | (go_at_call 176; (with_reducible refine (G1.out _).mono ?_); rintro e w1 ⟨A1, n1, c1, rfl, h1, b1, f1⟩; have R1 := Lib.hid (R0.out.trans (b1.mono R0.out.size)); have K1 := Lib.hid (KS.out _ R1.out); have H1 := Lib.hid h1; clear h1 b1 f1)
      | (go_at_call 176; (with_reducible refine (G2.out _).mono ?_); rintro e w2 ⟨A2, n2, c2, rfl, h2, b2, f2⟩; have R2 := Lib.hid (R1.out.trans (b2.mono R1.out.size)); have K2 := Lib.hid (KS.out _ R2.out); have H2 := Lib.hid h2; have H1 := Lib.hid (H1.out.below b2); have R3 := Lib.hid (R2.out.alloc R2.out.size (.cells #[.slice A1 n1 c1, .slice A2 n2 c2] 129)); have K3 := Lib.hid (KS.out _ R3.out); clear h2 b2 f2))
  have d2 := K3.out.1
  have HC3 := Lib.hid K3.out.2.1
  have HSZ3 := Lib.hid (Nat.le_trans HSZ.out R3.out.size)
  have HB3 := Lib.hid (HB1.out.trans (R3.out.mono HB1.out.size))
  have HO := Lib.hid (own_lit w2 (w.heap.size + 1) #[.slice A1 n1 c1, .slice A2 n2 c2] 2 [(A1, c1, t1), (A2, c2, t2)] rfl (by rw [enc_at H1.out, enc_at H2.out]; rfl) ((PartsIn.nil _).cons H2.out |>.cons H1.out) (Nat.le_trans HSZ.out R2.out.size) (by omega))
  clear K0 K1 K2 K3 hm0 hm1 hm2
  go_wp2_with fail
  clear d2
  go_loopw [3, 19] (fun v i wr => BranchRel w (t1 ++ t2) ks kd (.slice (some ⟨bd, od, none⟩) m a.c3) v i wr) (fun _ i _ => n - (intOf i).toNat)
  case atStart => exact ⟨0, [(A1, c1, t1), (A2, c2, t2)], rfl, Nat.zero_le _, HO.out, rfl, by simp [allOf], HB3.out, HSZ3.out, HC3.out⟩
  case round =>
    obtain ⟨k, xs, rfl, hk, ho, hxl, hall, hb, hsz, h3⟩ := hrel
    by_cases hlt : k < n
    · have hkl : k < ks.length := by have := HN.out; omega
      have hkd2 : k < kd.length := by have h9 := HM.out; rw [List.length_cons] at h9; have := hmn.out; omega
      obtain ⟨b, off, rfl, hlb, hc⟩ := HR.out (by intro e; subst e; simp at hkl)
      have hc1 := hc k hkl
      rw [← hb.cell (p := ⟨b, off + k, none⟩) hlb] at hc1
      have hd0 := HCD.out (k + 1) (by simp; omega)
      rw [List.getElem_cons_succ] at hd0
      have hd1 := (hb.cell (p := ⟨bd, od + (k + 1), none⟩) HLD.out).trans hd0
      have hxk := HX.out kd[k] (List.mem_cons_of_mem _ (List.getElem_mem hkd2))
      obtain ⟨X, hX⟩ : ∃ X, strB ks[k] = X := ⟨_, rfl⟩
      rw [show strV ks[k] = .string X by rw [← hX]] at hc1
      have hsk := HS.out _ (List.getElem_mem hkl)
      have HT1 := Lib.hid (fun W => layText_any ks[k] W (by omega))
      rw [show strV ks[k] = .string X by rw [← hX], show be 1 ks[k].length ++ ks[k] = txt ks[k] from rfl] at HT1
      have HT2 := Lib.hid (fun W => layNumber_num kd[k] W hxk)
      have HAL : Hid (∀ z1 z2 : Part, z1.2.2 = txt ks[k] → z2.2.2 = num2 kd[k] → allOf (xs ++ [z1, z2]) = t1 ++ t2 ++ ((ks.zip kd).take (k + 1)).flatMap (fun x => txt x.1 ++ num2 x.2)) := Lib.hid (fun z1 z2 h1 h2 => by
        rw [allOf_append, hall, flat_step _ _ (by rw [List.length_zip]; omega), List.getElem_zip]; simp [allOf, h1, h2])
      generalize txt ks[k] = tx at HT1 HAL
      generalize num2 kd[k] = ty at HT2 HAL
      generalize kd[k] = y at hd0 hd1 HT2
      have hbl := hb.size
      have KS2 := Lib.hid (two_keep h3 hd1)
      have R0 := Lib.hid (Below.refl wr.heap.size wr).drew
      have K0 := Lib.hid (KS2.out _ R0.out)
      have NE := Lib.hid (show some w.heap.size ≠ u3.ownBlock from fun e => by have := (World.ownsRow.lt ho.1 w.heap.size e.symm).1; omega)
      have HO3 := Lib.hid ho
      have HBB := Lib.hid hb
      have HXL := Lib.hid hxl
      have HSZ4 := Lib.hid hsz
      have HD0 := Lib.hid hd0
      have i1 : IntKind.i64.wrap ((k : Int) + 1) = (k : Int) + 1 := by rw [IntKind.wrap_i64]; omega
      have i2 : (0 : Int) ≤ (k : Int) + 1 := by omega
      have i3 : (k : Int) + 1 < (m : Int) := by have := hmn.out; omega
      have i4 : ((k : Int) + 1).toNat = k + 1 := by omega
      have HI := Lib.hid hlt
      clear hc hX hb ho hsk hxl hall hsz h3 hd0 hd1 hxk
      go_wp2_with fail
      go_region_held3 (fun w' => w'.cell? ⟨w.heap.size, 3, none⟩ = some (.slice (some ⟨bd, od, none⟩) m a.c3) ∧ w'.cell? ⟨bd, od + (k + 1), none⟩ = some (.int .i64 y))
        (with_reducible (first | exact K0.out | exact K2.out | exact K3.out | exact K4.out | exact K5.out))
        (first
          | (go_at_call 186; (with_reducible refine (HT1.out _).mono ?_); rintro e w2 ⟨A3, n3, c3, rfl, h3, b3, f3⟩; have R2 := Lib.hid (R0.out.trans (b3.mono R0.out.size)); have H3 := Lib.hid h3; have F3 := Lib.hid f3; have K2 := Lib.hid (KS2.out _ R2.out); clear h3 b3 f3)
          | (go_at_call 176; (with_reducible refine (HT2.out _).mono ?_); rintro e w3 ⟨A4, n4, c4, rfl, h4, b4, f4⟩; have R3 := Lib.hid (R2.out.trans (b4.mono R2.out.size)); have H4 := Lib.hid h4; have F4 := Lib.hid f4; have H3' := Lib.hid (H3.out.below b4); have K3 := Lib.hid (KS2.out _ R3.out); have K4 := Lib.hid (KS2.out _ (R3.out.alloc R3.out.size (.cells #[.slice A3 n3 c3, .slice A4 n4 c4] 129))); clear h4 b4 f4;
              obtain ⟨v5, w5, hrun5, ho5, hb5, hB5, hk5⟩ := two_append HO3.out HBB.out (Nat.le_succ _) HSZ4.out (Below.refl _ _) R2.out R3.out H3'.out H4.out F3.out F4.out (by have := HXL.out; have := HI.out; omega);
              have Q5 := Lib.hid hrun5; have O5 := Lib.hid ho5; have B5 := Lib.hid hb5; have S5 := Lib.hid hB5; have K5 := Lib.hid (And.intro ((hk5 w.heap.size 3 (Nat.lt_of_lt_of_le (Nat.lt_of_succ_le HSZ4.out) R3.out.size) NE.out).trans K3.out.1) ((hb5.cell (p := ⟨bd, od + (k + 1), none⟩) HLD.out).trans HD0.out)); clear hrun5 ho5 hb5 hB5 hk5)
          | (refine step_append2_eq (by rfl) (.tmp 24) (.tmp 34) _ _ (by rfl) (by rfl) (by rfl) Q5.out ?_; skip))
      have KF := Lib.hid K5.out.1
      clear K0 K2 K3 K4 K5 HT1 HT2 KS2 i1 i2 i3 i4
      go_wp2_with fail
      go_roundw
      case rel => exact ⟨k + 1, xs ++ [(A3, c3, tx), (A4, c4, ty)], by go_num, hkl, O5.out, by rw [List.length_append, HXL.out]; simp; omega, HAL.out _ _ rfl rfl, B5.out, S5.out, KF.out⟩
      case measure => have := HI.out; simp [intOf]; omega
    · have hfin : allOf xs = t1 ++ t2 ++ (ks.zip kd).flatMap (fun x => txt x.1 ++ num2 x.2) := by rw [hall, List.take_of_length_le (by rw [List.length_zip]; have := HN.out; omega)]
      obtain ⟨A, c, hv, _, _, _, hrow⟩ := OwnG.row ho.1
      subst hv
      have hle : (allOf xs).length ≤ 1000000 := by
        have h1 := flat_len (fun x : Bs × Int => txt x.1 ++ num2 x.2) 200 (ks.zip kd) (fun x hx => by
          have := HS.out x.1 (List.of_mem_zip hx).1
          rw [List.length_append, txt_len, num2_len]; omega)
        rw [hfin, List.length_append, List.length_append, L1.out, L2.out]
        rw [List.length_zip] at h1
        have := HN.out
        have : min ks.length kd.length ≤ 12 := by omega
        omega
      have cJ := joined_any A xs.length c xs wr rfl (by have := HN.out; omega) hrow ho.parts (by omega)
      rw [hfin] at cJ
      have HJ := Lib.hid cJ
      have HBB := Lib.hid hb
      generalize xs.length = mm at *
      clear hfin hrow ho hall hxl cJ hb hle h3 hsz
      go_wp2_with fail
      refine HJ.out.mono ?_
      rintro e w3 ⟨A3, n3, c3, rfl, h3, b3, f3⟩
      have B3 := Lib.hid (HBB.out.trans (b3.mono HBB.out.size))
      have H3 := Lib.hid h3
      have F3 := Lib.hid (fun a ha => Nat.le_trans HBB.out.size (f3 a ha))
      clear b3 h3 f3
      go_wp2_with fail
      go_ret
      exact ⟨_, _, _, rfl, H3.out, B3.out, F3.out⟩
end Go.Proofs.YtboaamaneeodfaaGreat.Page
namespace Go.Proofs.YtboaamaneeodfaaGreat.Page
open Go.RowKit Gen

noncomputable def bodyOf (p : Pg) : Bs := if p.kind = 1 then bodyLeaf p else if p.kind = 2 then bodyBranch p else if p.kind = 3 then bodyFree p else bodySuper p
noncomputable def pageBs (s : Int) (p : Pg) : Bs := be 1 p.kind.toNat ++ (num2 s ++ bodyOf p)
theorem leaf_len {p : Pg} (h : LeafOk p) : (bodyLeaf p).length ≤ 902 := by
  have h1 := flat_len (fun x : Bs × Bs => txt x.1 ++ txt x.2) 150 p.pairs (fun x hx => by
    have := (h.all x.1 (List.mem_map_of_mem hx)).2
    have := h.vals x hx
    rw [List.length_append, txt_len, txt_len]; omega)
  have := h.len.2
  unfold bodyLeaf
  rw [List.length_append, num2_len]; omega
theorem branch_len {p : Pg} (h : BranchOk p) : (bodyBranch p).length ≤ 616 := by
  have h1 := flat_len (fun x : Bs × Int => txt x.1 ++ num2 x.2) 51 (p.keys.zip p.kids.tail) (fun x hx => by
    have := (h.all x.1 (List.of_mem_zip hx).1).2
    rw [List.length_append, txt_len, num2_len]; omega)
  have := h.len.2
  rw [List.length_zip] at h1
  unfold bodyBranch
  rw [List.length_append, List.length_append, num2_len, num2_len]
  have : min p.keys.length p.kids.tail.length ≤ 12 := by omega
  omega
theorem free_len {p : Pg} (h : FreeOk p) : (bodyFree p).length ≤ 404 := by
  have h1 := flat_len num2 2 p.pages (fun x hx => by rw [num2_len]; omega)
  have := h.len
  unfold bodyFree
  rw [List.length_append, List.length_append, num2_len, num2_len]; omega
theorem super_len (p : Pg) : (bodySuper p).length = 12 := by simp [bodySuper, num2_len, be_len]
theorem place63 {x : Int} (h : Place x) : Nat63 x := by unfold Place at h; unfold Nat63; omega
theorem body_len {p : Pg} (h : Fine p) : (bodyOf p).length ≤ 902 := by
  unfold bodyOf
  rcases h with ⟨h, g, _⟩ | ⟨h, g, _⟩ | ⟨h, g, _⟩ | ⟨h, g, _⟩
  · rw [if_pos h]; exact leaf_len g
  · rw [if_neg (by omega), if_pos h]; have := branch_len g; omega
  · rw [if_neg (by omega), if_neg (by omega), if_pos h]; have := free_len g; omega
  · rw [if_neg (by omega), if_neg (by omega), if_neg (by omega), super_len]; omega
theorem lay_one (x : Int) (w : World) (h : Nat63 x) : Calls Tryz.prog 169 #[.int .i64 1, .int .u64 x] w (Lays (be 1 x.toNat) w) := by
  have := lay_any 1 x.toNat w (by omega) (by have := h.2; omega)
  rw [Int.toNat_of_nonneg h.1] at this
  exact this
theorem lay_eight (n : Nat) (w : World) (h : n < 18446744073709551616) : Calls Tryz.prog 169 #[.int .i64 8, .int .u64 (n : Int)] w (Lays (be 8 n) w) := lay_any 8 n w (by omega) h
theorem fill_to (A : Option Addr) (n c : Nat) (l : Bs) (w : World) (h : BytesAt w A n c l) (hn : n ≤ 1016) : Calls Tryz.prog 170 #[.slice A n c, .int .i64 1016] w (Lays (padTo 1016 l) w) := filled_any A n c l 1016 w h hn (by omega)
theorem fill_half (A : Option Addr) (n c : Nat) (l : Bs) (w : World) (h : BytesAt w A n c l) (hn : n ≤ 496) : Calls Tryz.prog 170 #[.slice A n c, .int .i64 496] w (Lays (padTo 496 l) w) := filled_any A n c l 496 w h hn (by omega)

set_option maxRecDepth 100000 in
theorem layPage1 (s : Int) (p : Pg) (a : Lay) (w : World) (hk : p.kind = 1) (g : LeafOk p) (hR : PgRows w p a) (hs : Nat63 s) : Calls Tryz.prog 154 #[.int .i64 s, pgV p a] w (Lays (pageBs s p) w) := by
  have k1 : (p.kind == 1) = true := by rw [hk]; rfl
  have k2 : (p.kind == 2) = false := by rw [hk]; rfl
  have k3 : (p.kind == 3) = false := by rw [hk]; rfl
  have k4 : (p.kind == 4) = false := by rw [hk]; rfl
  have B1 : Below w.heap.size w (w.alloc (.cells (pgC p a) 82)) := (Below.refl _ _).alloc (Nat.le_refl _) _
  have HRR := hR.below B1
  have cL := layLeaf_any p a (w.alloc (.cells (pgC p a) 82)) HRR.r1 (by have := g.len; omega) (fun x hx => ⟨by have := (g.all x.1 (List.mem_map_of_mem hx)).2; omega, g.vals x hx⟩) (by have := leaf_len g; omega)
  have c0 : (w.alloc (.cells (pgC p a) 82)).cell? ⟨w.heap.size, 0, none⟩ = some (.int .i64 p.kind) := by simp [pgC]
  have HB1 := Lib.hid B1
  have hl : (bodyLeaf p).length ≤ 902 := by have := leaf_len g; omega
  have HL := Lib.hid hl
  have G1 := Lib.hid (fun W => lay_one p.kind W (by unfold Nat63; omega))
  have G2 := Lib.hid (fun W => layNumber_num s W hs)
  have e0 : IntKind.u64.wrap p.kind = p.kind := by rw [IntKind.wrap_u64]; omega
  unfold pageBs bodyOf
  rw [if_pos hk]
  clear hR HRR B1 hk g hs hl
  generalize bodyLeaf p = bd at *
  have L1 := Lib.hid (be_len 1 p.kind.toNat)
  have L2 := Lib.hid (num2_len s)
  generalize be 1 p.kind.toNat = t1 at *
  generalize num2 s = t2 at *
  unfold pgV
  unfold pgC at *
  go_enter Tryz.func154, Tryz.ntmps154
  go_wp2_with fail
  refine cL.mono ?_
  rintro e w1 ⟨A1, n1, c1, rfl, h1, b1, -⟩
  have d0 := cell_below c0 b1
  have B2 := Lib.hid (HB1.out.trans (b1.mono HB1.out.size))
  have H1 := Lib.hid h1
  clear h1 b1 cL c0
  go_wp2_with fail
  refine (G1.out _).mono ?_
  rintro e w2 ⟨A2, n2, c2, rfl, h2, b2, -⟩
  have B3 := Lib.hid (B2.out.trans (b2.mono B2.out.size))
  have H1 := Lib.hid (H1.out.below b2)
  have H2 := Lib.hid h2
  clear h2 b2 d0
  go_wp2_with fail
  refine (G2.out _).mono ?_
  rintro e w3 ⟨A3, n3, c3, rfl, h3, b3, -⟩
  have B4 := Lib.hid (B3.out.trans (b3.mono B3.out.size))
  have H1 := Lib.hid (H1.out.below b3)
  have H2 := Lib.hid (H2.out.below b3)
  have H3 := Lib.hid h3
  clear h3 b3
  have CJ := Lib.hid (joined_any (some ⟨w3.heap.size, 0, none⟩) 3 3 [(A2, c2, t1), (A3, c3, t2), (A1, c1, bd)] (w3.alloc (.cells #[.slice A2 n2 c2, .slice A3 n3 c3, .slice A1 n1 c1] 129)) rfl (by omega) (lits _ _ _ _ _ (by rw [enc_at H1.out, enc_at H2.out, enc_at H3.out]; rfl)) ((PartsIn.nil _).cons (H1.out.alloc _) |>.cons (H3.out.alloc _) |>.cons (H2.out.alloc _)) (by simp [allOf, L1.out, L2.out]; have := HL.out; omega))
  go_wp2_with fail
  refine CJ.out.mono ?_
  rintro e w4 ⟨A4, n4, c4, rfl, h4, b4, f4⟩
  have B5 := Lib.hid ((B4.out.alloc B4.out.size _).trans (b4.mono (B4.out.alloc B4.out.size _).size))
  have F4 := Lib.hid (fun a ha => Nat.le_trans (B4.out.alloc B4.out.size _).size (f4 a ha))
  have H4 := Lib.hid h4
  clear h4 b4 f4
  go_wp2_with fail
  go_ret
  refine ⟨_, _, _, rfl, ?_, B5.out, F4.out⟩
  have h := H4.out
  simpa [allOf] using h
set_option maxRecDepth 100000 in
theorem layPage2 (s : Int) (p : Pg) (a : Lay) (w : World) (hk : p.kind = 2) (g : BranchOk p) (hR : PgRows w p a) (hs : Nat63 s) : Calls Tryz.prog 154 #[.int .i64 s, pgV p a] w (Lays (pageBs s p) w) := by
  have k1 : (p.kind == 1) = false := by rw [hk]; rfl
  have k2 : (p.kind == 2) = true := by rw [hk]; rfl
  have k3 : (p.kind == 3) = false := by rw [hk]; rfl
  have k4 : (p.kind == 4) = false := by rw [hk]; rfl
  have B1 : Below w.heap.size w (w.alloc (.cells (pgC p a) 82)) := (Below.refl _ _).alloc (Nat.le_refl _) _
  have HRR := hR.below B1
  have cL := layBranch_any p a (w.alloc (.cells (pgC p a) 82)) HRR.r2 HRR.r3 g.len.2 g.kids (fun x hx => by have := (g.all x hx).2; omega) (fun x hx => place63 (g.places x hx))
  have c0 : (w.alloc (.cells (pgC p a) 82)).cell? ⟨w.heap.size, 0, none⟩ = some (.int .i64 p.kind) := by simp [pgC]
  have HB1 := Lib.hid B1
  have hl : (bodyBranch p).length ≤ 902 := by have := branch_len g; omega
  have HL := Lib.hid hl
  have G1 := Lib.hid (fun W => lay_one p.kind W (by unfold Nat63; omega))
  have G2 := Lib.hid (fun W => layNumber_num s W hs)
  have e0 : IntKind.u64.wrap p.kind = p.kind := by rw [IntKind.wrap_u64]; omega
  unfold pageBs bodyOf
  rw [if_neg (by omega), if_pos hk]
  clear hR HRR B1 hk g hs hl
  generalize bodyBranch p = bd at *
  have L1 := Lib.hid (be_len 1 p.kind.toNat)
  have L2 := Lib.hid (num2_len s)
  generalize be 1 p.kind.toNat = t1 at *
  generalize num2 s = t2 at *
  unfold pgV
  unfold pgC at *
  go_enter Tryz.func154, Tryz.ntmps154
  go_wp2_with fail
  refine cL.mono ?_
  rintro e w1 ⟨A1, n1, c1, rfl, h1, b1, -⟩
  have d0 := cell_below c0 b1
  have B2 := Lib.hid (HB1.out.trans (b1.mono HB1.out.size))
  have H1 := Lib.hid h1
  clear h1 b1 cL c0
  go_wp2_with fail
  refine (G1.out _).mono ?_
  rintro e w2 ⟨A2, n2, c2, rfl, h2, b2, -⟩
  have B3 := Lib.hid (B2.out.trans (b2.mono B2.out.size))
  have H1 := Lib.hid (H1.out.below b2)
  have H2 := Lib.hid h2
  clear h2 b2 d0
  go_wp2_with fail
  refine (G2.out _).mono ?_
  rintro e w3 ⟨A3, n3, c3, rfl, h3, b3, -⟩
  have B4 := Lib.hid (B3.out.trans (b3.mono B3.out.size))
  have H1 := Lib.hid (H1.out.below b3)
  have H2 := Lib.hid (H2.out.below b3)
  have H3 := Lib.hid h3
  clear h3 b3
  have CJ := Lib.hid (joined_any (some ⟨w3.heap.size, 0, none⟩) 3 3 [(A2, c2, t1), (A3, c3, t2), (A1, c1, bd)] (w3.alloc (.cells #[.slice A2 n2 c2, .slice A3 n3 c3, .slice A1 n1 c1] 129)) rfl (by omega) (lits _ _ _ _ _ (by rw [enc_at H1.out, enc_at H2.out, enc_at H3.out]; rfl)) ((PartsIn.nil _).cons (H1.out.alloc _) |>.cons (H3.out.alloc _) |>.cons (H2.out.alloc _)) (by simp [allOf, L1.out, L2.out]; have := HL.out; omega))
  go_wp2_with fail
  refine CJ.out.mono ?_
  rintro e w4 ⟨A4, n4, c4, rfl, h4, b4, f4⟩
  have B5 := Lib.hid ((B4.out.alloc B4.out.size _).trans (b4.mono (B4.out.alloc B4.out.size _).size))
  have F4 := Lib.hid (fun a ha => Nat.le_trans (B4.out.alloc B4.out.size _).size (f4 a ha))
  have H4 := Lib.hid h4
  clear h4 b4 f4
  go_wp2_with fail
  go_ret
  refine ⟨_, _, _, rfl, ?_, B5.out, F4.out⟩
  have h := H4.out
  simpa [allOf] using h
set_option maxRecDepth 100000 in
theorem layPage3 (s : Int) (p : Pg) (a : Lay) (w : World) (hk : p.kind = 3) (g : FreeOk p) (hR : PgRows w p a) (hs : Nat63 s) : Calls Tryz.prog 154 #[.int .i64 s, pgV p a] w (Lays (pageBs s p) w) := by
  have k1 : (p.kind == 1) = false := by rw [hk]; rfl
  have k2 : (p.kind == 2) = false := by rw [hk]; rfl
  have k3 : (p.kind == 3) = true := by rw [hk]; rfl
  have k4 : (p.kind == 4) = false := by rw [hk]; rfl
  have B1 : Below w.heap.size w (w.alloc (.cells (pgC p a) 82)) := (Below.refl _ _).alloc (Nat.le_refl _) _
  have HRR := hR.below B1
  have cL := layFree_any p a (w.alloc (.cells (pgC p a) 82)) HRR.r4 g.len (fun x hx => place63 (g.all x hx)) (by rcases g.next with h | h; omega; exact (place63 h).1) (by rcases g.next with h | h; omega; exact (place63 h).2)
  have c0 : (w.alloc (.cells (pgC p a) 82)).cell? ⟨w.heap.size, 0, none⟩ = some (.int .i64 p.kind) := by simp [pgC]
  have HB1 := Lib.hid B1
  have hl : (bodyFree p).length ≤ 902 := by have := free_len g; omega
  have HL := Lib.hid hl
  have G1 := Lib.hid (fun W => lay_one p.kind W (by unfold Nat63; omega))
  have G2 := Lib.hid (fun W => layNumber_num s W hs)
  have e0 : IntKind.u64.wrap p.kind = p.kind := by rw [IntKind.wrap_u64]; omega
  unfold pageBs bodyOf
  rw [if_neg (by omega), if_neg (by omega), if_pos hk]
  clear hR HRR B1 hk g hs hl
  generalize bodyFree p = bd at *
  have L1 := Lib.hid (be_len 1 p.kind.toNat)
  have L2 := Lib.hid (num2_len s)
  generalize be 1 p.kind.toNat = t1 at *
  generalize num2 s = t2 at *
  unfold pgV
  unfold pgC at *
  go_enter Tryz.func154, Tryz.ntmps154
  go_wp2_with fail
  refine cL.mono ?_
  rintro e w1 ⟨A1, n1, c1, rfl, h1, b1, -⟩
  have d0 := cell_below c0 b1
  have B2 := Lib.hid (HB1.out.trans (b1.mono HB1.out.size))
  have H1 := Lib.hid h1
  clear h1 b1 cL c0
  go_wp2_with fail
  refine (G1.out _).mono ?_
  rintro e w2 ⟨A2, n2, c2, rfl, h2, b2, -⟩
  have B3 := Lib.hid (B2.out.trans (b2.mono B2.out.size))
  have H1 := Lib.hid (H1.out.below b2)
  have H2 := Lib.hid h2
  clear h2 b2 d0
  go_wp2_with fail
  refine (G2.out _).mono ?_
  rintro e w3 ⟨A3, n3, c3, rfl, h3, b3, -⟩
  have B4 := Lib.hid (B3.out.trans (b3.mono B3.out.size))
  have H1 := Lib.hid (H1.out.below b3)
  have H2 := Lib.hid (H2.out.below b3)
  have H3 := Lib.hid h3
  clear h3 b3
  have CJ := Lib.hid (joined_any (some ⟨w3.heap.size, 0, none⟩) 3 3 [(A2, c2, t1), (A3, c3, t2), (A1, c1, bd)] (w3.alloc (.cells #[.slice A2 n2 c2, .slice A3 n3 c3, .slice A1 n1 c1] 129)) rfl (by omega) (lits _ _ _ _ _ (by rw [enc_at H1.out, enc_at H2.out, enc_at H3.out]; rfl)) ((PartsIn.nil _).cons (H1.out.alloc _) |>.cons (H3.out.alloc _) |>.cons (H2.out.alloc _)) (by simp [allOf, L1.out, L2.out]; have := HL.out; omega))
  go_wp2_with fail
  refine CJ.out.mono ?_
  rintro e w4 ⟨A4, n4, c4, rfl, h4, b4, f4⟩
  have B5 := Lib.hid ((B4.out.alloc B4.out.size _).trans (b4.mono (B4.out.alloc B4.out.size _).size))
  have F4 := Lib.hid (fun a ha => Nat.le_trans (B4.out.alloc B4.out.size _).size (f4 a ha))
  have H4 := Lib.hid h4
  clear h4 b4 f4
  go_wp2_with fail
  go_ret
  refine ⟨_, _, _, rfl, ?_, B5.out, F4.out⟩
  have h := H4.out
  simpa [allOf] using h
set_option maxRecDepth 100000 in
theorem layPage4 (s : Int) (p : Pg) (a : Lay) (w : World) (hk : p.kind = 4) (g : SuperOk p) (hs : Nat63 s) : Calls Tryz.prog 154 #[.int .i64 s, pgV p a] w (Lays (pageBs s p) w) := by
  have k1 : (p.kind == 1) = false := by rw [hk]; rfl
  have k2 : (p.kind == 2) = false := by rw [hk]; rfl
  have k3 : (p.kind == 3) = false := by rw [hk]; rfl
  have k4 : (p.kind == 4) = true := by rw [hk]; rfl
  have B1 : Below w.heap.size w (w.alloc (.cells (pgC p a) 82)) := (Below.refl _ _).alloc (Nat.le_refl _) _
  have cL := laySuper_any p a (w.alloc (.cells (pgC p a) 82)) (by rcases g.root with h | h; unfold Nat63; omega; exact place63 h) (by have := g.depth; unfold Nat63; omega) (by have := g.count; unfold Nat63; omega) (by have := g.high; unfold Nat63; omega) (by rcases g.next with h | h; unfold Nat63; omega; exact place63 h)
  have c0 : (w.alloc (.cells (pgC p a) 82)).cell? ⟨w.heap.size, 0, none⟩ = some (.int .i64 p.kind) := by simp [pgC]
  have HB1 := Lib.hid B1
  have hl : (bodySuper p).length ≤ 902 := by have := super_len p; omega
  have HL := Lib.hid hl
  have G1 := Lib.hid (fun W => lay_one p.kind W (by unfold Nat63; omega))
  have G2 := Lib.hid (fun W => layNumber_num s W hs)
  have e0 : IntKind.u64.wrap p.kind = p.kind := by rw [IntKind.wrap_u64]; omega
  unfold pageBs bodyOf
  rw [if_neg (by omega), if_neg (by omega), if_neg (by omega)]
  clear B1 hk g hs hl
  generalize bodySuper p = bd at *
  have L1 := Lib.hid (be_len 1 p.kind.toNat)
  have L2 := Lib.hid (num2_len s)
  generalize be 1 p.kind.toNat = t1 at *
  generalize num2 s = t2 at *
  unfold pgV
  unfold pgC at *
  go_enter Tryz.func154, Tryz.ntmps154
  go_wp2_with fail
  refine cL.mono ?_
  rintro e w1 ⟨A1, n1, c1, rfl, h1, b1, -⟩
  have d0 := cell_below c0 b1
  have B2 := Lib.hid (HB1.out.trans (b1.mono HB1.out.size))
  have H1 := Lib.hid h1
  clear h1 b1 cL c0
  go_wp2_with fail
  refine (G1.out _).mono ?_
  rintro e w2 ⟨A2, n2, c2, rfl, h2, b2, -⟩
  have B3 := Lib.hid (B2.out.trans (b2.mono B2.out.size))
  have H1 := Lib.hid (H1.out.below b2)
  have H2 := Lib.hid h2
  clear h2 b2 d0
  go_wp2_with fail
  refine (G2.out _).mono ?_
  rintro e w3 ⟨A3, n3, c3, rfl, h3, b3, -⟩
  have B4 := Lib.hid (B3.out.trans (b3.mono B3.out.size))
  have H1 := Lib.hid (H1.out.below b3)
  have H2 := Lib.hid (H2.out.below b3)
  have H3 := Lib.hid h3
  clear h3 b3
  have CJ := Lib.hid (joined_any (some ⟨w3.heap.size, 0, none⟩) 3 3 [(A2, c2, t1), (A3, c3, t2), (A1, c1, bd)] (w3.alloc (.cells #[.slice A2 n2 c2, .slice A3 n3 c3, .slice A1 n1 c1] 129)) rfl (by omega) (lits _ _ _ _ _ (by rw [enc_at H1.out, enc_at H2.out, enc_at H3.out]; rfl)) ((PartsIn.nil _).cons (H1.out.alloc _) |>.cons (H3.out.alloc _) |>.cons (H2.out.alloc _)) (by simp [allOf, L1.out, L2.out]; have := HL.out; omega))
  go_wp2_with fail
  refine CJ.out.mono ?_
  rintro e w4 ⟨A4, n4, c4, rfl, h4, b4, f4⟩
  have B5 := Lib.hid ((B4.out.alloc B4.out.size _).trans (b4.mono (B4.out.alloc B4.out.size _).size))
  have F4 := Lib.hid (fun a ha => Nat.le_trans (B4.out.alloc B4.out.size _).size (f4 a ha))
  have H4 := Lib.hid h4
  clear h4 b4 f4
  go_wp2_with fail
  go_ret
  refine ⟨_, _, _, rfl, ?_, B5.out, F4.out⟩
  have h := H4.out
  simpa [allOf] using h
theorem layPage_any (s : Int) (p : Pg) (a : Lay) (w : World) (h : Fine p) (hR : PgRows w p a) (hs : Nat63 s) : Calls Tryz.prog 154 #[.int .i64 s, pgV p a] w (Lays (pageBs s p) w) := by
  rcases h with ⟨h, g, _⟩ | ⟨h, g, _⟩ | ⟨h, g, _⟩ | ⟨h, g, _⟩
  · exact layPage1 s p a w h g hR hs
  · exact layPage2 s p a w h g hR hs
  · exact layPage3 s p a w h g hR hs
  · exact layPage4 s p a w h g hs
theorem page_len {s : Int} {p : Pg} (h : Fine p) : (pageBs s p).length ≤ 1016 := by
  have := body_len h
  simp [pageBs, num2_len, be_len]; omega
theorem page_len4 {s : Int} {p : Pg} (h : p.kind = 4) : (pageBs s p).length = 15 := by
  unfold pageBs bodyOf
  rw [if_neg (by omega), if_neg (by omega), if_neg (by omega), List.length_append, List.length_append, super_len, num2_len, be_len]

def zeros (n : Nat) : Bs := List.replicate n 0
theorem pad_len {n : Nat} {l : Bs} (h : l.length ≤ n) : (padTo n l).length = n := by rw [padTo, List.length_append, List.length_replicate]; omega
/-- A page's bytes with their sum. -/
def summedBs (l : Bs) : Bs := padTo 1016 l ++ be 8 (Crc.more 0 (padTo 1016 l))
/-- A superblock's. -/
def doubledBs (ep : Nat) (l : Bs) : Bs := be 8 ep ++ (padTo 496 l ++ (zeros 8 ++ (padTo 496 l ++ (zeros 8 ++ be 8 ep))))
set_option maxRecDepth 100000 in
theorem summed_any (A : Option Addr) (n c : Nat) (l : Bs) (w : World) (h : BytesAt w A n c l) (hn : n ≤ 1016) : Calls Tryz.prog 155 #[.slice A n c] w (Lays (summedBs l) w) := by
  have cF := fill_to A n c l w h hn
  have hp : (padTo 1016 l).length = 1016 := pad_len (by rw [h.len]; exact hn)
  have HP := Lib.hid hp
  unfold summedBs
  generalize padTo 1016 l = L at *
  clear h hp
  go_enter Tryz.func155, Tryz.ntmps155
  go_wp2_with fail
  refine cF.mono ?_
  rintro e w1 ⟨A1, n1, c1, rfl, h1, b1, -⟩
  have H1 := Lib.hid h1
  have B1 := Lib.hid b1
  have hn1 : n1 = 1016 := by rw [← h1.len]; exact HP.out
  subst hn1
  have cS := Crc.sum_any A1 1016 c1 L w1 h1.len (by omega) h1.row
  clear h1 b1 cF
  go_wp2_with fail
  refine cS.mono ?_
  rintro e w2 ⟨rfl, b2⟩
  have H1 := Lib.hid (H1.out.below b2)
  have B2 := Lib.hid (B1.out.trans (b2.mono B1.out.size))
  have hm : Crc.more 0 L < 18446744073709551616 := Crc.more_lt L (by omega)
  generalize Crc.more 0 L = m at *
  have G := Lib.hid (fun W => lay_eight m W hm)
  have L8 := Lib.hid (be_len 8 m)
  generalize be 8 m = T at *
  clear b2 cS
  go_wp2_with fail
  refine (G.out _).mono ?_
  rintro e w3 ⟨A3, n3, c3, rfl, h3, b3, -⟩
  have H1 := Lib.hid (H1.out.below b3)
  have B3 := Lib.hid (B2.out.trans (b3.mono B2.out.size))
  have H3 := Lib.hid h3
  clear h3 b3
  have CJ := Lib.hid (joined_any (some ⟨w3.heap.size, 0, none⟩) 2 2 [(A1, c1, L), (A3, c3, T)] (w3.alloc (.cells #[.slice A1 1016 c1, .slice A3 n3 c3] 129)) rfl (by omega) (lits _ _ _ _ _ (by rw [enc_at H1.out, enc_at H3.out]; rfl)) ((PartsIn.nil _).cons (H3.out.alloc _) |>.cons (H1.out.alloc _)) (by simp [allOf, L8.out, HP.out]))
  go_wp2_with fail
  refine CJ.out.mono ?_
  rintro e w4 ⟨A4, n4, c4, rfl, h4, b4, f4⟩
  have B5 := Lib.hid ((B3.out.alloc B3.out.size _).trans (b4.mono (B3.out.alloc B3.out.size _).size))
  have F4 := Lib.hid (fun a ha => Nat.le_trans (B3.out.alloc B3.out.size _).size (f4 a ha))
  have H4 := Lib.hid h4
  clear h4 b4 f4
  go_wp2_with fail
  go_ret
  refine ⟨_, _, _, rfl, ?_, B5.out, F4.out⟩
  have h := H4.out
  simpa [allOf] using h
/-- A make whose run is known, in a region that draws its order. -/
theorem step_make_eq {P : Program} {ops : Array Oper} {o : Oper} {a : Act} {K : Act → World → Prop} {Q : Exit → Act → World → Prop} {X : Prop} {w w' : World} {v u u' : Value} (hgd : o.guard = none) (l c : Operand) (t : TypeId)
    (ho : o.op = .makeSlice t l c) (hl : a.eval l = u) (hc : a.eval c = u') (hrun : (Instr.makeSlice t u u').run P w = .ok v w')
    (h : K (a.put o.dst v) w') : if Region.wanted o (yielded ops a.tmps) = true then Oper.wp P o a w K Q else X := by
  have hw : Region.wanted o (yielded ops a.tmps) = true := by simp [Region.wanted, hgd]
  rw [if_pos hw]
  unfold Oper.wp
  simp [execOp, ho, hl, hc, hrun, Result.andThen]
  exact h
theorem doubled_join (T L Z : Bs) (h8 : T.length = 8) (hP : L.length = 496) (hZ : Z.length = 8) (W : World) (m : Nat) (hm : W.heap.size = m) (A1 : Option Addr) (n1 c1 : Nat) (A3 : Option Addr) (n3 c3 b : Nat) (H1 : BytesAt W A1 n1 c1 T) (H3 : BytesAt W A3 n3 c3 L) (HZ : BytesAt W (some ⟨b, 0, none⟩) 8 8 Z) :
    Calls Tryz.prog 171 #[.slice (some ⟨m, 0, none⟩) 6 6] (W.alloc (.cells #[.slice A1 n1 c1, .slice A3 n3 c3, .slice (some ⟨b, 0, none⟩) 8 8, .slice A3 n3 c3, .slice (some ⟨b, 0, none⟩) 8 8, .slice A1 n1 c1] 129)) (Lays (T ++ (L ++ (Z ++ (L ++ (Z ++ T))))) (W.alloc (.cells #[.slice A1 n1 c1, .slice A3 n3 c3, .slice (some ⟨b, 0, none⟩) 8 8, .slice A3 n3 c3, .slice (some ⟨b, 0, none⟩) 8 8, .slice A1 n1 c1] 129))) := by
  subst hm
  have h := joined_any (some ⟨W.heap.size, 0, none⟩) 6 6 [(A1, c1, T), (A3, c3, L), (some ⟨b, 0, none⟩, 8, Z), (A3, c3, L), (some ⟨b, 0, none⟩, 8, Z), (A1, c1, T)] (W.alloc (.cells #[.slice A1 n1 c1, .slice A3 n3 c3, .slice (some ⟨b, 0, none⟩) 8 8, .slice A3 n3 c3, .slice (some ⟨b, 0, none⟩) 8 8, .slice A1 n1 c1] 129)) rfl (by omega)
    (lits _ _ _ _ _ (by rw [enc_at H1, enc_at HZ, enc_at H3]; rfl)) ((PartsIn.nil _).cons (H1.alloc _) |>.cons (HZ.alloc _) |>.cons (H3.alloc _) |>.cons (HZ.alloc _) |>.cons (H3.alloc _) |>.cons (H1.alloc _)) (by simp [allOf, h8, hP, hZ])
  simpa [allOf] using h
end Go.Proofs.YtboaamaneeodfaaGreat.Page
namespace Go.Proofs.YtboaamaneeodfaaGreat.Page
open Go.RowKit Gen

set_option maxRecDepth 100000 in
set_option maxHeartbeats 4000000 in
theorem doubled_any (ep : Nat) (A : Option Addr) (n c : Nat) (l : Bs) (w : World) (hep : ep < 18446744073709551616) (h : BytesAt w A n c l) (hn : n ≤ 496) : Calls Tryz.prog 153 #[.int .u64 (ep : Int), .slice A n c] w (Lays (doubledBs ep l) w) := by
  have HH := Lib.hid h
  have hmk : ∀ W, (Instr.makeSlice 129 (.int .i64 8) (.int .i64 8)).run Tryz.prog W = .ok (.slice (some ⟨W.heap.size, 0, none⟩) 8 8) (W.alloc (.cells (rowC (zeros 8)) 5)) := fun W => make_run 8 (by omega) W
  have hz : Hid (∀ W : World, BytesAt (W.alloc (.cells (rowC (zeros 8)) 5)) (some ⟨W.heap.size, 0, none⟩) 8 8 (zeros 8)) := Lib.hid (fun W => ⟨by simp [zeros], Nat.le_refl _, by simp only [maxLen]; omega, (fun h => by cases h), at_row (At.of_block (heap_alloc_last W _))⟩)
  have G1 := Lib.hid (fun W => lay_eight ep W hep)
  have hp : (padTo 496 l).length = 496 := pad_len (by rw [h.len]; exact hn)
  have HP := Lib.hid hp
  have G2 := Lib.hid (fun W (hW : Below w.heap.size w W) => fill_half A n c l W (HH.out.below hW) hn)
  have L8 := Lib.hid (be_len 8 ep)
  have LZ : Hid ((zeros 8).length = 8) := Lib.hid (by simp [zeros])
  unfold doubledBs
  generalize padTo 496 l = L at *
  generalize be 8 ep = T at *
  generalize zeros 8 = Z at *
  generalize rowC Z = R at *
  have B0 := Lib.hid (Below.refl w.heap.size w).drew
  clear h hp hn HH hep
  go_enter Tryz.func153, Tryz.ntmps153
  have HZ0 : Hid (BytesAt (w.alloc (.cells R 5)).drew (some ⟨w.heap.size, 0, none⟩) 8 8 Z) := Lib.hid ((hz.out w).below (Below.refl _ _).drew)
  have HJ := Lib.hid (fun W m hm A1 n1 c1 A3 n3 c3 b H1 H3 HZ => doubled_join T L Z L8.out HP.out LZ.out W m hm A1 n1 c1 A3 n3 c3 b H1 H3 HZ)
  go_wp2_with fail
  go_region_with (first
    | (go_at_call 169; (with_reducible refine (G1.out _).mono ?_); rintro e w1 ⟨A1, n1, c1, rfl, h1, b1, -⟩; have B1 : Hid (Below w.heap.size w w1) := Lib.hid (by first | exact B0.out.trans (b1.mono B0.out.size) | exact (B0.out.alloc B0.out.size _).trans (b1.mono (B0.out.alloc B0.out.size _).size)); have H1 := Lib.hid h1; have HB1 := Lib.hid b1; clear h1 b1)
    | (go_at_call 170; (with_reducible (first | refine (G2.out _ B1.out).mono ?_ | refine (G2.out _ (B1.out.alloc B1.out.size _)).mono ?_)); rintro e w3 ⟨A3, n3, c3, rfl, h3, b3, -⟩; have B3 : Hid (Below w.heap.size w w3) := Lib.hid (by first | exact B1.out.trans (b3.mono B1.out.size) | exact (B1.out.alloc B1.out.size _).trans (b3.mono (B1.out.alloc B1.out.size _).size)); have H3 := Lib.hid h3; have HB3 := Lib.hid b3; clear h3 b3))
  all_goals clear hmk
  all_goals go_wp2_with fail
  all_goals (first
    | ((with_reducible refine (HJ.out w3 _ rfl A1 n1 c1 A3 n3 c3 _ (H1.out.below HB3.out) H3.out ((HZ0.out.below HB1.out).below HB3.out)).mono ?_); have BF := Lib.hid B3.out)
    | ((with_reducible refine (HJ.out w3 _ rfl A1 n1 c1 A3 n3 c3 _ ((H1.out.alloc _).below HB3.out) H3.out ((hz.out w1).below HB3.out)).mono ?_); have BF := Lib.hid B3.out)
    | ((with_reducible refine (HJ.out _ _ (World.size_alloc _ _) A1 n1 c1 A3 n3 c3 _ ((H1.out.below HB3.out).alloc _) (H3.out.alloc _) (hz.out w3)).mono ?_); have BF := Lib.hid (B3.out.alloc B3.out.size (.cells R 5))))
  all_goals
    rintro e w4 ⟨A4, n4, c4, rfl, h4, b4, f4⟩
    have B5 := Lib.hid ((BF.out.alloc BF.out.size _).trans (b4.mono (BF.out.alloc BF.out.size _).size))
    have F4 := Lib.hid (fun a ha => Nat.le_trans (BF.out.alloc BF.out.size _).size (f4 a ha))
    have H4 := Lib.hid h4
    clear h4 b4 f4
    go_wp2_with fail
    go_ret
    exact ⟨_, _, _, rfl, H4.out, B5.out, F4.out⟩
end Go.Proofs.YtboaamaneeodfaaGreat.Page
namespace Go.Proofs.YtboaamaneeodfaaGreat.Page
open Go.RowKit Gen

/-- A page's bytes for a sector. -/
def Enc (s : Int) (p : Pg) (l : Bs) : Prop := Fine p ∧ (p.kind = 4 ∧ (s = 0 ∨ s = 1) ∧ l = doubledBs p.epoch (pageBs s p) ∨ p.kind ≠ 4 ∧ Place s ∧ l = summedBs (pageBs s p))
/-- Encode's answer. -/
def Encodes (s : Int) (p : Pg) (w : World) (e : Ending) (w' : World) : Prop :=
  (∃ A n c l, e = .returned (.tuple #[.slice A n c, numV 0]) ∧ BytesAt w' A n c l ∧ Enc s p l ∧ Below w.heap.size w w') ∨ (e = .returned (.tuple #[.slice none 0 0, numV 50]) ∧ (∀ l, ¬ Enc s p l) ∧ Below w.heap.size w w')
theorem pg_keep {b : Nat} (w : World) (p : Pg) (a : Lay) (h : At w b (pgC p a)) : ∀ W, Below w.heap.size w W → W.cell? ⟨b, 0, none⟩ = some (.int .i64 p.kind) ∧ W.cell? ⟨b, 1, none⟩ = some (.slice a.A1 p.pairs.length a.c1) ∧ W.cell? ⟨b, 2, none⟩ = some (.slice a.A2 p.keys.length a.c2) ∧ W.cell? ⟨b, 3, none⟩ = some (.slice a.A3 p.kids.length a.c3) ∧ W.cell? ⟨b, 4, none⟩ = some (.slice a.A4 p.pages.length a.c4) ∧ W.cell? ⟨b, 5, none⟩ = some (.int .i64 p.next) ∧ W.cell? ⟨b, 6, none⟩ = some (.int .u64 (p.epoch : Int)) ∧ W.cell? ⟨b, 7, none⟩ = some (.int .i64 p.root) ∧ W.cell? ⟨b, 8, none⟩ = some (.int .i64 p.depth) ∧ W.cell? ⟨b, 9, none⟩ = some (.int .i64 p.count) ∧ W.cell? ⟨b, 10, none⟩ = some (.int .i64 p.high) := fun W hb => by
  have h := h.below hb h.1
  exact ⟨h.2.2 0 _ rfl, h.2.2 1 _ rfl, h.2.2 2 _ rfl, h.2.2 3 _ rfl, h.2.2 4 _ rfl, h.2.2 5 _ rfl, h.2.2 6 _ rfl, h.2.2 7 _ rfl, h.2.2 8 _ rfl, h.2.2 9 _ rfl, h.2.2 10 _ rfl⟩

theorem pg_box (w : World) (p : Pg) (a : Lay) : At (w.alloc (.cells (pgC p a) 82)) w.heap.size (pgC p a) := At.of_block (heap_alloc_last w _)
theorem alloc_lt (w : World) (o : Obj) : w.heap.size < (w.alloc o).heap.size := by simp
theorem eq_false' {a b : Int} (h : a ≠ b) : (a == b) = false := beq_eq_false_iff_ne.2 h

set_option maxRecDepth 100000 in
theorem encode_not (s : Int) (p : Pg) (a : Lay) (w : World) (hok : PgOk p) (hR : PgRows w p a) (hf : ¬ Fine p) : Calls Tryz.prog 131 #[.int .i64 s, pgV p a] w (Encodes s p w) := by
  have B1 := Lib.hid ((Below.refl w.heap.size w).alloc (Nat.le_refl _) (.cells (pgC p a) 82))
  have AT := Lib.hid (pg_box w p a)
  have LT := Lib.hid (alloc_lt w (.cells (pgC p a) 82))
  have cC := check_any p a (w.alloc (.cells (pgC p a) 82)) hok (hR.below ((Below.refl _ _).alloc (Nat.le_refl _) _))
  have HF := Lib.hid hf
  clear hok hR hf
  unfold pgV
  unfold pgC at B1 cC LT
  go_enter Tryz.func131, Tryz.ntmps131
  go_wp2_with fail
  refine cC.mono ?_
  rintro e w1 ⟨x, rfl, hx, b1⟩
  have B2 := Lib.hid (B1.out.trans (b1.mono B1.out.size))
  have A1 := AT.out.below b1 LT.out
  obtain ⟨rfl, hn⟩ : x = 50 ∧ ¬ Fine p := hx.elim (fun h => absurd h.2 HF.out) id
  clear hx hn A1 b1 cC
  go_wp2_with fail
  go_ret2
  exact .inr ⟨rfl, fun l h => HF.out h.1, B2.out⟩
set_option maxRecDepth 100000 in
theorem encode_plain (s : Int) (p : Pg) (a : Lay) (w : World) (hok : PgOk p) (hR : PgRows w p a) (hf : Fine p) (hk : p.kind ≠ 4) : Calls Tryz.prog 131 #[.int .i64 s, pgV p a] w (Encodes s p w) := by
  have B1 := Lib.hid ((Below.refl w.heap.size w).alloc (Nat.le_refl _) (.cells (pgC p a) 82))
  have AT := Lib.hid (pg_box w p a)
  have LT := Lib.hid (alloc_lt w (.cells (pgC p a) 82))
  have cC := check_any p a (w.alloc (.cells (pgC p a) 82)) hok (hR.below ((Below.refl _ _).alloc (Nat.le_refl _) _))
  have HF := Lib.hid hf
  have HR := Lib.hid (hR.below ((Below.refl w.heap.size w).alloc (Nat.le_refl _) (.cells (pgC p a) 82)))
  have k4 : (p.kind == 4) = false := eq_false' hk
  have k5 : (p.kind != 4) = true := by simp [bne, k4]
  have HK := Lib.hid hk
  clear hok hR hf hk
  unfold pgC at HR
  unfold pgV
  unfold pgC at B1 cC LT
  go_enter Tryz.func131, Tryz.ntmps131
  go_wp2_with fail
  refine cC.mono ?_
  rintro e w1 ⟨x, rfl, hx, b1⟩
  have B2 := Lib.hid (B1.out.trans (b1.mono B1.out.size))
  have A1 := AT.out.below b1 LT.out
  obtain ⟨rfl, -⟩ : x = 0 ∧ Fine p := hx.elim id (fun h => absurd HF.out h.2)
  have HR1 := Lib.hid (HR.out.below b1)
  have c0 := A1.2.2 0 _ rfl
  have c1 := A1.2.2 1 _ rfl
  have c2 := A1.2.2 2 _ rfl
  have c3 := A1.2.2 3 _ rfl
  have c4 := A1.2.2 4 _ rfl
  have c5 := A1.2.2 5 _ rfl
  have c6 := A1.2.2 6 _ rfl
  have c7 := A1.2.2 7 _ rfl
  have c8 := A1.2.2 8 _ rfl
  have c9 := A1.2.2 9 _ rfl
  have c10 := A1.2.2 10 _ rfl
  clear hx A1 b1 cC AT
  go_wp2_with fail
  refine (isPlace_any _ _).mono ?_
  rintro e w' ⟨r, rfl, hr, rfl⟩
  rcases r with _ | _
  · have HN := Lib.hid hr
    clear hr c0 c1 c2 c3 c4 c5 c6 c7 c8 c9 c10
    go_wp2_with fail
    go_ret2
    exact .inr ⟨rfl, fun l h => h.2.elim (fun g => HK.out g.1) (fun g => by cases (HN.out.2 g.2.1)), B2.out⟩
  have HN := Lib.hid (hr.1 rfl)
  clear hr
  have cP := layPage_any s p a w1 HF.out HR1.out (place63 HN.out)
  have HL := Lib.hid (page_len (s := s) HF.out)
  go_wp2_with fail
  refine cP.mono ?_
  rintro e w2 ⟨A2, n2, c2', rfl, h2, b2, -⟩
  have cS := summed_any A2 n2 c2' _ w2 h2 (by rw [← h2.len]; exact HL.out)
  have B3 := Lib.hid (B2.out.trans (b2.mono B2.out.size))
  clear h2 b2 cP c0 c1 c2 c3 c4 c5 c6 c7 c8 c9 c10
  go_wp2_with fail
  refine cS.mono ?_
  rintro e w3 ⟨A3, n3, c3, rfl, h3, b3, -⟩
  have B4 := Lib.hid (B3.out.trans (b3.mono B3.out.size))
  have H3 := Lib.hid h3
  clear h3 b3 cS
  go_wp2_with fail
  go_ret2
  exact .inl ⟨_, _, _, _, rfl, H3.out, ⟨HF.out, .inr ⟨HK.out, HN.out, rfl⟩⟩, B4.out⟩
set_option maxRecDepth 100000 in
theorem encode_super (s : Int) (p : Pg) (a : Lay) (w : World) (hok : PgOk p) (hR : PgRows w p a) (hf : Fine p) (hk : p.kind = 4) : Calls Tryz.prog 131 #[.int .i64 s, pgV p a] w (Encodes s p w) := by
  have B1 := Lib.hid ((Below.refl w.heap.size w).alloc (Nat.le_refl _) (.cells (pgC p a) 82))
  have AT := Lib.hid (pg_box w p a)
  have LT := Lib.hid (alloc_lt w (.cells (pgC p a) 82))
  have cC := check_any p a (w.alloc (.cells (pgC p a) 82)) hok (hR.below ((Below.refl _ _).alloc (Nat.le_refl _) _))
  have HF := Lib.hid hf
  have HR := Lib.hid (hR.below ((Below.refl w.heap.size w).alloc (Nat.le_refl _) (.cells (pgC p a) 82)))
  have k4 : (p.kind == 4) = true := by rw [hk]; rfl
  have k5 : (p.kind != 4) = false := by simp [bne, k4]
  have HK := Lib.hid hk
  have HE := Lib.hid hok.epoch
  clear hok hR hf hk
  unfold pgC at HR
  unfold pgV
  unfold pgC at B1 cC LT
  go_enter Tryz.func131, Tryz.ntmps131
  go_wp2_with fail
  refine cC.mono ?_
  rintro e w1 ⟨x, rfl, hx, b1⟩
  have B2 := Lib.hid (B1.out.trans (b1.mono B1.out.size))
  have A1 := AT.out.below b1 LT.out
  obtain ⟨rfl, -⟩ : x = 0 ∧ Fine p := hx.elim id (fun h => absurd HF.out h.2)
  have HR1 := Lib.hid (HR.out.below b1)
  have KS := Lib.hid (pg_keep w1 p a A1)
  have c0 := A1.2.2 0 _ rfl
  have c1 := A1.2.2 1 _ rfl
  have c2 := A1.2.2 2 _ rfl
  have c3 := A1.2.2 3 _ rfl
  have c4 := A1.2.2 4 _ rfl
  have c5 := A1.2.2 5 _ rfl
  have c6 := A1.2.2 6 _ rfl
  have c7 := A1.2.2 7 _ rfl
  have c8 := A1.2.2 8 _ rfl
  have c9 := A1.2.2 9 _ rfl
  have c10 := A1.2.2 10 _ rfl
  clear hx A1 b1 cC AT
  go_wp2_with fail
  refine (leads_any _ _).mono ?_
  rintro e w' ⟨r, rfl, hr, rfl⟩
  rcases r with _ | _
  · have HN := Lib.hid hr
    clear hr
    go_wp2_with fail
    go_ret2
    exact .inr ⟨rfl, fun l h => h.2.elim (fun g => by cases (HN.out.2 g.2.1)) (fun g => g.1 HK.out), B2.out⟩
  have HN := Lib.hid (hr.1 rfl)
  clear hr c0 c1 c2 c3 c4 c5 c6 c7 c8 c9 c10
  have R0 := Lib.hid (Below.refl w1.heap.size w1).drew
  have K0 := Lib.hid (KS.out _ R0.out)
  have cP := Lib.hid (layPage_any s p a w1.drew HF.out (HR1.out.below R0.out) (by have := HN.out; unfold Nat63; omega))
  have HL := Lib.hid (page_len4 (s := s) HK.out)
  go_wp2_with fail
  go_region_held3 (fun w' => w'.cell? ⟨w.heap.size, 0, none⟩ = some (.int .i64 p.kind) ∧ w'.cell? ⟨w.heap.size, 1, none⟩ = some (.slice a.A1 p.pairs.length a.c1) ∧ w'.cell? ⟨w.heap.size, 2, none⟩ = some (.slice a.A2 p.keys.length a.c2) ∧ w'.cell? ⟨w.heap.size, 3, none⟩ = some (.slice a.A3 p.kids.length a.c3) ∧ w'.cell? ⟨w.heap.size, 4, none⟩ = some (.slice a.A4 p.pages.length a.c4) ∧ w'.cell? ⟨w.heap.size, 5, none⟩ = some (.int .i64 p.next) ∧ w'.cell? ⟨w.heap.size, 6, none⟩ = some (.int .u64 (p.epoch : Int)) ∧ w'.cell? ⟨w.heap.size, 7, none⟩ = some (.int .i64 p.root) ∧ w'.cell? ⟨w.heap.size, 8, none⟩ = some (.int .i64 p.depth) ∧ w'.cell? ⟨w.heap.size, 9, none⟩ = some (.int .i64 p.count) ∧ w'.cell? ⟨w.heap.size, 10, none⟩ = some (.int .i64 p.high))
    (with_reducible (first | exact K0.out | exact K2.out | exact K3.out))
    (first
      | (go_at_call 154; (refine cP.out.mono ?_); rintro e w2 ⟨A2, n2, c2', rfl, h2, b2, -⟩; have R2 := Lib.hid (R0.out.trans (b2.mono R0.out.size)); have K2 := Lib.hid (KS.out _ R2.out); have cD := Lib.hid (doubled_any p.epoch A2 n2 c2' _ w2 HE.out h2 (by rw [← h2.len, HL.out]; omega)); clear h2 b2)
      | (go_at_call 153; (with_reducible refine cD.out.mono ?_); rintro e w3 ⟨A3, n3, c3', rfl, h3, b3, -⟩; have R3 := Lib.hid (R2.out.trans (b3.mono R2.out.size)); have K3 := Lib.hid (KS.out _ R3.out); have H3 := Lib.hid h3; clear h3 b3))
  clear K0 K2 K3
  go_wp2_with fail
  go_ret2
  exact .inl ⟨_, _, _, _, rfl, H3.out, ⟨HF.out, .inl ⟨HK.out, HN.out, rfl⟩⟩, B2.out.trans (R3.out.mono B2.out.size)⟩
theorem encode_any (s : Int) (p : Pg) (a : Lay) (w : World) (hok : PgOk p) (hR : PgRows w p a) : Calls Tryz.prog 131 #[.int .i64 s, pgV p a] w (Encodes s p w) := by
  by_cases hf : Fine p
  · by_cases hk : p.kind = 4
    · exact encode_super s p a w hok hR hf hk
    · exact encode_plain s p a w hok hR hf hk
  · exact encode_not s p a w hok hR hf
end Go.Proofs.YtboaamaneeodfaaGreat.Page
