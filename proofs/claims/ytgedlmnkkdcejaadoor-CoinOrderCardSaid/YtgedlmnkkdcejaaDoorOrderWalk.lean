/-
  The walk of CoinOrder.
-/
import Derived.Test.YtgedlmnkkdcejaaDoorAwake
import Derived.Test.YtgedlmnkkdcejaaDoorPartsWalk
import Derived.Deep.RegionLaw
namespace Go.Proofs.YtgedlmnkkdcejaaDoor.Coin
open Go.RowKit

theorem row_drop {w : World} {b o c k : Nat} {zs : List Int} (h : Row w (some ⟨b, o, none⟩) zs) (hz : zs.length ≤ c) (hk : k ≤ zs.length) :
    Row w (if c = k then some ⟨b, o, none⟩ else some ⟨b, o + k, none⟩) (zs.drop k) := by
  intro hne
  have hlt : k < zs.length := by
    rcases Nat.lt_or_ge k zs.length with h' | h'
    · exact h'
    · exact absurd (List.drop_eq_nil_of_le h') hne
  obtain ⟨b', o', he, hb, hc⟩ := h (by intro e; subst e; simp at hlt)
  injection he with he
  injection he with e1 e2
  subst e1; subst e2
  rw [if_neg (by omega)]
  refine ⟨b, o + k, rfl, hb, fun j hj => ?_⟩
  rw [List.length_drop] at hj
  have := hc (k + j) (by omega)
  rw [show o + k + j = o + (k + j) by omega, this]
  simp
theorem row_take {w : World} {A : Option Addr} {zs : List Int} (h : Row w A zs) (k : Nat) : Row w A (zs.take k) := by
  intro hne
  obtain ⟨b, o, rfl, hb, hc⟩ := h (by intro e; subst e; simp at hne)
  refine ⟨b, o, rfl, hb, fun j hj => ?_⟩
  rw [List.length_take] at hj
  rw [hc j (by omega)]
  simp [show j < k by omega]
theorem Row.grown {w w' : World} {A : Option Addr} {zs : List Int} {row : Option Nat} (h : Row w A zs) (hg : w.grownBy w' row) (hr : ∀ b o, A = some ⟨b, o, none⟩ → b < w.heap.size → some b ≠ row) : Row w' A zs := by
  intro hne
  obtain ⟨b, o, rfl, hb, hc⟩ := h hne
  exact ⟨b, o, rfl, Nat.lt_of_lt_of_le hb hg.size, fun k hk => (World.cell?_of_block (hg.block b hb (hr b o rfl hb))).trans (hc k hk)⟩

set_option maxHeartbeats 4000000 in
theorem order_some (b o : Nat) (m c : Nat) (zs : List Int) (k : Nat) (p q : Int) (w : World) (hzl : zs.length = m) (rwl : Row w (some ⟨b, o, none⟩) zs) (am : Amounts zs) (hm : m ≤ 50) (hc : m ≤ c) (hk : k ≤ m) (hb : b < w.heap.size) (p0 : -9223372036854775808 ≤ p) (p1 : p ≤ 9223372036854775807) (q0 : -9223372036854775808 < q) (q1 : q ≤ 9223372036854775807) (hr : Ready w)
    (hp : p < 0 ∧ (-(p + 1)).tmod ((m : Int) + 1) = k ∨ 0 ≤ p ∧ p.tmod ((m : Int) + 1) = k) :
    Calls Tryd.prog 9 #[.slice (some ⟨b, o, none⟩) m c, .int .i64 p, .int .i64 q] w fun e w' => e = .returned (.bool true) ∧ Below w.heap.size w w' := by
  have g1 : decide (50 < m) = false := by simp; omega
  have g2 : (q == -9223372036854775808) = false := by simp; omega
  have hm' : (m : Int) ≤ 50 := by omega
  have kk : (k : Int) ≤ (m : Int) := by omega
  rcases hp with ⟨hp, hpk⟩ | ⟨hp, hpk⟩
  all_goals
    go_enter Tryd.func9, Tryd.ntmps9
    go_wp2_with fail
    refine (awake_any _ hr).mono ?_
    rintro e w1 ⟨rfl, B1⟩
    go_wp2_with fail
    have e1 : -(p + 1).tmod ((m : Int) + 1) = (-(p + 1)).tmod ((m : Int) + 1) := (Int.neg_tmod _ _).symm
    try rw [e1, hpk]
    have k0 : (0 : Int) ≤ (k : Int) := by omega
    have k1 : (k : Int) ≤ (m : Int) := by omega
    have k2 : (k : Int) ≤ (c : Int) := by omega
    have k3 : (m : Int) ≤ (c : Int) := by omega
    clear e1 hpk
    have C1 := B1.alloc B1.size (.cells #[] 2)
    have RW1 := Lib.hid (rwl.below C1)
    have OW := own_none w1
    have L1 : (zs.drop k).length = m - k := by rw [List.length_drop, hzl]
    have L2 : ([] : List Int).length + (m - k) ≤ 1000000000000 := by simp; omega
    have NN : (if c = k then some (⟨b, o, none⟩ : Addr) else some ⟨b, o + k, none⟩) = none → c - k = 0 := by intro h; split at h <;> cases h
    have RD : Row (w1.alloc (.cells #[] 2)).drew (if c = k then some ⟨b, o, none⟩ else some ⟨b, o + k, none⟩) (zs.drop k) := row_drop RW1.out (by omega) (by omega)
    have OD : Own (w1.alloc (.cells #[] 2)).drew w1.heap.size (.slice (some ⟨w1.heap.size, 0, none⟩) 0 0) [] := own_none w1
    have SD : w1.heap.size ≤ (w1.alloc (.cells #[] 2)).drew.heap.size := by simp
    have L3 : (zs.take k).length = k := by rw [List.length_take, hzl]; omega
    have L4 : ([] ++ zs.drop k).length + k ≤ 1000000000000 := by rw [List.nil_append, L1]; omega
    have N2 : (some (⟨b, o, none⟩ : Addr)) = none → c = 0 := by intro h; cases h
    have R2 : ∀ w2, (w1.alloc (.cells #[] 2)).drew.grownBy w2 (Value.ownBlock (.slice (some ⟨w1.heap.size, 0, none⟩) 0 0)) → Row w2 (some ⟨b, o, none⟩) (zs.take k) := fun w2 g2 =>
      row_take (Row.grown (w := (w1.alloc (.cells #[] 2)).drew) RW1.out g2 (fun b' o' he _ => by
        injection he with he; injection he with e1 e2; subst e1
        simp [Value.ownBlock]; have := B1.size; omega)) k
    have S2 : ∀ w2, (w1.alloc (.cells #[] 2)).drew.grownBy w2 (Value.ownBlock (.slice (some ⟨w1.heap.size, 0, none⟩) 0 0)) → w1.heap.size ≤ w2.heap.size := fun w2 g2 => by have := g2.size; simp at this; omega
    have HR2 := Lib.hid R2
    have HS2 := Lib.hid S2
    have HL1 := Lib.hid L1
    have HL3 := Lib.hid L3
    clear R2 S2 L1 L3
    go_region_law (first
      | (refine step_append_row rfl (.tmp 35) (.tmp 38) rfl rfl w1.heap.size (.slice (some ⟨w1.heap.size, 0, none⟩) 0 0) [] _ _ _ (zs.drop k) rfl rfl OD HL1.out NN RD L2 SD ?_; intro v2 w2 o2 g2 e2)
      | (refine step_append_row rfl (.tmp 39) (.tmp 42) rfl rfl w1.heap.size v2 ([] ++ zs.drop k) _ _ _ (zs.take k) rfl rfl o2 HL3.out N2 (HR2.out _ g2) L4 (HS2.out _ g2) ?_; intro v3 w3 o3 g3 e3))
    have B2 : Below w.heap.size w w2 := C1.drew.grown g2 (by have := B1.size; simp; omega) (fun j hj => by simp [Value.ownBlock] at hj; have := B1.size; omega)
    have B3 : Below w.heap.size w w3 := B2.grown g3 B2.size (fun j hj => by
      rcases e2 with e2 | e2
      · rw [e2] at hj; simp [Value.ownBlock] at hj; have := B1.size; omega
      · rw [e2] at hj; simp at hj; have := B1.size; omega)
    have S3 : w1.heap.size ≤ w3.heap.size := Nat.le_trans (HS2.out w2 g2) g3.size
    have o3' : Own w3 w1.heap.size v3 (zs.drop k ++ zs.take k) := o3
    obtain ⟨A3, c3, rfl, N3, R3⟩ := o3'.row
    have HT1 := Lib.hid (show (zs.drop k ++ zs.take k).length = m by rw [List.length_append, List.length_drop, List.length_take, hzl]; omega)
    have HT2 := Lib.hid (show (zs.drop k ++ zs.take k).sum = zs.sum by rw [List.sum_append, Int.add_comm, ← List.sum_append, List.take_append_drop])
    have HT3 := Lib.hid (show Amounts (zs.drop k ++ zs.take k) from fun z hz => by
      rcases List.mem_append.1 hz with h | h
      · exact am z (List.mem_of_mem_drop h)
      · exact am z (List.mem_of_mem_take h))
    have HR3 := Lib.hid R3
    have HB3 := Lib.hid B3
    clear HR2 HS2 HL1 HL3 OD RD NN SD L2 L4 N2 RW1 C1 OW o2 g2 e2 o3 g3 e3 o3' B2 R3 B3 B1
    generalize zs.drop k ++ zs.take k = ts at *
    generalize (if c = k then (some ⟨b, o, none⟩ : Option Addr) else some ⟨b, o + k, none⟩) = A2
    have Q1 : Own (w3.alloc (.cells #[.int .i64 q] 2)) w1.heap.size (.slice (some ⟨w3.heap.size, 0, none⟩) 1 1) [q] :=
      ⟨rfl, .inr ⟨w3.heap.size, 1, #[.int .i64 q], rfl, S3, heap_alloc_new _ _, Nat.le_refl _, by unfold maxLen; omega, rfl, rfl⟩⟩
    have R4 : Row (w3.alloc (.cells #[.int .i64 q] 2)) A3 ts := HR3.out.below ((Below.refl _ _).alloc (Nat.le_refl _) _)
    have L5 : ([q] : List Int).length + ts.length ≤ 1000000000000 := by have := HT1.out; simp; omega
    have S4 : w1.heap.size ≤ (w3.alloc (.cells #[.int .i64 q] 2)).heap.size := by simp; omega
    obtain ⟨v4, w4, r4, o4, g4, e4⟩ := append_row _ w1.heap.size _ [q] Q1 A3 ts.length c3 ts rfl N3 R4 L5 S4
    have D4 : Below w3.heap.size w3 w4 := ((Below.refl _ _).alloc (Nat.le_refl _) _).grown g4 (by simp) (fun j hj => by simp [Value.ownBlock] at hj; omega)
    have R5 : Row (w4.alloc (.cells #[.int .i64 (-q)] 2)) (some ⟨w4.heap.size, 0, none⟩) [-q] := fun _ => ⟨w4.heap.size, 0, rfl, by simp, fun j hj => by
      obtain rfl : j = 0 := by simp at hj; omega
      simp [go_sem]⟩
    obtain ⟨v5, w5, r5, o5, g5, e5⟩ := append_row _ w1.heap.size _ ([q] ++ ts) (World.ownsRow.alloc o4 (.cells #[.int .i64 (-q)] 2)) (some ⟨w4.heap.size, 0, none⟩) 1 1 [-q] rfl (fun h => by cases h) R5 (by have := HT1.out; simp; omega)
      (by have := D4.size; simp; omega)
    have D5 : Below w3.heap.size w3 w5 := (D4.alloc D4.size _).grown g5 (by have := D4.size; simp; omega) (fun j hj => by
      rcases e4 with e4 | e4
      · rw [e4] at hj; simp [Value.ownBlock] at hj; omega
      · rw [e4] at hj; simp at hj; omega)
    have O5 := Lib.hid (show Own w5 w1.heap.size v5 ([q] ++ ts ++ [-q]) from o5)
    have B5 : Below w.heap.size w w5 := HB3.out.trans (D5.mono HB3.out.size)
    have R5' : Row w5 A3 ts := HR3.out.below D5
    have K4 := Lib.hid r4
    have K5 := Lib.hid r5
    have HRL := Lib.hid (rwl.below B5)
    have HR5 := Lib.hid R5'
    clear Q1 R4 L5 S4 r4 o4 g4 e4 R5 r5 o5 g5 e5 D4 D5 R5'
    go_wp2_with (at_builtin; first
      | (refine wpList_append_eq rfl (.tmp 45) (.tmp 46) _ rfl rfl rfl K4.out ?_; clear K4)
      | (refine wpList_append_eq rfl (.tmp 47) (.tmp 50) _ rfl rfl rfl K5.out ?_; clear K5))
    refine (sum_any _ m c zs w5 hzl (by omega) HRL.out am).mono ?_
    rintro e w6 ⟨rfl, c6⟩
    have B6 := B5.trans (c6.mono B5.size)
    go_wp2_with fail
    refine (sum_any A3 ts.length c3 ts w6 rfl (by have := HT1.out; omega) (HR5.out.below c6) HT3.out).mono ?_
    rintro e w7 ⟨rfl, c7⟩
    have B7 := B6.trans (c7.mono B6.size)
    rw [HT2.out]
    go_wp2_with fail
    obtain ⟨A5, c5, rfl, N5, R5⟩ := O5.out.row
    refine (sum_any A5 _ c5 ([q] ++ ts ++ [-q]) w7 rfl (by have := HT1.out; simp; omega) ((R5.below c6).below c7) ?_).mono ?_
    · intro z hz
      simp at hz
      rcases hz with rfl | hz | rfl
      · omega
      · exact HT3.out z hz
      · omega
    rintro e w8 ⟨rfl, c8⟩
    have B8 := B7.trans (c8.mono B7.size)
    rw [show ([q] ++ ts ++ [-q]).sum = zs.sum by rw [List.sum_append, List.sum_append, HT2.out]; simp; omega]
    go_wp2
    go_ret
    exact ⟨rfl, B8⟩
set_option maxHeartbeats 4000000 in
theorem order_nil (p q : Int) (w : World) (p0 : -9223372036854775808 ≤ p) (p1 : p ≤ 9223372036854775807) (q0 : -9223372036854775808 < q) (q1 : q ≤ 9223372036854775807) (hr : Ready w) (hp : p < 0 ∨ 0 ≤ p) :
    Calls Tryd.prog 9 #[.slice (none : Option Addr) 0 0, .int .i64 p, .int .i64 q] w fun e w' => e = .returned (.bool true) ∧ Below w.heap.size w w' := by
  have g2 : (q == -9223372036854775808) = false := by simp; omega
  rcases hp with hp | hp
  all_goals
    go_enter Tryd.func9, Tryd.ntmps9
    go_wp2_with fail
    refine (awake_any _ hr).mono ?_
    rintro e w1 ⟨rfl, B1⟩
    go_wp2_with fail
    have C1 := B1.alloc B1.size (.cells #[] 2)
    have OD : Own (w1.alloc (.cells #[] 2)).drew w1.heap.size (.slice (some ⟨w1.heap.size, 0, none⟩) 0 0) [] := own_none w1
    have SD : w1.heap.size ≤ (w1.alloc (.cells #[] 2)).drew.heap.size := by simp
    have L2 : ([] : List Int).length + 0 ≤ 1000000000000 := by simp
    have NN : (none : Option Addr) = none → 0 = 0 := by intro h; first | rfl | cases h
    have RN : ∀ W : World, Row W (none : Option Addr) [] := fun W h => absurd rfl h
    have S2 : ∀ w2, (w1.alloc (.cells #[] 2)).drew.grownBy w2 (Value.ownBlock (.slice (some ⟨w1.heap.size, 0, none⟩) 0 0)) → w1.heap.size ≤ w2.heap.size := fun w2 g2 => by have := g2.size; simp at this; omega
    have HRN := Lib.hid RN
    have HS2 := Lib.hid S2
    clear RN S2
    go_region_law (first
      | (refine step_append_row rfl (.tmp 35) (.tmp 38) rfl rfl w1.heap.size (.slice (some ⟨w1.heap.size, 0, none⟩) 0 0) [] _ _ _ [] rfl rfl OD rfl NN (HRN.out _) L2 SD ?_; intro v2 w2 o2 g2 e2)
      | (refine step_append_row rfl (.tmp 39) (.tmp 42) rfl rfl w1.heap.size v2 ([] ++ []) _ _ _ [] rfl rfl o2 rfl NN (HRN.out _) L2 (HS2.out _ g2) ?_; intro v3 w3 o3 g3 e3))
    have B2 : Below w.heap.size w w2 := C1.drew.grown g2 (by have := B1.size; simp; omega) (fun j hj => by simp [Value.ownBlock] at hj; have := B1.size; omega)
    have B3 : Below w.heap.size w w3 := B2.grown g3 B2.size (fun j hj => by
      rcases e2 with e2 | e2
      · rw [e2] at hj; simp [Value.ownBlock] at hj; have := B1.size; omega
      · rw [e2] at hj; simp at hj; have := B1.size; omega)
    have S3 : w1.heap.size ≤ w3.heap.size := Nat.le_trans (HS2.out w2 g2) g3.size
    have o3' : Own w3 w1.heap.size v3 (([] : List Int) ++ []) := o3
    obtain ⟨A3, c3, rfl, N3, R3⟩ := o3'.row
    have HT1 := Lib.hid (show (([] : List Int) ++ []).length = 0 from rfl)
    have HT2 := Lib.hid (show (([] : List Int) ++ []).sum = ([] : List Int).sum from rfl)
    have HT3 := Lib.hid (show Amounts (([] : List Int) ++ []) from fun z hz => by cases hz)
    have HR3 := Lib.hid R3
    have HB3 := Lib.hid B3
    clear HS2 OD NN SD L2 C1 o2 g2 e2 o3 g3 e3 o3' B2 R3 B3 B1
    generalize ([] : List Int) ++ [] = ts at *
    have Q1 : Own (w3.alloc (.cells #[.int .i64 q] 2)) w1.heap.size (.slice (some ⟨w3.heap.size, 0, none⟩) 1 1) [q] :=
      ⟨rfl, .inr ⟨w3.heap.size, 1, #[.int .i64 q], rfl, S3, heap_alloc_new _ _, Nat.le_refl _, by unfold maxLen; omega, rfl, rfl⟩⟩
    have R4 : Row (w3.alloc (.cells #[.int .i64 q] 2)) A3 ts := HR3.out.below ((Below.refl _ _).alloc (Nat.le_refl _) _)
    have L5 : ([q] : List Int).length + ts.length ≤ 1000000000000 := by have := HT1.out; simp; omega
    have S4 : w1.heap.size ≤ (w3.alloc (.cells #[.int .i64 q] 2)).heap.size := by simp; omega
    obtain ⟨v4, w4, r4, o4, g4, e4⟩ := append_row _ w1.heap.size _ [q] Q1 A3 ts.length c3 ts rfl N3 R4 L5 S4
    have D4 : Below w3.heap.size w3 w4 := ((Below.refl _ _).alloc (Nat.le_refl _) _).grown g4 (by simp) (fun j hj => by simp [Value.ownBlock] at hj; omega)
    have R5 : Row (w4.alloc (.cells #[.int .i64 (-q)] 2)) (some ⟨w4.heap.size, 0, none⟩) [-q] := fun _ => ⟨w4.heap.size, 0, rfl, by simp, fun j hj => by
      obtain rfl : j = 0 := by simp at hj; omega
      simp [go_sem]⟩
    obtain ⟨v5, w5, r5, o5, g5, e5⟩ := append_row _ w1.heap.size _ ([q] ++ ts) (World.ownsRow.alloc o4 (.cells #[.int .i64 (-q)] 2)) (some ⟨w4.heap.size, 0, none⟩) 1 1 [-q] rfl (fun h => by cases h) R5 (by have := HT1.out; simp; omega)
      (by have := D4.size; simp; omega)
    have D5 : Below w3.heap.size w3 w5 := (D4.alloc D4.size _).grown g5 (by have := D4.size; simp; omega) (fun j hj => by
      rcases e4 with e4 | e4
      · rw [e4] at hj; simp [Value.ownBlock] at hj; omega
      · rw [e4] at hj; simp at hj; omega)
    have O5 := Lib.hid (show Own w5 w1.heap.size v5 ([q] ++ ts ++ [-q]) from o5)
    have B5 : Below w.heap.size w w5 := HB3.out.trans (D5.mono HB3.out.size)
    have R5' : Row w5 A3 ts := HR3.out.below D5
    have K4 := Lib.hid r4
    have K5 := Lib.hid r5
    have HR5 := Lib.hid R5'
    clear Q1 R4 L5 S4 r4 o4 g4 e4 R5 r5 o5 g5 e5 D4 D5 R5'
    go_wp2_with (at_builtin; first
      | (refine wpList_append_eq rfl (.tmp 45) (.tmp 46) _ rfl rfl rfl K4.out ?_; clear K4)
      | (refine wpList_append_eq rfl (.tmp 47) (.tmp 50) _ rfl rfl rfl K5.out ?_; clear K5))
    refine (sum_any (none : Option Addr) 0 0 [] w5 rfl (by omega) (HRN.out _) (fun z hz => by cases hz)).mono ?_
    rintro e w6 ⟨rfl, c6⟩
    have B6 := B5.trans (c6.mono B5.size)
    go_wp2_with fail
    refine (sum_any A3 ts.length c3 ts w6 rfl (by have := HT1.out; omega) (HR5.out.below c6) HT3.out).mono ?_
    rintro e w7 ⟨rfl, c7⟩
    have B7 := B6.trans (c7.mono B6.size)
    rw [HT2.out]
    go_wp2_with fail
    obtain ⟨A5, c5, rfl, N5, R5⟩ := O5.out.row
    refine (sum_any A5 _ c5 ([q] ++ ts ++ [-q]) w7 rfl (by have := HT1.out; simp; omega) ((R5.below c6).below c7) ?_).mono ?_
    · intro z hz
      simp at hz
      rcases hz with rfl | hz | rfl
      · omega
      · exact HT3.out z hz
      · omega
    rintro e w8 ⟨rfl, c8⟩
    have B8 := B7.trans (c8.mono B7.size)
    rw [show ([q] ++ ts ++ [-q]).sum = ([] : List Int).sum by rw [List.sum_append, List.sum_append, HT2.out]; simp; omega]
    go_wp2
    go_ret
    exact ⟨rfl, B8⟩
set_option maxHeartbeats 4000000 in
theorem order_zero (a : Addr) (c : Nat) (p q : Int) (w : World) (p0 : -9223372036854775808 ≤ p) (p1 : p ≤ 9223372036854775807) (q0 : -9223372036854775808 < q) (q1 : q ≤ 9223372036854775807) (hr : Ready w) (hp : p < 0 ∨ 0 ≤ p) :
    Calls Tryd.prog 9 #[.slice (some a) 0 c, .int .i64 p, .int .i64 q] w fun e w' => e = .returned (.bool true) ∧ Below w.heap.size w w' := by
  have g2 : (q == -9223372036854775808) = false := by simp; omega
  rcases hp with hp | hp
  all_goals
    go_enter Tryd.func9, Tryd.ntmps9
    go_wp2_with fail
    refine (awake_any _ hr).mono ?_
    rintro e w1 ⟨rfl, B1⟩
    go_wp2_with fail
    have C1 := B1.alloc B1.size (.cells #[] 2)
    have OD : Own (w1.alloc (.cells #[] 2)).drew w1.heap.size (.slice (some ⟨w1.heap.size, 0, none⟩) 0 0) [] := own_none w1
    have SD : w1.heap.size ≤ (w1.alloc (.cells #[] 2)).drew.heap.size := by simp
    have L2 : ([] : List Int).length + 0 ≤ 1000000000000 := by simp
    have NN : (some a) = none → c = 0 := by intro h; first | rfl | cases h
    have RN : ∀ W : World, Row W (some a) [] := fun W h => absurd rfl h
    have S2 : ∀ w2, (w1.alloc (.cells #[] 2)).drew.grownBy w2 (Value.ownBlock (.slice (some ⟨w1.heap.size, 0, none⟩) 0 0)) → w1.heap.size ≤ w2.heap.size := fun w2 g2 => by have := g2.size; simp at this; omega
    have HRN := Lib.hid RN
    have HS2 := Lib.hid S2
    clear RN S2
    go_region_law (first
      | (refine step_append_row rfl (.tmp 35) (.tmp 38) rfl rfl w1.heap.size (.slice (some ⟨w1.heap.size, 0, none⟩) 0 0) [] _ _ _ [] rfl rfl OD rfl NN (HRN.out _) L2 SD ?_; intro v2 w2 o2 g2 e2)
      | (refine step_append_row rfl (.tmp 39) (.tmp 42) rfl rfl w1.heap.size v2 ([] ++ []) _ _ _ [] rfl rfl o2 rfl NN (HRN.out _) L2 (HS2.out _ g2) ?_; intro v3 w3 o3 g3 e3))
    have B2 : Below w.heap.size w w2 := C1.drew.grown g2 (by have := B1.size; simp; omega) (fun j hj => by simp [Value.ownBlock] at hj; have := B1.size; omega)
    have B3 : Below w.heap.size w w3 := B2.grown g3 B2.size (fun j hj => by
      rcases e2 with e2 | e2
      · rw [e2] at hj; simp [Value.ownBlock] at hj; have := B1.size; omega
      · rw [e2] at hj; simp at hj; have := B1.size; omega)
    have S3 : w1.heap.size ≤ w3.heap.size := Nat.le_trans (HS2.out w2 g2) g3.size
    have o3' : Own w3 w1.heap.size v3 (([] : List Int) ++ []) := o3
    obtain ⟨A3, c3, rfl, N3, R3⟩ := o3'.row
    have HT1 := Lib.hid (show (([] : List Int) ++ []).length = 0 from rfl)
    have HT2 := Lib.hid (show (([] : List Int) ++ []).sum = ([] : List Int).sum from rfl)
    have HT3 := Lib.hid (show Amounts (([] : List Int) ++ []) from fun z hz => by cases hz)
    have HR3 := Lib.hid R3
    have HB3 := Lib.hid B3
    clear HS2 OD NN SD L2 C1 o2 g2 e2 o3 g3 e3 o3' B2 R3 B3 B1
    generalize ([] : List Int) ++ [] = ts at *
    have Q1 : Own (w3.alloc (.cells #[.int .i64 q] 2)) w1.heap.size (.slice (some ⟨w3.heap.size, 0, none⟩) 1 1) [q] :=
      ⟨rfl, .inr ⟨w3.heap.size, 1, #[.int .i64 q], rfl, S3, heap_alloc_new _ _, Nat.le_refl _, by unfold maxLen; omega, rfl, rfl⟩⟩
    have R4 : Row (w3.alloc (.cells #[.int .i64 q] 2)) A3 ts := HR3.out.below ((Below.refl _ _).alloc (Nat.le_refl _) _)
    have L5 : ([q] : List Int).length + ts.length ≤ 1000000000000 := by have := HT1.out; simp; omega
    have S4 : w1.heap.size ≤ (w3.alloc (.cells #[.int .i64 q] 2)).heap.size := by simp; omega
    obtain ⟨v4, w4, r4, o4, g4, e4⟩ := append_row _ w1.heap.size _ [q] Q1 A3 ts.length c3 ts rfl N3 R4 L5 S4
    have D4 : Below w3.heap.size w3 w4 := ((Below.refl _ _).alloc (Nat.le_refl _) _).grown g4 (by simp) (fun j hj => by simp [Value.ownBlock] at hj; omega)
    have R5 : Row (w4.alloc (.cells #[.int .i64 (-q)] 2)) (some ⟨w4.heap.size, 0, none⟩) [-q] := fun _ => ⟨w4.heap.size, 0, rfl, by simp, fun j hj => by
      obtain rfl : j = 0 := by simp at hj; omega
      simp [go_sem]⟩
    obtain ⟨v5, w5, r5, o5, g5, e5⟩ := append_row _ w1.heap.size _ ([q] ++ ts) (World.ownsRow.alloc o4 (.cells #[.int .i64 (-q)] 2)) (some ⟨w4.heap.size, 0, none⟩) 1 1 [-q] rfl (fun h => by cases h) R5 (by have := HT1.out; simp; omega)
      (by have := D4.size; simp; omega)
    have D5 : Below w3.heap.size w3 w5 := (D4.alloc D4.size _).grown g5 (by have := D4.size; simp; omega) (fun j hj => by
      rcases e4 with e4 | e4
      · rw [e4] at hj; simp [Value.ownBlock] at hj; omega
      · rw [e4] at hj; simp at hj; omega)
    have O5 := Lib.hid (show Own w5 w1.heap.size v5 ([q] ++ ts ++ [-q]) from o5)
    have B5 : Below w.heap.size w w5 := HB3.out.trans (D5.mono HB3.out.size)
    have R5' : Row w5 A3 ts := HR3.out.below D5
    have K4 := Lib.hid r4
    have K5 := Lib.hid r5
    have HR5 := Lib.hid R5'
    clear Q1 R4 L5 S4 r4 o4 g4 e4 R5 r5 o5 g5 e5 D4 D5 R5'
    go_wp2_with (at_builtin; first
      | (refine wpList_append_eq rfl (.tmp 45) (.tmp 46) _ rfl rfl rfl K4.out ?_; clear K4)
      | (refine wpList_append_eq rfl (.tmp 47) (.tmp 50) _ rfl rfl rfl K5.out ?_; clear K5))
    refine (sum_any (some a) 0 c [] w5 rfl (by omega) (HRN.out _) (fun z hz => by cases hz)).mono ?_
    rintro e w6 ⟨rfl, c6⟩
    have B6 := B5.trans (c6.mono B5.size)
    go_wp2_with fail
    refine (sum_any A3 ts.length c3 ts w6 rfl (by have := HT1.out; omega) (HR5.out.below c6) HT3.out).mono ?_
    rintro e w7 ⟨rfl, c7⟩
    have B7 := B6.trans (c7.mono B6.size)
    rw [HT2.out]
    go_wp2_with fail
    obtain ⟨A5, c5, rfl, N5, R5⟩ := O5.out.row
    refine (sum_any A5 _ c5 ([q] ++ ts ++ [-q]) w7 rfl (by have := HT1.out; simp; omega) ((R5.below c6).below c7) ?_).mono ?_
    · intro z hz
      simp at hz
      rcases hz with rfl | hz | rfl
      · omega
      · exact HT3.out z hz
      · omega
    rintro e w8 ⟨rfl, c8⟩
    have B8 := B7.trans (c8.mono B7.size)
    rw [show ([q] ++ ts ++ [-q]).sum = ([] : List Int).sum by rw [List.sum_append, List.sum_append, HT2.out]; simp; omega]
    go_wp2
    go_ret
    exact ⟨rfl, B8⟩

set_option maxHeartbeats 1000000 in
theorem order_long (A : Option Addr) (m c : Nat) (p q : Int) (w : World) (hm : m ≤ maxLen) (hr : Ready w) (h : 50 < m ∨ m ≤ 50 ∧ q = -9223372036854775808) :
    Calls Tryd.prog 9 #[.slice A m c, .int .i64 p, .int .i64 q] w fun e w' => e = .returned (.bool true) ∧ Below w.heap.size w w' := by
  unfold maxLen at hm
  rcases h with h | ⟨h, rfl⟩
  · go_enter Tryd.func9, Tryd.ntmps9
    go_wp2_with fail
    refine (awake_any _ hr).mono ?_
    rintro e w1 ⟨rfl, B1⟩
    go_wp2
    go_ret
    exact ⟨rfl, B1⟩
  · have g1 : decide (50 < m) = false := by simp; omega
    go_enter Tryd.func9, Tryd.ntmps9
    go_wp2_with fail
    refine (awake_any _ hr).mono ?_
    rintro e w1 ⟨rfl, B1⟩
    go_wp2
    go_ret
    exact ⟨rfl, B1⟩

theorem order_walk (A : Option Addr) (m c : Nat) (zs : List Int) (p q : Int) (w : World) (z : zs.length = m) (y : m ≤ c) (x : c ≤ maxLen) (nl : A = none → c = 0) (rwl : Row w A zs) (am : Amounts zs)
    (p0 : -9223372036854775808 ≤ p) (p1 : p ≤ 9223372036854775807) (q0 : -9223372036854775808 ≤ q) (q1 : q ≤ 9223372036854775807) (hr : Ready w) :
    Calls Tryd.prog 9 #[.slice A m c, .int .i64 p, .int .i64 q] w fun e w' => e = .returned (.bool true) ∧ Below w.heap.size w w' := by
  by_cases h : 50 < m ∨ m ≤ 50 ∧ q = -9223372036854775808
  · exact order_long A m c p q w (by omega) hr h
  · have hp : p < 0 ∨ 0 ≤ p := by omega
    rcases A with _ | a
    · obtain rfl : c = 0 := nl rfl
      obtain rfl : m = 0 := by omega
      exact order_nil p q w p0 p1 (by omega) q1 hr hp
    · by_cases h0 : m = 0
      · subst h0
        exact order_zero a c p q w p0 p1 (by omega) q1 hr hp
      · obtain ⟨b, o, he, hb, _⟩ := rwl (by intro e; subst e; exact h0 z.symm)
        injection he with he
        subst he
        rcases hp with hp | hp
        · have t0 := Int.emod_nonneg (-(p + 1)) (show (m : Int) + 1 ≠ 0 by omega)
          have t1 := Int.emod_lt_of_pos (-(p + 1)) (show 0 < (m : Int) + 1 by omega)
          obtain ⟨k, hk⟩ := Int.eq_ofNat_of_zero_le t0
          exact order_some b o m c zs k p q w z rwl am (by omega) y (by omega) hb p0 p1 (by omega) q1 hr (.inl ⟨hp, by rw [Int.tmod_eq_emod_of_nonneg (by omega)]; exact hk⟩)
        · have t0 := Int.emod_nonneg p (show (m : Int) + 1 ≠ 0 by omega)
          have t1 := Int.emod_lt_of_pos p (show 0 < (m : Int) + 1 by omega)
          obtain ⟨k, hk⟩ := Int.eq_ofNat_of_zero_le t0
          exact order_some b o m c zs k p q w z rwl am (by omega) y (by omega) hb p0 p1 (by omega) q1 hr (.inr ⟨hp, by rw [Int.tmod_eq_emod_of_nonneg hp]; exact hk⟩)
end Go.Proofs.YtgedlmnkkdcejaaDoor.Coin
