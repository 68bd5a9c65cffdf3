/-
  The walk of CrcThree.
-/
import Derived.Test.YtneoioaknoddfaaCTurnsWalk
namespace Go.Proofs.Ytneoioaknoddfaa.Crc
open Go.RowKit Gen

theorem three_len : ∀ (a b c : List UInt8), a.length = b.length → a.length = c.length → (three a b c).length = a.length
  | [], _, _, _, _ => rfl
  | _ :: _, [], _, h, _ => by simp at h
  | _ :: _, _ :: _, [], _, h => by simp at h
  | _ :: a, _ :: b, _ :: c, h1, h2 => by simp [three, three_len a b c (by simpa using h1) (by simpa using h2)]
theorem three_snoc : ∀ (a b c : List UInt8) (x y z : UInt8), a.length = b.length → a.length = c.length → three (a ++ [x]) (b ++ [y]) (c ++ [z]) = three a b c ++ [x ^^^ y ^^^ z]
  | [], b, c, x, y, z, h1, h2 => by
    obtain rfl : b = [] := List.eq_nil_of_length_eq_zero h1.symm
    obtain rfl : c = [] := List.eq_nil_of_length_eq_zero h2.symm
    rfl
  | _ :: _, [], _, _, _, _, h, _ => by simp at h
  | _ :: _, _ :: _, [], _, _, _, _, h => by simp at h
  | _ :: a, _ :: b, _ :: c, x, y, z, h1, h2 => by simp [three, three_snoc a b c x y z (by simpa using h1) (by simpa using h2)]

/-- A byte of a row. -/
theorem BRow.cell {w : World} {A : Option Addr} {l : List UInt8} (h : BRow w A l) {k : Nat} (hk : k < l.length) : ∃ b off, A = some ⟨b, off, none⟩ ∧ w.cell? ⟨b, off + k, none⟩ = some (byteV l[k]) := by
  obtain ⟨b, off, e, _, hc⟩ := h (by intro e; subst e; simp at hk)
  exact ⟨b, off, e, hc k hk⟩

theorem three_le : ∀ (a b c : List UInt8), (three a b c).length ≤ a.length
  | [], _, _ => by simp [three]
  | _ :: _, [], _ => by simp [three]
  | _ :: _, _ :: _, [] => by simp [three]
  | _ :: a, _ :: b, _ :: c => by have := three_le a b c; simp [three]; omega
theorem three_step (a b c : List UInt8) (k : Nat) (hk : k < a.length) (h1 : a.length = b.length) (h2 : a.length = c.length) :
    ∃ p q r : UInt8, a[k] = p ∧ b[k] = q ∧ c[k] = r ∧ Hid (three (a.take (k + 1)) (b.take (k + 1)) (c.take (k + 1)) = three (a.take k) (b.take k) (c.take k) ++ [p ^^^ q ^^^ r]) :=
  ⟨_, _, _, rfl, rfl, rfl, Lib.hid (by
    rw [List.take_succ_eq_append_getElem hk, List.take_succ_eq_append_getElem (show k < b.length by omega), List.take_succ_eq_append_getElem (show k < c.length by omega)]
    exact three_snoc _ _ _ _ _ _ (by simp; omega) (by simp; omega))⟩
theorem cell_lt {w : World} {b o : Nat} {v : Value} (h : w.cell? ⟨b, o, none⟩ = some v) : b < w.heap.size := by
  rcases Nat.lt_or_ge b w.heap.size with h' | h'
  · exact h'
  · simp [World.cell?, Array.getElem?_eq_none h'] at h
theorem cell_below {w w' : World} {b o : Nat} {v : Value} (h : w.cell? ⟨b, o, none⟩ = some v) (hb : Below w.heap.size w w') : w'.cell? ⟨b, o, none⟩ = some v := by
  rw [hb.cell (p := ⟨b, o, none⟩) (cell_lt h)]; exact h
theorem three_keep {w1 : World} {b1 o1 b2 o2 b3 o3 : Nat} {u v x : Value} (h1 : w1.cell? ⟨b1, o1, none⟩ = some u) (h2 : w1.cell? ⟨b2, o2, none⟩ = some v) (h3 : w1.cell? ⟨b3, o3, none⟩ = some x) :
    ∀ W, Below w1.heap.size w1 W → W.cell? ⟨b1, o1, none⟩ = some u ∧ W.cell? ⟨b2, o2, none⟩ = some v ∧ W.cell? ⟨b3, o3, none⟩ = some x :=
  fun _ hb => ⟨cell_below h1 hb, cell_below h2 hb, cell_below h3 hb⟩
theorem one_row (wr : World) (z : UInt8) : RowG (wr.drew.alloc (.cells #[byteV z] 5)) byteV (some ⟨wr.heap.size, 0, none⟩) [z] :=
  lit_row wr.drew #[byteV z] 5 (0, 0) [z] fun k hk => match k, hk with
    | 0, _ => rfl
    | n + 1, h => by simp at h

set_option maxHeartbeats 4000000 in
set_option maxRecDepth 100000 in
theorem three_core (A1 A2 A3 : Option Addr) (n c1 c2 c3 : Nat) (a b c : List UInt8) (w : World) (l1 : a.length = n) (l2 : b.length = n) (l3 : c.length = n) (h1 : n ≤ 3000) (hR1 : BRow w A1 a) (hR2 : BRow w A2 b) (hR3 : BRow w A3 c) :
    Calls Try.prog 7 #[.slice A1 n c1, .slice A2 n c2, .slice A3 n c3] w fun e w' => e = .returned (.bool true) ∧ Below w.heap.size w w' := by
  have HR1 := Lib.hid hR1
  have HR2 := Lib.hid hR2
  have HR3 := Lib.hid hR3
  have L1 := Lib.hid l1
  have L2 := Lib.hid l2
  have L3 := Lib.hid l3
  clear hR1 hR2 hR3 l1 l2 l3
  have h3 : decide (3000 < (n : Int)) = false := by simp; omega
  go_enter Try.func7, Try.ntmps7
  go_wp2_with fail
  refine (awake_any _).mono ?_
  rintro e w1 ⟨rfl, B1⟩
  go_wp2_with fail
  go_loopw [8, 9] (fun v i wr => ∃ k : Nat, k ≤ n ∧ i = .int .i64 k ∧ OwnG wr 5 byteV w1.heap.size v (three (a.take k) (b.take k) (c.take k)) ∧ Below w1.heap.size w1 wr) (fun _ i _ => n - (intOf i).toNat)
  case atStart => exact ⟨0, Nat.zero_le _, rfl, OwnG.nil _ _ _ _, Below.refl _ _⟩
  case round =>
    obtain ⟨k, hk, rfl, hO, hB⟩ := hrel
    have HO := Lib.hid hO
    have HB := Lib.hid hB
    clear hO hB
    by_cases hlt : k < n
    · have hkI : (k : Int) < (n : Int) := by omega
      have hk0 : (0 : Int) ≤ (k : Int) := by omega
      obtain ⟨b1, o1, rfl, d1⟩ := BRow.cell (HR1.out.below B1) (k := k) (by have := L1.out; omega)
      obtain ⟨b2, o2, rfl, d2⟩ := BRow.cell (HR2.out.below B1) (k := k) (by have := L2.out; omega)
      obtain ⟨b3, o3, rfl, d3⟩ := BRow.cell (HR3.out.below B1) (k := k) (by have := L3.out; omega)
      obtain ⟨p, q, r, e1, e2, e3, HN⟩ := three_step a b c k (by have := L1.out; omega) (by rw [L1.out, L2.out]) (by rw [L1.out, L3.out])
      rw [e1] at d1
      rw [e2] at d2
      rw [e3] at d3
      clear e1 e2 e3
      have f1 := xor8 p q
      have f2 := xor8 (p ^^^ q) r
      generalize p ^^^ q = pq at f1 f2 HN
      generalize pq ^^^ r = z at f2 HN
      have KS := Lib.hid (three_keep d1 d2 d3)
      have HLT := Lib.hid (show (three (a.take k) (b.take k) (c.take k)).length ≤ 3000 from Nat.le_trans (three_le _ _ _) (by rw [List.length_take]; omega))
      clear d1 d2 d3
      generalize three (a.take k) (b.take k) (c.take k) = ys at HO HN HLT
      go_wp2_with fail
      go_region_held3 (fun w' => w'.cell? ⟨b1, o1 + k, none⟩ = some (byteV p) ∧ w'.cell? ⟨b2, o2 + k, none⟩ = some (byteV q) ∧ w'.cell? ⟨b3, o3 + k, none⟩ = some (byteV r))
        (first | exact KS.out _ HB.out | exact KS.out _ HB.out.drew | exact KS.out _ (HB.out.drew.alloc HB.out.size _) | exact KS.out _ B3)
        ((refine step_append_row bytes_elem (by rfl) (.tmp 35) (.tmp 50) (by rfl) (by rfl) w1.heap.size u8 ys (some ⟨wr.heap.size, 0, none⟩) 1 1 [z] (by rfl) (by rfl) (HO.out.kept ((Below.refl _ _).drew.alloc (Nat.le_refl _) _)) rfl (fun h => by cases h) (one_row wr z) (by have := HLT.out; simp; omega) (HB.out.drew.alloc HB.out.size (.cells #[byteV z] 5)).size ?_; intro v3 w3 O3 G3 E3; have B3 : Below w1.heap.size w1 w3 := below_grown (HB.out.drew.alloc HB.out.size _) (HO.out.kept ((Below.refl _ _).drew.alloc (Nat.le_refl _) _)) G3 (HB.out.drew.alloc HB.out.size _).size))
      have HO3 := Lib.hid O3
      clear O3 G3 E3
      go_wp2
      go_roundw
      case rel =>
        refine ⟨k + 1, by omega, by go_num, ?_, B3⟩
        rw [HN.out]; exact HO3.out
      case measure => simp [intOf]; omega
    · obtain rfl : k = n := by omega
      have e1 : a.take k = a := List.take_of_length_le (by rw [L1.out]; omega)
      have e2 : b.take k = b := List.take_of_length_le (by rw [L2.out]; omega)
      have e3 : c.take k = c := List.take_of_length_le (by rw [L3.out]; omega)
      rw [e1, e2, e3] at HO
      clear e1 e2 e3
      have hln := three_len a b c (by rw [L1.out, L2.out]) (by rw [L1.out, L3.out])
      rw [L1.out] at hln
      obtain ⟨A4, c4, hv, _, _, _, R4⟩ := HO.out.row
      rw [hln] at hv
      have B2 := B1.trans (HB.out.mono B1.size)
      have M3 := more_three a b c (by rw [L1.out, L2.out]) (by rw [L1.out, L3.out])
      have x1 := xor_nat (more 0 a) (more 0 b) _ _ (more_lt a (by omega)) (more_lt b (by omega)) rfl rfl
      have x2 := xor_nat (more 0 a ^^^ more 0 b) (more 0 c) _ _ (xor_lt (more_lt a (by omega)) (more_lt b (by omega))) (more_lt c (by omega)) rfl rfl
      rw [← M3] at x2
      clear M3
      have HL4 := Lib.hid hln
      have HR4 := Lib.hid R4
      clear hln R4 HO HB B1
      rw [hv]
      go_wp2_with fail
      refine (sum_any A4 k c4 _ _ HL4.out (by omega) HR4.out).mono ?_
      rintro e w3 ⟨rfl, c5⟩
      have B3 := B2.trans (c5.mono B2.size)
      clear B2 c5
      generalize more 0 (three a b c) = m4 at x2 ⊢
      go_wp2_with fail
      refine (sum_any A1 k c1 a _ L1.out (by omega) (HR1.out.below B3)).mono ?_
      rintro e w4 ⟨rfl, c5⟩
      have B4 := B3.trans (c5.mono B3.size)
      clear B3 c5
      go_wp2_with fail
      refine (sum_any A2 k c2 b _ L2.out (by omega) (HR2.out.below B4)).mono ?_
      rintro e w5 ⟨rfl, c5⟩
      have B5 := B4.trans (c5.mono B4.size)
      clear B4 c5
      go_wp2_with fail
      refine (sum_any A3 k c3 c _ L3.out (by omega) (HR3.out.below B5)).mono ?_
      rintro e w6 ⟨rfl, c5⟩
      have B6 := B5.trans (c5.mono B5.size)
      clear B5 c5
      go_wp2
      go_ret
      exact ⟨rfl, B6⟩

set_option maxRecDepth 100000 in
theorem three_walk (A1 A2 A3 : Option Addr) (n1 n2 n3 c1 c2 c3 : Nat) (a b c : List UInt8) (w : World) (l1 : a.length = n1) (l2 : b.length = n2) (l3 : c.length = n3) (h1 : n1 ≤ 9223372036854775807) (h2 : n2 ≤ 9223372036854775807) (h3 : n3 ≤ 9223372036854775807) (hR1 : BRow w A1 a) (hR2 : BRow w A2 b) (hR3 : BRow w A3 c) :
    Calls Try.prog 7 #[.slice A1 n1 c1, .slice A2 n2 c2, .slice A3 n3 c3] w fun e w' => e = .returned (.bool true) ∧ Below w.heap.size w w' := by
  by_cases g1 : 3000 < n1
  · clear hR1 hR2 hR3 l1 l2 l3
    go_enter Try.func7, Try.ntmps7
    go_wp2_with fail
    refine (awake_any _).mono ?_
    rintro e w1 ⟨rfl, B1⟩
    go_wp2
    go_ret
    exact ⟨rfl, B1⟩
  · have d1 : decide (3000 < (n1 : Int)) = false := by simp; omega
    by_cases g2 : n1 = n2
    · subst g2
      by_cases g3 : n1 = n3
      · subst g3
        exact three_core A1 A2 A3 n1 c1 c2 c3 a b c w l1 l2 l3 (by omega) hR1 hR2 hR3
      · have d3 : ((n1 : Int) != (n3 : Int)) = true := by simp; omega
        clear hR1 hR2 hR3 l1 l2 l3
        go_enter Try.func7, Try.ntmps7
        go_wp2_with fail
        refine (awake_any _).mono ?_
        rintro e w1 ⟨rfl, B1⟩
        go_wp2
        go_ret
        exact ⟨rfl, B1⟩
    · have d2 : ((n1 : Int) != (n2 : Int)) = true := by simp; omega
      clear hR1 hR2 hR3 l1 l2 l3
      go_enter Try.func7, Try.ntmps7
      go_wp2_with fail
      refine (awake_any _).mono ?_
      rintro e w1 ⟨rfl, B1⟩
      go_wp2
      go_ret
      exact ⟨rfl, B1⟩
end Go.Proofs.Ytneoioaknoddfaa.Crc
