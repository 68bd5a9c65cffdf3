/-
  The walk of CrcParts.
-/
import Derived.Test.YtneoioaknoddfaaCAwake
import Derived.Deep.RegionWith
import Derived.Deep.RegionHeld3
namespace Go.Proofs.Ytneoioaknoddfaa.Crc
open Go.RowKit Gen

theorem BRow.take {w : World} {A : Option Addr} {l : List UInt8} (h : BRow w A l) (k : Nat) : BRow w A (l.take k) := fun hne => by
  obtain ⟨b, off, e, hb, hc⟩ := h (by intro e; subst e; simp at hne)
  refine ⟨b, off, e, hb, fun j hj => ?_⟩
  rw [List.length_take] at hj
  rw [hc j (by omega), List.getElem_take]
theorem BRow.drop {w : World} {b off : Nat} {l : List UInt8} (h : BRow w (some ⟨b, off, none⟩) l) (k : Nat) : BRow w (some ⟨b, off + k, none⟩) (l.drop k) := fun hne => by
  obtain ⟨b', off', e, hb, hc⟩ := h (by intro e; subst e; simp at hne)
  injection e with e
  injection e with e1 e2
  subst e1 e2
  refine ⟨_, _, rfl, hb, fun j hj => ?_⟩
  rw [List.length_drop] at hj
  rw [Nat.add_assoc, hc (k + j) (by omega), List.getElem_drop]

/-- Where the cut comes to lie. -/
theorem cut_at (cut : Int) (n : Nat) : (cut < 0 ∧ ∃ k : Nat, -((cut + 1).tmod ((n : Int) + 1)) = (k : Int) ∧ k ≤ n) ∨ (¬ cut < 0 ∧ ∃ k : Nat, cut % ((n : Int) + 1) = (k : Int) ∧ k ≤ n) := by
  by_cases h : cut < 0
  · refine Or.inl ⟨h, (-((cut + 1).tmod ((n : Int) + 1))).toNat, ?_, ?_⟩
    · rw [← Int.neg_tmod, Int.tmod_eq_emod_of_nonneg (by omega)]
      have := Int.emod_nonneg (-(cut + 1)) (show (n : Int) + 1 ≠ 0 by omega)
      omega
    · rw [← Int.neg_tmod, Int.tmod_eq_emod_of_nonneg (by omega)]
      have := Int.emod_lt_of_pos (-(cut + 1)) (show (0 : Int) < (n : Int) + 1 by omega)
      omega
  · refine Or.inr ⟨h, (cut % ((n : Int) + 1)).toNat, ?_, ?_⟩
    · have := Int.emod_nonneg cut (show (n : Int) + 1 ≠ 0 by omega)
      omega
    · have := Int.emod_lt_of_pos cut (show (0 : Int) < (n : Int) + 1 by omega)
      omega

set_option maxHeartbeats 4000000 in
set_option maxRecDepth 100000 in
/-- The slice's place is a letter, and what is behind the cut may be nothing at all. -/
theorem parts_core (A A2 : Option Addr) (n c k c2 : Nat) (l : List UInt8) (cut : Int) (w : World) (hl : l.length = n) (hn : n ≤ c) (hc : c ≤ 9223372036854775807) (hR : BRow w A l) (b1 : -9223372036854775808 ≤ cut) (b2 : cut ≤ 9223372036854775807) (h1 : n ≤ 3000) (hk : k ≤ n)
    (hq : cut < 0 ∧ -((cut + 1).tmod ((n : Int) + 1)) = (k : Int) ∨ ¬ cut < 0 ∧ cut % ((n : Int) + 1) = (k : Int))
    (s1 : ∀ W, (Instr.slice 23 (.slice A n c) none (some (.int .i64 k)) none).run Try.prog W = .ok (.slice A k c) W)
    (s2 : ∀ W, (Instr.slice 23 (.slice A n c) (some (.int .i64 k)) none none).run Try.prog W = .ok (.slice A2 (n - k) c2) W) (hR2 : BRow w A2 (l.drop k)) :
    Calls Try.prog 4 #[.slice A n c, .int .i64 cut] w fun e w' => e = .returned (.bool true) ∧ Below w.heap.size w w' := by
  have HR := Lib.hid hR
  have HL := Lib.hid hl
  clear hR hl
  have h3 : decide (3000 < (n : Int)) = false := by simp; omega
  have i0 : (0 : Int) ≤ (k : Int) := by omega
  have i1 : (k : Int) ≤ (n : Int) := by omega
  have i2 : (k : Int) ≤ (c : Int) := by omega
  have i3 : (n : Int) ≤ (c : Int) := by omega
  have HT := Lib.hid (fun W (hW : Below w.heap.size w W) => sum_any A k c (l.take k) W (by rw [List.length_take]; have := HL.out; omega) (by omega) (BRow.take (HR.out.below hW) k))
  have HS := Lib.hid (fun W (hW : Below w.heap.size w W) => sum_any A n c l W HL.out (by omega) (HR.out.below hW))
  have HM := Lib.hid (fun W (hW : Below w.heap.size w W) => more_any (more 0 (l.take k)) A2 (n - k) c2 (l.drop k) W (more_lt _ (by omega)) (by rw [List.length_drop, HL.out]) (by omega) (hR2.below hW))
  have HN := Lib.hid (fun W => more_any (more 0 l) none 0 0 [] W (more_lt _ (by omega)) rfl (by omega) (nil_row _))
  simp only [more_append, List.take_append_drop, more_nil] at HM HN
  generalize hm : n - k = m at HM s2
  clear hm hR2
  rcases hq with ⟨hcut, hq⟩ | ⟨hcut, hq⟩
  · have hgt : decide (cut < 0) = true := by simp; omega
    go_enter Try.func4, Try.ntmps4
    go_wp2_with fail
    refine (awake_any _).mono ?_
    rintro e w1 ⟨rfl, B1⟩
    go_wp2_with fail
    go_region_held3 (fun _ => True) (trivial) (first
      | (go_at_call 11; refine (HT.out _ B1.drew).mono ?_; rintro e w2 ⟨rfl, c2⟩; have B2 := B1.drew.trans (c2.mono B1.drew.size); clear B1 c2)
      | (go_at_call 9; refine (HM.out _ B2).mono ?_; rintro e w3 ⟨rfl, c3⟩; have B3 := B2.trans (c3.mono B2.size); clear B2 c3)
      | (go_at_call 11; refine (HS.out _ B3).mono ?_; rintro e w4 ⟨rfl, c4⟩; have B4 := B3.trans (c4.mono B3.size); clear B3 c4)
      | (go_at_call 11; refine (HS.out _ B4).mono ?_; rintro e w5 ⟨rfl, c5⟩; have B5 := B4.trans (c5.mono B4.size); clear B4 c5)
      | (go_at_call 9; refine (HN.out _).mono ?_; rintro e w6 ⟨rfl, c6⟩; have B6 := B5.trans (c6.mono B5.size); clear B5 c6)
      | (go_at_call 11; refine (HS.out _ B6).mono ?_; rintro e w7 ⟨rfl, c7⟩; have B7 := B6.trans (c7.mono B6.size); clear B6 c7))
    go_wp2
    go_ret
    exact ⟨rfl, B7⟩
  · have hgt : decide (cut < 0) = false := by simp; omega
    go_enter Try.func4, Try.ntmps4
    go_wp2_with fail
    refine (awake_any _).mono ?_
    rintro e w1 ⟨rfl, B1⟩
    go_wp2_with fail
    go_region_held3 (fun _ => True) (trivial) (first
      | (go_at_call 11; refine (HT.out _ B1.drew).mono ?_; rintro e w2 ⟨rfl, c2⟩; have B2 := B1.drew.trans (c2.mono B1.drew.size); clear B1 c2)
      | (go_at_call 9; refine (HM.out _ B2).mono ?_; rintro e w3 ⟨rfl, c3⟩; have B3 := B2.trans (c3.mono B2.size); clear B2 c3)
      | (go_at_call 11; refine (HS.out _ B3).mono ?_; rintro e w4 ⟨rfl, c4⟩; have B4 := B3.trans (c4.mono B3.size); clear B3 c4)
      | (go_at_call 11; refine (HS.out _ B4).mono ?_; rintro e w5 ⟨rfl, c5⟩; have B5 := B4.trans (c5.mono B4.size); clear B4 c5)
      | (go_at_call 9; refine (HN.out _).mono ?_; rintro e w6 ⟨rfl, c6⟩; have B6 := B5.trans (c6.mono B5.size); clear B5 c6)
      | (go_at_call 11; refine (HS.out _ B6).mono ?_; rintro e w7 ⟨rfl, c7⟩; have B7 := B6.trans (c7.mono B6.size); clear B6 c7))
    go_wp2
    go_ret
    exact ⟨rfl, B7⟩
theorem add_zero (a : Addr) : a.add 0 = a := by unfold Addr.add; split <;> simp_all
theorem add_none (b o j : Nat) : (⟨b, o, none⟩ : Addr).add j = ⟨b, o + j, none⟩ := by unfold Addr.add; split <;> simp_all
theorem elem_bytes : Try.prog.underlying 23 = some (.slice (Try.prog.elem 23)) := by kernel_rfl
theorem size_byte (w : World) : (sizeOf (Try.prog.elem 23)).run Try.prog w = .ok 1 w := by kernel_rfl
theorem head_run (A : Option Addr) (n c k : Nat) (h : k ≤ c) (W : World) : (Instr.slice 23 (.slice A n c) none (some (.int .i64 k)) none).run Try.prog W = .ok (.slice A k c) W := by
  rw [run_slice_h W 23 A n c elem_bytes .i64 (k : Int) (by omega) (by omega), size_byte]
  unfold sliced
  rcases A with _ | a
  · simp [Result.andThen]
  · simp [Result.andThen, add_zero]
theorem tail_run (A : Option Addr) (n c k : Nat) (h : k ≤ n) (W : World) : (Instr.slice 23 (.slice A n c) (some (.int .i64 k)) none none).run Try.prog W = .ok (.slice (if c = k then A else A.map (·.add k)) (n - k) (c - k)) W := by
  rw [run_slice_l W 23 A n c elem_bytes .i64 (k : Int) (by omega) (by omega), size_byte]
  unfold sliced
  simp [Result.andThen]

set_option maxRecDepth 100000 in
theorem parts_walk (A : Option Addr) (n c : Nat) (l : List UInt8) (cut : Int) (w : World) (hl : l.length = n) (hn : n ≤ c) (hc : c ≤ 9223372036854775807) (hR : BRow w A l) (b1 : -9223372036854775808 ≤ cut) (b2 : cut ≤ 9223372036854775807) :
    Calls Try.prog 4 #[.slice A n c, .int .i64 cut] w fun e w' => e = .returned (.bool true) ∧ Below w.heap.size w w' := by
  by_cases h1 : 3000 < n
  · clear hR hl
    go_enter Try.func4, Try.ntmps4
    go_wp2_with fail
    refine (awake_any _).mono ?_
    rintro e w1 ⟨rfl, B1⟩
    go_wp2
    go_ret
    exact ⟨rfl, B1⟩
  · obtain ⟨k, hk, hq⟩ : ∃ k : Nat, k ≤ n ∧ (cut < 0 ∧ -((cut + 1).tmod ((n : Int) + 1)) = (k : Int) ∨ ¬ cut < 0 ∧ cut % ((n : Int) + 1) = (k : Int)) := by
      rcases cut_at cut n with ⟨h, k, e, hk⟩ | ⟨h, k, e, hk⟩
      · exact ⟨k, hk, Or.inl ⟨h, e⟩⟩
      · exact ⟨k, hk, Or.inr ⟨h, e⟩⟩
    refine parts_core A _ n c k _ l cut w hl hn hc hR b1 b2 (by omega) hk hq (head_run A n c k (by omega)) (tail_run A n c k hk) ?_
    intro hne
    have hkl : k < n := by
      rcases Nat.lt_or_ge k n with h | h
      · exact h
      · exact absurd (List.drop_eq_nil_of_le (by omega)) hne
    obtain ⟨b, off, rfl, hb, hcell⟩ := hR (by intro e; subst e; simp at hne)
    rw [if_neg (by omega)]
    simp only [Option.map_some, add_none]
    exact BRow.drop (l := l) (fun _ => ⟨b, off, rfl, hb, hcell⟩) k hne
end Go.Proofs.Ytneoioaknoddfaa.Crc
