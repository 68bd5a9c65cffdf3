/-
  The walk of CrcTurns.
-/
import Derived.Test.YtneoioaknoddfaaCTellsWalk
import Derived.Laws.BitsAllLaws
import Derived.Deep.RegionWith
import Derived.Deep.RegionHeld3
namespace Go.Proofs.Ytneoioaknoddfaa.Crc
open Go.RowKit Gen

theorem bytes_elem : Elem Try.prog 23 5 byteV :=
  ⟨Try.underlying23, ⟨_, _, 1, rfl, rfl, rfl, rfl, rfl, by omega⟩, fun _ => rfl⟩
theorem own_none (W : World) : OwnG (W.alloc (.cells #[] 5)) 5 byteV W.heap.size (.slice (some ⟨W.heap.size, 0, none⟩) 0 0) [] :=
  ⟨rfl, .inr ⟨W.heap.size, 0, #[], rfl, Nat.le_refl _, heap_alloc_new _ _, Nat.le_refl _, Nat.zero_le _, rfl, rfl⟩⟩
/-- Where the place comes to lie. -/
theorem place_at (at0 : Int) (n : Nat) (hn : 0 < n) : ∃ k : Nat, k < n ∧ (at0 < 0 ∧ -((at0 + 1).tmod (n : Int)) = (k : Int) ∨ ¬ at0 < 0 ∧ at0 % (n : Int) = (k : Int)) := by
  by_cases h : at0 < 0
  · have h1 := Int.emod_nonneg (-(at0 + 1)) (show (n : Int) ≠ 0 by omega)
    have h2 := Int.emod_lt_of_pos (-(at0 + 1)) (show (0 : Int) < (n : Int) by omega)
    refine ⟨(-((at0 + 1).tmod (n : Int))).toNat, ?_, Or.inl ⟨h, ?_⟩⟩ <;> rw [← Int.neg_tmod, Int.tmod_eq_emod_of_nonneg (by omega)] <;> omega
  · have h1 := Int.emod_nonneg at0 (show (n : Int) ≠ 0 by omega)
    have h2 := Int.emod_lt_of_pos at0 (show (0 : Int) < (n : Int) by omega)
    exact ⟨(at0 % (n : Int)).toNat, by omega, Or.inr ⟨h, by omega⟩⟩

/-- A new row that another one's bytes are copied into. -/
theorem copy_row {w : World} (w1 : World) (A : Option Addr) (n c : Nat) (l : List UInt8) (hl : l.length = n) (hA : A = none → c = 0) (hR : BRow (w1.alloc (.cells #[] 5)) A l) (hn : n ≤ 3000) (h0 : 0 < n) (B1 : Below w.heap.size w w1) :
    ∃ g cap w2, (Builtin.append_ #[23, 23] 23 #[.slice (some ⟨w1.heap.size, 0, none⟩) 0 0, .slice A n c]).run Try.prog (w1.alloc (.cells #[] 5)) = .ok (.slice (some ⟨g, 0, none⟩) n cap) w2 ∧
      w1.heap.size ≤ g ∧ g < w2.heap.size ∧ (∀ j x, l[j]? = some x → w2.cell? ⟨g, j, none⟩ = some (byteV x)) ∧ (∀ j, w2.frozen? ⟨g, j, none⟩ = false) ∧
      (∀ k z, k < n → BRow (w2.setCell ⟨g, k, none⟩ (byteV z)) (some ⟨g, 0, none⟩) (l.set k z)) ∧ Below w.heap.size w w2 := by
  obtain ⟨v1, w2, r1, o1, g1, e1⟩ := append_row bytes_elem (w1.alloc (.cells #[] 5)) w1.heap.size (.slice (some ⟨w1.heap.size, 0, none⟩) 0 0) [] (own_none w1) A n c l hl hA hR (by simp; omega) (by simp)
  have B2 : Below w.heap.size w w2 := (B1.alloc B1.size _).grown g1 (B1.alloc B1.size _).size (fun j hj => by simp [Value.ownBlock] at hj; have := B1.size; omega)
  rw [List.nil_append] at o1
  have o2 := o1
  obtain ⟨A3, c3, hv, hA3, hlc, hcm, hrow⟩ := o1.row
  obtain ⟨b, off, hb, hlt, hcell⟩ := hrow (by intro e; subst e; simp at hl; omega)
  obtain ⟨_, ⟨h, hz⟩ | ⟨g, cap, cur, hv2, hg, hh, hnc, hcm2, _, ht⟩⟩ := o2
  · simp [hl] at hz; omega
  · rw [hv2] at hv r1
    injection hv with e1 e2 e3
    subst hb
    injection e1 with e1
    injection e1 with e4 e5
    subst e4 e5
    rw [hl] at r1
    refine ⟨g, cap, w2, r1, hg, hlt, fun j x hx => ?_, fun j => frozen_of_row _ _ _ _ _ hh, fun k z hk => ?_, B2⟩
    · obtain ⟨hj, hx⟩ := List.getElem?_eq_some_iff.1 hx
      have h2 := hcell j hj
      rwa [Nat.zero_add, hx] at h2
    · intro _
      refine ⟨g, 0, rfl, by simpa using hlt, fun j hj => ?_⟩
      rw [List.length_set] at hj
      rw [Nat.zero_add]
      by_cases e : k = j
      · subst e
        have h2 := hcell k (by omega)
        rw [Nat.zero_add] at h2
        rw [World.cell?_setCell_same _ _ _ h2]
        simp
      · rw [World.cell?_setCell_other _ _ _ _ (by intro h; injection h; contradiction)]
        have h2 := hcell j (by omega)
        rw [Nat.zero_add] at h2
        rw [h2, List.getElem_set_ne e]

theorem xor8 (x y : UInt8) : bits .xor .u8 (x.toNat : Int) (y.toNat : Int) = ((x ^^^ y).toNat : Int) := by
  rw [u8_xor_nat _ _ x.toNat_lt y.toNat_lt, UInt8.toNat_xor]
/-- One byte that is another one, in the walk's own words. -/
theorem turns_bool (l : List UInt8) (k : Nat) (hk : k < l.length) (y : UInt8) : ((((more 0 (l.set k (l[k] ^^^ y)) : Nat) : Int) == ((more 0 l : Nat) : Int)) == ((y.toNat : Int) == 0)) = true := by
  have e1 : l.set k (l[k] ^^^ y) = l.take k ++ (l[k] ^^^ y) :: l.drop (k + 1) := List.set_eq_take_append_cons_drop ▸ by rw [if_pos hk]
  have e2 : l = l.take k ++ l[k] :: l.drop (k + 1) := by rw [← List.drop_eq_getElem_cons hk, List.take_append_drop]
  have h := more_turns (l.take k) (l.drop (k + 1)) (l[k] ^^^ y) l[k] (s := 0) (by omega)
  rw [← e1, ← e2] at h
  refine eq_bool (r := y.toNat) (s := 0) (h.trans ⟨fun e => ?_, fun e => ?_⟩)
  · have h2 := congrArg (fun x => l[k] ^^^ x) e
    simp only [← UInt8.xor_assoc, UInt8.xor_self, UInt8.zero_xor] at h2
    rw [h2]; rfl
  · rw [show y = 0 from UInt8.toNat_inj.1 e, UInt8.xor_zero]

set_option maxHeartbeats 4000000 in
set_option maxRecDepth 100000 in
theorem turns_core (A : Option Addr) (n c k : Nat) (l : List UInt8) (at0 : Int) (y : UInt8) (w : World) (hl : l.length = n) (hA : A = none → c = 0) (hR : BRow w A l) (b1 : -9223372036854775808 ≤ at0) (b2 : at0 ≤ 9223372036854775807) (h1 : n ≤ 3000) (h0 : 0 < n) (hk : k < n)
    (hq : at0 < 0 ∧ -((at0 + 1).tmod (n : Int)) = (k : Int) ∨ ¬ at0 < 0 ∧ at0 % (n : Int) = (k : Int)) :
    Calls Try.prog 5 #[.slice A n c, .int .i64 at0, .int .u8 (y.toNat : Int)] w fun e w' => e = .returned (.bool true) ∧ Below w.heap.size w w' := by
  have hb8 := xor8 (l[k]'(by omega)) y
  have HF := Lib.hid (turns_bool l k (by omega) y)
  obtain ⟨x, hxk⟩ : ∃ x, l[k]'(by omega) = x := ⟨_, rfl⟩
  rw [hxk] at hb8 HF
  have HX : Hid (l[k]? = some x) := Lib.hid (by rw [List.getElem?_eq_getElem (by omega), hxk])
  clear hxk
  generalize x ^^^ y = z at hb8 HF
  have HR := Lib.hid hR
  have HL := Lib.hid hl
  have HA := Lib.hid hA
  clear hR hl hA
  have h3 : decide (3000 < (n : Int)) = false := by simp; omega
  have h4 : ((n : Int) == 0) = false := by simp; omega
  rcases hq with ⟨hcut, hq⟩ | ⟨hcut, hq⟩
  · have hgt : decide (at0 < 0) = true := by simp; omega
    go_enter Try.func5, Try.ntmps5
    go_wp2_with fail
    refine (awake_any _).mono ?_
    rintro e w1 ⟨rfl, B1⟩
    obtain ⟨g, cap, w2, r1, hgb, hgs, hcell, hfz, hrow, B2⟩ := copy_row (w := w) w1 A n c l HL.out HA.out (HR.out.below (B1.alloc B1.size _)) (by omega) h0 B1
    have R1 := Lib.hid r1
    have hck := hcell k x HX.out
    have hfk := hfz k
    have HROW := Lib.hid (hrow k z hk)
    have B3 := Lib.hid (B2.setCell (p := ⟨g, k, none⟩) (Nat.le_trans B1.size hgb) (byteV z))
    clear r1 hcell hfz hrow B1 B2
    go_wp2_with (at_builtin; (refine wpList_append_eq rfl (.tmp 28) (.tmp 29) _ rfl rfl rfl R1.out ?_; clear R1))
    refine (sum_any _ n cap (l.set k z) _ (by rw [List.length_set, HL.out]) (by omega) HROW.out).mono ?_
    rintro e w3 ⟨rfl, c3⟩
    have B4 := B3.out.trans (c3.mono B3.out.size)
    clear c3 B3
    go_wp2_with fail
    refine (sum_any A n c l _ HL.out (by omega) (HR.out.below B4)).mono ?_
    rintro e w4 ⟨rfl, c4⟩
    have B5 := B4.trans (c4.mono B4.size)
    clear B4 c4
    go_wp2
    go_ret
    exact ⟨congrArg (fun x => Ending.returned (.bool x)) HF.out, B5⟩
  · have hgt : decide (at0 < 0) = false := by simp; omega
    go_enter Try.func5, Try.ntmps5
    go_wp2_with fail
    refine (awake_any _).mono ?_
    rintro e w1 ⟨rfl, B1⟩
    obtain ⟨g, cap, w2, r1, hgb, hgs, hcell, hfz, hrow, B2⟩ := copy_row (w := w) w1 A n c l HL.out HA.out (HR.out.below (B1.alloc B1.size _)) (by omega) h0 B1
    have R1 := Lib.hid r1
    have hck := hcell k x HX.out
    have hfk := hfz k
    have HROW := Lib.hid (hrow k z hk)
    have B3 := Lib.hid (B2.setCell (p := ⟨g, k, none⟩) (Nat.le_trans B1.size hgb) (byteV z))
    clear r1 hcell hfz hrow B1 B2
    go_wp2_with (at_builtin; (refine wpList_append_eq rfl (.tmp 28) (.tmp 29) _ rfl rfl rfl R1.out ?_; clear R1))
    refine (sum_any _ n cap (l.set k z) _ (by rw [List.length_set, HL.out]) (by omega) HROW.out).mono ?_
    rintro e w3 ⟨rfl, c3⟩
    have B4 := B3.out.trans (c3.mono B3.out.size)
    clear c3 B3
    go_wp2_with fail
    refine (sum_any A n c l _ HL.out (by omega) (HR.out.below B4)).mono ?_
    rintro e w4 ⟨rfl, c4⟩
    have B5 := B4.trans (c4.mono B4.size)
    clear B4 c4
    go_wp2
    go_ret
    exact ⟨congrArg (fun x => Ending.returned (.bool x)) HF.out, B5⟩

set_option maxRecDepth 100000 in
theorem turns_walk (A : Option Addr) (n c : Nat) (l : List UInt8) (at0 : Int) (y : UInt8) (w : World) (hl : l.length = n) (hn : n ≤ 9223372036854775807) (hA : A = none → c = 0) (hR : BRow w A l) (b1 : -9223372036854775808 ≤ at0) (b2 : at0 ≤ 9223372036854775807) :
    Calls Try.prog 5 #[.slice A n c, .int .i64 at0, .int .u8 (y.toNat : Int)] w fun e w' => e = .returned (.bool true) ∧ Below w.heap.size w w' := by
  by_cases h1 : 3000 < n
  · clear hR hl hA
    go_enter Try.func5, Try.ntmps5
    go_wp2_with fail
    refine (awake_any _).mono ?_
    rintro e w1 ⟨rfl, B1⟩
    go_wp2
    go_ret
    exact ⟨rfl, B1⟩
  · by_cases h0 : n = 0
    · subst h0
      clear hR hl hA
      go_enter Try.func5, Try.ntmps5
      go_wp2_with fail
      refine (awake_any _).mono ?_
      rintro e w1 ⟨rfl, B1⟩
      go_wp2
      go_ret
      exact ⟨rfl, B1⟩
    · obtain ⟨k, hk, hq⟩ := place_at at0 n (by omega)
      exact turns_core A n c k l at0 y w hl hA hR b1 b2 (by omega) (by omega) hk hq
end Go.Proofs.Ytneoioaknoddfaa.Crc
