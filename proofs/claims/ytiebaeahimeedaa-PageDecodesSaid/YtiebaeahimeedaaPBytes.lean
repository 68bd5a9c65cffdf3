/-
  Rows of bytes: a new one that another one's are copied into; beginnings and ends.
-/
import Derived.Test.YtiebaeahimeedaaPPlacesWalk
import Derived.Laws.BitsAllLaws
namespace Go.Proofs.Ytiebaeahimeedaa.Page
open Go.RowKit Gen

theorem own_none (W : World) : OwnG (W.alloc (.cells #[] 5)) 5 byteV W.heap.size (.slice (some ⟨W.heap.size, 0, none⟩) 0 0) [] :=
  ⟨rfl, .inr ⟨W.heap.size, 0, #[], rfl, Nat.le_refl _, heap_alloc_new _ _, Nat.le_refl _, Nat.zero_le _, rfl, rfl⟩⟩
/-- Where the place comes to lie. -/
theorem place1024 (at0 : Int) : ∃ k : Nat, k < 1024 ∧ (at0 < 0 ∧ -((at0 + 1).tmod 1024) = (k : Int) ∨ ¬ at0 < 0 ∧ at0 % 1024 = (k : Int)) := by
  by_cases h : at0 < 0
  · have h1 := Int.emod_nonneg (-(at0 + 1)) (show (1024 : Int) ≠ 0 by omega)
    have h2 := Int.emod_lt_of_pos (-(at0 + 1)) (show (0 : Int) < 1024 by omega)
    refine ⟨(-((at0 + 1).tmod 1024)).toNat, ?_, Or.inl ⟨h, ?_⟩⟩ <;> rw [← Int.neg_tmod, Int.tmod_eq_emod_of_nonneg (by omega)] <;> omega
  · have h1 := Int.emod_nonneg at0 (show (1024 : Int) ≠ 0 by omega)
    have h2 := Int.emod_lt_of_pos at0 (show (0 : Int) < 1024 by omega)
    exact ⟨(at0 % 1024).toNat, by omega, Or.inr ⟨h, by omega⟩⟩
/-- A new row that another one's bytes are copied into. -/
theorem copy_row {w : World} (w1 : World) (A : Option Addr) (n c : Nat) (l : List UInt8) (hl : l.length = n) (hA : A = none → c = 0) (hR : BRow (w1.alloc (.cells #[] 5)) A l) (hn : n ≤ 3000) (h0 : 0 < n) (B1 : Below w.heap.size w w1) :
    ∃ g cap w2, (Builtin.append_ #[30, 30] 30 #[.slice (some ⟨w1.heap.size, 0, none⟩) 0 0, .slice A n c]).run Try.prog (w1.alloc (.cells #[] 5)) = .ok (.slice (some ⟨g, 0, none⟩) n cap) w2 ∧
      w1.heap.size ≤ g ∧ g < w2.heap.size ∧ (∀ j x, l[j]? = some x → w2.cell? ⟨g, j, none⟩ = some (byteV x)) ∧ (∀ j, w2.frozen? ⟨g, j, none⟩ = false) ∧
      (∀ k z, k < n → BytesAt (w2.setCell ⟨g, k, none⟩ (byteV z)) (some ⟨g, 0, none⟩) n cap (l.set k z)) ∧ Below w.heap.size w w2 := by
  obtain ⟨v1, w2, r1, o1, g1, e1⟩ := append_row bytes_elem (w1.alloc (.cells #[] 5)) w1.heap.size (.slice (some ⟨w1.heap.size, 0, none⟩) 0 0) [] (own_none w1) A n c l hl hA hR (by simp; omega) (by simp)
  have B2 : Below w.heap.size w w2 := (B1.alloc B1.size _).grown g1 (B1.alloc B1.size _).size (fun j hj => by simp [Value.ownBlock] at hj; have := B1.size; omega)
  rw [List.nil_append] at o1
  have o2 := o1
  obtain ⟨A3, c3, hv, hA3, hlc, hcm, hrow⟩ := o1.row
  obtain ⟨b, off, hb, hlt, hcell⟩ := hrow (by intro e; subst e; simp at hl; omega)
  obtain ⟨_, ⟨h, hz⟩ | ⟨g, cap, cur, hv2, hg, hh, hnc, hcm2, _, ht⟩⟩ := o2
  · simp [hl] at hz; omega
  · rw [hv2] at hv r1
    injection hv with e1 e2 e3
    subst hb
    injection e1 with e1
    injection e1 with e4 e5
    subst e4 e5
    rw [hl] at r1
    rw [hl] at hlc
    subst e3
    refine ⟨g, cap, w2, r1, hg, hlt, fun j x hx => ?_, fun j => frozen_of_row _ _ _ _ _ hh, fun k z hk => ?_, B2⟩
    · obtain ⟨hj, hx⟩ := List.getElem?_eq_some_iff.1 hx
      have h2 := hcell j hj
      rwa [Nat.zero_add, hx] at h2
    · refine ⟨by rw [List.length_set, hl], by omega, by omega, fun h => (by cases h), fun _ => ?_⟩
      refine ⟨g, 0, rfl, by simpa using hlt, fun j hj => ?_⟩
      rw [List.length_set] at hj
      rw [Nat.zero_add]
      by_cases e : k = j
      · subst e
        have h2 := hcell k (by omega)
        rw [Nat.zero_add] at h2
        rw [World.cell?_setCell_same _ _ _ h2]
        simp
      · rw [World.cell?_setCell_other _ _ _ _ (by intro h; injection h; contradiction)]
        have h2 := hcell j (by omega)
        rw [Nat.zero_add] at h2
        rw [h2, List.getElem_set_ne e]

theorem xor8 (x y : UInt8) : bits .xor .u8 (x.toNat : Int) (y.toNat : Int) = ((x ^^^ y).toNat : Int) := by
  rw [u8_xor_nat _ _ x.toNat_lt y.toNat_lt, UInt8.toNat_xor]
end Go.Proofs.Ytiebaeahimeedaa.Page
