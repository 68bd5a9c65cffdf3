/-
  The reference's Parse, put together; and the walk of CoinTexts.
-/
import Derived.Test.YtgedlmnkkdcejaaDoorRefParse
namespace Go.Proofs.YtgedlmnkkdcejaaDoor.Coin
open Go.RowKit
open Go.Lib (itoa decDigits)

/-- The number that digits are. -/
def nv (l : List UInt8) : Nat := l.foldl (fun a c => a * 10 + (c.toNat - 48)) 0
theorem nv_snoc (l : List UInt8) (c : UInt8) : nv (l ++ [c]) = nv l * 10 + (c.toNat - 48) := by simp [nv, List.foldl_append]
theorem nv_dec (u : Nat) : nv (decDigits u) = u := by
  induction u using Nat.strongRecOn with
  | ind u ih =>
    rw [decDigits]
    by_cases h : u < 10
    · rw [dif_pos h, show [UInt8.ofNat (48 + u)] = [] ++ [UInt8.ofNat (48 + u)] from rfl, nv_snoc, dig_toNat u h]; simp [nv]
    · rw [dif_neg h, nv_snoc, ih (u / 10) (by omega), dig_toNat (u % 10) (by omega)]; omega
theorem fold_ge : ∀ (l : List UInt8) (a : Nat), a ≤ l.foldl (fun a c => a * 10 + (c.toNat - 48)) a
  | [], _ => Nat.le_refl _
  | c :: l, a => Nat.le_trans (by omega) (fold_ge l (a * 10 + (c.toNat - 48)))
theorem nv_take (l : List UInt8) (k : Nat) : nv (l.take k) ≤ nv l := by
  have h := fold_ge (l.drop k) (nv (l.take k))
  unfold nv at h ⊢
  rw [← List.foldl_append, List.take_append_drop] at h
  exact h
theorem nv_step (l : List UInt8) (k : Nat) (h : k < l.length) : nv (l.take (k + 1)) = nv (l.take k) * 10 + (l[k].toNat - 48) := by
  rw [List.take_succ_eq_append_getElem h, nv_snoc]
theorem dec_all (u : Nat) : ∀ c ∈ decDigits u, 48 ≤ c.toNat ∧ c.toNat ≤ 57 := by
  induction u using Nat.strongRecOn with
  | ind u ih =>
    rw [decDigits]
    by_cases h : u < 10
    · rw [dif_pos h]; intro c hc
      obtain rfl := List.mem_singleton.1 hc
      rw [dig_toNat u h]; omega
    · rw [dif_neg h]; intro c hc
      rcases List.mem_append.1 hc with hc | hc
      · exact ih (u / 10) (by omega) c hc
      · obtain rfl := List.mem_singleton.1 hc
        rw [dig_toNat (u % 10) (by omega)]; omega

/-- What the loop of Parse makes of a number's digits. -/
theorem digits_ok (u : Nat) (D : ByteArray) (hD : D.data.toList = decDigits u) :
    ∃ N : Nat → Int, N 0 = 0 ∧ (∀ k (h : k < D.size), 48 ≤ (D[k].toNat : Int) ∧ (D[k].toNat : Int) ≤ 57 ∧ N (k + 1) = N k * 10 + ((D[k].toNat : Int) - 48)) ∧ (∀ k, 0 ≤ N k ∧ N k ≤ (u : Int)) ∧ N D.size = u := by
  obtain rfl := bytes_of hD
  refine ⟨fun k => (nv ((decDigits u).take k) : Nat), rfl, fun k h => ?_, fun k => ?_, ?_⟩
  · have hk : k < (decDigits u).length := by simpa [ByteArray.size] using h
    have e : (⟨(decDigits u).toArray⟩ : ByteArray)[k] = (decDigits u)[k] := rfl
    rw [e]
    have ha := dec_all u _ (List.getElem_mem hk)
    have hs := nv_step (decDigits u) k hk
    refine ⟨by omega, by omega, ?_⟩
    show ((nv ((decDigits u).take (k + 1)) : Nat) : Int) = ((nv ((decDigits u).take k) : Nat) : Int) * 10 + _
    rw [hs]; omega
  · have := nv_take (decDigits u) k
    rw [nv_dec] at this
    exact ⟨Int.natCast_nonneg _, Int.ofNat_le.2 this⟩
  · show ((nv ((decDigits u).take (⟨(decDigits u).toArray⟩ : ByteArray).size) : Nat) : Int) = u
    rw [show (⟨(decDigits u).toArray⟩ : ByteArray).size = (decDigits u).length by simp [ByteArray.size], List.take_length, nv_dec]

theorem tl_data (s : ByteArray) : (s.extract 1 s.size).data.toList = s.data.toList.drop 1 := by
  rw [ByteArray.data_extract, Array.toList_extract, show s.size = s.data.toList.length from rfl]
  simp [List.extract_eq_take_drop]
  exact List.take_of_length_le (by rw [List.length_tail]; exact Nat.le_refl _)
theorem tl_size (s : ByteArray) : (s.extract 1 s.size).size = s.size - 1 := by simp

theorem ref_parse_yes (s : ByteArray) (v : Int) (w : World) (h0 : -9223372036854775808 ≤ v) (h1 : v ≤ 9223372036854775807) (hv : s.data.toList = itoa v) :
    Calls Tryd.prog 21 #[.string s] w fun e w' => e = .returned (.tuple #[.int .i64 v, .int .i64 0]) ∧ Below w.heap.size w w' := by
  have hl := itoa_len v h0 h1
  have hsz : s.size = (itoa v).length := by rw [← hv]; rfl
  have hyes : (itoa v == s.toList) = true := by rw [ByteArray.toList_eq, hv]; simp
  have hlen := dec_len 18 v.natAbs (by omega)
  obtain ⟨c0, r0, hd, g1, g2⟩ := dec_head v.natAbs
  by_cases hneg : v < 0
  · have hi : itoa v = 45 :: decDigits v.natAbs := by unfold itoa; rw [if_pos hneg]
    have hD : (s.extract 1 s.size).data.toList = decDigits v.natAbs := by rw [tl_data, hv, hi]; rfl
    have hDs : (s.extract 1 s.size).size = (decDigits v.natAbs).length := by rw [← hD]; rfl
    obtain ⟨N, N0, NS, NB, NE⟩ := digits_ok v.natAbs _ hD
    have hs0 : 0 < s.size := by rw [hsz, hi]; simp
    have hc : s[0].toNat = 45 := by
      obtain rfl := bytes_of hv
      have e : (⟨(itoa v).toArray⟩ : ByteArray)[0] = (itoa v)[0]'(by rw [hi]; simp) := rfl
      rw [e]; simp [hi]
    have hr := ref_yes_minus s (s.extract 1 s.size) w rfl (by omega) hs0 hc (by rw [hDs, hd]; simp) (by omega) v.natAbs N N0 NS NB NE (by omega) (by rw [show -(v.natAbs : Int) = v by omega]; exact hyes)
    rw [show -(v.natAbs : Int) = v by omega] at hr
    exact hr
  · have hi : itoa v = decDigits v.natAbs := by unfold itoa; rw [if_neg hneg, show v.toNat = v.natAbs by omega]
    rw [hi] at hv
    obtain ⟨N, N0, NS, NB, NE⟩ := digits_ok v.natAbs s hv
    have hDs : s.size = (decDigits v.natAbs).length := by rw [← hv]; rfl
    have hr := ref_yes_plain s w (fun h => by
      have := (NS 0 h).1
      exact beq_eq_false_iff_ne.2 (by omega)) (by rw [hDs, hd]; simp) (by omega) v.natAbs N N0 NS NB NE (by omega) (by rw [show (v.natAbs : Int) = v by omega]; exact hyes)
    rw [show (v.natAbs : Int) = v by omega] at hr
    exact hr

set_option maxHeartbeats 1000000 in
theorem ref_no_empty (s : ByteArray) (w : World) (h : s.size = 0) :
    Calls Tryd.prog 21 #[.string s] w fun e w' => e = .returned (.tuple #[.int .i64 0, .int .i64 11]) ∧ Below w.heap.size w w' := by
  have d0 : ((s.size : Int) == 0) = true := beq_iff_eq.2 (by omega)
  have d1 : decide (0 < s.size) = false := decide_eq_false (by omega)
  go_enter Tryd.func21, Tryd.ntmps21
  go_wp2
  go_ret2
  exact ⟨rfl, Below.refl _ _⟩
set_option maxHeartbeats 1000000 in
theorem ref_no_long (D : ByteArray) (w : World) (hc : ∀ h : 0 < D.size, ((D[0].toNat : Int) == 45) = false) (hd0 : 19 < D.size) (hs : D.size ≤ 50) :
    Calls Tryd.prog 21 #[.string D] w fun e w' => e = .returned (.tuple #[.int .i64 0, .int .i64 11]) ∧ Below w.heap.size w w' := by
  have d0 : ((D.size : Int) == 0) = false := beq_eq_false_iff_ne.2 (by omega)
  have d1 : decide (19 < D.size) = true := decide_eq_true (by omega)
  have d2 : (D.size : Int) ≤ 50 := by omega
  have d3 : (0 : Int) < (D.size : Int) := by omega
  have hc0 := hc (by omega)
  clear hc
  go_enter Tryd.func21, Tryd.ntmps21
  go_wp2
  go_ret2
  exact ⟨rfl, Below.refl _ _⟩
set_option maxHeartbeats 1000000 in
theorem ref_no_minus_bad (s D : ByteArray) (w : World) (hE : s.extract 1 s.size = D) (hs : s.size ≤ 50) (h1 : 0 < s.size) (hc : s[0].toNat = 45) (hd : D.size = 0 ∨ 19 < D.size ∧ D.size ≤ 50) :
    Calls Tryd.prog 21 #[.string s] w fun e w' => e = .returned (.tuple #[.int .i64 0, .int .i64 11]) ∧ Below w.heap.size w w' := by
  rcases hd with hd | ⟨hd, hd'⟩
  · have d0 : ((D.size : Int) == 0) = true := beq_iff_eq.2 (by omega)
    clear hd
    go_enter Tryd.func21, Tryd.ntmps21
    go_wp2
    go_ret2
    exact ⟨rfl, Below.refl _ _⟩
  · have d0 : ((D.size : Int) == 0) = false := beq_eq_false_iff_ne.2 (by omega)
    have d1 : decide (19 < D.size) = true := decide_eq_true (by omega)
    have d2 : (D.size : Int) ≤ 50 := by omega
    go_enter Tryd.func21, Tryd.ntmps21
    go_wp2
    go_ret2
    exact ⟨rfl, Below.refl _ _⟩

theorem ref_parse_no (s : ByteArray) (w : World) (hs : s.size ≤ 50) (hn : ∀ v, -9223372036854775808 ≤ v → v ≤ 9223372036854775807 → s.data.toList ≠ itoa v) :
    Calls Tryd.prog 21 #[.string s] w fun e w' => e = .returned (.tuple #[.int .i64 0, .int .i64 11]) ∧ Below w.heap.size w w' := by
  have hb : ∀ v, -9223372036854775808 ≤ v → v ≤ 9223372036854775807 → (itoa v == s.toList) = false := fun v a b =>
    beq_eq_false_iff_ne.2 (fun e => hn v a b (by rw [← ByteArray.toList_eq]; exact e.symm))
  by_cases h0 : s.size = 0
  · exact ref_no_empty s w h0
  · have hp : 0 < s.size := by omega
    have hts := tl_size s
    by_cases hc : s[0].toNat = 45
    · by_cases hd : 0 < (s.extract 1 s.size).size ∧ (s.extract 1 s.size).size ≤ 19
      · exact ref_no_minus s _ w rfl hs hp hc hd.1 hd.2 hb
      · exact ref_no_minus_bad s _ w rfl hs hp hc (by omega)
    · have hc' : ∀ h : 0 < s.size, ((s[0].toNat : Int) == 45) = false := fun h => beq_eq_false_iff_ne.2 (fun e => hc (by exact_mod_cast e))
      by_cases hd : s.size ≤ 19
      · exact ref_no_plain s w hc' hp hd hb
      · exact ref_no_long s w hc' (by omega) hs

set_option maxHeartbeats 1000000 in
theorem texts_walk (n : Int) (s : ByteArray) (w : World) (h0 : -9223372036854775808 ≤ n) (h1 : n ≤ 9223372036854775807) (hs : s.size ≤ maxLen) (hr : Ready w) :
    Calls Tryd.prog 6 #[.int .i64 n, .string s] w fun e w' => e = .returned (.bool true) ∧ Below w.heap.size w w' := by
  unfold maxLen at hs
  by_cases hlen : 50 < s.size
  · go_enter Tryd.func6, Tryd.ntmps6
    go_wp2_with fail
    refine (awake_any _ hr).mono ?_
    rintro e w1 ⟨rfl, B1⟩
    go_wp2
    go_ret
    exact ⟨rfl, B1⟩
  · obtain ⟨a, b, hP, hQ⟩ : ∃ a b : Int, (∀ W, Ready W → Calls Tryd.prog 20 #[.string s] W fun e w' => e = .returned (.tuple #[.int .i64 a, .int .i64 b]) ∧ Below W.heap.size W w') ∧
        (∀ W, Calls Tryd.prog 21 #[.string s] W fun e w' => e = .returned (.tuple #[.int .i64 a, .int .i64 b]) ∧ Below W.heap.size W w') := by
      by_cases hv : ∃ v, (-9223372036854775808 ≤ v ∧ v ≤ 9223372036854775807) ∧ s.data.toList = itoa v
      · obtain ⟨v, ⟨v0, v1⟩, hv⟩ := hv
        exact ⟨v, 0, fun W hW => parse_yes s v W v0 v1 hv hW, fun W => ref_parse_yes s v W v0 v1 hv⟩
      · have hn : ∀ v, -9223372036854775808 ≤ v → v ≤ 9223372036854775807 → s.data.toList ≠ itoa v := fun v x y h => hv ⟨v, ⟨x, y⟩, h⟩
        exact ⟨0, 11, fun W hW => parse_no s W (by omega) hn hW, fun W => ref_parse_no s W (by omega) hn⟩
    have HP := Lib.hid hP
    have HQ := Lib.hid hQ
    clear hP hQ
    go_enter Tryd.func6, Tryd.ntmps6
    go_wp2_with fail
    refine (awake_any _ hr).mono ?_
    rintro e w1 ⟨rfl, B1⟩
    go_wp2_with fail
    refine (HP.out _ (hr.below B1)).mono ?_
    rintro e w2 ⟨rfl, c2⟩
    have B2 := B1.trans (c2.mono B1.size)
    clear B1 c2
    go_wp2_with fail
    refine (HQ.out _).mono ?_
    rintro e w3 ⟨rfl, c3⟩
    have B3 := B2.trans (c3.mono B2.size)
    clear B2 c3
    go_wp2_with fail
    refine (text_any n _ h0 h1 (hr.below B3)).mono ?_
    rintro e w4 ⟨rfl, c4⟩
    have B4 := B3.trans (c4.mono B3.size)
    clear B3 c4
    go_wp2_with fail
    refine (ref_text n _ h0 h1).mono ?_
    rintro e w5 ⟨rfl, c5⟩
    have B5 := B4.trans (c5.mono B4.size)
    clear B4 c5
    go_wp2
    go_ret
    exact ⟨rfl, B5⟩
end Go.Proofs.YtgedlmnkkdcejaaDoor.Coin
