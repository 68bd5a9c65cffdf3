/-
  Contracts of the document's own number, two, text, filled.
-/
import Derived.Test.YtiebaeahimeedaaPTornRow
import Derived.Test.YtiebaeahimeedaaPSuper
import Derived.Test.YtiebaeahimeedaaPFreeR
import Derived.Test.YtiebaeahimeedaaCRef
import Derived.Deep.Cut
import Derived.Lib.AppendStr
import Derived.Lib.AppendZerosOnto
namespace Go.Proofs.Ytiebaeahimeedaa.Page
open Go.RowKit Gen

theorem be_get : ∀ (k n m : Nat), m < k → (be k n)[m]? = some (UInt8.ofNat (n / 256 ^ (k - 1 - m)))
  | 0, _, _, h => by omega
  | k + 1, n, 0, _ => by simp [be]
  | k + 1, n, m + 1, h => by
    rw [be, List.getElem?_cons_succ, be_get k n m (by omega)]
    congr 4
    omega
theorem be_more {k n j : Nat} (h0 : 0 < j) (hj : j ≤ k) : (be k n).take (k - j) ++ [UInt8.ofNat (n / 256 ^ (j - 1))] = (be k n).take (k - (j - 1)) := by
  have := be_get k n (k - j) (by omega)
  rw [show k - (j - 1) = k - j + 1 by omega, List.take_add_one, this, show k - 1 - (k - j) = j - 1 by omega]
  rfl
/-- Bytes in a row of the call's own. -/
def LaysO (l : Bs) (w : World) (e : Ending) (w' : World) : Prop := ∃ v, e = .returned v ∧ OwnG w' 5 byteV w.heap.size v l ∧ Below w.heap.size w w'
set_option maxRecDepth 100000 in
theorem rNumber_any (n k : Nat) (w : World) (hk : k ≤ 8) : Calls Try.prog 28 #[.int .u64 (n : Int), .int .i64 (k : Int)] w (LaysO (be k n) w) := by
  go_enter Try.func28, Try.ntmps28
  go_wp2_with fail
  go_loopw [5, 6] (fun v i wr => ∃ j : Nat, i = .int .i64 ((j : Int) - 1) ∧ j ≤ k ∧ OwnG wr 5 byteV w.heap.size v ((be k n).take (k - j)) ∧ Below w.heap.size w wr) (fun _ i _ => (intOf i + 1).toNat)
  case atStart => exact ⟨k, rfl, Nat.le_refl _, ⟨by simp, .inl ⟨rfl, by simp⟩⟩, Below.refl _ _⟩
  case round =>
    obtain ⟨j, rfl, hj, hO, hB⟩ := hrel
    have HB := Lib.hid hB
    have HO := Lib.hid hO
    clear hB hO
    by_cases h0 : 0 < j
    · have t1 : (0 : Int) ≤ (j : Int) - 1 := by omega
      have d1 : decide ((0 : Int) ≤ (j : Int) - 1) = true := by simp; omega
      have hx : (n : Int) / 2 ^ (8 * (j - 1)) % 256 = ((UInt8.ofNat (n / 256 ^ (j - 1))).toNat : Int) := by
        rw [UInt8.toNat_ofNat', show (256 : Nat) = 2 ^ 8 by rfl, ← Nat.pow_mul]
        simp
      have HL := Lib.hid (be_more (n := n) h0 hj)
      obtain ⟨v2, w2, r1, o2, g2, _, _⟩ := append_one bytes_elem wr w.heap.size _ _ HO.out (UInt8.ofNat (n / 256 ^ (j - 1))) (.int .u8 ((n : Int) / 2 ^ (8 * (j - 1)) % 256)) (by rw [hx]) (by rw [List.length_take, be_len]; omega) HB.out.size
      have R1 := Lib.hid r1
      rw [HL.out] at o2
      have O2 := Lib.hid o2
      have B2 := Lib.hid (below_grown HB.out HO.out g2 HB.out.size)
      clear r1 o2 g2 hx HL HO HB
      go_wp2_with (at_builtin; (refine wpList_append_eq rfl (.tmp 13) (.tmp 20) _ rfl rfl rfl R1.out ?_; clear R1))
      go_roundw
      case rel => exact ⟨j - 1, by congr 1; omega, by omega, O2.out, B2.out⟩
      case measure => simp [intOf]; omega
    · obtain rfl : j = 0 := by omega
      have h1 := HO.out
      rw [Nat.sub_zero, List.take_of_length_le (by rw [be_len]; omega)] at h1
      have H1 := Lib.hid h1
      clear h1 HO
      go_wp2_with fail
      go_ret
      exact ⟨_, rfl, H1.out, HB.out⟩
theorem rTwo_any (x : Int) (w : World) (h : 0 ≤ x ∧ x ≤ 9223372036854775807) : Calls Try.prog 25 #[.int .i64 x] w (LaysO (num2 x) w) := by
  have c := rNumber_any x.toNat 2 w (by omega)
  rw [Int.toNat_of_nonneg h.1] at c
  go_enter Try.func25, Try.ntmps25
  go_wp2_with fail
  refine c.mono ?_
  rintro e w' ⟨v, rfl, h1, h2⟩
  have H1 := Lib.hid h1
  have H2 := Lib.hid h2
  clear h1 h2
  go_wp2_with fail
  go_ret
  exact ⟨_, rfl, H1.out, H2.out⟩
theorem zeroCells_byte (m : Nat) : Builtin.zeroCells #[Value.int .u8 0] m = ((List.replicate m (0 : UInt8)).map byteV).toArray := by
  apply Array.ext
  · simp [Builtin.zeroCells]
  · intro i h1 h2
    simp [Builtin.zeroCells, Nat.mod_one]
theorem take_two (a b c : List Value) (n : Nat) (h : n = a.length + b.length) : (a ++ (b ++ c)).take n = a ++ b := by
  rw [← List.append_assoc]
  exact List.take_left' (by simp [h])
theorem byte_info4 : ∃ i, Try.prog.info? 5 = some i ∧ i.zero = some (.int .u8 0) ∧ i.size = 1 ∧ i.bytes = 1 := ⟨_, rfl, rfl, rfl, rfl⟩
/-- Bytes 0 behind bytes of the call's own. -/
theorem append_zeros (W : World) (B : Nat) (v : Value) (ys : Bs) (hown : OwnG W 5 byteV B v ys) (m : Nat) (k : IntKind) (hn : ys.length + m ≤ 1000000000000) (hB : B ≤ W.heap.size) :
    ∃ v' W', (Builtin.append_ #[30, 3] 30 #[v, .int k (m : Int)]).run Try.prog W = .ok v' W' ∧ OwnG W' 5 byteV B v' (ys ++ List.replicate m 0) ∧ W.grownBy W' v.ownBlock ∧ (v'.ownBlock = v.ownBlock ∨ v'.ownBlock = some W.heap.size) := by
  obtain ⟨i, hi, hz, hsz, hby⟩ := byte_info4
  have ht := Try.underlying30
  have htn := Try.underlying3
  have h0 := hown
  obtain ⟨hl, ⟨rfl, hz0⟩ | ⟨g, cap, cur, rfl, hg, hh, hnc, hcm, hcs, htk⟩⟩ := h0
  · obtain rfl : ys = [] := List.eq_nil_of_length_eq_zero hz0
    rcases Nat.eq_zero_or_pos m with hm | hm
    · subst hm
      refine ⟨.slice none 0 0, W, ?_, by simpa using hown, World.grownBy.refl W _, .inl rfl⟩
      simp [Builtin.append_, run_underlying ht, run_underlying htn, sizeOf, typeInfo, hi, asInt, asIntOf, show IntKind.i64.wrap 0 = 0 by rfl]
    · have hr := Lib.run_append_nil_zeros (P := Try.prog) W _ _ 30 _ i _ k .i64 ht htn hi hz m hm (by omega) (by simp at hn; omega) (by rw [hby]; simp at hn; omega)
      refine ⟨_, _, hr, ?_, ⟨rfl, rfl, rfl, by simp, fun j hj _ => Below.heap_alloc W.drew _ j hj⟩, .inr rfl⟩
      refine ⟨by simp, .inr ⟨W.heap.size, _, _, by simp only [List.nil_append, List.length_replicate], hB, heap_alloc_new W.drew _, by simpa using grownCap_ge W m 0 5, grownCap_le_maxLen W m 0 5 (by simp only [maxLen]; simp at hn; omega), ?_, ?_⟩⟩
      · have := grownCap_ge W m 0 5
        simp [size_zeroCells, Value.cells]
        omega
      · rw [show (Value.int .u8 0).cells = #[.int .u8 0] by rfl, zeroCells_byte m]
        simp
  · by_cases hroom : ys.length + m ≤ cap
    · have hst := run_storeCells_at Try.prog g ys.length 5 ((List.replicate m (0 : UInt8)).map byteV) 0 cur W hh (by simp; omega) (fun u hu => by
        obtain ⟨x, _, rfl⟩ := List.mem_map.1 hu; rfl)
      simp only [Nat.add_zero] at hst
      have hw : IntKind.i64.wrap (m : Int) = m := by rw [IntKind.wrap_i64]; omega
      have hneg : ¬ ((m : Int) < 0) := by omega
      have h48i : ¬ (281474976710656 < (m : Int)) := by omega
      have hr : (Builtin.append_ #[30, 3] 30 #[.slice (some ⟨g, 0, none⟩) ys.length cap, .int k (m : Int)]).run Try.prog W =
          .ok (.slice (some ⟨g, 0, none⟩) (ys.length + m) cap) (W.setRow g (cur.toList.take ys.length ++ ((List.replicate m (0 : UInt8)).map byteV) ++ cur.toList.drop (ys.length + ((List.replicate m (0 : UInt8)).map byteV).length)).toArray) := by
        have hcc : (Value.int .u8 0).cells = #[.int .u8 0] := rfl
        by_cases hm : m = 0
        · subst hm
          have he : cur.toList.take ys.length ++ ((List.replicate 0 (0 : UInt8)).map byteV) ++ cur.toList.drop (ys.length + ((List.replicate 0 (0 : UInt8)).map byteV).length) = cur.toList := by simp
          rw [he]
          simp [Builtin.append_, run_underlying ht, run_underlying htn, sizeOf, typeInfo, hi, hby, asInt, asIntOf, show IntKind.i64.wrap 0 = 0 by rfl, hnc, storeCells, setRow_self W g _ _ _ hh]
        · simp [Builtin.append_, run_underlying ht, run_underlying htn, sizeOf, typeInfo, zeroValue, hi, hz, hsz, hby, asInt, asIntOf, hw, hneg, h48i, hroom, hm, hcc, zeroCells_byte, Addr.add_lit]
          simp at hst
          rw [hst]
          rfl
      refine ⟨_, _, hr, ⟨by simp [Nat.mul_one], .inr ⟨g, cap, _, by simp, hg, setRow_heap W g cur _ _ _ hh, by simpa using hroom, hcm, ?_, ?_⟩⟩, ⟨rfl, rfl, rfl, by simp, fun j _ hj => setRow_other W g j _ (fun e => hj (by simp [Value.ownBlock, e]))⟩, .inl rfl⟩
      · simp; omega
      · have e1 : cur.toList.take ys.length = ys.map byteV := by simpa using htk
        rw [e1]
        simp only [List.append_assoc, Nat.mul_one, List.map_append]
        exact take_two _ _ _ _ (by simp)
    · have hm : 0 < m := by omega
      have hold : (Builtin.firstCells i.size ys.length (.slice (some ⟨g, 0, none⟩) ys.length cap)).run Try.prog W.drew = .ok (ys.map byteV).toArray W.drew := by
        rw [hsz]
        exact run_firstCells_some W.drew 1 ys.length ⟨g, 0, none⟩ ys.length cap (ys.map byteV) (by simp) (fun j u hu => by
          have e : (⟨g, 0, none⟩ : Addr).add j = ⟨g, j, none⟩ := by unfold Addr.add; split <;> simp_all
          rw [e]
          show W.cell? _ = _
          rw [cell_of_row W g j cur _ _ hh, ← Array.getElem?_toList]
          have hj : j < ys.length := by simpa using (List.getElem?_eq_some_iff.1 hu).1
          rw [← hu, ← htk, List.getElem?_take_of_lt (by simpa using hj)])
      have hr := Lib.run_append_grow_zeros (P := Try.prog) W _ _ 30 _ i _ k .i64 ht htn hi hz (some ⟨g, 0, none⟩) ys.length cap (ys.map byteV) hold m hm (by omega) (by omega) (by omega) (by rw [hby]; omega) (by
        rw [hby]; exact growslice_fits (by omega) (by omega))
      refine ⟨_, _, hr, ?_, ⟨rfl, rfl, rfl, by simp, fun j hj _ => Below.heap_alloc W.drew _ j hj⟩, .inr rfl⟩
      refine ⟨by simp, .inr ⟨W.heap.size, _, _, by simp only [List.length_append, List.length_replicate], hB, heap_alloc_new W.drew _, by simpa using grownCap_ge W (ys.length + m) cap 5, grownCap_le_maxLen W (ys.length + m) cap 5 (by simp only [maxLen]; omega), ?_, ?_⟩⟩
      · have := grownCap_ge W (ys.length + m) cap 5
        simp [size_zeroCells, Value.cells]
        omega
      · rw [show (Value.int .u8 0).cells = #[.int .u8 0] by rfl, zeroCells_byte m]
        simp only [Array.toList_append, List.append_assoc, Nat.mul_one, List.map_append]
        exact take_two _ _ _ _ (by simp)
theorem byte_info5 : ∃ i, Try.prog.info? 5 = some i ∧ i.zero = some (.int .u8 0) ∧ i.size = 1 ∧ i.bytes = 1 := ⟨_, rfl, rfl, rfl, rfl⟩
/-- A text's bytes behind bytes of the call's own. -/
theorem append_str (W : World) (B : Nat) (v : Value) (ys s : Bs) (S : ByteArray) (hS : strB s = S) (hown : OwnG W 5 byteV B v ys) (hn : ys.length + s.length ≤ 100000000) (hB : B ≤ W.heap.size) :
    ∃ v' W', (Builtin.append_ #[30, 9] 30 #[v, .string S]).run Try.prog W = .ok v' W' ∧ OwnG W' 5 byteV B v' (ys ++ s) ∧ W.grownBy W' v.ownBlock := by
  obtain ⟨i, hi, hz, hsz, hby⟩ := byte_info5
  have hs : S.size = s.length := by rw [← hS]; exact strB_size s
  obtain ⟨v', W', h1, h2, h3, _⟩ := Lib.run_append_own_string (P := Try.prog) W B 30 9 30 5 i Try.underlying30 Try.underlying9 hi hz hsz hby v ys.length (ys.map byteV) hown S (by simp only [maxLen]; omega) (by omega) hB
  refine ⟨v', W', h1, ?_, h3⟩
  have e : ys.map byteV ++ Lib.strCells S = (ys ++ s).map byteV := by
    rw [List.map_append, Lib.strCells, ← hS]
    rfl
  rw [e, hs] at h2
  unfold OwnG
  rw [List.length_append]
  exact h2
set_option maxRecDepth 100000 in
theorem rText_any (s : Bs) (w : World) (hs : s.length ≤ 1000000) : Calls Try.prog 55 #[strV s] w (LaysO (txt s) w) := by
  have hz := strB_size s
  obtain ⟨S, hS⟩ : ∃ S, strB s = S := ⟨_, rfl⟩
  rw [show strV s = .string S by rw [← hS]]
  rw [hS] at hz
  have hx : (s.length : Int) % 256 = ((UInt8.ofNat s.length).toNat : Int) := by rw [UInt8.toNat_ofNat']; simp
  have hO : OwnG (w.alloc (.cells #[.int .u8 ((s.length : Int) % 256)] 5)) 5 byteV w.heap.size (.slice (some ⟨w.heap.size, 0, none⟩) 1 1) [UInt8.ofNat s.length] :=
    ⟨rfl, .inr ⟨w.heap.size, 1, #[.int .u8 ((s.length : Int) % 256)], rfl, Nat.le_refl _, heap_alloc_new _ _, Nat.le_refl _, by unfold maxLen; omega, rfl, by rw [hx]; rfl⟩⟩
  obtain ⟨v2, w2, r1, o2, g2⟩ := append_str _ w.heap.size _ _ s S hS hO (by simp; omega) (by simp)
  have R1 := Lib.hid r1
  have B2 := Lib.hid (below_grown ((Below.refl w.heap.size w).alloc (Nat.le_refl _) _) hO g2 (by simp))
  have ht : [UInt8.ofNat s.length] ++ s = txt s := by rw [txt, be_one]
  rw [ht] at o2
  have H1 := Lib.hid o2
  clear r1 o2 g2 hO hx hS ht
  go_enter Try.func55, Try.ntmps55
  go_wp2_with (at_builtin; ((with_reducible refine wpList_append2_eq rfl (.tmp 6) (.tmp 7) _ _ rfl ?_ ?_ R1.out ?_); (next => rfl); (next => rfl)))
  go_ret
  exact ⟨_, rfl, H1.out, B2.out⟩
set_option maxRecDepth 100000 in
theorem rFilled_any (A : Option Addr) (n c : Nat) (l : Bs) (k : Nat) (w : World) (h : BytesAt w A n c l) (hn : n ≤ k) (hk : k ≤ 10000) : Calls Try.prog 27 #[.slice A n c, .int .i64 (k : Int)] w (fun e w' => ∃ A n c, e = .returned (.slice A n c) ∧ BytesAt w' A n c (padTo k l) ∧ Below w.heap.size w w') := by
  by_cases hge : k ≤ n
  · have d1 : decide (k ≤ n) = true := by simp [hge]
    have hp : padTo k l = l := by rw [padTo, show k - l.length = 0 by rw [h.len]; omega]; simp
    rw [hp]
    have HH := Lib.hid h
    clear h hp
    go_enter Try.func27, Try.ntmps27
    go_wp2_with fail
    go_ret
    exact ⟨_, _, _, rfl, HH.out, Below.refl _ _⟩
  have d1 : decide (k ≤ n) = false := by simp [hge]
  have hb0 : Below w.heap.size w (w.alloc (.cells #[] 5)) := (Below.refl _ _).alloc (Nat.le_refl _) _
  have h1 := h.below hb0
  obtain ⟨v1, W1, r1, o1, g1, _⟩ := append_row bytes_elem (w.alloc (.cells #[] 5)) w.heap.size (.slice (some ⟨w.heap.size, 0, none⟩) 0 0) [] (own_none w) A n c l h1.len h1.nil h1.row (by simp; omega) (by simp)
  have hb1 : Below w.heap.size w W1 := hb0.grown g1 hb0.size (fun j hj => by simp [Value.ownBlock] at hj; omega)
  rw [List.nil_append] at o1
  obtain ⟨v2, W2, r2, o2, g2, _⟩ := append_zeros W1 w.heap.size v1 l o1 (k - n) .i64 (by rw [h.len]; omega) hb1.size
  have hb2 : Below w.heap.size w W2 := below_grown hb1 o1 g2 hb1.size
  obtain ⟨A2, m2, c2, rfl, h2, _⟩ := own_bytes o2
  have hp : l ++ List.replicate (k - n) 0 = padTo k l := by rw [padTo, h.len]
  rw [hp] at h2
  rw [show ((k - n : Nat) : Int) = (k : Int) - (n : Int) by omega] at r2
  have R1 := Lib.hid r1
  have R2 := Lib.hid r2
  have H2 := Lib.hid h2
  have B2 := Lib.hid hb2
  clear h h1 hb0 r1 o1 g1 hb1 r2 o2 g2 hb2 h2 hp
  go_enter Try.func27, Try.ntmps27
  go_wp2_with (first
    | (at_builtin; ((with_reducible refine wpList_append_eq rfl (.tmp 10) (.tmp 11) _ rfl ?_ ?_ R1.out ?_); (next => rfl); (next => rfl)))
    | (at_builtin; ((with_reducible refine wpList_append2_eq rfl (.tmp 12) (.tmp 16) _ _ rfl ?_ ?_ R2.out ?_); (next => rfl); (next => rfl))))
  go_ret
  exact ⟨_, _, _, rfl, H2.out, B2.out⟩
end Go.Proofs.Ytiebaeahimeedaa.Page
