/-
  Contracts of the reference's Digits and Number.
-/
import Derived.Test.YtghoelgjpljbkaaDoorLNum
import Derived.Laws.ShiftsVar
import Derived.Laws.ShiftsVarLaws
namespace Go.Proofs.YtghoelgjpljbkaaDoor.Label
open Go.RowKit

/-- The reference's text of signs. -/
def signs16 : ByteArray := ⟨#[48, 49, 50, 51, 52, 53, 54, 55, 56, 57, 97, 98, 99, 100, 101, 102]⟩
theorem sign16_all : ∀ x : Fin 16, signs16[x.val]'x.isLt = hexd x.val := by decide +kernel
/-- A text of one sign, out of a list of one byte. -/
theorem one_byte (W : World) (c : UInt8) : (convert 52 9 (.slice (some ⟨W.heap.size, 0, none⟩) 1 1)).run Tryd.prog (W.alloc (.cells #[.int .u8 (c.toNat : Int)] 5)) =
    .ok (.string ⟨#[c]⟩) (W.alloc (.cells #[.int .u8 (c.toNat : Int)] 5)) :=
  run_convert_bytes_back (W.alloc (.cells #[.int .u8 (c.toNat : Int)] 5)) 52 9 5 ⟨W.heap.size, 0, none⟩ 1 [c] Tryd.underlying52 Tryd.underlying5 Tryd.underlying9 (fun j hj => by
    obtain rfl : j = 0 := by simp at hj; omega
    simp [go_sem, Addr.add])
theorem and15d (n k : Nat) (hn : n < 18446744073709551616) : bits BinOp.and IntKind.u64 ((n : Int) / 2 ^ (4 * (k - 1))) 15 = ((n / 16 ^ (k - 1) % 16 : Nat) : Int) := by
  have e : (n : Int) / 2 ^ (4 * (k - 1)) = ((n / 16 ^ (k - 1) : Nat) : Int) := by
    rw [show (16 : Nat) = 2 ^ 4 from rfl, ← Nat.pow_mul]
    simp
  rw [e, and15 _ (Nat.lt_of_le_of_lt (Nat.div_le_self _ _) hn)]
  simp
theorem hexN_next (n k : Nat) (hk : 1 ≤ k) (hk2 : k ≤ 16) : hexN (16 - k) (n / 16 ^ k) ++ [hexd (n / 16 ^ (k - 1) % 16)] = hexN (16 - (k - 1)) (n / 16 ^ (k - 1)) := by
  obtain ⟨j, rfl⟩ : ∃ j, k = j + 1 := ⟨k - 1, by omega⟩
  rw [show 16 - (j + 1 - 1) = (16 - (j + 1)) + 1 by omega, hexN, show j + 1 - 1 = j by omega, Nat.div_div_eq_div_mul, ← Nat.pow_succ]

set_option maxHeartbeats 1000000 in
set_option maxRecDepth 100000 in
theorem ref_digits (n : Nat) (w : World) (hn : n < 18446744073709551616) :
    Calls Tryd.prog 19 #[.int .u64 n] w fun e w' => e = .returned (.string ⟨(hexN 16 n).toArray⟩) ∧ Below w.heap.size w w' := by
  go_enter Tryd.func19, Tryd.ntmps19
  go_wp2
  go_loopw [3, 4] (fun o i wr => ∃ (k : Nat) (l : List UInt8), k ≤ 16 ∧ i = .int .i64 ((k : Int) - 1) ∧ o = .string ⟨l.toArray⟩ ∧ Hid (l = hexN (16 - k) (n / 16 ^ k)) ∧ Below w.heap.size w wr) (fun _ i _ => (intOf i + 1).toNat)
  case atStart => exact ⟨16, [], by omega, rfl, rfl, Lib.hid rfl, Below.refl _ _⟩
  case round =>
    obtain ⟨k, l, hk, rfl, rfl, hl, hB⟩ := hrel
    by_cases hz : 1 ≤ k
    · have hA := and15d n k hn
      have hd16 : n / 16 ^ (k - 1) % 16 < 16 := Nat.mod_lt _ (by omega)
      have hN := hexN_next n k hz hk
      rw [← hl.out] at hN
      have HN := Lib.hid hN
      clear hN
      generalize n / 16 ^ (k - 1) % 16 = d at *
      have hll : l.length ≤ 16 := by rw [hl.out, hexN_len]; omega
      have hcv := one_byte wr (signs16[d]'hd16)
      unfold signs16 at hcv
      go_wp2
      go_roundw
      case rel =>
        refine ⟨k - 1, l ++ [hexd d], by omega, by go_num, ?_, Lib.hid HN.out, hB.alloc hB.size _⟩
        rw [← sign16_all ⟨d, hd16⟩]
        exact congrArg Value.string (cat_bytes l [_])
      case measure => simp [intOf]; omega
    · obtain rfl : k = 0 := by omega
      obtain rfl := hl.out
      go_wp2
      go_ret
      exact ⟨by simp, hB⟩

/-- What the reference's Number counts a sign for. -/
theorem hexd_val (x : Nat) (h : x < 16) : (48 ≤ (hexd x).toNat ∧ (hexd x).toNat ≤ 57 ∧ ((hexd x).toNat : Int) - 48 = x) ∨ (97 ≤ (hexd x).toNat ∧ (hexd x).toNat ≤ 102 ∧ ((hexd x).toNat : Int) - 97 + 10 = x) := by
  rw [hexd_toNat x h]; split <;> omega
theorem hexN_at : ∀ (m u k : Nat) (h : k < (hexN m u).length), (hexN m u)[k] = hexd (u / 16 ^ (m - 1 - k) % 16)
  | 0, u, k, h => by simp [hexN] at h
  | m + 1, u, k, h => by
    rw [hexN_len] at h
    simp only [hexN]
    by_cases hk : k < m
    · rw [List.getElem_append_left (by rw [hexN_len]; exact hk), hexN_at m (u / 16) k (by rw [hexN_len]; exact hk), Nat.div_div_eq_div_mul]
      rw [show m + 1 - 1 - k = (m - 1 - k) + 1 by omega, Nat.pow_succ', Nat.mul_comm]
    · obtain rfl : k = m := by omega
      rw [List.getElem_append_right (by rw [hexN_len]; exact Nat.le_refl _)]
      simp [hexN_len]
theorem and15s (x : Int) (h0 : 0 ≤ x) (h : x < 16) : bits BinOp.and IntKind.u64 x 15 = x := by
  obtain ⟨n, rfl⟩ : ∃ n : Nat, x = n := ⟨x.toNat, by omega⟩
  rw [and15 n (by omega)]; omega

set_option maxHeartbeats 1000000 in
set_option maxRecDepth 100000 in
theorem ref_number_yes (t : ByteArray) (n : Nat) (hn : n < 18446744073709551616) (ht : t = ⟨(hexN 16 n).toArray⟩) (w : World) :
    Calls Tryd.prog 11 #[.string t] w fun e w' => e = .returned (.tuple #[.int .u64 n, .int .i64 0]) ∧ Below w.heap.size w w' := by
  have hs : t.size = 16 := by rw [ht]; show (hexN 16 n).toArray.size = 16; simp [hexN_len]
  have hc : ∀ k (hk : k < t.size), t[k] = hexd (n / 16 ^ (15 - k) % 16) := fun k hk => by
    subst ht
    exact hexN_at 16 n k (by rw [hexN_len]; omega)
  have hD := fun W => ref_digits n W hn
  rw [← ht] at hD
  have HD := Lib.hid hD
  have HC := Lib.hid hc
  have h3 : ((t.size : Int) != 16) = false := by simp [hs]
  have hs1 : t.size ≤ 16 := by omega
  have hs2 : 16 ≤ t.size := by omega
  clear hD hc ht hs
  go_enter Tryd.func11, Tryd.ntmps11
  go_wp2
  go_loop [4, 5] (fun v i => ∃ (k : Nat) (a : Int), k ≤ 16 ∧ i = .int .i64 k ∧ v = .int .u64 a ∧ Hid (a = ((n / 16 ^ (16 - k) : Nat) : Int))) (fun _ i => 16 - (intOf i).toNat)
  case atStart => exact ⟨0, 0, by omega, rfl, rfl, Lib.hid (by rw [Nat.div_eq_of_lt (by simpa using hn)]; rfl)⟩
  case round =>
    obtain ⟨k, a, hk, rfl, rfl, ha⟩ := hrel
    by_cases hlt : k < 16
    · have hlt' : k < t.size := by omega
      have hx16 : n / 16 ^ (15 - k) % 16 < 16 := Nat.mod_lt _ (by omega)
      have hcc := HC.out k hlt'
      have hdiv : n / 16 ^ (16 - k) = n / 16 ^ (15 - k) / 16 := by
        rw [Nat.div_div_eq_div_mul, ← Nat.pow_succ, show (15 - k).succ = 16 - k by omega]
      have ha' := ha.out
      have hle : n / 16 ^ (15 - k) ≤ n := Nat.div_le_self _ _
      have hNx : a * 16 + ((n / 16 ^ (15 - k) % 16 : Nat) : Int) = ((n / 16 ^ (16 - (k + 1)) : Nat) : Int) := by
        rw [show 16 - (k + 1) = 15 - k by omega, ha', hdiv]; omega
      have a0 : 0 ≤ a := by rw [ha']; exact Int.natCast_nonneg _
      have a1 : a ≤ 1152921504606846975 := by rw [ha', hdiv]; omega
      have hv := hexd_val _ hx16
      rw [← hcc] at hv
      generalize n / 16 ^ (15 - k) % 16 = d at *
      have HNx := Lib.hid hNx
      clear hNx hcc hdiv ha' hle
      rcases hv with ⟨v1, v2, v3⟩ | ⟨v1, v2, v3⟩
      · have HNx' : Hid (a * 16 + ((t[k].toNat : Int) - 48) = ((n / 16 ^ (16 - (k + 1)) : Nat) : Int)) := Lib.hid (by rw [v3]; exact HNx.out)
        clear v3 HNx ha hx16 HC
        go_wp2
        go_round
        case rel => exact ⟨k + 1, _, by omega, by go_num, rfl, HNx'⟩
        case measure => simp [intOf]; omega
      · have HNx' : Hid (a * 16 + ((t[k].toNat : Int) - 97 + 10) = ((n / 16 ^ (16 - (k + 1)) : Nat) : Int)) := Lib.hid (by rw [v3]; exact HNx.out)
        have h15 := and15s ((t[k].toNat : Int) - 97 + 10) (by omega) (by omega)
        clear v3 HNx ha hx16 HC
        go_wp2
        go_round
        case rel => exact ⟨k + 1, _, by omega, by go_num, rfl, HNx'⟩
        case measure => simp [intOf]; omega
    · obtain rfl : k = 16 := by omega
      obtain rfl : a = (n : Int) := by have := ha.out; simpa using this
      go_wp2_with fail
      refine (HD.out _).mono ?_
      rintro e w1 ⟨rfl, b1⟩
      go_wp2
      go_ret2
      exact ⟨rfl, b1⟩

set_option maxHeartbeats 1000000 in
set_option maxRecDepth 100000 in
theorem ref_number_no (t : ByteArray) (ht : ∀ n, n < 18446744073709551616 → t.data.toList ≠ hexN 16 n) (w : World) :
    Calls Tryd.prog 11 #[.string t] w fun e w' => e = .returned (.tuple #[.int .u64 0, .int .i64 20]) ∧ Below w.heap.size w w' := by
  by_cases hs : t.size = 16
  · have hD : ∀ (a : Int) W, 0 ≤ a → a < 18446744073709551616 → Calls Tryd.prog 19 #[.int .u64 a] W fun e w' => (∃ l : List UInt8, e = .returned (.string ⟨l.toArray⟩) ∧ (l.toArray.toList == t.toList) = false) ∧ Below W.heap.size W w' := fun a W a0 a1 => by
      obtain ⟨n, rfl⟩ : ∃ n : Nat, a = n := ⟨a.toNat, by omega⟩
      refine (ref_digits n W (by omega)).mono fun e w' ⟨he, hb⟩ => ⟨⟨_, he, ?_⟩, hb⟩
      have := ht n (by omega)
      simp only [beq_eq_false_iff_ne]
      intro e; apply this; rw [← ByteArray.toList_eq]; simpa using e.symm
    have HD := Lib.hid hD
    have h3 : ((t.size : Int) != 16) = false := by simp [hs]
    have hs1 : t.size ≤ 16 := by omega
    have hs2 : 16 ≤ t.size := by omega
    clear hD ht hs
    go_enter Tryd.func11, Tryd.ntmps11
    go_wp2
    go_loop [4, 5] (fun v i => ∃ (k : Nat) (a : Int), k ≤ 16 ∧ i = .int .i64 k ∧ v = .int .u64 a ∧ 0 ≤ a ∧ a < 18446744073709551616) (fun _ i => 16 - (intOf i).toNat)
    case atStart => exact ⟨0, 0, by omega, rfl, rfl, by omega, by omega⟩
    case round =>
      obtain ⟨k, a, hk, rfl, rfl, a0, a1⟩ := hrel
      by_cases hlt : k < 16
      · have hlt' : k < t.size := by omega
        have hw : ∀ z : Int, 0 ≤ IntKind.u64.wrap z ∧ IntKind.u64.wrap z < 18446744073709551616 := fun z => by rw [IntKind.wrap_u64]; omega
        have HW := Lib.hid hw
        clear hw
        have hc : (48 ≤ t[k].toNat ∧ t[k].toNat ≤ 57) ∨ t[k].toNat < 48 ∨ 57 < t[k].toNat := by omega
        rcases hc with ⟨c1, c2⟩ | c1 | c1
        all_goals
          go_wp2
          go_round
          case rel => exact ⟨k + 1, _, by omega, by go_num, rfl, (HW.out _).1, (HW.out _).2⟩
          case measure => simp [intOf]; omega
      · obtain rfl : k = 16 := by omega
        go_wp2_with fail
        refine (HD.out _ _ a0 a1).mono ?_
        rintro e w1 ⟨⟨l, rfl, hne⟩, b1⟩
        go_wp2
        go_ret2
        exact ⟨rfl, b1⟩
  · have h3 : ((t.size : Int) != 16) = true := by simp; omega
    clear hs ht
    go_enter Tryd.func11, Tryd.ntmps11
    go_wp2_with fail
    go_ret2
    exact ⟨rfl, Below.refl _ _⟩
end Go.Proofs.YtghoelgjpljbkaaDoor.Label
