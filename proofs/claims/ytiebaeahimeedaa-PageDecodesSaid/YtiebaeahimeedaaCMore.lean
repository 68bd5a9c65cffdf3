/-
  Contracts of package crc's More and Sum.
-/
import Derived.Test.YtiebaeahimeedaaCStep
import Derived.Test.YtiebaeahimeedaaOwn
import Derived.Deep.WholeRow
namespace Go.Proofs.Ytiebaeahimeedaa.Crc
open Go.RowKit Gen

/-- Bytes that lie in a slice's cells. -/
abbrev byteV (c : UInt8) : Value := .int .u8 (c.toNat : Int)
abbrev BRow (w : World) (A : Option Addr) (l : List UInt8) : Prop := RowG w byteV A l

theorem Tab.one {arr : Array Value} (h : Tab 16 arr) : arr.all (·.oneCell') = true := by
  rw [h.eq]; simp [Value.oneCell']
theorem tab_store {arr : Array Value} (w : World) (h : Tab 16 arr) : (storeCells ⟨w.heap.size, 0, none⟩ arr.toList 0).run Try.prog (w.alloc (.cells zeros 80)) = .ok () (w.alloc (.cells arr 80)) :=
  run_storeCells_new w 80 zeros arr (by rw [h.1]; kernel_rfl) (by rw [h.1]; rfl) h.one

theorem bits_inv (s : Nat) (h : s < 18446744073709551616) : bits BinOp.xor IntKind.u64 IntKind.u64.max (s : Int) = ((inv s : Nat) : Int) := by
  unfold inv
  rw [Nat.xor_comm]
  exact xor_nat _ _ _ _ ones_lt h rfl rfl
theorem bits_half (n : Nat) (h : n < 18446744073709551616) : bits BinOp.xor IntKind.u64 ((n : Int) / 16) ((sh4 (n % 16) : Nat) : Int) = ((sh4 n : Nat) : Int) := by
  rw [sh4_half n]
  exact xor_nat _ _ _ _ (by omega) (sh4_lt (by omega)) (by omega) rfl

/-- What a round reckons. -/
theorem round_facts (m : Nat) (x : UInt8) (hm : m < 18446744073709551616) (arr : Array Value) (hT : ∀ j, j < 16 → arr[j]? = some (.int .u64 (sh4 j : Nat))) :
    ∃ y m1 m2 m3 : Nat, y < 256 ∧ byteV x = .int .u8 (y : Int) ∧ m1 < 18446744073709551616 ∧ m2 < 18446744073709551616 ∧ m3 < 18446744073709551616 ∧ bits BinOp.xor IntKind.u64 (m : Int) (y : Int) = (m1 : Int) ∧
      (∃ t, arr[m1 % 16]? = some (.int .u64 (t : Nat)) ∧ bits BinOp.xor IntKind.u64 ((m1 : Int) / 16) (t : Int) = (m2 : Int)) ∧
      (∃ t, arr[m2 % 16]? = some (.int .u64 (t : Nat)) ∧ bits BinOp.xor IntKind.u64 ((m2 : Int) / 16) (t : Int) = (m3 : Int)) ∧ m3 = sh8 (m ^^^ x.toNat) := by
  have h1 := xor_lt hm (byte_lt x)
  exact ⟨x.toNat, m ^^^ x.toNat, sh4 (m ^^^ x.toNat), sh8 (m ^^^ x.toNat), x.toNat_lt, rfl, h1, sh4_lt h1, sh8_lt h1, xor_nat m x.toNat _ _ hm (byte_lt x) rfl rfl, ⟨_, hT _ (by omega), bits_half _ h1⟩, ⟨_, hT _ (by omega), bits_half _ (sh4_lt h1)⟩, rfl⟩
theorem raw_drop {l : List UInt8} {k m : Nat} {N : Nat} (hk : k < l.length) (h : raw m (l.drop k) = N) : raw (sh8 (m ^^^ l[k].toNat)) (l.drop (k + 1)) = N := by
  rw [List.drop_eq_getElem_cons hk] at h
  exact h

set_option maxRecDepth 100000 in
/-- More. -/
theorem more_any (s : Nat) (A : Option Addr) (n c : Nat) (l : List UInt8) (w : World) (hs : s < 18446744073709551616) (hl : l.length = n) (hn : n ≤ 9223372036854775807) (hR : BRow w A l) :
    Calls Try.prog 69 #[.int .u64 s, .slice A n c] w fun e w' => e = .returned (.int .u64 (more s l : Nat)) ∧ Below w.heap.size w w' := by
  have hsg : IntKind.u64.signed = false := rfl
  have h1 := bits_inv s hs
  have hi := inv_lt hs
  go_enter Try.func69, Try.ntmps69
  go_wp2_with fail
  refine (halves_any _).mono ?_
  rintro e w1 ⟨arr, hT, rfl, B1⟩
  have hsz := hT.1
  have hst := tab_store w1 hT
  unfold zeros at hst
  have HT := Lib.hid hT.2
  have HR := Lib.hid (hR.below B1)
  clear hT hR
  go_wp2
  clear hst h1 hsz
  have B2 := B1.alloc (Nat.le_trans B1.size (Nat.le_refl _)) (.cells arr 80)
  go_loop [6, 14] (fun x i => ∃ k m : Nat, i = .int .i64 k ∧ x = .int .u64 m ∧ k ≤ n ∧ m < 18446744073709551616 ∧ Hid (raw m (l.drop k) = raw (inv s) l)) (fun _ i => n - (intOf i).toNat)
  case atStart => exact ⟨0, inv s, rfl, rfl, Nat.zero_le _, hi, Lib.hid rfl⟩
  case round =>
    obtain ⟨k, m, rfl, rfl, hk, hm, hQ⟩ := hrel
    by_cases hlt : k < n
    · obtain ⟨b, off, rfl, hb, hc⟩ := HR.out (by intro e; subst e; simp at hl; omega)
      have hck := hc k (by omega)
      clear hc
      obtain ⟨y, m1, m2, m3, hy, hxy, hm1, hm2, hm3, hx, ⟨t1, ht1, hh1⟩, ⟨t2, ht2, hh2⟩, he⟩ := round_facts m l[k] hm arr HT.out
      have HQ := Lib.hid (raw_drop (by omega) hQ.out)
      rw [← he] at HQ
      rw [hxy] at hck
      clear he hxy hQ
      go_wp2
      go_round
      case rel => exact ⟨k + 1, m3, by go_num, rfl, by omega, hm3, HQ⟩
      case measure => simp [intOf]; omega
    · have e : m = raw (inv s) l := by
        have h2 := hQ.out
        rw [List.drop_eq_nil_of_le (by omega)] at h2
        exact h2
      have e2 : bits BinOp.xor IntKind.u64 IntKind.u64.max (m : Int) = ((more s l : Nat) : Int) := by
        rw [bits_inv m hm, e]; rfl
      clear e
      go_wp2
      go_ret
      exact ⟨rfl, B2⟩

/-- Sum. -/
theorem sum_any (A : Option Addr) (n c : Nat) (l : List UInt8) (w : World) (hl : l.length = n) (hn : n ≤ 9223372036854775807) (hR : BRow w A l) :
    Calls Try.prog 54 #[.slice A n c] w fun e w' => e = .returned (.int .u64 (more 0 l : Nat)) ∧ Below w.heap.size w w' := by
  have h := more_any 0 A n c l w (by omega) hl hn hR
  clear hR hl
  go_enter Try.func54, Try.ntmps54
  go_wp2_with fail
  refine h.mono ?_
  rintro e w1 ⟨rfl, B1⟩
  go_wp2
  go_ret
  exact ⟨rfl, B1⟩
end Go.Proofs.Ytiebaeahimeedaa.Crc
