/-
  Contracts of package crc: one bit's step, the table of half bytes, More and Sum.
-/
import Derived.Test.YtiebaeahimeedaaProg
import Derived.Test.YtiebaeahimeedaaCPure
import Derived.WalkKit
import Derived.BigCall
import Derived.BigGuard
import Derived.Lib.Hide
import Derived.Lib.Walk
import Derived.Laws.Bits64
import Derived.Laws.Bits64b
import Derived.Laws.NewBlocks
import Derived.Outline
namespace Go.Proofs.Ytiebaeahimeedaa.Crc
open Go.RowKit

theorem and_one (n : Nat) (h : n < 18446744073709551616) : bits BinOp.and IntKind.u64 (n : Int) 1 = ((n % 2 : Nat) : Int) := by
  rw [show (1 : Int) = ((1 : Nat) : Int) from rfl, bits_and_u64_nat n 1 h (by omega), Nat.and_one_is_mod]

theorem xor_nat (a b : Nat) (x y : Int) (ha : a < 18446744073709551616) (hb : b < 18446744073709551616) (hx : x = (a : Int)) (hy : y = (b : Int)) : bits BinOp.xor IntKind.u64 x y = ((a ^^^ b : Nat) : Int) := by
  subst hx hy; exact bits_xor_u64_nat a b ha hb
/-- shifted. -/
theorem shifted_any (n : Nat) (w : World) (h : n < 18446744073709551616) :
    Calls Try.prog 79 #[.int .u64 n] w fun e w' => e = .returned (.int .u64 (sh n : Nat)) ∧ w = w' := by
  have h1 := and_one n h
  by_cases h2 : n % 2 = 1
  · have e : bits BinOp.xor IntKind.u64 ((n : Int) / 2) 14514072000185962306 = ((sh n : Nat) : Int) := by
      unfold sh; rw [if_pos h2]
      exact xor_nat _ _ _ _ (by omega) poly_lt (by omega) rfl
    go_enter Try.func79, Try.ntmps79
    go_wp2
    go_ret
    exact ⟨rfl, rfl⟩
  · have e : (n : Int) / 2 = ((sh n : Nat) : Int) := by unfold sh; rw [if_neg h2]; omega
    go_enter Try.func79, Try.ntmps79
    go_wp2
    go_ret
    exact ⟨rfl, rfl⟩

/-- The closure that lays a half byte's place of the table. -/
theorem lay_any (k : Nat) (arr : Array Value) (w : World) (hk : k < 16) (hs : arr.size = 16) :
    Calls Try.prog 78 #[.int .i64 k, .pointer (some ⟨w.heap.size, 0, none⟩)] (w.alloc (.cells arr 80)) fun e w' => e = .returned (.tuple #[]) ∧ w' = w.alloc (.cells (arr.setIfInBounds k (.int .u64 (sh4 k : Nat))) 80) := by
  have h0 : k < 18446744073709551616 := by omega
  have h1 := sh_lt h0
  have h2 := sh_lt h1
  have h3 := sh_lt h2
  obtain ⟨x, hx⟩ : ∃ x, arr[k]? = some x := ⟨arr[k]'(by omega), Array.getElem?_eq_getElem _⟩
  go_enter Try.func78, Try.ntmps78
  go_wp2
  refine wp_loop_rounds 5 ?_
  rw [rounds_succ]
  go_wp2_with fail
  refine (shifted_any _ _ h0).mono ?_
  rintro e w' ⟨rfl, rfl⟩
  go_wp2
  rw [rounds_succ]
  go_wp2_with fail
  refine (shifted_any _ _ h1).mono ?_
  rintro e w' ⟨rfl, rfl⟩
  go_wp2
  rw [rounds_succ]
  go_wp2_with fail
  refine (shifted_any _ _ h2).mono ?_
  rintro e w' ⟨rfl, rfl⟩
  go_wp2
  rw [rounds_succ]
  go_wp2_with fail
  refine (shifted_any _ _ h3).mono ?_
  rintro e w' ⟨rfl, rfl⟩
  go_wp2
  rw [rounds_succ]
  go_wp2
  go_end0
  exact ⟨rfl, rfl⟩
/-- The table, as far as it is laid. -/
def Tab (k : Nat) (arr : Array Value) : Prop := arr.size = 16 ∧ ∀ j, j < k → arr[j]? = some (.int .u64 (sh4 j : Nat))
theorem Tab.lay {k : Nat} {arr : Array Value} (h : Tab k arr) (hk : k < 16) : Tab (k + 1) (arr.setIfInBounds k (.int .u64 (sh4 k : Nat))) := by
  obtain ⟨h1, h2⟩ := h
  refine ⟨by simpa using h1, fun j hj => ?_⟩
  by_cases e : j = k
  · subst e; simp [h1, hk]
  · rw [Array.getElem?_setIfInBounds_ne (by omega)]; exact h2 j (by omega)
def zeros : Array Value := #[.int .u64 0, .int .u64 0, .int .u64 0, .int .u64 0, .int .u64 0, .int .u64 0, .int .u64 0, .int .u64 0, .int .u64 0, .int .u64 0, .int .u64 0, .int .u64 0, .int .u64 0, .int .u64 0, .int .u64 0, .int .u64 0]
theorem tab_none : Tab 0 zeros := ⟨rfl, fun j h => by omega⟩

theorem Tab.eq {arr : Array Value} (h : Tab 16 arr) : arr = #[.int .u64 (sh4 0 : Nat), .int .u64 (sh4 1 : Nat), .int .u64 (sh4 2 : Nat), .int .u64 (sh4 3 : Nat), .int .u64 (sh4 4 : Nat), .int .u64 (sh4 5 : Nat), .int .u64 (sh4 6 : Nat), .int .u64 (sh4 7 : Nat), .int .u64 (sh4 8 : Nat), .int .u64 (sh4 9 : Nat), .int .u64 (sh4 10 : Nat), .int .u64 (sh4 11 : Nat), .int .u64 (sh4 12 : Nat), .int .u64 (sh4 13 : Nat), .int .u64 (sh4 14 : Nat), .int .u64 (sh4 15 : Nat)] := by
  apply Array.ext_getElem?
  intro i
  by_cases hi : i < 16
  · rw [h.2 i hi]
    match i, hi with
    | 0, _ => rfl
    | 1, _ => rfl
    | 2, _ => rfl
    | 3, _ => rfl
    | 4, _ => rfl
    | 5, _ => rfl
    | 6, _ => rfl
    | 7, _ => rfl
    | 8, _ => rfl
    | 9, _ => rfl
    | 10, _ => rfl
    | 11, _ => rfl
    | 12, _ => rfl
    | 13, _ => rfl
    | 14, _ => rfl
    | 15, _ => rfl
    | n + 16, h => omega
  · rw [Array.getElem?_eq_none (by rw [h.1]; omega), Array.getElem?_eq_none (by simp; omega)]

/-- The table of half bytes: a new block, and the array of it. -/
theorem halves_any (w : World) :
    Calls Try.prog 75 #[] w fun e w' => ∃ arr, Tab 16 arr ∧ e = .returned (.agg arr) ∧ Below w.heap.size w w' := by
  have hmf : ∀ (fn : Fn) (first cap : Array Value) (w : World), (Instr.makeFunc fn first cap).run Try.prog w = .ok (.func fn first cap) w := fun _ _ _ _ => rfl
  go_enter Try.func75, Try.ntmps75
  go_wp2
  go_loopw [5] (fun i wr => ∃ (k : Nat) (arr : Array Value), i = .int .i64 k ∧ k ≤ 16 ∧ Tab k arr ∧ Hid (wr = (w.alloc (.cells zeros 80)).alloc (.cells arr 80))) (fun i _ => 16 - (intOf i).toNat)
  case atStart => exact ⟨0, zeros, rfl, by omega, tab_none, Lib.hid rfl⟩
  case round =>
    obtain ⟨k, arr, rfl, hk, hT, hw⟩ := hrel
    obtain rfl := hw.out
    clear hw
    by_cases hlt : k < 16
    · have hL := lay_any k arr (w.alloc (.cells zeros 80)) hlt hT.1
      rw [World.size_alloc] at hL
      have HT := Lib.hid (hT.lay hlt)
      clear hT
      go_wp2_with fail
      refine hL.mono ?_
      rintro e w' ⟨rfl, rfl⟩
      go_wp2
      go_roundw
      case rel => exact ⟨k + 1, _, by go_num, by omega, HT.out, Lib.hid rfl⟩
      case measure => simp [intOf]; omega
    · obtain rfl : k = 16 := by omega
      have HT := Lib.hid hT
      rw [hT.eq]
      rw [hT.eq] at HT
      clear hT
      unfold zeros
      generalize sh4 0 = t0 at HT ⊢
      generalize sh4 1 = t1 at HT ⊢
      generalize sh4 2 = t2 at HT ⊢
      generalize sh4 3 = t3 at HT ⊢
      generalize sh4 4 = t4 at HT ⊢
      generalize sh4 5 = t5 at HT ⊢
      generalize sh4 6 = t6 at HT ⊢
      generalize sh4 7 = t7 at HT ⊢
      generalize sh4 8 = t8 at HT ⊢
      generalize sh4 9 = t9 at HT ⊢
      generalize sh4 10 = t10 at HT ⊢
      generalize sh4 11 = t11 at HT ⊢
      generalize sh4 12 = t12 at HT ⊢
      generalize sh4 13 = t13 at HT ⊢
      generalize sh4 14 = t14 at HT ⊢
      generalize sh4 15 = t15 at HT ⊢
      go_wp2_with fail
      have hsz : (Try.prog.info? 80).map (·.size) = some 16 := by kernel_rfl
      exact bodyPost_ret (results_cell_row Try.results75 _ _ w.heap.size 80 _ (0, 0) _ rfl (heap_alloc2_old _ _ _) Try.underlying80 rfl hsz) rfl ⟨_, HT.out, rfl, ((Below.refl _ _).alloc (Nat.le_refl _) _).alloc (by rw [World.size_alloc]; omega) _⟩
end Go.Proofs.Ytiebaeahimeedaa.Crc
