/-
  Contracts of the library's FormatUint at base 16.
-/
import Derived.Test.YtghoelgjpljbkaaDoorProg
import Derived.Test.YtghoelgjpljbkaaDoorLHex
import Derived.WalkKit
import Derived.BigCall
import Derived.BigGuard
import Derived.Lib.Hide
import Derived.Lib.Walk
import Derived.Laws.IdiomStrings
import Derived.Laws.NewBlocks
import Derived.Outline
namespace Go.Proofs.YtghoelgjpljbkaaDoor.Label
open Go.RowKit

theorem tz16 (w : World) (h : w.cell? ⟨5, 15, none⟩ = some (.int .u8 4)) :
    Calls Tryd.prog 75 #[.int .u64 16] w fun e w' => e = .returned (.int .i64 4) ∧ w = w' := by
  have h64 : Calls Tryd.prog 84 #[.int .u64 16] w fun e w' => e = .returned (.int .i64 4) ∧ w = w' := by
    have key : IntKind.u64.wrap (bits BinOp.and IntKind.u64 16 (IntKind.u64.wrap (-16)) * 285870213051353865) / 288230376151711744 = 15 := by decide +kernel
    go_enter Tryd.func84, Tryd.ntmps84
    go_wp2_with (simp only [key])
    go_ret
    exact ⟨rfl, rfl⟩
  go_enter Tryd.func75, Tryd.ntmps75
  go_wp2_with fail
  refine h64.mono ?_
  rintro e w' ⟨rfl, rfl⟩
  go_wp2
  go_ret
  exact ⟨rfl, rfl⟩

theorem pow16 (w : World) : Calls Tryd.prog 74 #[.int .i64 16] w fun e w' => e = .returned (.bool true) ∧ w = w' := by
  go_enter Tryd.func74, Tryd.ntmps74
  go_wp2
  go_ret
  exact ⟨rfl, rfl⟩

/-- A row of 65 bytes that ends with some. -/
def Row65 (arr : Array Value) (l : List UInt8) : Prop := arr.size = 65 ∧ l.length ≤ 65 ∧ ∀ j (h : j < l.length), arr[65 - l.length + j]? = some (.int .u8 (l[j].toNat : Int))
theorem Row65.cell {arr : Array Value} {l : List UInt8} (h : Row65 arr l) (i : Nat) (hi : i < 65) : ∃ x, arr[i]? = some x := ⟨arr[i]'(by have := h.1; omega), Array.getElem?_eq_getElem _⟩
theorem Row65.store {arr : Array Value} {l : List UInt8} (h : Row65 arr l) (hl : l.length < 65) (c : UInt8) (i : Nat) (hi : i + 1 = 65 - l.length) : Row65 (arr.setIfInBounds i (.int .u8 (c.toNat : Int))) (c :: l) := by
  obtain ⟨h1, h2, h3⟩ := h
  refine ⟨by simpa using h1, by simp; omega, fun j hj => ?_⟩
  cases j with
  | zero =>
    simp only [List.length_cons, Nat.add_zero, List.getElem_cons_zero]
    rw [show 65 - (l.length + 1) = i by omega]
    simp [h1, show i < 65 by omega]
  | succ j =>
    simp only [List.length_cons, List.getElem_cons_succ]
    have hj' : j < l.length := by simpa using hj
    rw [Array.getElem?_setIfInBounds_ne (by omega), show 65 - (l.length + 1) + (j + 1) = 65 - l.length + j by omega]
    exact h3 j hj'
theorem row_zero : Row65 Tryd.zeroCells92 [] := ⟨by kernel_rfl, by simp, fun j h => by cases h⟩

/-- The library's text of signs. -/
def signs : ByteArray := ⟨#[48, 49, 50, 51, 52, 53, 54, 55, 56, 57, 97, 98, 99, 100, 101, 102, 103, 104, 105, 106, 107, 108, 109, 110, 111, 112, 113, 114, 115, 116, 117, 118, 119, 120, 121, 122]⟩
theorem sign_all : ∀ x : Fin 16, signs[x.val]'(Nat.lt_of_lt_of_le x.isLt (by decide)) = hexd x.val := by decide +kernel
theorem sign_at (x i : Nat) (hx : x < 16) (e : i = x) (h : i < signs.size) : signs[i] = hexd x := by subst e; exact sign_all ⟨i, hx⟩
theorem and15 (y : Nat) (h : y < 18446744073709551616) : bits BinOp.and IntKind.u64 (y : Int) 15 = (y : Int) % 16 := by
  rw [show (15 : Int) = ((15 : Nat) : Int) from rfl, bits_and_u64_nat y 15 h (by omega)]
  rw [show (15 : Nat) = 2 ^ 4 - 1 from rfl, Nat.and_two_pow_sub_one_eq_mod]
  simp

theorem add_at (b o j : Nat) : (⟨b, o, none⟩ : Addr).add j = ⟨b, o + j, none⟩ := by unfold Addr.add; split <;> simp_all
theorem slice65 (m b n : Nat) (h1 : 1 ≤ m) (hm : m ≤ 65) (hn : n = 66 - m) (W : World) : (Instr.sliceAt 92 (.pointer (some ⟨b, 0, none⟩)) (some (.int .i64 ((m : Int) - 1))) none none).run Tryd.prog W = .ok (.slice (some ⟨b, m - 1, none⟩) n n) W := by
  have hal : Tryd.prog.arrayLen 92 = 65 := by kernel_rfl
  subst hn
  rw [run_sliceAt_array_l W 92 ⟨b, 0, none⟩ (by kernel_rfl) .i64 ((m : Int) - 1) (by omega) (by rw [hal]; omega), hal]
  go_simp
  omega

set_option maxHeartbeats 1000000 in
set_option maxRecDepth 100000 in
theorem formatBits16 (u : Nat) (w : World) (hu : u < 18446744073709551616) (h : w.cell? ⟨5, 15, none⟩ = some (.int .u8 4)) :
    Calls Tryd.prog 59 #[.slice none 0 0, .int .u64 u, .int .i64 16, .bool false, .bool false] w fun e w' => e = .returned (.tuple #[.slice none 0 0, .string ⟨(hexDigits u).toArray⟩]) ∧ Below w.heap.size w w' := by
  have hg : 5 < w.heap.size := by
    rcases Nat.lt_or_ge 5 w.heap.size with h' | h'
    · exact h'
    · simp [World.cell?, Array.getElem?_eq_none h'] at h
  have htz := tz16 (w.alloc (.cells Tryd.zeroCells92 92)) (by rw [World.cell?_alloc_old _ _ _ (Nat.ne_of_lt hg)]; exact h)
  clear h hg
  go_enter Tryd.func59, Tryd.ntmps59
  go_wp2_with fail
  refine (pow16 _).mono ?_
  rintro e w' ⟨rfl, rfl⟩
  go_wp2_with fail
  refine htz.mono ?_
  rintro e w' ⟨rfl, rfl⟩
  clear htz
  go_wp2
  go_loopw [1, 13] (fun x i wr => ∃ (y m : Nat) (l : List UInt8) (arr : Array Value), x = .int .u64 y ∧ i = .int .i64 m ∧ y < 18446744073709551616 ∧ Hid (m + l.length = 65) ∧ Hid (hexDigits y ++ l = hexDigits u) ∧ Row65 arr l ∧ Hid (wr = w.alloc (.cells arr 92))) (fun x _ _ => (intOf x).toNat)
  case atStart => exact ⟨u, 65, [], _, rfl, rfl, hu, Lib.hid rfl, Lib.hid (by simp), row_zero, Lib.hid rfl⟩
  case round =>
    obtain ⟨y, m, l, arr, rfl, rfl, hy, hm, hl, hR, hw⟩ := hrel
    obtain rfl := hw.out
    clear hw
    by_cases hlt : 16 ≤ y
    · have hll : l.length ≤ 15 := by
        have h1 := hexDigits_len 15 u hu
        have h2 := hexDigits_len 15 y hy
        have h3 := congrArg List.length hl.out
        rw [List.length_append] at h3
        omega
      have hm1 : 50 ≤ m := by have := hm.out; omega
      have hm2 : m ≤ 65 := by have := hm.out; omega
      have hA := and15 y hy
      obtain ⟨x, hx⟩ := hR.cell (m - 1) (by omega)
      go_wp2
      go_roundw
      case rel =>
        refine ⟨y / 16, m - 1, hexd (y % 16) :: l, arr.setIfInBounds (m - 1) (.int .u8 ((hexd (y % 16)).toNat : Int)), by simp, by go_num, by omega, Lib.hid (by have := hm.out; simp; omega), Lib.hid ?_, hR.store (by omega) _ _ (by have := hm.out; omega), Lib.hid ?_⟩
        · have := hl.out
          rw [hexDigits, dif_neg (by omega)] at this
          simpa using this
        · exact congrArg (fun c : UInt8 => w.alloc (.cells (arr.setIfInBounds (m - 1) (.int .u8 (c.toNat : Int))) 92)) (sign_at (y % 16) (y % 16) (by omega) rfl (Nat.lt_of_lt_of_le (show y % 16 < 16 by omega) (by decide)))
      case measure => simp [intOf]; omega
    · have hll : l.length ≤ 15 := by
        have h1 := hexDigits_len 15 u hu
        have h2 := hexDigits_len 15 y hy
        have h3 := congrArg List.length hl.out
        rw [List.length_append] at h3
        omega
      have hm1 : 50 ≤ m := by have := hm.out; omega
      have hm2 : m ≤ 65 := by have := hm.out; omega
      obtain ⟨x, hx⟩ := hR.cell (m - 1) (by omega)
      have hlt' : y < 16 := by omega
      have hD : hexd y :: l = hexDigits u := by
        have := hl.out
        rw [hexDigits, dif_pos (by omega)] at this
        simpa using this
      have hR' := hR.store (by omega) (hexd y) (m - 1) (by have := hm.out; omega)
      rw [← sign_at y y hlt' rfl (Nat.lt_of_lt_of_le hlt' (by decide)), sign_at y y hlt' rfl (Nat.lt_of_lt_of_le hlt' (by decide)), hD] at hR'
      have hDn : (hexDigits u).length = 66 - m := by rw [← hD]; have := hm.out; simp; omega
      have hsl := slice65 m w.heap.size (hexDigits u).length (by omega) hm2 hDn
      have hcv := run_convert_bytes_back (P := Tryd.prog) (w.alloc (.cells (arr.setIfInBounds (m - 1) (.int .u8 ((signs[y]'(Nat.lt_of_lt_of_le hlt' (by decide))).toNat : Int))) 92)) 52 9 5 ⟨w.heap.size, m - 1, none⟩ (hexDigits u).length (hexDigits u) Tryd.underlying52 Tryd.underlying5 Tryd.underlying9 (fun j hj => by
        rw [add_at, World.cell?_alloc_new, show m - 1 + j = 65 - (hexDigits u).length + j by omega]
        rw [sign_at y y hlt' rfl]
        exact hR'.2.2 j hj)
      unfold signs at hcv
      have HD := Lib.hid hDn
      clear hR' hDn hD
      go_wp2
      go_ret2
      exact ⟨rfl, (Below.refl _ _).alloc (Nat.le_refl _) _⟩

/-- strconv.FormatUint at base 16. -/
theorem formatUint16 (u : Nat) (w : World) (hu : u < 18446744073709551616) (h : w.cell? ⟨5, 15, none⟩ = some (.int .u8 4)) :
    Calls Tryd.prog 36 #[.int .u64 u, .int .i64 16] w fun e w' => e = .returned (.string ⟨(hexDigits u).toArray⟩) ∧ Below w.heap.size w w' := by
  have hI : Calls Tryd.prog 42 #[.int .u64 u, .int .i64 16] w fun e w' => e = .returned (.string ⟨(hexDigits u).toArray⟩) ∧ Below w.heap.size w w' := by
    have hF := formatBits16 u w hu h
    clear h
    go_enter Tryd.func42, Tryd.ntmps42
    go_wp2_with fail
    refine hF.mono ?_
    rintro e w' ⟨rfl, hb⟩
    go_wp2
    go_ret
    exact ⟨rfl, hb⟩
  clear h
  go_enter Tryd.func36, Tryd.ntmps36
  go_wp2_with fail
  refine hI.mono ?_
  rintro e w' ⟨rfl, hb⟩
  go_wp2
  go_ret
  exact ⟨rfl, hb⟩
end Go.Proofs.YtghoelgjpljbkaaDoor.Label
