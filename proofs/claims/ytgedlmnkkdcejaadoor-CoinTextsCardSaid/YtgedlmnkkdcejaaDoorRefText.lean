/-
  The contract of the reference's Text.
-/
import Derived.Test.YtgedlmnkkdcejaaDoorRefs
import Derived.Test.YtgedlmnkkdcejaaDoorPlain
import Derived.Laws.IdiomStrings
namespace Go.Proofs.YtgedlmnkkdcejaaDoor.Coin
open Go.RowKit
open Go.Lib (itoa decDigits)

/-- A number's last digit. -/
def dg (x : Nat) : UInt8 := UInt8.ofNat (48 + x % 10)

/-- A text of one digit, out of a list of one byte. -/
theorem one_byte (W : World) (x : Nat) : (convert 49 9 (.slice (some ⟨W.heap.size, 0, none⟩) 1 1)).run Tryd.prog (W.alloc (.cells #[.int .u8 (48 + (x : Int) % 10)] 5)) =
    .ok (.string ⟨#[dg x]⟩) (W.alloc (.cells #[.int .u8 (48 + (x : Int) % 10)] 5)) :=
  run_convert_bytes_back (W.alloc (.cells #[.int .u8 (48 + (x : Int) % 10)] 5)) 49 9 5 ⟨W.heap.size, 0, none⟩ 1 [dg x] Tryd.underlying49 Tryd.underlying5 Tryd.underlying9 (fun j hj => by
    obtain rfl : j = 0 := by simp at hj; omega
    have e : (dg x).toNat = 48 + x % 10 := dig_toNat (x % 10) (by omega)
    simp only [List.getElem_cons_zero, e]
    simp [go_sem, Addr.add])

theorem cat_bytes (a l : List UInt8) : (⟨a.toArray⟩ : ByteArray) ++ ⟨l.toArray⟩ = ⟨(a ++ l).toArray⟩ := by
  apply ByteArray.ext
  simp [ByteArray.data_append]

/-- The digits ahead of some. -/
def ahead (x : Nat) : List UInt8 := if x = 0 then [] else decDigits x
theorem ahead_step (x : Nat) (l : List UInt8) (h : x ≠ 0) : ahead (x / 10) ++ (dg x :: l) = ahead x ++ l := by
  unfold ahead dg
  rw [if_neg h]
  conv => rhs; rw [decDigits]
  by_cases g : x < 10
  · rw [dif_pos g, if_pos (by omega)]
    rw [show x % 10 = x by omega]; rfl
  · rw [dif_neg g, if_neg (by omega)]; simp
theorem ahead_start (u : Nat) : ahead (u / 10) ++ [dg u] = decDigits u := by
  unfold ahead dg
  rw [decDigits.eq_1 u]
  by_cases g : u < 10
  · rw [dif_pos g, if_pos (by omega), show u % 10 = u by omega]; rfl
  · rw [dif_neg g, if_neg (by omega)]

set_option maxHeartbeats 1000000 in
theorem ref_text (n : Int) (w : World) (h0 : -9223372036854775808 ≤ n) (h1 : n ≤ 9223372036854775807) :
    Calls Tryd.prog 23 #[.int .i64 n] w fun e w' => e = .returned (.string ⟨(itoa n).toArray⟩) ∧ Below w.heap.size w w' := by
  have hI : itoa n = (if n < 0 then [45] else []) ++ decDigits n.natAbs := by
    unfold itoa; split
    · rfl
    · rw [show n.toNat = n.natAbs by omega]; rfl
  have hb : (n.natAbs : Int) ≤ 9223372036854775808 := by omega
  have hS : Calls Tryd.prog 29 #[.int .i64 n] w fun e w' => e = .returned (.int .u64 (n.natAbs : Int)) ∧ w = w' := ref_size n w h0 h1
  have hD := dec_len 18 n.natAbs (by omega)
  rw [hI]
  clear hI
  have HA := Lib.hid (ahead_start n.natAbs)
  generalize decDigits n.natAbs = D at *
  generalize n.natAbs = u at *
  have hcv := one_byte w u
  go_enter Tryd.func23, Tryd.ntmps23
  go_wp2_with fail
  refine hS.mono ?_
  rintro e w1 ⟨rfl, rfl⟩
  clear hS
  go_wp2
  go_loopw [3, 4] (fun i o wr => ∃ (x : Nat) (l : List UInt8), i = .int .u64 x ∧ o = .string ⟨l.toArray⟩ ∧ (x : Int) ≤ 9223372036854775808 ∧ ahead x ++ l = D ∧ Below w.heap.size w wr) (fun i _ _ => (intOf i).toNat)
  case atStart =>
    exact ⟨u / 10, [dg u], by simp, rfl, by omega, HA.out, (Below.refl _ _).alloc (Nat.le_refl _) _⟩
  case round =>
    obtain ⟨x, l, rfl, rfl, hx, hl, hB⟩ := hrel
    have hll : l.length ≤ 100 := by have := congrArg List.length hl; simp at this; omega
    have HL := Lib.hid hl
    clear hl
    have hcv := one_byte wr x
    by_cases hz : 0 < x
    · have hz' : 0 < (x : Int) := by omega
      go_wp2
      go_roundw
      case rel =>
        refine ⟨x / 10, dg x :: l, by simp, ?_, by omega, ?_, hB.alloc hB.size _⟩
        · exact congrArg Value.string (cat_bytes [dg x] l)
        · rw [ahead_step x l (by omega)]; exact HL.out
      case measure => simp [intOf]; omega
    · obtain rfl : x = 0 := by omega
      obtain rfl : l = D := by have := HL.out; simpa [ahead] using this
      clear hcv
      by_cases hn : n < 0
      · go_wp2
        go_ret
        refine ⟨?_, hB⟩
        exact congrArg (fun b => Ending.returned (.string b)) (cat_bytes [45] l)
      · go_wp2
        go_ret
        refine ⟨?_, hB⟩
        first | rfl | (rw [if_neg (by omega)]; rfl)
end Go.Proofs.YtgedlmnkkdcejaaDoor.Coin
