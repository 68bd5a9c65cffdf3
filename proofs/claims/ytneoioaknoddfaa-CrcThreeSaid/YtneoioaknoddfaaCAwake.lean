/-
  The calls at the head of all statements of stage 3.
-/
import Derived.Test.YtneoioaknoddfaaCRef
import Derived.Lib.SlBytesConst
namespace Go.Proofs.Ytneoioaknoddfaa.Crc
open Go.RowKit Gen

theorem nil_row (w : World) : BRow w none [] := fun h => absurd rfl h

/-- Bytes that lie in a new block. -/
theorem lit_row (w : World) (C : Array Value) (t : TypeId) (fr : Nat × Nat) (l : List UInt8) (h : ∀ k (hk : k < l.length), C[k]? = some (byteV l[k])) : BRow (w.alloc (.cells C t fr)) (some ⟨w.heap.size, 0, none⟩) l := fun _ =>
  ⟨w.heap.size, 0, rfl, by rw [World.size_alloc]; omega, fun k hk => by rw [Nat.zero_add, World.cell?_alloc_mark]; exact h k hk⟩
def t9 : List UInt8 := [49, 50, 51, 52, 53, 54, 55, 56, 57]
def t4 : List UInt8 := [49, 50, 51, 52]
def t5 : List UInt8 := [53, 54, 55, 56, 57]
theorem sum9 : more 0 t9 = 11051210869376104954 := by decide +kernel
theorem sum45 : more (more 0 t4) t5 = 11051210869376104954 := by rw [more_append]; exact sum9
theorem row9 (w : World) (t : TypeId) (fr : Nat × Nat) : BRow (w.alloc (.cells #[.int .u8 49, .int .u8 50, .int .u8 51, .int .u8 52, .int .u8 53, .int .u8 54, .int .u8 55, .int .u8 56, .int .u8 57] t fr)) (some ⟨w.heap.size, 0, none⟩) t9 :=
  lit_row _ _ _ _ _ fun k hk => match k, hk with
    | 0, _ => rfl | 1, _ => rfl | 2, _ => rfl | 3, _ => rfl | 4, _ => rfl | 5, _ => rfl | 6, _ => rfl | 7, _ => rfl | 8, _ => rfl
    | n + 9, h => by simp [t9] at h; omega
theorem row4 (w : World) (t : TypeId) (fr : Nat × Nat) : BRow (w.alloc (.cells #[.int .u8 49, .int .u8 50, .int .u8 51, .int .u8 52] t fr)) (some ⟨w.heap.size, 0, none⟩) t4 :=
  lit_row _ _ _ _ _ fun k hk => match k, hk with
    | 0, _ => rfl | 1, _ => rfl | 2, _ => rfl | 3, _ => rfl
    | n + 4, h => by simp [t4] at h; omega
theorem row5 (w : World) (t : TypeId) (fr : Nat × Nat) : BRow (w.alloc (.cells #[.int .u8 53, .int .u8 54, .int .u8 55, .int .u8 56, .int .u8 57] t fr)) (some ⟨w.heap.size, 0, none⟩) t5 :=
  lit_row _ _ _ _ _ fun k hk => match k, hk with
    | 0, _ => rfl | 1, _ => rfl | 2, _ => rfl | 3, _ => rfl | 4, _ => rfl
    | n + 5, h => by simp [t5] at h; omega

set_option maxRecDepth 100000 in
theorem awake_any (w : World) : Calls Try.prog 8 #[] w fun e w' => e = .returned (.bool true) ∧ Below w.heap.size w w' := by
  have kc := fun (w : World) (C : Array Value) (n c : Nat) => Lib.run_convert_bytes_const (P := Try.prog) w 23 5 C n c Try.underlying23 Try.underlying5
  go_enter Try.func8, Try.ntmps8
  go_wp2_with fail
  refine (sum_any none 0 0 [] _ rfl (by omega) (nil_row _)).mono ?_
  rintro e w1 ⟨rfl, B1⟩
  rw [more_nil]
  go_wp2_with fail
  refine (sum_any _ 9 9 t9 _ rfl (by omega) (row9 w1 _ _)).mono ?_
  rintro e w2 ⟨rfl, c2⟩
  rw [sum9]
  have B2 := (B1.alloc B1.size (.cells #[.int .u8 49, .int .u8 50, .int .u8 51, .int .u8 52, .int .u8 53, .int .u8 54, .int .u8 55, .int .u8 56, .int .u8 57] 5 (9, 10))).trans (c2.mono (by rw [World.size_alloc]; exact Nat.le_succ_of_le B1.size))
  clear B1 c2
  go_wp2_with fail
  refine (sum_any _ 4 4 t4 _ rfl (by omega) (row4 w2 _ _)).mono ?_
  rintro e w3 ⟨rfl, c3⟩
  have B3 := (B2.alloc B2.size (.cells #[.int .u8 49, .int .u8 50, .int .u8 51, .int .u8 52] 5 (4, 5))).trans (c3.mono (by rw [World.size_alloc]; exact Nat.le_succ_of_le B2.size))
  have h45 := more_lt t4 (s := 0) (by omega)
  have S45 := Lib.hid sum45
  generalize more 0 t4 = m4 at h45 S45 ⊢
  clear B2 c3
  go_wp2_with fail
  refine (more_any m4 _ 5 5 t5 _ h45 rfl (by omega) (row5 w3 _ _)).mono ?_
  rintro e w4 ⟨rfl, c4⟩
  rw [S45.out]
  have B4 := (B3.alloc B3.size (.cells #[.int .u8 53, .int .u8 54, .int .u8 55, .int .u8 56, .int .u8 57] 5 (5, 6))).trans (c4.mono (by rw [World.size_alloc]; exact Nat.le_succ_of_le B3.size))
  clear B3 c4
  go_wp2
  go_ret
  exact ⟨rfl, B4⟩
end Go.Proofs.Ytneoioaknoddfaa.Crc
