/-
  Contracts of the library's ParseUint at base 16 for texts of sixteen bytes, and of package label's Number.
-/
import Derived.Test.YtghoelgjpljbkaaDoorLNum
namespace Go.Proofs.YtghoelgjpljbkaaDoor.Label
open Go.RowKit Go.Shelf
open Go.Lib (bytesWorld_below)

theorem lower_any (c : Int) (w : World) : Calls Tryd.prog 50 #[.int .u8 c] w fun e w' => e = .returned (.int .u8 (bits .or .u8 c 32)) ∧ w = w' :=
  (Any.internal_strconv_lower Tryd.lays321 c w).mono fun _ _ ⟨h, g⟩ => ⟨h, g.symm⟩
theorem or32 (c : UInt8) : bits .or .u8 (c.toNat : Int) 32 = ((c ||| 32).toNat : Int) := by
  have h : ∀ x : Fin 256, bits .or .u8 ((UInt8.ofNat x.val).toNat : Int) 32 = ((UInt8.ofNat x.val ||| 32).toNat : Int) := by decide +kernel
  have := h ⟨c.toNat, c.toNat_lt⟩
  rwa [show UInt8.ofNat (⟨c.toNat, c.toNat_lt⟩ : Fin 256).val = c from UInt8.ofNat_toNat] at this

/-- What ParseUint answers. -/
def parsed (o : Option Nat) : Value := match o with
  | some n => .tuple #[.int .u64 n, .nilIface]
  | none => .tuple #[.int .u64 0, .iface 67 (.int .i64 2)]

set_option maxHeartbeats 4000000 in
set_option maxRecDepth 100000 in
theorem iparse16 (t : ByteArray) (hs : t.size = 16) (w : World) :
    Calls Tryd.prog 39 #[.string t, .int .i64 16, .int .i64 64] w fun e w' => e = .returned (parsed (pv t.data.toList 0)) ∧ Below w.heap.size w w' := by
  have hemp : t.toList.isEmpty = false := by
    rw [← decide_eq_emptyBytes]
    exact decide_eq_false (fun h => by rw [h] at hs; revert hs; decide)
  have hcv := Lib.run_convert_string_bytes (P := Tryd.prog) w 9 52 5 t (u := .string) Tryd.underlying9 Tryd.underlying52 Tryd.underlying5
  have hB : ∀ j, j < t.size → (Lib.bytesWorld w 5 t).cell? ⟨w.heap.size, j, none⟩ = some (.int .u8 (t.data.toList.getD j 0).toNat) := fun j hj => Lib.bytesWorld_cell w 5 t j hj
  have hBel := bytesWorld_below w 5 t
  obtain ⟨W1, hW1⟩ : ∃ W1, W1 = Lib.bytesWorld w 5 t := ⟨_, rfl⟩
  rw [← hW1] at hcv hB hBel
  clear hW1
  obtain ⟨bs, hL⟩ : ∃ bs, bs = t.data.toList := ⟨_, rfl⟩
  have hLn : bs.length = t.size := by rw [hL, Lib.size_eq]
  rw [← hL] at hB ⊢
  clear hL
  have HB := Lib.hid hB
  have HN := Lib.hid hLn
  have HS := Lib.hid hs
  have hs1 : t.size ≤ 16 := by omega
  have hs2 : 16 ≤ t.size := by omega
  clear hB hLn hs
  have hmv : IntKind.u64.wrap (IntKind.u64.wrap 18446744073709551616 - 1) = 18446744073709551615 := by
    rw [IntKind.wrap_u64, IntKind.wrap_u64]; decide
  go_enter Tryd.func39, Tryd.ntmps39
  go_wp2
  go_loop [12, 13, 101] (fun vu vn vi => ∃ (k acc : Nat) (a : Int), vu = .bool false ∧ vn = .int .u64 a ∧ vi = .int .i64 k ∧ k ≤ t.size ∧ Hid (a = (acc : Int) ∧ acc < 16 ^ k ∧ pv bs 0 = pv (bs.drop k) acc))
    (fun _ _ vi => t.size - (intOf vi).toNat)
  case atStart => exact ⟨0, 0, 0, rfl, rfl, rfl, by omega, Lib.hid ⟨rfl, by simp, rfl⟩⟩
  case round =>
    obtain ⟨k, acc, a, rfl, rfl, rfl, hk, hh⟩ := hrel
    obtain ⟨ha, hacc, hdec⟩ := hh.out
    clear hh
    by_cases hkn : k < t.size
    · have hp : 16 ^ k ≤ 16 ^ 15 := Nat.pow_le_pow_right (by omega) (by omega)
      have a0 : 0 ≤ a := by omega
      have a1 : a < 1152921504606846976 := by
        have e : (16 : Nat) ^ 15 = 1152921504606846976 := by decide
        rw [e] at hp
        omega
      have hc := HB.out k hkn
      have hkl : k < bs.length := by rw [HN.out]; exact hkn
      have hdrop : bs.drop k = bs[k]'hkl :: bs.drop (k + 1) := List.drop_eq_getElem_cons hkl
      have hget : bs.getD k 0 = bs[k]'hkl := by simp [List.getD, List.getElem?_eq_getElem hkl]
      rw [hdrop] at hdec
      rw [hget] at hc
      generalize bs[k]'hkl = c at hc hdec
      have hc256 : c.toNat < 256 := c.toNat_lt
      have hv0 : (0 : Int) ≤ ((c ||| 32).toNat : Int) := by omega
      have hv1 : ((c ||| 32).toNat : Int) < 256 := by have := (c ||| 32).toNat_lt; omega
      have ho := or32 c
      have hmul : a * 16 < 18446744073709551616 := by omega
      clear hdrop hget hkl hp
      cases hd : dv c with
      | none =>
        have hF : pv bs 0 = none := by rw [hdec]; simp only [pv, hd]
        have HF := Lib.hid hF
        have h1 : c.toNat < 48 ∨ 57 < c.toNat := by
          unfold dv at hd; split at hd
          · cases hd
          · omega
        have h2 : (c ||| 32).toNat < 97 ∨ (103 ≤ (c ||| 32).toNat ∧ (c ||| 32).toNat ≤ 122) ∨ 122 < (c ||| 32).toNat := by
          unfold dv at hd; split at hd
          · cases hd
          · split at hd
            · cases hd
            · omega
        clear hdec hF hd ha hacc
        generalize (c ||| 32).toNat = v at *
        generalize c.toNat = x at *
        rcases h1 with h1 | h1 <;> rcases h2 with h2 | ⟨h2, h3⟩ | h2
        all_goals
          go_wp2_with (go_at_call 50; refine (lower_any _ _).mono ?_; rintro e w' ⟨rfl, rfl⟩)
        all_goals go_ret2
        all_goals exact ⟨by rw [HF.out]; rfl, hBel⟩
      | some d =>
        have hF : pv bs 0 = pv (bs.drop (k + 1)) (acc * 16 + d) := by rw [hdec]; simp only [pv, hd]
        have hd16 := dv_lt hd
        have h1 : (48 ≤ c.toNat ∧ c.toNat ≤ 57 ∧ (d : Int) = (c.toNat : Int) - 48) ∨ ((c.toNat < 48 ∨ 57 < c.toNat) ∧ 97 ≤ (c ||| 32).toNat ∧ (c ||| 32).toNat ≤ 102 ∧ (d : Int) = ((c ||| 32).toNat : Int) - 97 + 10) := by
          unfold dv at hd; split at hd
          · injection hd with hd; omega
          · split at hd
            · injection hd with hd; omega
            · cases hd
        have HR : ∀ x : Int, (d : Int) = x → Hid (a * 16 + x = ((acc * 16 + d : Nat) : Int) ∧ acc * 16 + d < 16 ^ (k + 1) ∧ pv bs 0 = pv (bs.drop (k + 1)) (acc * 16 + d)) := fun x hx => Lib.hid ⟨by rw [ha, ← hx]; omega, by rw [Nat.pow_succ]; omega, hF⟩
        clear hdec hF hd ha hacc
        have h95 : 97 ≤ (c ||| 32).toNat → (c ||| 32).toNat ≤ 102 → ((c.toNat : Int) == 95) = false := fun g1 g2 => by
          rw [beq_eq_false_iff_ne]
          intro e
          have e' : c = 95 := UInt8.toNat_inj.1 (by show c.toNat = 95; omega)
          subst e'
          revert g2; decide
        generalize (c ||| 32).toNat = v at *
        generalize c.toNat = x at *
        rcases h1 with ⟨h1, h2, hx⟩ | ⟨h1, h2, h3, hx⟩
        · have HR := HR _ hx
          clear hx ho hd16 h95
          go_wp2
          go_round
          case rel => exact ⟨k + 1, _, _, rfl, rfl, by go_num, by omega, HR⟩
          case measure => simp [intOf]; omega
        · have HR := HR _ hx
          have h95 := h95 h2 h3
          clear hx hd16
          rcases h1 with h1 | h1
          all_goals
            go_wp2_with (go_at_call 50; refine (lower_any _ _).mono ?_; rintro e w' ⟨rfl, rfl⟩)
          all_goals
            go_round
            case rel => exact ⟨k + 1, _, _, rfl, rfl, by go_num, by omega, HR⟩
            case measure => simp [intOf]; omega
    · obtain rfl : k = t.size := by omega
      have hF : pv bs 0 = some acc := by rw [hdec, List.drop_eq_nil_of_le (by rw [HN.out]; exact Nat.le_refl _)]; rfl
      have HF := Lib.hid hF
      have HA := Lib.hid ha
      have a0 : 0 ≤ a := by omega
      clear hdec hF ha hacc
      go_wp2
      go_ret2
      exact ⟨by rw [HF.out, HA.out]; rfl, hBel⟩
end Go.Proofs.YtghoelgjpljbkaaDoor.Label
