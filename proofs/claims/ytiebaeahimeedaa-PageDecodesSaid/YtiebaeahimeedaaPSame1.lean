/-
  Lists compared: the document's ints and Pairs.
-/
import Derived.Test.YtiebaeahimeedaaPDecode2
import Derived.Laws.StructEq
namespace Go.Proofs.Ytiebaeahimeedaa.Page
open Go.RowKit Gen

theorem eq_step {α : Type} {la lb : List α} {k : Nat} (ha : k < la.length) (hb : k < lb.length) (h : la.take k = lb.take k) (e : la[k] = lb[k]) : la.take (k + 1) = lb.take (k + 1) := by
  rw [List.take_succ_eq_append_getElem ha, List.take_succ_eq_append_getElem hb, h, e]
theorem ne_at {α : Type} {la lb : List α} {k : Nat} (ha : k < la.length) (hb : k < lb.length) (e : la[k] ≠ lb[k]) : la ≠ lb := fun h => by subst h; exact e rfl
theorem all_eq {α : Type} {la lb : List α} {k : Nat} (ha : la.length ≤ k) (hl : la.length = lb.length) (h : la.take k = lb.take k) : la = lb := by
  rwa [List.take_of_length_le ha, List.take_of_length_le (by omega)] at h
set_option maxRecDepth 100000 in
theorem ints_any (A B : Option Addr) (n c m d : Nat) (la lb : List Int) (w : World) (hl : la.length = n) (hm : lb.length = m) (hn : n ≤ 9223372036854775807) (hR : IRow w A la) (hS : IRow w B lb) : Calls Try.prog 44 #[.slice A n c, .slice B m d] w (TellsD (la = lb) w) := by
  have HR := Lib.hid hR
  have HS := Lib.hid hS
  have HL := Lib.hid hl
  have HM := Lib.hid hm
  clear hR hS hl hm
  by_cases hnm : n = m
  rotate_left
  · have d0 : ((n : Int) != (m : Int)) = true := by simp; omega
    have HN := Lib.hid hnm
    clear hnm
    go_enter Try.func44, Try.ntmps44
    go_wp2_with fail
    go_ret
    exact ⟨_, rfl, ⟨fun h => (by cases h), fun h => absurd (by rw [← HL.out, ← HM.out, h]) HN.out⟩, Drew.refl _⟩
  subst hnm
  go_enter Try.func44, Try.ntmps44
  go_wp2_with fail
  go_loopw [5] (fun i wr => ∃ k : Nat, i = .int .i64 (k : Int) ∧ k ≤ n ∧ Hid (la.take k = lb.take k) ∧ Drew w wr) (fun i _ => n - (intOf i).toNat)
  case atStart => exact ⟨0, rfl, Nat.zero_le _, Lib.hid (by simp), Drew.refl _⟩
  case round =>
    obtain ⟨k, rfl, hk, hQ, hD⟩ := hrel
    have HD := Lib.hid hD
    clear hD
    by_cases hlt : k < n
    · have hka : k < la.length := by have := HL.out; omega
      have hkb : k < lb.length := by have := HM.out; omega
      obtain ⟨b1, o1, rfl, -, hc1⟩ := HR.out (by intro e; subst e; simp at hka)
      obtain ⟨b2, o2, rfl, -, hc2⟩ := HS.out (by intro e; subst e; simp at hkb)
      have h1 := hc1 k hka
      have h2 := hc2 k hkb
      rw [← HD.out.cell] at h1 h2
      have HE := Lib.hid (eq_step hka hkb hQ.out)
      have HN := Lib.hid (ne_at hka hkb)
      generalize la[k] = x at *
      generalize lb[k] = y at *
      clear hc1 hc2 hQ
      by_cases hxy : x = y
      · have d0 : (x != y) = false := by simp [hxy]
        have HF := Lib.hid (HE.out hxy)
        clear hxy HE HN
        go_wp2_with fail
        go_quiet (fail)
        go_wp2_with fail
        go_roundw
        case rel => exact ⟨k + 1, by go_num, by omega, HF, HD.out.drewN _⟩
        case measure => simp [intOf]; omega
      · have d0 : (x != y) = true := by simp [hxy]
        have HF := Lib.hid (HN.out hxy)
        clear hxy HE HN
        go_wp2_with fail
        go_quiet (fail)
        go_wp2_with fail
        go_ret
        exact ⟨_, rfl, ⟨fun h => (by cases h), fun h => absurd h HF.out⟩, HD.out.drewN _⟩
    · have HF := Lib.hid (all_eq (k := k) (by have := HL.out; omega) (by rw [HL.out, HM.out]) hQ.out)
      clear hQ
      go_wp2_with fail
      go_ret
      exact ⟨_, rfl, ⟨fun _ => HF.out, fun _ => rfl⟩, HD.out⟩
theorem pair_und : Try.prog.underlying 44 = some (.struct (Try.prog.fieldsOf 44)) := by kernel_rfl
theorem pair_stood : Try.prog.stoodInHeld 44 = false := by kernel_rfl
theorem pair_guard : Try.prog.eqGuardType Try.prog.depth 44 = false := by kernel_rfl
theorem pair_eq (X1 Y1 X2 Y2 : ByteArray) (W : World) : (Op.equalIn 10000 44 (.agg #[.string X1, .string Y1]) (.agg #[.string X2, .string Y2])).run Try.prog W = .ok ((X1.toList == X2.toList) && (Y1.toList == Y2.toList)) W := by
  have u9 := Try.underlying9
  have a9 := Try.isAgg9
  have z9 := Try.sizeOf9
  rw [show (10000 : Nat) = 9999 + 1 from rfl, run_equalIn_agg W 9999 44 _ _ pair_und pair_stood]
  simp only [Program.fieldsOf, Try.underlying44]
  go_simp
  by_cases h1 : X1.toList = X2.toList <;> by_cases h2 : Y1.toList = Y2.toList <;> simp [h1, h2]
theorem pair_neq (X1 Y1 X2 Y2 : ByteArray) (W : World) (r : Bool) (h : ((X1.toList == X2.toList) && (Y1.toList == Y2.toList)) = r) : (binOp .neq 44 (.agg #[.string X1, .string Y1]) (.agg #[.string X2, .string Y2])).run Try.prog W = .ok (.bool (!r)) W := by
  rw [run_neq_struct, pair_eq, h]
  rfl
theorem pair_grd (x y : Operand) (u v : Array Value) (W : World) : (eqGuard .neq 44 x y (.agg u) (.agg v)).run Try.prog W = .ok () W := run_eqGuard_agg W _ _ _ _ _ _ pair_guard
theorem pair_beq (p q : Bs × Bs) : (((strB p.1).toList == (strB q.1).toList) && ((strB p.2).toList == (strB q.2).toList)) = decide (p = q) := by
  rw [strB_beq, strB_beq]
  obtain ⟨a, b⟩ := p
  obtain ⟨c, d⟩ := q
  by_cases h1 : a = c <;> by_cases h2 : b = d <;> simp [h1, h2]
set_option maxRecDepth 100000 in
theorem pairs_any (A B : Option Addr) (n c m d : Nat) (la lb : List (Bs × Bs)) (w : World) (hl : la.length = n) (hm : lb.length = m) (hn : n ≤ 9223372036854775807) (hR : PRow w A la) (hS : PRow w B lb) : Calls Try.prog 43 #[.slice A n c, .slice B m d] w (TellsD (la = lb) w) := by
  have HR := Lib.hid hR
  have HS := Lib.hid hS
  have HL := Lib.hid hl
  have HM := Lib.hid hm
  clear hR hS hl hm
  by_cases hnm : n = m
  rotate_left
  · have d0 : ((n : Int) != (m : Int)) = true := by simp; omega
    have HN := Lib.hid hnm
    clear hnm
    go_enter Try.func43, Try.ntmps43
    go_wp2_with fail
    go_ret
    exact ⟨_, rfl, ⟨fun h => (by cases h), fun h => absurd (by rw [← HL.out, ← HM.out, h]) HN.out⟩, Drew.refl _⟩
  subst hnm
  go_enter Try.func43, Try.ntmps43
  go_wp2_with fail
  go_loopw [5] (fun i wr => ∃ k : Nat, i = .int .i64 (k : Int) ∧ k ≤ n ∧ Hid (la.take k = lb.take k) ∧ Drew w wr) (fun i _ => n - (intOf i).toNat)
  case atStart => exact ⟨0, rfl, Nat.zero_le _, Lib.hid (by simp), Drew.refl _⟩
  case round =>
    obtain ⟨k, rfl, hk, hQ, hD⟩ := hrel
    have HD := Lib.hid hD
    clear hD
    by_cases hlt : k < n
    · have hka : k < la.length := by have := HL.out; omega
      have hkb : k < lb.length := by have := HM.out; omega
      obtain ⟨b1, o1, rfl, -, hc1⟩ := HR.out (by intro e; subst e; simp at hka)
      obtain ⟨b2, o2, rfl, -, hc2⟩ := HS.out (by intro e; subst e; simp at hkb)
      obtain ⟨h1, h1'⟩ := hc1 k hka
      obtain ⟨h2, h2'⟩ := hc2 k hkb
      rw [← HD.out.cell] at h1 h1' h2 h2'
      have HE := Lib.hid (eq_step hka hkb hQ.out)
      have HN := Lib.hid (ne_at hka hkb)
      have HQ := Lib.hid (pair_beq la[k] lb[k])
      have HE2 := Lib.hid (fun W r => pair_neq (strB la[k].1) (strB la[k].2) (strB lb[k].1) (strB lb[k].2) W r)
      have hg := pair_grd
      obtain ⟨X1, eX1⟩ : ∃ X, strB la[k].1 = X := ⟨_, rfl⟩
      rw [show strV la[k].1 = .string X1 by rw [← eX1]] at h1
      obtain ⟨Y1, eY1⟩ : ∃ X, strB la[k].2 = X := ⟨_, rfl⟩
      rw [show strV la[k].2 = .string Y1 by rw [← eY1]] at h1'
      obtain ⟨X2, eX2⟩ : ∃ X, strB lb[k].1 = X := ⟨_, rfl⟩
      rw [show strV lb[k].1 = .string X2 by rw [← eX2]] at h2
      obtain ⟨Y2, eY2⟩ : ∃ X, strB lb[k].2 = X := ⟨_, rfl⟩
      rw [show strV lb[k].2 = .string Y2 by rw [← eY2]] at h2'
      rw [eX1, eY1, eX2, eY2] at HE2 HQ
      clear eX1 eY1 eX2 eY2
      clear hc1 hc2 hQ
      have t1 : (k : Int) < (n : Int) := by omega
      have t3 : (0 : Int) ≤ (k : Int) := by omega
      by_cases hxy : la[k] = lb[k]
      · have hE := fun W => HE2.out W true (by rw [HQ.out]; simp [hxy])
        have HF := Lib.hid (HE.out hxy)
        clear hxy HE HN HE2 HQ
        go_wp2_with fail
        go_quiet (fail)
        go_wp2_with fail
        go_roundw
        case rel => exact ⟨k + 1, by go_num, by omega, HF, HD.out.drewN _⟩
        case measure => simp [intOf]; omega
      · have hE := fun W => HE2.out W false (by rw [HQ.out]; simp [hxy])
        have HF := Lib.hid (HN.out hxy)
        clear hxy HE HN HE2 HQ
        go_wp2_with fail
        go_quiet (fail)
        go_wp2_with fail
        go_ret
        exact ⟨_, rfl, ⟨fun h => (by cases h), fun h => absurd h HF.out⟩, HD.out.drewN _⟩
    · have HF := Lib.hid (all_eq (k := k) (by have := HL.out; omega) (by rw [HL.out, HM.out]) hQ.out)
      clear hQ
      go_wp2_with fail
      go_ret
      exact ⟨_, rfl, ⟨fun _ => HF.out, fun _ => rfl⟩, HD.out⟩
end Go.Proofs.Ytiebaeahimeedaa.Page
