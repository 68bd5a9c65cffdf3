/-
  The contracts of the reference's Key, Split and Same.
-/
import Derived.Test.YtghoelgjpljbkaaDoorLSplit
import Derived.Test.YtghoelgjpljbkaaDoorLRefName
import Derived.Test.YtghoelgjpljbkaaDoorOwn
namespace Go.Proofs.YtghoelgjpljbkaaDoor.Label
open Go.RowKit

set_option maxHeartbeats 2000000 in
theorem ref_key (sp : UInt8) (A : Option Addr) (n c : Nat) (l : List ByteArray) (w : World) (hl : l.length = n) (hc : n ≤ 9223372036854775807) (hz : ∀ p ∈ l, p.size ≤ 9223372036854775807) (hR : SRow w A l) :
    Calls Tryd.prog 23 #[.int .u8 (sp.toNat : Int), .slice A n c] w fun e w' => e = .returned (.tuple #[.string ⟨(kR sp (txt l)).toArray⟩, .int .i64 (kE sp (txt l))]) ∧ Below w.heap.size w w' := by
  have hno : keyOk sp (txt l) = false → kR sp (txt l) = [] ∧ kE sp (txt l) = 20 := fun h => by unfold kR kE; rw [h]; exact ⟨rfl, rfl⟩
  have HNO := Lib.hid hno
  clear hno
  have hq : keyOk sp (txt l) = (smallB sp && (decide (1 ≤ n ∧ n ≤ 4) && (txt l).all partOk)) := by unfold keyOk; rw [txt_len, hl]
  have HQ := Lib.hid hq
  clear hq
  cases h1 : smallB sp
  · have h0 := HNO.out (by rw [HQ.out, h1]; rfl)
    have H0 := Lib.hid h0
    have h1' : sp.toNat < 97 ∨ 122 < sp.toNat := by unfold smallB at h1; simp at h1; omega
    clear h0 h1
    rcases h1' with h1 | h1
    all_goals
      go_enter Tryd.func23, Tryd.ntmps23
      go_wp2
      go_ret2
      exact ⟨by rw [H0.out.1, H0.out.2]; rfl, Below.refl _ _⟩
  · have s1 : 97 ≤ sp.toNat := by unfold smallB at h1; simp at h1; omega
    have s2 : sp.toNat ≤ 122 := by unfold smallB at h1; simp at h1; omega
    have s3 : decide ((sp.toNat : Int) < 97) = false := by simp; omega
    have s4 : decide (122 < (sp.toNat : Int)) = false := by simp; omega
    by_cases h2 : 1 ≤ n
    · by_cases h3 : n ≤ 4
      · obtain ⟨b, off, rfl, hb, hcell⟩ := hR (by intro e; rw [e] at hl; simp at hl; omega)
        have g1 : decide ((n : Int) < 1) = false := by simp; omega
        have g2 : decide (4 < (n : Int)) = false := by simp; omega
        have hcv := one_byte w sp
        have HC := Lib.hid hcell
        have HL := Lib.hid hl
        have HZ := Lib.hid hz
        clear hcell hl hz
        have hbe := (Below.refl w.heap.size w).alloc (Nat.le_refl _) (.cells #[.int .u8 (sp.toNat : Int)] 5)
        go_enter Tryd.func23, Tryd.ntmps23
        go_wp2
        go_loop [6, 7, 8] (fun t i _ => ∃ (k : Nat) (q : List UInt8), k ≤ n ∧ i = .int .i64 k ∧ t = .string ⟨q.toArray⟩ ∧ q.length ≤ 1 + 17 * k ∧ Hid (q = keyS sp ((txt l).take k)) ∧ Hid (((txt l).take k).all partOk = true)) (fun _ i _ => n - (intOf i).toNat)
        case atStart => exact ⟨0, [sp], by omega, rfl, rfl, by simp, Lib.hid rfl, Lib.hid rfl⟩
        case round =>
          obtain ⟨k, q, hk, rfl, rfl, hql, hqq, hA⟩ := hrel
          by_cases hlt : k < n
          · have hkl : k < l.length := by rw [HL.out]; exact hlt
            have hce := HC.out k hkl
            have hsz := HZ.out l[k] (List.getElem_mem hkl)
            have hNo := @no_part sp l k hkl
            have hS := txt_step l k hkl
            have hlen : (l[k].data.toList).length = l[k].size := rfl
            have HNo := Lib.hid hNo
            have HS := Lib.hid hS
            clear hNo hS
            generalize l[k] = p at *
            have hW : Calls Tryd.prog 35 #[.string p, .int .i64 16] (w.alloc (.cells #[.int .u8 (sp.toNat : Int)] 5)) fun e w' => e = .returned (.bool (partOk p.data.toList)) ∧ (w.alloc (.cells #[.int .u8 (sp.toNat : Int)] 5)) = w' := ref_part p 16 _ hsz
            cases hp : partOk p.data.toList
            · rw [hp] at hW
              have h0 := HNO.out (HNo.out hp)
              have H0 := Lib.hid h0
              clear h0 hlen
              go_wp2_with (go_at_call 35; refine hW.mono ?_; rintro e w' ⟨rfl, rfl⟩)
              go_ret2
              exact ⟨by rw [H0.out.1, H0.out.2]; rfl, hbe⟩
            · rw [hp] at hW
              have hpl := part_len hp
              rw [hlen] at hpl
              have hA' : ((txt l).take (k + 1)).all partOk = true := by rw [HS.out, List.all_append, hA.out]; simp [hp]
              have HA' := Lib.hid hA'
              have hQ' : q ++ (124 :: p.data.toList) = keyS sp ((txt l).take (k + 1)) := by rw [HS.out, hqq.out]; unfold keyS; rw [bars_snoc]; rfl
              have HQ' := Lib.hid hQ'
              have HLen := Lib.hid hlen
              have hpl1 := hpl.1
              have hpl2 := hpl.2
              clear hA' hQ' hlen hpl
              go_wp2_with (go_at_call 35; refine hW.mono ?_; rintro e w' ⟨rfl, rfl⟩)
              go_round
              case rel =>
                refine ⟨k + 1, q ++ (124 :: p.data.toList), by omega, by go_num, ?_, ?_, HQ', HA'⟩
                · have e : (⟨q.toArray⟩ : ByteArray) ++ ⟨#[124]⟩ ++ p = ⟨(q ++ (124 :: p.data.toList)).toArray⟩ := by
                    apply ByteArray.ext; apply Array.toList_inj.1
                    simp [ByteArray.data_append]
                  exact congrArg Value.string e
                · simp only [List.length_append, List.length_cons]; rw [HLen.out]; omega
              case measure => simp [intOf]; omega
          · obtain rfl : k = n := by omega
            have hA := hA.out
            have hqq := hqq.out
            rw [List.take_of_length_le (by rw [txt_len, HL.out]; exact Nat.le_refl _)] at hA hqq
            have hok : keyOk sp (txt l) = true := by rw [HQ.out, h1, hA]; simp; omega
            have hr : kR sp (txt l) = q ∧ kE sp (txt l) = 0 := by unfold kR kE; rw [hok]; exact ⟨hqq.symm, rfl⟩
            have HR := Lib.hid hr
            clear hr hok hA hqq
            go_wp2
            go_ret2
            exact ⟨by rw [HR.out.1, HR.out.2]; rfl, hbe⟩
      · have h0 := HNO.out (by rw [HQ.out, decide_eq_false (p := 1 ≤ n ∧ n ≤ 4) (by omega)]; simp)
        have H0 := Lib.hid h0
        clear h0
        go_enter Tryd.func23, Tryd.ntmps23
        go_wp2
        go_ret2
        exact ⟨by rw [H0.out.1, H0.out.2]; rfl, Below.refl _ _⟩
    · have h0 := HNO.out (by rw [HQ.out, decide_eq_false (p := 1 ≤ n ∧ n ≤ 4) (by omega)]; simp)
      have H0 := Lib.hid h0
      clear h0
      go_enter Tryd.func23, Tryd.ntmps23
      go_wp2
      go_ret2
      exact ⟨by rw [H0.out.1, H0.out.2]; rfl, Below.refl _ _⟩
end Go.Proofs.YtghoelgjpljbkaaDoor.Label
