/-
  Contracts of the library's public ParseUint at base 16 for texts of sixteen bytes, and of package label's Number.
-/
import Derived.Test.YtghoelgjpljbkaaDoorLParse
import Derived.WideLaws
namespace Go.Proofs.YtghoelgjpljbkaaDoor.Label
open Go.RowKit Go.Shelf

theorem ppars_yes (t : ByteArray) (n : Nat) (hs : t.size = 16) (hp : pv t.data.toList 0 = some n) (w : World) :
    Calls Tryd.prog 27 #[.string t, .int .i64 16, .int .i64 64] w fun e w' => e = .returned (.tuple #[.int .u64 n, .nilIface]) ∧ Below w.heap.size w w' := by
  have hI := iparse16 t hs w
  rw [hp] at hI
  have hI : Calls Tryd.prog 39 #[.string t, .int .i64 16, .int .i64 64] w fun e w' => e = .returned (.tuple #[.int .u64 n, .nilIface]) ∧ Below w.heap.size w w' := hI
  clear hs hp
  go_enter Tryd.func27, Tryd.ntmps27
  go_wp2_with fail
  refine hI.mono ?_
  rintro e w1 ⟨rfl, b1⟩
  go_wp2
  go_ret2
  exact ⟨rfl, b1⟩

theorem ppars_no (t : ByteArray) (hs : t.size = 16) (hp : pv t.data.toList 0 = none) (w : World) (hr : Ready w) :
    Calls Tryd.prog 27 #[.string t, .int .i64 16, .int .i64 64] w fun e w' => ∃ T p, e = .returned (.tuple #[.int .u64 0, .iface T p]) ∧ Below w.heap.size w w' := by
  have hI := iparse16 t hs w
  rw [hp] at hI
  have hI : Calls Tryd.prog 39 #[.string t, .int .i64 16, .int .i64 64] w fun e w' => e = .returned (.tuple #[.int .u64 0, .iface 67 (.int .i64 2)]) ∧ Below w.heap.size w w' := hI
  have hT : ∀ W, Ready W → Calls Tryd.prog 40 #[.string ⟨#[80, 97, 114, 115, 101, 85, 105, 110, 116]⟩, .string t, .int .i64 16, .int .i64 64, .iface 67 (.int .i64 2)] W fun e w' => ∃ N, e = .returned (.iface 69 (.pointer (some ⟨N, 0, none⟩))) ∧ Below W.heap.size W w' := fun W hW => by
    obtain ⟨_, ⟨tp, p, hv⟩, _⟩ := hW
    refine (Any.strconv_toError_syntax Tryd.laysC245 ⟨#[80, 97, 114, 115, 101, 85, 105, 110, 116]⟩ t 16 64 (.iface tp p) W (by omega) hv (Or.inr ⟨tp, p, rfl⟩)).mono ?_
    rintro e w' ⟨N, he, _, _, hb⟩
    exact ⟨N, he, hb⟩
  have HT := Lib.hid hT
  clear hs hp hT
  go_enter Tryd.func27, Tryd.ntmps27
  go_wp2_with fail
  refine hI.mono ?_
  rintro e w1 ⟨rfl, b1⟩
  go_wp2_with fail
  refine (HT.out _ (hr.below b1)).mono ?_
  rintro e w2 ⟨N, rfl, b2⟩
  go_wp2
  go_ret2
  exact ⟨_, _, rfl, b1.trans (b2.mono b1.size)⟩

/-- Number at a number's digits. -/
theorem number_yes (t : ByteArray) (n : Nat) (hn : n < 18446744073709551616) (ht : t = ⟨(hexN 16 n).toArray⟩) (w : World) (hr : Ready w) :
    Calls Tryd.prog 10 #[.string t] w fun e w' => e = .returned (.tuple #[.int .u64 n, .int .i64 0]) ∧ Below w.heap.size w w' := by
  have hs : t.size = 16 := by rw [ht]; show (hexN 16 n).toArray.size = 16; simp [hexN_len]
  have hP := ppars_yes t n hs (by rw [ht]; exact pv_ok n hn) w
  subst ht
  have hD := fun W => digits_any n W hn
  have HD := Lib.hid hD
  clear hD
  generalize hexN 16 n = D at *
  have hs' : D.length = 16 := by simpa [ByteArray.size] using hs
  clear hs
  go_enter Tryd.func10, Tryd.ntmps10
  go_wp2_with fail
  refine hP.mono ?_
  rintro e w1 ⟨rfl, b1⟩
  go_wp2_with fail
  refine (HD.out _ (hr.below b1)).mono ?_
  rintro e w2 ⟨rfl, b2⟩
  go_wp2
  go_ret2
  exact ⟨rfl, b1.trans (b2.mono b1.size)⟩

/-- Number at any other text. -/
theorem number_no (t : ByteArray) (ht : ∀ n, n < 18446744073709551616 → t.data.toList ≠ hexN 16 n) (w : World) (hr : Ready w) :
    Calls Tryd.prog 10 #[.string t] w fun e w' => e = .returned (.tuple #[.int .u64 0, .int .i64 20]) ∧ Below w.heap.size w w' := by
  by_cases hs : t.size = 16
  · cases hp : pv t.data.toList 0 with
    | none =>
      have hP := ppars_no t hs hp w hr
      clear ht hp
      have h1 : t.size ≤ 16 := by omega
      have h2 : 16 ≤ t.size := by omega
      have h3 : ((t.size : Int) != 16) = false := by simp [hs]
      clear hs
      go_enter Tryd.func10, Tryd.ntmps10
      go_wp2_with fail
      refine hP.mono ?_
      rintro e w1 ⟨T, p, rfl, b1⟩
      go_wp2
      go_ret2
      exact ⟨rfl, b1⟩
    | some n =>
      have hn : n < 18446744073709551616 := by
        have := pv_lt t.data.toList 0 n 0 (by simp) hp
        rw [show t.data.toList.length = 16 from hs] at this
        simpa using this
      have hP := ppars_yes t n hs hp w
      have hne : ((hexN 16 n).toArray.toList == t.toList) = false := by
        have := ht n hn
        simp only [beq_eq_false_iff_ne]
        intro e; apply this; rw [← ByteArray.toList_eq]; simpa using e.symm
      have hD := fun W => digits_any n W hn
      have HD := Lib.hid hD
      clear hD ht hp
      have h3 : ((t.size : Int) != 16) = false := by simp [hs]
      clear hs
      go_enter Tryd.func10, Tryd.ntmps10
      go_wp2_with fail
      refine hP.mono ?_
      rintro e w1 ⟨rfl, b1⟩
      go_wp2_with fail
      refine (HD.out _ (hr.below b1)).mono ?_
      rintro e w2 ⟨rfl, b2⟩
      go_wp2
      go_ret2
      exact ⟨rfl, b1.trans (b2.mono b1.size)⟩
  · have h3 : ((t.size : Int) != 16) = true := by simp; omega
    clear hs ht
    go_enter Tryd.func10, Tryd.ntmps10
    go_wp2_with fail
    go_ret2
    exact ⟨rfl, Below.refl _ _⟩
end Go.Proofs.YtghoelgjpljbkaaDoor.Label
