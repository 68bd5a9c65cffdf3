/-
  The walks of CrcTells and CrcFollows.
-/
import Derived.Test.YtneoioaknoddfaaCAwake
namespace Go.Proofs.Ytneoioaknoddfaa.Crc
open Go.RowKit Gen

set_option maxRecDepth 100000 in
theorem tells_walk (s : Nat) (A : Option Addr) (n c : Nat) (l : List UInt8) (w : World) (hs : s < 18446744073709551616) (hl : l.length = n) (hn : n ≤ 9223372036854775807) (hR : BRow w A l) :
    Calls Try.prog 3 #[.int .u64 s, .slice A n c] w fun e w' => e = .returned (.bool true) ∧ Below w.heap.size w w' := by
  have HR := Lib.hid hR
  have HL := Lib.hid hl
  clear hR hl
  by_cases h1 : 3000 < n
  · go_enter Try.func3, Try.ntmps3
    go_wp2_with fail
    refine (awake_any _).mono ?_
    rintro e w1 ⟨rfl, B1⟩
    go_wp2
    go_ret
    exact ⟨rfl, B1⟩
  · go_enter Try.func3, Try.ntmps3
    go_wp2_with fail
    refine (awake_any _).mono ?_
    rintro e w1 ⟨rfl, B1⟩
    go_wp2_with fail
    refine (more_any s A n c l _ hs HL.out hn (HR.out.below B1)).mono ?_
    rintro e w2 ⟨rfl, c2⟩
    have B2 := B1.trans (c2.mono B1.size)
    clear B1 c2
    go_wp2_with fail
    refine (refMore_any s A n c l _ hs HL.out hn (HR.out.below B2)).mono ?_
    rintro e w3 ⟨rfl, rfl⟩
    go_wp2_with fail
    refine (sum_any A n c l _ HL.out hn (HR.out.below B2)).mono ?_
    rintro e w3 ⟨rfl, c3⟩
    have B3 := B2.trans (c3.mono B2.size)
    clear B2 c3
    go_wp2_with fail
    refine (refSum_any A n c l _ HL.out hn (HR.out.below B3)).mono ?_
    rintro e w4 ⟨rfl, rfl⟩
    go_wp2
    go_ret
    exact ⟨rfl, B3⟩

theorem eq_bool {p q r s : Nat} (h : p = q ↔ r = s) : (((p : Int) == (q : Int)) == ((r : Int) == (s : Int))) = true := by
  by_cases e : r = s
  · rw [h.2 e, e]; simp
  · have e1 : ((p : Int) == (q : Int)) = false := by simp; omega
    have e2 : ((r : Int) == (s : Int)) = false := by simp; omega
    rw [e1, e2]; rfl
theorem follows_bool {a b : Nat} (l : List UInt8) (ha : a < 18446744073709551616) (hb : b < 18446744073709551616) : ((((more a l : Nat) : Int) == ((more b l : Nat) : Int)) == ((a : Int) == (b : Int))) = true :=
  eq_bool (more_follows l ha hb)

set_option maxRecDepth 100000 in
theorem follows_walk (a b : Nat) (A : Option Addr) (n c : Nat) (l : List UInt8) (w : World) (ha : a < 18446744073709551616) (hb : b < 18446744073709551616) (hl : l.length = n) (hn : n ≤ 9223372036854775807) (hR : BRow w A l) :
    Calls Try.prog 6 #[.int .u64 a, .int .u64 b, .slice A n c] w fun e w' => e = .returned (.bool true) ∧ Below w.heap.size w w' := by
  have HR := Lib.hid hR
  have HL := Lib.hid hl
  have HF := Lib.hid (follows_bool l ha hb)
  clear hR hl
  by_cases h1 : 3000 < n
  · go_enter Try.func6, Try.ntmps6
    go_wp2_with fail
    refine (awake_any _).mono ?_
    rintro e w1 ⟨rfl, B1⟩
    go_wp2
    go_ret
    exact ⟨rfl, B1⟩
  · go_enter Try.func6, Try.ntmps6
    go_wp2_with fail
    refine (awake_any _).mono ?_
    rintro e w1 ⟨rfl, B1⟩
    go_wp2_with fail
    refine (more_any a A n c l _ ha HL.out hn (HR.out.below B1)).mono ?_
    rintro e w2 ⟨rfl, c2⟩
    have B2 := B1.trans (c2.mono B1.size)
    clear B1 c2
    go_wp2_with fail
    refine (more_any b A n c l _ hb HL.out hn (HR.out.below B2)).mono ?_
    rintro e w3 ⟨rfl, c3⟩
    have B3 := B2.trans (c3.mono B2.size)
    clear B2 c3
    go_wp2
    go_ret
    exact ⟨congrArg (fun x => Ending.returned (.bool x)) HF.out, B3⟩
end Go.Proofs.Ytneoioaknoddfaa.Crc
