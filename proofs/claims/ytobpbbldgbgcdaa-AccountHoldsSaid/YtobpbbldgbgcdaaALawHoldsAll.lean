/-
  AccountHolds: all walks in one.
-/
import Derived.Test.YtobpbbldgbgcdaaALawHolds
import Derived.Test.YtobpbbldgbgcdaaALawHolds4
namespace Go.Proofs.Ytobpbbldgbgcdaa.Acc
open Go.RowKit Go.Sort

theorem holds_main (A : Option Addr) (n c : Nat) (l : List Ac) (at0 m : Int) (w : World) (h : AcsIn w A n c l) (hn : n ≤ 9223372036854775807) (a : -9223372036854775808 ≤ at0 ∧ at0 ≤ 9223372036854775807) :
    Calls Try.prog 7 #[.slice A n c, .int .i64 at0, .int .i64 m] w (fun e w' => e = .returned (.bool true) ∧ Below w.heap.size w w') := by
  by_cases hf : FitA l
  · by_cases h0 : n = 0
    · exact holds_bad A n c l at0 m w h hn (.inr h0)
    · obtain ⟨k, hk, hq⟩ := place_at at0 n (by omega)
      have hkl : k < l.length := by rw [h.1.len]; exact hk
      have hx := List.getElem?_eq_getElem hkl
      by_cases hw : l[k].who = worldB
      · exact holds_world A n c l at0 m w h hn hf k hk l[k] hx a.1 a.2 hq hw
      · by_cases hm : m < 1
        · exact holds_low A n c l at0 m w h hn hf k hk l[k] hx a.1 a.2 hq hw hm
        · by_cases hd : l[k].bal - l[k].held < m
          · exact holds_more A n c l at0 m w h hn hf k hk l[k] hx a.1 a.2 hq hw (by omega) hd
          · exact holds_all A n c l at0 m w h hn hf k hk l[k] hx a.1 a.2 hq hw (by omega) (by omega)
  · exact holds_bad A n c l at0 m w h hn (.inl hf)
end Go.Proofs.Ytobpbbldgbgcdaa.Acc
