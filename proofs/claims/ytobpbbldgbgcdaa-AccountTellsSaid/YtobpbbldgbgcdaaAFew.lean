/-
  The statements' few; the document's Same.
-/
import Derived.Test.YtobpbbldgbgcdaaAArgs
import Derived.Test.YtobpbbldgbgcdaaAPost
import Derived.Deep.RegionWith
namespace Go.Proofs.Ytobpbbldgbgcdaa.Acc
open Go.RowKit Go.Sort

/-- What few tells. -/
structure FewA (l : List Ac) (legs : List Lg) : Prop where
  n : l.length ≤ 200
  m : legs.length ≤ 210
  l : ∀ x ∈ l, x.who.length ≤ 100 ∧ x.asset.length ≤ 100
  g : ∀ x ∈ legs, x.who.length ≤ 100 ∧ x.asset.length ≤ 100
def FewE (l : List Ac) (legs : List Lg) (w : World) (e : Ending) (w' : World) : Prop := ∃ r, e = .returned (.bool r) ∧ (r = true → FewA l legs) ∧ Below w.heap.size w w'
theorem FewE.no {l : List Ac} {legs : List Lg} {w w' : World} (h : Below w.heap.size w w') : FewE l legs w (.returned (.bool false)) w' := ⟨false, rfl, fun e => (by cases e), h⟩
theorem FewE.yes {l : List Ac} {legs : List Lg} {w w' : World} (f : FewA l legs) (h : Below w.heap.size w w') : FewE l legs w (.returned (.bool true)) w' := ⟨true, rfl, fun _ => f, h⟩
set_option maxRecDepth 100000 in
set_option maxHeartbeats 4000000 in
theorem few_any {A A' : Option Addr} {n c m c' : Nat} {l : List Ac} {legs : List Lg} {w : World} (h : AAt w A n c l) (hlen : legs.length = m) (hrow : RowL w A' legs) (hn : n ≤ 9223372036854775807) (hm : m ≤ 9223372036854775807) :
    Calls Try.prog 11 #[.slice A n c, .slice A' m c'] w (FewE l legs w) := by
  have HL := Lib.hid h.len
  have HR := Lib.hid h.row
  have HLL := Lib.hid hlen
  have HRL := Lib.hid hrow
  by_cases c1 : 200 < n
  · have t1 : (200 : Int) < (n : Int) := by omega
    clear h hlen hrow c1
    go_enter Try.func11, Try.ntmps11
    go_wp2_with fail
    go_ret
    exact FewE.no (Below.refl _ _)
  by_cases c2 : 210 < m
  · have t1 : ¬ (200 : Int) < (n : Int) := by omega
    have t2 : (210 : Int) < (m : Int) := by omega
    clear h hlen hrow c1 c2
    go_enter Try.func11, Try.ntmps11
    go_wp2_with fail
    go_ret
    exact FewE.no (Below.refl _ _)
  have t1 : ¬ (200 : Int) < (n : Int) := by omega
  have t2 : ¬ (210 : Int) < (m : Int) := by omega
  have hn' : n ≤ 200 := by omega
  have hm' : m ≤ 210 := by omega
  clear h hlen hrow c1 c2 hn hm
  go_enter Try.func11, Try.ntmps11
  go_wp2_with fail
  clear t1 t2
  go_loopw [5] (fun i wr => ∃ k : Nat, i = .int .i64 (k : Int) ∧ k ≤ n ∧ Hid (Below w.heap.size w wr ∧ ∀ j (hj : j < l.length), j < k → l[j].who.length ≤ 100 ∧ l[j].asset.length ≤ 100)) (fun i _ => n - (intOf i).toNat)
  case atStart => exact ⟨0, rfl, Nat.zero_le _, Lib.hid ⟨Below.refl _ _, fun j _ h => absurd h (Nat.not_lt_zero _)⟩⟩
  case round =>
    obtain ⟨k, rfl, hk, HB⟩ := hrel
    by_cases hlt : k < n
    · have hkl : k < l.length := by rw [HL.out]; exact hlt
      have hwr : IntKind.i64.wrap ((k : Int) + 1) = (k : Int) + 1 := IntWalk.i64_in _ (by omega)
      have t1 : (k : Int) < (n : Int) := by omega
      have t2 : (0 : Int) ≤ (k : Int) := by omega
      obtain ⟨b, off, rfl, hbl, hc⟩ := HR.out (by intro e; rw [e] at hkl; simp at hkl)
      obtain ⟨c0, c1, _, _⟩ := four (range_below (hc k hkl) HB.out.1 hbl)
      have z0 := strB_size l[k].who
      have z1 := strB_size l[k].asset
      have NX := Lib.hid (show l[k].who.length ≤ 100 → l[k].asset.length ≤ 100 → ∀ j (hj : j < l.length), j < k + 1 → l[j].who.length ≤ 100 ∧ l[j].asset.length ≤ 100 from fun e1 e2 j hj hjk => by
        by_cases q : j = k
        · subst q; exact ⟨e1, e2⟩
        · exact HB.out.2 j hj (by omega))
      have BW := Lib.hid HB.out.1
      unfold strV at c0 c1
      generalize strB l[k].who = X at *
      generalize strB l[k].asset = Y at *
      rw [← z0, ← z1] at NX
      clear hc HB hbl z0 z1
      by_cases d0 : 100 < X.size
      · have t3 : (100 : Int) < (X.size : Int) := by omega
        clear NX d0
        go_wp2_with fail
        go_ret
        exact FewE.no BW.out
      · have t3 : ¬ (100 : Int) < (X.size : Int) := by omega
        by_cases d1 : 100 < Y.size
        · have t4 : (100 : Int) < (Y.size : Int) := by omega
          clear NX d0 d1
          go_wp2_with fail
          go_ret
          exact FewE.no BW.out
        · have t4 : ¬ (100 : Int) < (Y.size : Int) := by omega
          have NB := Lib.hid (And.intro BW.out (NX.out (by omega) (by omega)))
          clear NX d0 d1
          go_wp2_with fail
          go_roundw
          case rel => exact ⟨k + 1, by go_num, by omega, NB⟩
          case measure => simp [intOf]; omega
    · obtain rfl : k = n := by omega
      have F1 := Lib.hid (show ∀ x ∈ l, x.who.length ≤ 100 ∧ x.asset.length ≤ 100 from fun x hx => by
        obtain ⟨j, hj, rfl⟩ := List.getElem_of_mem hx
        exact HB.out.2 j hj (by rw [← HL.out]; exact hj))
      have B1 := Lib.hid HB.out.1
      clear HB
      go_wp2_with fail
      go_loopw [6] (fun i wq => ∃ q : Nat, i = .int .i64 (q : Int) ∧ q ≤ m ∧ Hid (Below w.heap.size w wq ∧ ∀ j (hj : j < legs.length), j < q → legs[j].who.length ≤ 100 ∧ legs[j].asset.length ≤ 100)) (fun i _ => m - (intOf i).toNat)
      case atStart => exact ⟨0, rfl, Nat.zero_le _, Lib.hid ⟨B1.out, fun j _ h => absurd h (Nat.not_lt_zero _)⟩⟩
      case round =>
        obtain ⟨q, rfl, hq, HB⟩ := hrel
        by_cases hlt2 : q < m
        · have hkl : q < legs.length := by rw [HLL.out]; exact hlt2
          have hwr : IntKind.i64.wrap ((q : Int) + 1) = (q : Int) + 1 := IntWalk.i64_in _ (by omega)
          have t1 : (q : Int) < (m : Int) := by omega
          have t2 : (0 : Int) ≤ (q : Int) := by omega
          obtain ⟨b, off, rfl, hbl, hc⟩ := HRL.out (by intro e; rw [e] at hkl; simp at hkl)
          have hr := range_below (hc q hkl) HB.out.1 hbl
          have c0 : _ = _ := hr 0 _ rfl
          have c1 : _ = _ := hr 1 _ rfl
          have z0 := strB_size legs[q].who
          have z1 := strB_size legs[q].asset
          have NX := Lib.hid (show legs[q].who.length ≤ 100 → legs[q].asset.length ≤ 100 → ∀ j (hj : j < legs.length), j < q + 1 → legs[j].who.length ≤ 100 ∧ legs[j].asset.length ≤ 100 from fun e1 e2 j hj hjk => by
            by_cases p : j = q
            · subst p; exact ⟨e1, e2⟩
            · exact HB.out.2 j hj (by omega))
          have BW := Lib.hid HB.out.1
          rw [Nat.add_zero] at c0
          unfold strV at c0 c1
          generalize strB legs[q].who = X at *
          generalize strB legs[q].asset = Y at *
          rw [← z0, ← z1] at NX
          clear hr hc HB hbl z0 z1
          by_cases d0 : 100 < X.size
          · have t3 : (100 : Int) < (X.size : Int) := by omega
            clear NX d0
            go_wp2_with fail
            go_ret
            exact FewE.no BW.out
          · have t3 : ¬ (100 : Int) < (X.size : Int) := by omega
            by_cases d1 : 100 < Y.size
            · have t4 : (100 : Int) < (Y.size : Int) := by omega
              clear NX d0 d1
              go_wp2_with fail
              go_ret
              exact FewE.no BW.out
            · have t4 : ¬ (100 : Int) < (Y.size : Int) := by omega
              have NB := Lib.hid (And.intro BW.out (NX.out (by omega) (by omega)))
              clear NX d0 d1
              go_wp2_with fail
              go_roundw
              case rel => exact ⟨q + 1, by go_num, by omega, NB⟩
              case measure => simp [intOf]; omega
        · obtain rfl : q = m := by omega
          have FIN := Lib.hid (show FewA l legs from ⟨by rw [HL.out]; exact hn', by rw [HLL.out]; exact hm', F1.out, fun x hx => by
            obtain ⟨j, hj, rfl⟩ := List.getElem_of_mem hx
            exact HB.out.2 j hj (by rw [← HLL.out]; exact hj)⟩)
          have B2 := Lib.hid HB.out.1
          clear HB
          go_wp2_with fail
          go_ret
          exact FewE.yes FIN.out B2.out
end Go.Proofs.Ytobpbbldgbgcdaa.Acc
