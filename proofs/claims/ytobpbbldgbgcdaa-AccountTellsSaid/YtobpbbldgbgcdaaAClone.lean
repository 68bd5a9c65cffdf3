/-
  Contract of slices.Clone at accounts.
-/
import Derived.Test.YtobpbbldgbgcdaaARow
import Derived.Test.YtobpbbldgbgcdaaAAppend
namespace Go.Proofs.Ytobpbbldgbgcdaa.Acc
open Go.RowKit Go.Sort

/-- Accounts are handed back, in memory of the call's own. -/
def AcsN (l : List Ac) (w : World) (e : Ending) (w' : World) : Prop := ∃ v, e = .returned v ∧ OwnA w' w.heap.size v l ∧ Below w.heap.size w w'
theorem eql_nil (w : World) : (binOp .eql 23 (.slice none 0 0) (.slice none 0 0)).run Try.prog w = .ok (.bool true) w := by kernel_rfl
theorem eql_some (x : Addr) (n c : Nat) (w : World) : (binOp .eql 23 (.slice (some x) n c) (.slice none 0 0)).run Try.prog w = .ok (.bool false) w := by kernel_rfl
theorem below_box (w : World) (o : Obj) : Below w.heap.size w (w.alloc o) := (Below.refl _ _).alloc (Nat.le_refl _) o
theorem own_empty (w : World) : OwnA (w.alloc (.cells #[] 35)) w.heap.size (.slice (some ⟨w.heap.size, 0, none⟩) 0 0) [] := ⟨rfl, .inr ⟨w.heap.size, 0, #[], rfl, Nat.le_refl _, heap_alloc_last w _, Nat.le_refl _, Nat.zero_le _, rfl, rfl⟩⟩
set_option maxRecDepth 100000 in
theorem clone_any (A : Option Addr) (n c : Nat) (l : List Ac) (w : World) (h : AAt w A n c l) (hn : n ≤ 100000) : Calls Try.prog 58 #[.slice A n c] w (AcsN l w) := by
  rcases A with _ | x
  · have e : l = [] := by
      rcases l with _ | ⟨y, l⟩
      · rfl
      · obtain ⟨b, o, e, _⟩ := h.row (by simp)
        cases e
    obtain rfl := e
    have hc := h.nil rfl
    have hl := h.len
    have hcap := h.cap
    obtain rfl : n = 0 := by omega
    obtain rfl := hc
    have hq := eql_nil w
    clear h hl hcap hn
    go_enter Try.func58, Try.ntmps58
    go_wp2_with fail
    go_ret
    exact ⟨_, rfl, OwnA.nil _ _, Below.refl _ _⟩
  · have b1 := below_box w (.cells #[] 35)
    have h1 := h.below b1
    obtain ⟨v', W', hrun, ho, hg, hv⟩ := append_acs (w.alloc (.cells #[] 35)) w.heap.size _ [] (own_empty w) (some x) n c l h1.len h1.nil h1.row (by simp; omega) b1.size
    have R := Lib.hid hrun
    have HO := Lib.hid ho
    have B2 := Lib.hid (b1.grown hg b1.size (fun k e => hv k e))
    have hq := eql_some x n c w
    clear h h1 hrun ho hg hv b1
    go_enter Try.func58, Try.ntmps58
    go_wp2_with (first | ((with_reducible refine Coin.wpList_append_eq rfl (.tmp 5) (.tmp 6) 23 rfl ?_ ?_ R.out ?_); (next => rfl); (next => rfl)))
    go_ret
    exact ⟨_, rfl, by simpa using HO.out, B2.out⟩
end Go.Proofs.Ytobpbbldgbgcdaa.Acc
