/-
  The document's own Side, as data: each order of a market's side goes behind all that rbet tells.
-/
import Derived.Test.YtcendcegmhliaaaORDrop
import Derived.Test.YtcendcegmhliaaaOSides
namespace Go.Proofs.Ytcendcegmhliaaa.Ord
open Go.RowKit Go.Sort _root_.Go.Proofs.Ytcendcegmhliaaa.Gnd

def rposO (acc : List Or) (x : Or) : Nat := (acc.takeWhile (fun y => rbet y x)).length
def rinsO (acc : List Or) (x : Or) : List Or := acc.take (rposO acc x) ++ [x] ++ acc.drop (rposO acc x)
def rsideO (mkt : Bs) (buy : Bool) (l : List Or) : List Or := (l.filter (askB mkt buy)).foldl rinsO []
theorem rpos_le (acc : List Or) (x : Or) : rposO acc x ≤ acc.length := (List.takeWhile_sublist _).length_le
theorem rpos_lt {x : Or} : ∀ {acc : List Or} {k : Nat}, k < rposO acc x → ∀ (h : k < acc.length), rbet acc[k] x = true
  | [], _, _, h => absurd h (Nat.not_lt_zero _)
  | y :: acc, k, hk, h => by
    unfold rposO at hk
    rw [List.takeWhile_cons] at hk
    rcases e : rbet y x with _ | _
    · rw [e] at hk
      simp at hk
    · rw [e] at hk
      rcases k with _ | k
      · exact e
      · exact rpos_lt (acc := acc) (by unfold rposO; simpa using hk) (by simpa using h)
theorem rpos_ge {x : Or} : ∀ {acc : List Or} (h : rposO acc x < acc.length), rbet (acc[rposO acc x]'h) x = false
  | [], h => absurd h (Nat.not_lt_zero _)
  | y :: acc, h => by
    rcases e : rbet y x with _ | _
    · have h0 : rposO (y :: acc) x = 0 := by unfold rposO; rw [List.takeWhile_cons, e]; rfl
      simp only [h0]
      exact e
    · have h1 : rposO (y :: acc) x = rposO acc x + 1 := by unfold rposO; rw [List.takeWhile_cons, e]; rfl
      simp only [h1]
      rw [List.getElem_cons_succ]
      exact rpos_ge (acc := acc) (by rw [h1] at h; simpa using h)
theorem rins_len (acc : List Or) (x : Or) : (rinsO acc x).length = acc.length + 1 := by
  have := rpos_le acc x
  unfold rinsO
  simp only [List.length_append, List.length_take, List.length_drop, List.length_cons, List.length_nil]
  omega
theorem rside_step {mkt : Bs} {buy : Bool} {l : List Or} {k : Nat} (hk : k < l.length) : rsideO mkt buy (l.take (k + 1)) = if askB mkt buy l[k] = true then rinsO (rsideO mkt buy (l.take k)) l[k] else rsideO mkt buy (l.take k) := by
  unfold rsideO
  rw [List.take_succ_eq_append_getElem hk, List.filter_append, List.foldl_append, List.filter_cons, List.filter_nil]
  split <;> rfl
theorem rside_len (mkt : Bs) (buy : Bool) (l : List Or) : (rsideO mkt buy l).length ≤ l.length := by
  have h : ∀ (a acc : List Or), (a.foldl rinsO acc).length = acc.length + a.length := by
    intro a
    induction a with
    | nil => intro acc; rfl
    | cons x a ih => intro acc; rw [List.foldl_cons, ih, rins_len, List.length_cons]; omega
  unfold rsideO
  rw [h]
  have := List.length_filter_le (askB mkt buy) l
  simpa using this
end Go.Proofs.Ytcendcegmhliaaa.Ord
