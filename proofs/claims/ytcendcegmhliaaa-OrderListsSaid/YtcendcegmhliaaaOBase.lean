/-
  Orders as plain data; the orders that sides stand by.
-/
import Derived.Test.YtcendcegmhliaaaGBlks
import Derived.Test.YtcendcegmhliaaaGBase
namespace Go.Proofs.Ytcendcegmhliaaa.Ord
open Go.RowKit Go.Sort _root_.Go.Proofs.Ytcendcegmhliaaa.Gnd

/-- An order. -/
structure Or where
  num : Int
  who : Bs
  mkt : Bs
  buy : Bool
  price : Int
  left : Int
deriving DecidableEq, Inhabited
/-- An order's cells. -/
def encA (a : Or) : List Value := [.int .u64 a.num, strV a.who, strV a.mkt, .bool a.buy, .int .i64 a.price, .int .i64 a.left]
theorem encA_len (a : Or) : (encA a).length = 6 := rfl
theorem encA_one (a : Or) : ∀ v ∈ encA a, v.oneCell' = true := fun v hv => by
  simp only [encA, List.mem_cons, List.not_mem_nil, or_false] at hv
  rcases hv with rfl | rfl | rfl | rfl | rfl | rfl <;> rfl
/-- What two numbers are told to be to one another. -/
def cmpI (x y : Int) : Int := if x < y then -1 else if y < x then 1 else 0
def or2 (x y : Int) : Int := if x ≠ 0 then x else y
/-- One stands ahead of another one, on a side. -/
def aheadO (buy : Bool) (x y : Or) : Bool := (if buy then decide (y.price < x.price) else decide (x.price < y.price)) || (decide (x.price = y.price) && decide (x.num < y.num))
def priceO (buy : Bool) (x y : Or) : Int := if buy then -(cmpI x.price y.price) else cmpI x.price y.price
def ordO (buy : Bool) (x y : Or) : Int := or2 (priceO buy x y) (cmpI x.num y.num)
theorem ordO_neg {buy : Bool} {x y : Or} : ordO buy x y < 0 ↔ aheadO buy x y = true := by
  unfold ordO or2 priceO aheadO cmpI
  cases buy <;> simp only [Bool.false_eq_true, if_true, if_false, Bool.or_eq_true, Bool.and_eq_true, decide_eq_true_eq] <;> (repeat' split) <;> omega
theorem swoO (buy : Bool) : SWO (aheadO buy) where
  irrefl x := by unfold aheadO; cases buy <;> simp
  trans x y z h k := by
    unfold aheadO at *
    cases buy <;> simp only [Bool.false_eq_true, if_true, if_false, Bool.or_eq_true, Bool.and_eq_true, decide_eq_true_eq] at * <;> omega
  ntrans x y z h k := by
    unfold aheadO at *
    cases buy <;> simp only [Bool.false_eq_true, if_true, if_false, Bool.or_eq_false_iff, Bool.and_eq_false_iff, decide_eq_false_iff_not] at * <;> omega
end Go.Proofs.Ytcendcegmhliaaa.Ord
