/-
  A page as plain data and as a value; how its lists lie in memory; the small functions of package page.
-/
import Derived.WalkKit
import Derived.Test.YtiebaeahimeedaaOwn
import Derived.Test.YtiebaeahimeedaaCMore
import Derived.Lib.Hide
import Derived.Lib.Walk
import Derived.Test.YtiebaeahimeedaaProg
namespace Go.Proofs.Ytiebaeahimeedaa.Page
open Go.RowKit Gen

abbrev Bs := List UInt8
abbrev byteV (c : UInt8) : Value := .int .u8 (c.toNat : Int)
abbrev BRow (w : World) (A : Option Addr) (l : Bs) : Prop := RowG w byteV A l
def strB (l : Bs) : ByteArray := ⟨l.toArray⟩
abbrev strV (l : Bs) : Value := .string (strB l)
theorem strB_list (l : Bs) : (strB l).toList = l := by rw [ByteArray.toList_eq]; rfl
theorem strB_data (l : Bs) : (strB l).data.toList = l := rfl
theorem strB_size (l : Bs) : (strB l).size = l.length := rfl
theorem strB_inj {a b : Bs} (h : strB a = strB b) : a = b := by rw [← strB_list a, ← strB_list b, h]
abbrev numV (n : Int) : Value := .int .i64 n
abbrev SRow (w : World) (A : Option Addr) (l : List Bs) : Prop := RowG w strV A l
abbrev IRow (w : World) (A : Option Addr) (l : List Int) : Prop := RowG w numV A l
/-- Pairs lie in two cells each. -/
def PRow (w : World) (A : Option Addr) (l : List (Bs × Bs)) : Prop := l ≠ [] → ∃ b off, A = some ⟨b, off, none⟩ ∧ b < w.heap.size ∧ ∀ j (h : j < l.length), w.cell? ⟨b, off + j * 2, none⟩ = some (strV l[j].1) ∧ w.cell? ⟨b, off + j * 2 + 1, none⟩ = some (strV l[j].2)
theorem PRow.below {w w' : World} {A : Option Addr} {l : List (Bs × Bs)} (h : PRow w A l) (hb : Below w.heap.size w w') : PRow w' A l := fun hne => by
  obtain ⟨b, off, e, hlt, hc⟩ := h hne
  refine ⟨b, off, e, Nat.lt_of_lt_of_le hlt hb.size, fun j hj => ⟨?_, ?_⟩⟩
  · exact (hb.cell (p := ⟨b, off + j * 2, none⟩) hlt).trans (hc j hj).1
  · exact (hb.cell (p := ⟨b, off + j * 2 + 1, none⟩) hlt).trans (hc j hj).2

/-- A page, as plain data. -/
structure Pg where
  kind : Int
  pairs : List (Bs × Bs) := []
  keys : List Bs := []
  kids : List Int := []
  pages : List Int := []
  next : Int := 0
  epoch : Nat := 0
  root : Int := 0
  depth : Int := 0
  count : Int := 0
  high : Int := 0
/-- Where its lists lie. -/
structure Lay where
  A1 : Option Addr := none
  c1 : Nat := 0
  A2 : Option Addr := none
  c2 : Nat := 0
  A3 : Option Addr := none
  c3 : Nat := 0
  A4 : Option Addr := none
  c4 : Nat := 0
abbrev pgC (p : Pg) (a : Lay) : Array Value := #[.int .i64 p.kind, .slice a.A1 p.pairs.length a.c1, .slice a.A2 p.keys.length a.c2, .slice a.A3 p.kids.length a.c3, .slice a.A4 p.pages.length a.c4, .int .i64 p.next, .int .u64 (p.epoch : Int), .int .i64 p.root, .int .i64 p.depth, .int .i64 p.count, .int .i64 p.high]
abbrev pgV (p : Pg) (a : Lay) : Value := .agg (pgC p a)
def I64 (n : Int) : Prop := -9223372036854775808 ≤ n ∧ n ≤ 9223372036854775807
/-- Numbers are of their types; lists and texts are no longer than memory. -/
structure PgOk (p : Pg) : Prop where
  kind : I64 p.kind
  pairs : p.pairs.length ≤ 9223372036854775807
  keys : p.keys.length ≤ 9223372036854775807
  kids : p.kids.length ≤ 9223372036854775807
  pages : p.pages.length ≤ 9223372036854775807
  next : I64 p.next
  epoch : p.epoch < 18446744073709551616
  root : I64 p.root
  depth : I64 p.depth
  count : I64 p.count
  high : I64 p.high
/-- A page's lists, in memory. -/
structure PgRows (w : World) (p : Pg) (a : Lay) : Prop where
  r1 : PRow w a.A1 p.pairs
  r2 : SRow w a.A2 p.keys
  r3 : IRow w a.A3 p.kids
  r4 : IRow w a.A4 p.pages
theorem PgRows.below {w w' : World} {p : Pg} {a : Lay} (h : PgRows w p a) (hb : Below w.heap.size w w') : PgRows w' p a := ⟨h.r1.below hb, RowG.below h.r2 hb, RowG.below h.r3 hb, RowG.below h.r4 hb⟩

def Place (n : Int) : Prop := 2 ≤ n ∧ n ≤ 4095
def KeyOk (s : Bs) : Prop := 1 ≤ s.length ∧ s.length ≤ 48
instance (n : Int) : Decidable (Place n) := inferInstanceAs (Decidable (_ ∧ _))
instance (s : Bs) : Decidable (KeyOk s) := inferInstanceAs (Decidable (_ ∧ _))
def less (a b : Bs) : Bool := Op.bytesLess a b
/-- An answer that tells whether something is so. -/
def Tells (p : Prop) (w : World) (e : Ending) (w' : World) : Prop := ∃ r : Bool, e = .returned (.bool r) ∧ (r = true ↔ p) ∧ Below w.heap.size w w'
/-- .. that changes nothing. -/
def TellsQ (p : Prop) (w : World) (e : Ending) (w' : World) : Prop := ∃ r : Bool, e = .returned (.bool r) ∧ (r = true ↔ p) ∧ w = w'

theorem within_any (a b c : Int) (w : World) : Calls Try.prog 45 #[.int .i64 a, .int .i64 b, .int .i64 c] w (TellsQ (b ≤ a ∧ a ≤ c) w) := by
  by_cases h1 : b ≤ a
  · have d1 : decide (b ≤ a) = true := by simp [h1]
    go_enter Try.func45, Try.ntmps45
    go_wp2_with fail
    go_ret
    exact ⟨_, rfl, by simp [h1], rfl⟩
  · have d1 : decide (b ≤ a) = false := by simp [h1]
    go_enter Try.func45, Try.ntmps45
    go_wp2_with fail
    go_ret
    exact ⟨_, rfl, by simp; omega, rfl⟩
theorem isPlace_any (n : Int) (w : World) : Calls Try.prog 22 #[.int .i64 n] w (TellsQ (Place n) w) := by
  go_enter Try.func22, Try.ntmps22
  go_wp2_with fail
  refine (within_any _ _ _ _).mono ?_
  rintro e w' ⟨r, rfl, hr, rfl⟩
  go_wp2_with fail
  go_ret
  exact ⟨_, rfl, hr, rfl⟩
theorem leads_any (n : Int) (w : World) : Calls Try.prog 19 #[.int .i64 n] w (TellsQ (n = 0 ∨ n = 1) w) := by
  go_enter Try.func19, Try.ntmps19
  go_wp2_with fail
  refine (within_any _ _ _ _).mono ?_
  rintro e w' ⟨r, rfl, hr, rfl⟩
  go_wp2_with fail
  go_ret
  exact ⟨_, rfl, hr.trans (by omega), rfl⟩
theorem isPlaceOrNone_any (n : Int) (w : World) : Calls Try.prog 62 #[.int .i64 n] w (TellsQ (n = 0 ∨ Place n) w) := by
  by_cases h1 : n = 0
  · have d1 : (n == 0) = true := by simp [h1]
    go_enter Try.func62, Try.ntmps62
    go_wp2_with fail
    go_ret
    exact ⟨_, rfl, by simp [h1], rfl⟩
  · have d1 : (n == 0) = false := by simp [h1]
    go_enter Try.func62, Try.ntmps62
    go_wp2_with (go_at_call 22; refine (isPlace_any _ _).mono ?_; rintro e w' ⟨r, rfl, hr, rfl⟩)
    go_ret
    exact ⟨_, rfl, by rw [hr]; simp [h1], rfl⟩
theorem isKey_any (s : Bs) (w : World) : Calls Try.prog 58 #[strV s] w (TellsQ (KeyOk s) w) := by
  go_enter Try.func58, Try.ntmps58
  go_wp2_with fail
  refine (within_any _ _ _ _).mono ?_
  rintro e w' ⟨r, rfl, hr, rfl⟩
  go_wp2_with fail
  go_ret
  exact ⟨_, rfl, hr.trans (by rw [strB_size]; unfold KeyOk; omega), rfl⟩
end Go.Proofs.Ytiebaeahimeedaa.Page
