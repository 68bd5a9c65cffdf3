/-
  Contracts of page's joined, lay, layNumber, layText, filled.
-/
import Derived.Test.YtiebaeahimeedaaPCheck2
import Derived.Laws.IdiomStrings
import Derived.Deep.OwnRows
import Derived.Maps.AppendAt
namespace Go.Proofs.Ytiebaeahimeedaa.Page
open Go.RowKit Gen

/-- Bytes in memory, as a slice's parts. -/
structure BytesAt (w : World) (A : Option Addr) (n c : Nat) (l : Bs) : Prop where
  len : l.length = n
  cap : n ≤ c
  max : c ≤ maxLen
  nil : A = none → c = 0
  row : BRow w A l
theorem BytesAt.below {w w' : World} {A : Option Addr} {n c : Nat} {l : Bs} (h : BytesAt w A n c l) (hb : Below w.heap.size w w') : BytesAt w' A n c l := ⟨h.len, h.cap, h.max, h.nil, RowG.below h.row hb⟩
/-- Bytes are handed back, in memory of the call's own or not. -/
def Lays (l : Bs) (w : World) (e : Ending) (w' : World) : Prop := ∃ A n c, e = .returned (.slice A n c) ∧ BytesAt w' A n c l ∧ Below w.heap.size w w' ∧ ∀ a, A = some a → w.heap.size ≤ a.block
theorem bytes_elem : Elem Try.prog 30 5 byteV :=
  ⟨Try.underlying30, ⟨_, _, 1, rfl, rfl, rfl, rfl, rfl, by omega⟩, fun _ => rfl⟩
theorem own_bytes {w : World} {B : Nat} {v : Value} {l : Bs} (h : OwnG w 5 byteV B v l) : ∃ A n c, v = .slice A n c ∧ BytesAt w A n c l ∧ ∀ a, A = some a → B ≤ a.block := by
  have h0 := h
  obtain ⟨A, c, e, h1, h2, h3, h4⟩ := OwnG.row h
  refine ⟨A, l.length, c, e, ⟨rfl, h2, h3, h1, h4⟩, fun a ha => ?_⟩
  subst ha
  rw [e] at h0
  exact (World.ownsRow.lt h0 a.block rfl).1

/-- A part, as a slice in a cell: where it lies, how much room it has, its bytes. -/
abbrev Part := Option Addr × Nat × Bs
abbrev encS (x : Part) : Value := .slice x.1 x.2.2.length x.2.1
def PartsIn (w : World) (xs : List Part) : Prop := ∀ x ∈ xs, (x.1 = none → x.2.1 = 0) ∧ BRow w x.1 x.2.2
theorem PartsIn.below {w w' : World} {xs : List Part} (h : PartsIn w xs) (hb : Below w.heap.size w w') : PartsIn w' xs := fun x hx => ⟨(h x hx).1, RowG.below (h x hx).2 hb⟩
def allOf (xs : List Part) : Bs := xs.flatMap (·.2.2)
theorem allOf_snoc {xs : List Part} {k : Nat} (h : k < xs.length) : allOf (xs.take (k + 1)) = allOf (xs.take k) ++ xs[k].2.2 := by
  rw [allOf, List.take_succ_eq_append_getElem h, List.flatMap_append]; simp [allOf]
theorem allOf_take_le (xs : List Part) (k : Nat) : (allOf (xs.take k)).length ≤ (allOf xs).length := by
  have : allOf xs = allOf (xs.take k) ++ allOf (xs.drop k) := by rw [allOf, allOf, allOf, ← List.flatMap_append, List.take_append_drop]
  rw [this, List.length_append]; omega
set_option maxRecDepth 100000 in
theorem joined_any (A : Option Addr) (n c : Nat) (xs : List Part) (w : World) (hl : xs.length = n) (hn : n ≤ 1000000) (hR : RowG w encS A xs) (hP : PartsIn w xs) (hb : (allOf xs).length ≤ 1000000000) :
    Calls Try.prog 48 #[.slice A n c] w (Lays (allOf xs) w) := by
  have HR := Lib.hid hR
  have HL := Lib.hid hl
  have HP := Lib.hid hP
  have HT := Lib.hid (allOf_take_le xs)
  have HB := Lib.hid hb
  clear hR hl hP hb
  go_enter Try.func48, Try.ntmps48
  go_wp2_with fail
  go_loopw [3, 8] (fun v i wr => ∃ k : Nat, i = .int .i64 k ∧ k ≤ n ∧ OwnG wr 5 byteV w.heap.size v (allOf (xs.take k)) ∧ Below w.heap.size w wr ∧ w.heap.size ≤ wr.heap.size) (fun _ i _ => n - (intOf i).toNat)
  case atStart => exact ⟨0, rfl, Nat.zero_le _, OwnG.nil _ _ _ _, Below.refl _ _, Nat.le_refl _⟩
  case round =>
    obtain ⟨k, rfl, hk, ho, hb, hB⟩ := hrel
    by_cases hlt : k < n
    · have hkl : k < xs.length := by have := HL.out; omega
      obtain ⟨b, off, rfl, hlb, hc⟩ := HR.out (by intro e; subst e; simp at hkl)
      have hck := hc k hkl
      rw [← hb.cell (p := ⟨b, off + k, none⟩) hlb] at hck
      have hin := HP.out _ (List.getElem_mem hkl)
      have hle := HT.out (k + 1)
      rw [allOf_snoc hkl, List.length_append] at hle
      have hrow := RowG.below hin.2 hb
      obtain ⟨v', W', hrun, ho', hg, _⟩ := append_row bytes_elem wr w.heap.size _ _ ho xs[k].1 xs[k].2.2.length xs[k].2.1 xs[k].2.2 rfl hin.1 hrow (by have := HB.out; omega) hB
      have hb' := below_grown hb ho hg hB
      have hB' := Nat.le_trans hB hg.size
      rw [← allOf_snoc hkl] at ho'
      have hck2 : wr.cell? ⟨b, off + k, none⟩ = some (.slice xs[k].1 xs[k].2.2.length xs[k].2.1) := hck
      have R1 := Lib.hid hrun
      clear hck hrun
      generalize hx1 : xs[k].1 = x1 at hck2 R1
      generalize hx2 : xs[k].2.2.length = x2 at hck2 R1
      generalize hx3 : xs[k].2.1 = x3 at hck2 R1
      have HO' := Lib.hid ho'
      have HB' := Lib.hid hb'
      clear hx1 hx2 hx3 ho' hb' hg ho hb hc hin hle hrow
      go_wp2_with (at_builtin; (refine wpList_append_eq rfl (.tmp 12) (.tmp 13) _ rfl rfl rfl R1.out ?_; clear R1))
      go_roundw
      case rel => exact ⟨k + 1, by go_num, by omega, HO'.out, HB'.out, hB'⟩
      case measure => simp [intOf]; omega
    · rw [List.take_of_length_le (by have := HL.out; omega)] at ho
      obtain ⟨A2, n2, c2, rfl, hba, hfr⟩ := own_bytes ho
      have HO := Lib.hid hba
      have HFR := Lib.hid hfr
      have HBB := Lib.hid hb
      clear ho hba hb hfr
      go_wp2_with fail
      go_ret
      exact ⟨_, _, _, rfl, HO.out, HBB.out, HFR.out⟩

/-- So many bytes of a number, the highest first. -/
def be : Nat → Nat → Bs
  | 0, _ => []
  | k + 1, n => UInt8.ofNat (n / 256 ^ k) :: be k n
theorem be_len : ∀ k n, (be k n).length = k
  | 0, _ => rfl
  | k + 1, n => by rw [be, List.length_cons, be_len k n]
def rowC (l : Bs) : Array Value := (l.map byteV).toArray
theorem rowC_get {l : Bs} {k : Nat} (h : k < l.length) : (rowC l)[k]? = some (byteV l[k]) := by simp [rowC, h]
theorem rowC_set (l : Bs) (i : Nat) (z : UInt8) : (rowC l).setIfInBounds i (byteV z) = rowC (l.set i z) := by
  apply Array.ext'
  simp [rowC, List.map_set]
theorem set_last (z : UInt8) (L : Bs) : ∀ m, (List.replicate (m + 1) 0 ++ L).set m z = List.replicate m 0 ++ z :: L
  | 0 => rfl
  | m + 1 => by
    have := set_last z L m
    rw [List.replicate_succ, List.cons_append, List.set_cons_succ, this, List.replicate_succ (n := m), List.cons_append]
theorem made_zeros (n : Nat) : madeCells #[Value.int .u8 0] n = rowC (List.replicate n 0) := by
  apply Array.ext
  · simp [madeCells, rowC]
  · intro i h1 h2
    simp [madeCells, rowC, Nat.mod_one]
theorem byte_info : (Try.prog.info? 5).map (fun i => (i.zero, i.size, i.bytes)) = some (some (.int .u8 0), 1, 1) := by kernel_rfl
/-- make([]byte, n). -/
theorem make_run (n : Nat) (hn : n ≤ 1000000) (w : World) : (Instr.makeSlice 30 (.int .i64 (n : Int)) (.int .i64 (n : Int))).run Try.prog w = .ok (.slice (some ⟨w.heap.size, 0, none⟩) n n) (w.alloc (.cells (rowC (List.replicate n 0)) 5)) := by
  rw [run_make_row' _ _ _ _ Try.underlying30 byte_info rfl .i64 .i64 n (by omega) (by omega) w, made_zeros]
theorem at_row {w : World} {b : Nat} {l : Bs} (h : At w b (rowC l)) : BRow w (some ⟨b, 0, none⟩) l := fun _ =>
  ⟨b, 0, rfl, h.1, fun k hk => by rw [Nat.zero_add]; exact h.2.2 k _ (rowC_get hk)⟩
theorem u8_wrap (y : Nat) : IntKind.u8.wrap (y : Int) = ((UInt8.ofNat y).toNat : Int) := by
  rw [UInt8.toNat_ofNat']
  simp [IntKind.wrap, IntKind.bits, IntKind.signed]
set_option maxRecDepth 100000 in
theorem lay_any (k n : Nat) (w : World) (hk : k ≤ 8) (hn : n < 18446744073709551616) : Calls Try.prog 46 #[.int .i64 (k : Int), .int .u64 (n : Int)] w (Lays (be k n) w) := by
  have hmk := make_run k (by omega) w
  have hat : At (w.alloc (.cells (rowC (List.replicate k 0)) 5)) w.heap.size (rowC (List.replicate k 0)) := At.of_block (heap_alloc_last w _)
  have HAT := Lib.hid hat
  have HB1 := Lib.hid ((Below.refl w.heap.size w).alloc (Nat.le_refl _) (.cells (rowC (List.replicate k 0)) 5))
  clear hat
  have hu : IntKind.u64.signed = false := rfl
  go_enter Try.func46, Try.ntmps46
  go_wp2_with fail
  clear hmk
  go_loopw [1, 11] (fun x i wr => ∃ j y : Nat, i = .int .i64 j ∧ x = .int .u64 y ∧ j ≤ k ∧ y < 18446744073709551616 ∧ Hid (y = n / 256 ^ j) ∧ At wr w.heap.size (rowC (List.replicate (k - j) 0 ++ be j n)) ∧ Below w.heap.size w wr) (fun _ i _ => k - (intOf i).toNat)
  case atStart => exact ⟨0, n, rfl, rfl, Nat.zero_le _, hn, Lib.hid (by simp), by simpa [be] using HAT.out, HB1.out⟩
  case round =>
    obtain ⟨j, y, rfl, rfl, hj, hy, hQ, hat, hb⟩ := hrel
    by_cases hlt : j < k
    · have e1 : (k : Int) - 1 - (j : Int) = ((k - 1 - j : Nat) : Int) := by omega
      have e2 := u8_wrap y
      have hlen : k - 1 - j < (List.replicate (k - j) (0 : UInt8) ++ be j n).length := by rw [List.length_append, List.length_replicate, be_len]; omega
      obtain ⟨z0, hc⟩ : ∃ z0, wr.cell? ⟨w.heap.size, k - 1 - j, none⟩ = some z0 := ⟨_, hat.2.2 (k - 1 - j) _ (rowC_get hlen)⟩
      have hf := hat.2.1 (k - 1 - j)
      have hset := hat.set (k - 1 - j) (byteV (UInt8.ofNat y)) (by simpa [rowC] using hlen)
      rw [rowC_set, show k - j = (k - 1 - j) + 1 by omega, set_last] at hset
      have HS : Hid (At (wr.setCell ⟨w.heap.size, k - 1 - j, none⟩ (byteV (UInt8.ofNat y))) w.heap.size (rowC (List.replicate (k - (j + 1)) 0 ++ be (j + 1) n))) := Lib.hid (by
        rw [be, ← hQ.out, show k - (j + 1) = k - 1 - j by omega]; exact hset)
      have HB2 := Lib.hid (hb.setCell (p := ⟨w.heap.size, k - 1 - j, none⟩) (Nat.le_refl _) (byteV (UInt8.ofNat y)))
      have HQ2 : Hid (y / 256 = n / 256 ^ (j + 1)) := Lib.hid (by rw [hQ.out, Nat.div_div_eq_div_mul, Nat.pow_succ])
      have b1 : k - 1 - j < k := by omega
      generalize k - 1 - j = m at *
      generalize UInt8.ofNat y = z at *
      clear hset hat hb hQ hlen
      go_wp2_with fail
      go_roundw
      case rel => exact ⟨j + 1, y / 256, by go_num, by go_num, by omega, by omega, HQ2, HS.out, HB2.out⟩
      case measure => simp [intOf]; omega
    · obtain rfl : j = k := by omega
      have HO := Lib.hid (at_row (by simpa using hat))
      have HBB := Lib.hid hb
      clear hat hb hQ
      go_wp2_with fail
      go_ret
      exact ⟨_, _, _, rfl, ⟨be_len _ _, Nat.le_refl _, by simp only [maxLen]; omega, (fun h => by cases h), HO.out⟩, HBB.out, fun a ha => by cases ha; exact Nat.le_refl _⟩
end Go.Proofs.Ytiebaeahimeedaa.Page
