/-
  Texts of one family, one behind the other: PLay, PText, PEnc1, PEnc2.
-/
import Derived.Test.YtboaamaneeodfaaGreatKP1
import Derived.Laws.IdiomStrings
import Derived.Deep.OwnRows
import Derived.Maps.AppendAt
import Derived.Deep.RegionWith
import Derived.Deep.RegionHeld3
import Derived.Test.YtboaamaneeodfaaGreatKC1
namespace Go.Proofs.YtboaamaneeodfaaGreat.Page
open Go.RowKit Gen

/-- Bytes in memory, as a slice's parts. -/
structure BytesAt (w : World) (A : Option Addr) (n c : Nat) (l : Bs) : Prop where
  len : l.length = n
  cap : n ≤ c
  max : c ≤ maxLen
  nil : A = none → c = 0
  row : BRow w A l
theorem BytesAt.below {w w' : World} {A : Option Addr} {n c : Nat} {l : Bs} (h : BytesAt w A n c l) (hb : Below w.heap.size w w') : BytesAt w' A n c l := ⟨h.len, h.cap, h.max, h.nil, RowG.below h.row hb⟩
/-- Bytes are handed back, in memory of the call's own or not. -/
def Lays (l : Bs) (w : World) (e : Ending) (w' : World) : Prop := ∃ A n c, e = .returned (.slice A n c) ∧ BytesAt w' A n c l ∧ Below w.heap.size w w' ∧ ∀ a, A = some a → w.heap.size ≤ a.block
set_option maxRecDepth 100000 in
theorem bytes_elem : Elem Tryz.prog 129 5 byteV :=
  ⟨Tryz.underlying129, ⟨_, _, 1, rfl, rfl, rfl, rfl, rfl, by omega⟩, fun _ => rfl⟩
theorem own_bytes {w : World} {B : Nat} {v : Value} {l : Bs} (h : OwnG w 5 byteV B v l) : ∃ A n c, v = .slice A n c ∧ BytesAt w A n c l ∧ ∀ a, A = some a → B ≤ a.block := by
  have h0 := h
  obtain ⟨A, c, e, h1, h2, h3, h4⟩ := OwnG.row h
  refine ⟨A, l.length, c, e, ⟨rfl, h2, h3, h1, h4⟩, fun a ha => ?_⟩
  subst ha
  rw [e] at h0
  exact (World.ownsRow.lt h0 a.block rfl).1

/-- A part, as a slice in a cell: where it lies, how much room it has, its bytes. -/
abbrev Part := Option Addr × Nat × Bs
abbrev encS (x : Part) : Value := .slice x.1 x.2.2.length x.2.1
def PartsIn (w : World) (xs : List Part) : Prop := ∀ x ∈ xs, (x.1 = none → x.2.1 = 0) ∧ BRow w x.1 x.2.2
theorem PartsIn.below {w w' : World} {xs : List Part} (h : PartsIn w xs) (hb : Below w.heap.size w w') : PartsIn w' xs := fun x hx => ⟨(h x hx).1, RowG.below (h x hx).2 hb⟩
def allOf (xs : List Part) : Bs := xs.flatMap (·.2.2)
theorem allOf_snoc {xs : List Part} {k : Nat} (h : k < xs.length) : allOf (xs.take (k + 1)) = allOf (xs.take k) ++ xs[k].2.2 := by
  rw [allOf, List.take_succ_eq_append_getElem h, List.flatMap_append]; simp [allOf]
theorem allOf_take_le (xs : List Part) (k : Nat) : (allOf (xs.take k)).length ≤ (allOf xs).length := by
  have : allOf xs = allOf (xs.take k) ++ allOf (xs.drop k) := by rw [allOf, allOf, allOf, ← List.flatMap_append, List.take_append_drop]
  rw [this, List.length_append]; omega
set_option maxRecDepth 100000 in
theorem joined_any (A : Option Addr) (n c : Nat) (xs : List Part) (w : World) (hl : xs.length = n) (hn : n ≤ 1000000) (hR : RowG w encS A xs) (hP : PartsIn w xs) (hb : (allOf xs).length ≤ 1000000000) :
    Calls Tryz.prog 171 #[.slice A n c] w (Lays (allOf xs) w) := by
  have HR := Lib.hid hR
  have HL := Lib.hid hl
  have HP := Lib.hid hP
  have HT := Lib.hid (allOf_take_le xs)
  have HB := Lib.hid hb
  clear hR hl hP hb
  go_enter Tryz.func171, Tryz.ntmps171
  go_wp2_with fail
  go_loopw [3, 8] (fun v i wr => ∃ k : Nat, i = .int .i64 k ∧ k ≤ n ∧ OwnG wr 5 byteV w.heap.size v (allOf (xs.take k)) ∧ Below w.heap.size w wr ∧ w.heap.size ≤ wr.heap.size) (fun _ i _ => n - (intOf i).toNat)
  case atStart => exact ⟨0, rfl, Nat.zero_le _, OwnG.nil _ _ _ _, Below.refl _ _, Nat.le_refl _⟩
  case round =>
    obtain ⟨k, rfl, hk, ho, hb, hB⟩ := hrel
    by_cases hlt : k < n
    · have hkl : k < xs.length := by have := HL.out; omega
      obtain ⟨b, off, rfl, hlb, hc⟩ := HR.out (by intro e; subst e; simp at hkl)
      have hck := hc k hkl
      rw [← hb.cell (p := ⟨b, off + k, none⟩) hlb] at hck
      have hin := HP.out _ (List.getElem_mem hkl)
      have hle := HT.out (k + 1)
      rw [allOf_snoc hkl, List.length_append] at hle
      have hrow := RowG.below hin.2 hb
      obtain ⟨v', W', hrun, ho', hg, _⟩ := append_row bytes_elem wr w.heap.size _ _ ho xs[k].1 xs[k].2.2.length xs[k].2.1 xs[k].2.2 rfl hin.1 hrow (by have := HB.out; omega) hB
      have hb' := below_grown hb ho hg hB
      have hB' := Nat.le_trans hB hg.size
      rw [← allOf_snoc hkl] at ho'
      have hck2 : wr.cell? ⟨b, off + k, none⟩ = some (.slice xs[k].1 xs[k].2.2.length xs[k].2.1) := hck
      have R1 := Lib.hid hrun
      clear hck hrun
      generalize hx1 : xs[k].1 = x1 at hck2 R1
      generalize hx2 : xs[k].2.2.length = x2 at hck2 R1
      generalize hx3 : xs[k].2.1 = x3 at hck2 R1
      have HO' := Lib.hid ho'
      have HB' := Lib.hid hb'
      clear hx1 hx2 hx3 ho' hb' hg ho hb hc hin hle hrow
      go_wp2_with (at_builtin; (refine wpList_append_eq rfl (.tmp 12) (.tmp 13) _ rfl rfl rfl R1.out ?_; clear R1))
      go_roundw
      case rel => exact ⟨k + 1, by go_num, by omega, HO'.out, HB'.out, hB'⟩
      case measure => simp [intOf]; omega
    · rw [List.take_of_length_le (by have := HL.out; omega)] at ho
      obtain ⟨A2, n2, c2, rfl, hba, hfr⟩ := own_bytes ho
      have HO := Lib.hid hba
      have HFR := Lib.hid hfr
      have HBB := Lib.hid hb
      clear ho hba hb hfr
      go_wp2_with fail
      go_ret
      exact ⟨_, _, _, rfl, HO.out, HBB.out, HFR.out⟩

/-- So many bytes of a number, the highest first. -/
def be : Nat → Nat → Bs
  | 0, _ => []
  | k + 1, n => UInt8.ofNat (n / 256 ^ k) :: be k n
theorem be_len : ∀ k n, (be k n).length = k
  | 0, _ => rfl
  | k + 1, n => by rw [be, List.length_cons, be_len k n]
def rowC (l : Bs) : Array Value := (l.map byteV).toArray
theorem rowC_get {l : Bs} {k : Nat} (h : k < l.length) : (rowC l)[k]? = some (byteV l[k]) := by simp [rowC, h]
theorem rowC_set (l : Bs) (i : Nat) (z : UInt8) : (rowC l).setIfInBounds i (byteV z) = rowC (l.set i z) := by
  apply Array.ext'
  simp [rowC, List.map_set]
theorem set_last (z : UInt8) (L : Bs) : ∀ m, (List.replicate (m + 1) 0 ++ L).set m z = List.replicate m 0 ++ z :: L
  | 0 => rfl
  | m + 1 => by
    have := set_last z L m
    rw [List.replicate_succ, List.cons_append, List.set_cons_succ, this, List.replicate_succ (n := m), List.cons_append]
theorem made_zeros (n : Nat) : madeCells #[Value.int .u8 0] n = rowC (List.replicate n 0) := by
  apply Array.ext
  · simp [madeCells, rowC]
  · intro i h1 h2
    simp [madeCells, rowC, Nat.mod_one]
theorem byte_info : (Tryz.prog.info? 5).map (fun i => (i.zero, i.size, i.bytes)) = some (some (.int .u8 0), 1, 1) := by kernel_rfl
/-- make([]byte, n). -/
theorem make_run (n : Nat) (hn : n ≤ 1000000) (w : World) : (Instr.makeSlice 129 (.int .i64 (n : Int)) (.int .i64 (n : Int))).run Tryz.prog w = .ok (.slice (some ⟨w.heap.size, 0, none⟩) n n) (w.alloc (.cells (rowC (List.replicate n 0)) 5)) := by
  rw [run_make_row' _ _ _ _ Tryz.underlying129 byte_info rfl .i64 .i64 n (by omega) (by omega) w, made_zeros]
theorem at_row {w : World} {b : Nat} {l : Bs} (h : At w b (rowC l)) : BRow w (some ⟨b, 0, none⟩) l := fun _ =>
  ⟨b, 0, rfl, h.1, fun k hk => by rw [Nat.zero_add]; exact h.2.2 k _ (rowC_get hk)⟩
theorem u8_wrap (y : Nat) : IntKind.u8.wrap (y : Int) = ((UInt8.ofNat y).toNat : Int) := by
  rw [UInt8.toNat_ofNat']
  simp [IntKind.wrap, IntKind.bits, IntKind.signed]
set_option maxRecDepth 100000 in
theorem lay_any (k n : Nat) (w : World) (hk : k ≤ 8) (hn : n < 18446744073709551616) : Calls Tryz.prog 169 #[.int .i64 (k : Int), .int .u64 (n : Int)] w (Lays (be k n) w) := by
  have hmk := make_run k (by omega) w
  have hat : At (w.alloc (.cells (rowC (List.replicate k 0)) 5)) w.heap.size (rowC (List.replicate k 0)) := At.of_block (heap_alloc_last w _)
  have HAT := Lib.hid hat
  have HB1 := Lib.hid ((Below.refl w.heap.size w).alloc (Nat.le_refl _) (.cells (rowC (List.replicate k 0)) 5))
  clear hat
  have hu : IntKind.u64.signed = false := rfl
  go_enter Tryz.func169, Tryz.ntmps169
  go_wp2_with fail
  clear hmk
  go_loopw [1, 11] (fun x i wr => ∃ j y : Nat, i = .int .i64 j ∧ x = .int .u64 y ∧ j ≤ k ∧ y < 18446744073709551616 ∧ Hid (y = n / 256 ^ j) ∧ At wr w.heap.size (rowC (List.replicate (k - j) 0 ++ be j n)) ∧ Below w.heap.size w wr) (fun _ i _ => k - (intOf i).toNat)
  case atStart => exact ⟨0, n, rfl, rfl, Nat.zero_le _, hn, Lib.hid (by simp), by simpa [be] using HAT.out, HB1.out⟩
  case round =>
    obtain ⟨j, y, rfl, rfl, hj, hy, hQ, hat, hb⟩ := hrel
    by_cases hlt : j < k
    · have e1 : (k : Int) - 1 - (j : Int) = ((k - 1 - j : Nat) : Int) := by omega
      have e2 := u8_wrap y
      have hlen : k - 1 - j < (List.replicate (k - j) (0 : UInt8) ++ be j n).length := by rw [List.length_append, List.length_replicate, be_len]; omega
      obtain ⟨z0, hc⟩ : ∃ z0, wr.cell? ⟨w.heap.size, k - 1 - j, none⟩ = some z0 := ⟨_, hat.2.2 (k - 1 - j) _ (rowC_get hlen)⟩
      have hf := hat.2.1 (k - 1 - j)
      have hset := hat.set (k - 1 - j) (byteV (UInt8.ofNat y)) (by simpa [rowC] using hlen)
      rw [rowC_set, show k - j = (k - 1 - j) + 1 by omega, set_last] at hset
      have HS : Hid (At (wr.setCell ⟨w.heap.size, k - 1 - j, none⟩ (byteV (UInt8.ofNat y))) w.heap.size (rowC (List.replicate (k - (j + 1)) 0 ++ be (j + 1) n))) := Lib.hid (by
        rw [be, ← hQ.out, show k - (j + 1) = k - 1 - j by omega]; exact hset)
      have HB2 := Lib.hid (hb.setCell (p := ⟨w.heap.size, k - 1 - j, none⟩) (Nat.le_refl _) (byteV (UInt8.ofNat y)))
      have HQ2 : Hid (y / 256 = n / 256 ^ (j + 1)) := Lib.hid (by rw [hQ.out, Nat.div_div_eq_div_mul, Nat.pow_succ])
      have b1 : k - 1 - j < k := by omega
      generalize k - 1 - j = m at *
      generalize UInt8.ofNat y = z at *
      clear hset hat hb hQ hlen
      go_wp2_with fail
      go_roundw
      case rel => exact ⟨j + 1, y / 256, by go_num, by go_num, by omega, by omega, HQ2, HS.out, HB2.out⟩
      case measure => simp [intOf]; omega
    · obtain rfl : j = k := by omega
      have HO := Lib.hid (at_row (by simpa using hat))
      have HBB := Lib.hid hb
      clear hat hb hQ
      go_wp2_with fail
      go_ret
      exact ⟨_, _, _, rfl, ⟨be_len _ _, Nat.le_refl _, by simp only [maxLen]; omega, (fun h => by cases h), HO.out⟩, HBB.out, fun a ha => by cases ha; exact Nat.le_refl _⟩
end Go.Proofs.YtboaamaneeodfaaGreat.Page
namespace Go.Proofs.YtboaamaneeodfaaGreat.Page
open Go.RowKit Gen

theorem lits {α : Type} {enc : α → Value} (w : World) (C : Array Value) (t : TypeId) (fr : Nat × Nat) (xs : List α) (h : C = (xs.map enc).toArray) : RowG (w.alloc (.cells C t fr)) enc (some ⟨w.heap.size, 0, none⟩) xs := by
  subst h
  exact lit_row _ _ _ _ _ fun k hk => by simp [hk]
theorem PartsIn.nil (w : World) : PartsIn w [] := fun x hx => by cases hx
theorem PartsIn.cons {w : World} {A : Option Addr} {n c : Nat} {l : Bs} {xs : List Part} (h : BytesAt w A n c l) (t : PartsIn w xs) : PartsIn w ((A, c, l) :: xs) := fun x hx => by
  rcases List.mem_cons.1 hx with rfl | hx
  · exact ⟨h.nil, h.row⟩
  · exact t x hx
theorem BytesAt.alloc {w : World} {A : Option Addr} {n c : Nat} {l : Bs} (h : BytesAt w A n c l) (o : Obj) : BytesAt (w.alloc o) A n c l := h.below ((Below.refl _ _).alloc (Nat.le_refl _) o)
theorem enc_at {w : World} {A : Option Addr} {n c : Nat} {l : Bs} (h : BytesAt w A n c l) : Value.slice A n c = encS (A, c, l) := by rw [encS, h.len]

theorem layNumber_any (x : Int) (w : World) (h0 : 0 ≤ x) (h1 : x ≤ 9223372036854775807) : Calls Tryz.prog 176 #[.int .i64 x] w (Lays (be 2 x.toNat) w) := by
  obtain ⟨m, rfl⟩ := Int.eq_ofNat_of_zero_le h0
  have hc := lay_any 2 m w (by omega) (by omega)
  have e : IntKind.u64.wrap (m : Int) = m := by rw [IntKind.wrap_u64]; omega
  go_enter Tryz.func176, Tryz.ntmps176
  go_wp2_with fail
  refine hc.mono ?_
  rintro e w1 ⟨A, n, c, rfl, h, b, f⟩
  have HF := Lib.hid f
  clear f
  go_wp2_with fail
  go_ret
  exact ⟨_, _, _, rfl, h, b, HF.out⟩
/-- []byte(s). -/
theorem text_run (W : World) (l : Bs) (S : ByteArray) (hS : strB l = S) (hl : l.length ≤ 1000000) : ∃ A c W', (convert 9 129 (.string S)).run Tryz.prog W = .ok (.slice A S.size c) W' ∧ BytesAt W' A S.size c l ∧ Below W.heap.size W W' := by
  have hsz : S.size = l.length := by rw [← hS]; rfl
  refine ⟨_, _, _, run_bytes_of_string W _ _ 5 S Tryz.underlying9 Tryz.underlying129 Tryz.underlying5, ⟨hsz.symm, grownCap_ge _ _ _ _, grownCap_le_maxLen _ _ _ _ (by simp only [maxLen]; omega), (fun h => by cases h), ?_⟩, (Below.refl _ W).drew.alloc (Nat.le_refl _) _⟩
  refine lit_row W.drew _ _ _ l fun k hk => ?_
  have hk2 : k < S.data.size := by have : S.data.size = S.size := rfl; omega
  have h3 : S.data[k] = l[k] := by subst hS; simp [strB]
  unfold bytesRow
  rw [Array.getElem?_append_left (by simpa using hk2)]
  simp only [Array.getElem?_map, Array.getElem?_eq_getElem hk2, h3, Option.map_some]
set_option maxRecDepth 100000 in
theorem layText_any (s : Bs) (w : World) (hs : s.length ≤ 1000000) : Calls Tryz.prog 186 #[strV s] w (Lays (be 1 s.length ++ s) w) := by
  obtain ⟨S, hS⟩ : ∃ S, strB s = S := ⟨_, rfl⟩
  have hsz : S.size = s.length := by rw [← hS]; rfl
  have hc := lay_any 1 S.size w (by omega) (by omega)
  have e : IntKind.u64.wrap (S.size : Int) = (S.size : Int) := by rw [IntKind.wrap_u64]; omega
  rw [show strV s = .string S by rw [← hS]]
  have HX := Lib.hid (fun W => text_run W s S hS hs)
  have HS := Lib.hid hsz
  have HSL := Lib.hid hs
  clear hS hsz hs
  go_enter Tryz.func186, Tryz.ntmps186
  go_wp2_with fail
  refine hc.mono ?_
  rintro e w1 ⟨A, n, c, rfl, h1, b1, -⟩
  obtain ⟨A2, c2, W2, hrun, h2, b2⟩ := HX.out w1
  have B2 := Lib.hid (b1.trans (b2.mono b1.size))
  have H1 := Lib.hid (h1.below b2)
  have H2 := Lib.hid h2
  clear hc b1 h1 b2 h2 HX
  go_wp2_with fail
  have hj := joined_any (some ⟨W2.heap.size, 0, none⟩) 2 2 [(A, c, be 1 S.size), (A2, c2, s)] (W2.alloc (.cells #[.slice A n c, .slice A2 S.size c2] 129)) rfl (by omega) (lits _ _ _ _ _ (by rw [enc_at H1.out, enc_at H2.out]; rfl)) ((PartsIn.nil _).cons (H2.out.alloc _) |>.cons (H1.out.alloc _)) (by simp [allOf, be_len]; have := HSL.out; omega)
  refine hj.mono ?_
  rintro e w3 ⟨A3, n3, c3, rfl, h3, b3, f3⟩
  have HF3 := Lib.hid (fun a ha => Nat.le_trans (B2.out.alloc B2.out.size _).size (f3 a ha))
  have HB3 := Lib.hid ((B2.out.alloc B2.out.size _).trans (b3.mono (B2.out.alloc B2.out.size _).size))
  have H3 := Lib.hid h3
  clear b3 h3 hj hrun f3
  go_wp2_with fail
  go_ret
  refine ⟨_, _, _, rfl, ?_, HB3.out, HF3.out⟩
  have h := H3.out
  rw [show allOf [(A, c, be 1 S.size), (A2, c2, s)] = be 1 s.length ++ s by simp [allOf, HS.out]] at h
  exact h
/-- A list's bytes, and bytes 0 behind them. -/
def padTo (n : Nat) (l : Bs) : Bs := l ++ List.replicate (n - l.length) 0
set_option maxRecDepth 100000 in
theorem filled_any (A : Option Addr) (n c : Nat) (l : Bs) (k : Nat) (w : World) (h : BytesAt w A n c l) (hn : n ≤ k) (hk : k ≤ 10000) : Calls Tryz.prog 170 #[.slice A n c, .int .i64 (k : Int)] w (Lays (padTo k l) w) := by
  have hmk := make_run (k - n) (by omega) w
  rw [show ((k - n : Nat) : Int) = (k : Int) - (n : Int) by omega] at hmk
  have HB1 := Lib.hid ((Below.refl w.heap.size w).alloc (Nat.le_refl _) (.cells (rowC (List.replicate (k - n) 0)) 5))
  have HB : Hid (BytesAt (w.alloc (.cells (rowC (List.replicate (k - n) 0)) 5)) (some ⟨w.heap.size, 0, none⟩) (k - n) (k - n) (List.replicate (k - n) 0)) := Lib.hid ⟨by simp, Nat.le_refl _, by simp only [maxLen]; omega, (fun h => by cases h), at_row (At.of_block (heap_alloc_last w _))⟩
  have HH := Lib.hid (h.alloc (.cells (rowC (List.replicate (k - n) 0)) 5))
  have hsz : (w.alloc (.cells (rowC (List.replicate (k - n) 0)) 5)).heap.size = w.heap.size + 1 := by simp
  have hj := joined_any (some ⟨(w.alloc (.cells (rowC (List.replicate (k - n) 0)) 5)).heap.size, 0, none⟩) 2 2 [(A, c, l), (some ⟨w.heap.size, 0, none⟩, k - n, List.replicate (k - n) 0)] ((w.alloc (.cells (rowC (List.replicate (k - n) 0)) 5)).alloc (.cells #[.slice A n c, .slice (some ⟨w.heap.size, 0, none⟩) (k - n) (k - n)] 129)) rfl (by omega)
    (lits _ _ _ _ _ (by rw [enc_at HH.out, enc_at HB.out]; rfl)) ((PartsIn.nil _).cons (HB.out.alloc _) |>.cons (HH.out.alloc _)) (by simp [allOf, h.len]; omega)
  rw [hsz] at hj
  have HJ := Lib.hid hj
  have HL := Lib.hid h.len
  clear h hj hsz HB HH
  generalize rowC (List.replicate (k - n) 0) = R at *
  go_enter Tryz.func170, Tryz.ntmps170
  go_wp2_with fail
  refine HJ.out.mono ?_
  rintro e w3 ⟨A3, n3, c3, rfl, h3, b3, f3⟩
  have HF3 := Lib.hid (fun a ha => Nat.le_trans (HB1.out.alloc HB1.out.size _).size (f3 a ha))
  have HB3 := Lib.hid ((HB1.out.alloc HB1.out.size _).trans (b3.mono (HB1.out.alloc HB1.out.size _).size))
  have H3 := Lib.hid h3
  clear b3 h3 HJ hmk f3
  go_wp2_with fail
  go_ret
  refine ⟨_, _, _, rfl, ?_, HB3.out, HF3.out⟩
  have h := H3.out
  rw [show allOf [(A, c, l), (some ⟨w.heap.size, 0, none⟩, k - n, List.replicate (k - n) 0)] = padTo k l by simp [allOf, padTo, HL.out]] at h
  exact h

/-- Parts that are gathered in a row of the call's own. -/
def OwnS (w : World) (B : Nat) (v : Value) (xs : List Part) : Prop := OwnG w 129 encS B v xs ∧ ∀ x ∈ xs, (x.1 = none → x.2.1 = 0) ∧ BRow w x.1 x.2.2 ∧ (x.2.2 ≠ [] → ∀ a, x.1 = some a → some a.block ≠ v.ownBlock)
theorem OwnS.parts {w : World} {B : Nat} {v : Value} {xs : List Part} (h : OwnS w B v xs) : PartsIn w xs := fun x hx => ⟨(h.2 x hx).1, (h.2 x hx).2.1⟩
theorem OwnS.below {w w' : World} {B : Nat} {v : Value} {xs : List Part} (h : OwnS w B v xs) (hb : Below w.heap.size w w') : OwnS w' B v xs := ⟨OwnG.kept h.1 hb, fun x hx => ⟨(h.2 x hx).1, RowG.below (h.2 x hx).2.1 hb, (h.2 x hx).2.2⟩⟩
set_option maxRecDepth 100000 in
theorem parts_elem : Elem Tryz.prog 225 129 encS :=
  ⟨Tryz.underlying225, ⟨_, _, 24, rfl, rfl, rfl, rfl, rfl, by omega⟩, fun _ => rfl⟩
theorem row_grown {α : Type} {enc : α → Value} {w w' : World} {A : Option Addr} {l : List α} {row : Option Nat} (h : RowG w enc A l) (g : w.grownBy w' row) (hA : l ≠ [] → ∀ a, A = some a → some a.block ≠ row) : RowG w' enc A l := fun hne => by
  obtain ⟨b, off, e, hlt, hc⟩ := h hne
  refine ⟨b, off, e, Nat.lt_of_lt_of_le hlt g.size, fun k hk => ?_⟩
  rw [World.cell?_of_block (w := w) (a := ⟨b, off + k, none⟩) (g.block b hlt (hA hne _ e))]; exact hc k hk
/-- More parts, from a new row. -/
theorem append_parts (W : World) (B : Nat) (v : Value) (xs zs : List Part) (h : OwnS W B v xs) (C : Array Value) (m : Nat) (hm : zs.length = m) (hC : C = (zs.map encS).toArray) (hz : ∀ x ∈ zs, (x.1 = none → x.2.1 = 0) ∧ BRow W x.1 x.2.2 ∧ (x.2.2 ≠ [] → ∀ a, x.1 = some a → some a.block ≠ v.ownBlock))
    (hn : xs.length + m ≤ 1000000000000) (hB : B ≤ W.heap.size) :
    ∃ v' W', (Builtin.append_ #[225, 225] 225 #[v, .slice (some ⟨W.heap.size, 0, none⟩) m m]).run Tryz.prog (W.alloc (.cells C 129)) = .ok v' W' ∧ OwnS W' B v' (xs ++ zs) ∧ (W.alloc (.cells C 129)).grownBy W' v.ownBlock := by
  have hb0 : Below W.heap.size W (W.alloc (.cells C 129)) := (Below.refl _ _).alloc (Nat.le_refl _) _
  have h2 := h.below hb0
  obtain ⟨v', W', hrun, ho, hg, hv⟩ := append_row parts_elem (W.alloc (.cells C 129)) B v xs h2.1 (some ⟨W.heap.size, 0, none⟩) m m zs hm (fun h => by cases h) (lits W C _ _ zs hC) hn (Nat.le_trans hB (by simp))
  refine ⟨v', W', hrun, ⟨ho, fun x hx => ?_⟩, hg⟩
  have h3 : (x.1 = none → x.2.1 = 0) ∧ BRow W x.1 x.2.2 ∧ (x.2.2 ≠ [] → ∀ a, x.1 = some a → some a.block ≠ v.ownBlock) := by
    rcases List.mem_append.1 hx with hx | hx
    · exact h.2 x hx
    · exact hz x hx
  refine ⟨h3.1, row_grown (RowG.below h3.2.1 hb0) hg h3.2.2, fun hne a ha => ?_⟩
  rcases hv with hv | hv
  · rw [hv]; exact h3.2.2 hne a ha
  · obtain ⟨b, off, e, hlt, _⟩ := h3.2.1 hne
    rw [ha] at e
    cases e
    rw [hv]
    simp
    omega
/-- A literal row of parts. -/
theorem own_lit (w : World) (B : Nat) (C : Array Value) (m : Nat) (zs : List Part) (hm : zs.length = m) (hC : C = (zs.map encS).toArray) (hz : ∀ x ∈ zs, (x.1 = none → x.2.1 = 0) ∧ BRow w x.1 x.2.2) (hB : B ≤ w.heap.size) (hn : m ≤ 1000) : OwnS (w.alloc (.cells C 129)) B (.slice (some ⟨w.heap.size, 0, none⟩) m m) zs := by
  subst hC
  refine ⟨⟨by simp, .inr ⟨w.heap.size, m, (zs.map encS).toArray, by rw [hm], hB, heap_alloc_last w _, by omega, by simp only [maxLen]; omega, by simp [hm], by simp [List.take_of_length_le]⟩⟩, fun x hx => ⟨(hz x hx).1, RowG.below (hz x hx).2 ((Below.refl _ _).alloc (Nat.le_refl _) _), fun hne a ha => ?_⟩⟩
  obtain ⟨b, off, e, hlt, _⟩ := (hz x hx).2 hne
  rw [ha] at e
  cases e
  simp [Value.ownBlock]
  omega
theorem own_lt {w : World} {B : Nat} {v : Value} {xs : List Part} (h : OwnS w B v xs) {a : Addr} (ha : w.heap.size ≤ a.block) : some a.block ≠ v.ownBlock := fun e => by
  have := (World.ownsRow.lt h.1 a.block e.symm).2
  omega
/-- An append of whatever is given, whose run is known, in a walk. -/
theorem wpList_append2_eq {P : Program} {ops : Array Oper} {rest : List Oper} {o : Oper} {a : Act} {Q : Exit → Act → World → Prop} {w w' : World} {v u v' : Value} (hgd : o.guard = none) (s x : Operand) (t t' : TypeId)
    (ho : o.op = .call { callee := .builtin .append, args := #[s, x], argTypes := #[t, t'] }) (hs : a.eval s = v) (hx : a.eval x = u) (hrun : (Builtin.append_ #[t, t'] o.type #[v, u]).run P w = .ok v' w')
    (h : wpList P ops Q rest (a.put o.dst v') w') : wpList P ops Q (o :: rest) a w := by
  refine wpList_plain hgd fun K hK => ?_
  unfold Oper.wp
  simp [execOp, ho, resolve, invoke, builtin, hs, hx, hrun, Result.andThen]
  exact hK _ _ h
/-- .. and in a region that draws its order. -/
theorem step_append2_eq {P : Program} {ops : Array Oper} {o : Oper} {a : Act} {K : Act → World → Prop} {Q : Exit → Act → World → Prop} {X : Prop} {w w' : World} {v u v' : Value} (hgd : o.guard = none) (s x : Operand) (t t' : TypeId)
    (ho : o.op = .call { callee := .builtin .append, args := #[s, x], argTypes := #[t, t'] }) (hs : a.eval s = v) (hx : a.eval x = u) (hrun : (Builtin.append_ #[t, t'] o.type #[v, u]).run P w = .ok v' w')
    (h : K (a.put o.dst v') w') : if Region.wanted o (yielded ops a.tmps) = true then Oper.wp P o a w K Q else X := by
  have hw : Region.wanted o (yielded ops a.tmps) = true := by simp [Region.wanted, hgd]
  rw [if_pos hw]
  unfold Oper.wp
  simp [execOp, ho, resolve, invoke, builtin, hs, hx, hrun, Result.andThen]
  exact h
end Go.Proofs.YtboaamaneeodfaaGreat.Page
namespace Go.Proofs.YtboaamaneeodfaaGreat.Page
open Go.RowKit Gen

def num2 (x : Int) : Bs := be 2 x.toNat
def txt (s : Bs) : Bs := be 1 s.length ++ s
def bodyLeaf (p : Pg) : Bs := num2 p.pairs.length ++ p.pairs.flatMap fun x => txt x.1 ++ txt x.2
def bodyFree (p : Pg) : Bs := num2 p.pages.length ++ p.pages.flatMap num2 ++ num2 p.next
theorem num2_len (x : Int) : (num2 x).length = 2 := be_len _ _
theorem txt_len (s : Bs) : (txt s).length = 1 + s.length := by rw [txt, List.length_append, be_len]
theorem cell_lt {w : World} {b o : Nat} {v : Value} (h : w.cell? ⟨b, o, none⟩ = some v) : b < w.heap.size := by
  rcases Nat.lt_or_ge b w.heap.size with h' | h'
  · exact h'
  · simp [World.cell?, Array.getElem?_eq_none h'] at h
theorem cell_below {w w' : World} {b o : Nat} {v : Value} (h : w.cell? ⟨b, o, none⟩ = some v) (hb : Below w.heap.size w w') : w'.cell? ⟨b, o, none⟩ = some v := by
  rw [hb.cell (p := ⟨b, o, none⟩) (cell_lt h)]; exact h
theorem two_keep {w1 : World} {b1 o1 b2 o2 : Nat} {u v : Value} (h1 : w1.cell? ⟨b1, o1, none⟩ = some u) (h2 : w1.cell? ⟨b2, o2, none⟩ = some v) :
    ∀ W, Below w1.heap.size w1 W → W.cell? ⟨b1, o1, none⟩ = some u ∧ W.cell? ⟨b2, o2, none⟩ = some v := fun _ hb => ⟨cell_below h1 hb, cell_below h2 hb⟩
theorem allOf_append (xs ys : List Part) : allOf (xs ++ ys) = allOf xs ++ allOf ys := by simp [allOf]
/-- Between two rounds of layLeaf. -/
def LeafRel (w : World) (H : Bs) (ps : List (Bs × Bs)) (v i : Value) (wr : World) : Prop := ∃ (k : Nat) (xs : List Part), i = .int .i64 k ∧ k ≤ ps.length ∧ OwnS wr w.heap.size v xs ∧ xs.length = 1 + 2 * k ∧ allOf xs = H ++ (ps.take k).flatMap (fun x => txt x.1 ++ txt x.2) ∧ Below w.heap.size w wr
theorem flat_step {α : Type} (f : α → Bs) (l : List α) {k : Nat} (h : k < l.length) : (l.take (k + 1)).flatMap f = (l.take k).flatMap f ++ f l[k] := by
  rw [List.take_succ_eq_append_getElem h, List.flatMap_append]; simp
/-- Two texts more, in a round that may have made a copy first. -/
theorem two_append {w wr W1 w2 w3 : World} {B : Nat} {v : Value} {xs : List Part} {A3 A4 : Option Addr} {n3 c3 n4 c4 : Nat} {tx ty : Bs} (ho : OwnS wr B v xs) (hb : Below w.heap.size w wr) (hwB : w.heap.size ≤ B) (hB : B ≤ wr.heap.size) (bw : Below wr.heap.size wr W1) (r2 : Below W1.heap.size W1 w2) (r3 : Below W1.heap.size W1 w3)
    (h3 : BytesAt w3 A3 n3 c3 tx) (h4 : BytesAt w3 A4 n4 c4 ty) (f3 : ∀ a, A3 = some a → W1.heap.size ≤ a.block) (f4 : ∀ a, A4 = some a → w2.heap.size ≤ a.block) (hn : xs.length ≤ 1000) :
    ∃ v' W', (Builtin.append_ #[225, 225] 225 #[v, .slice (some ⟨w3.heap.size, 0, none⟩) 2 2]).run Tryz.prog (w3.alloc (.cells #[.slice A3 n3 c3, .slice A4 n4 c4] 129)) = .ok v' W' ∧ OwnS W' B v' (xs ++ [(A3, c3, tx), (A4, c4, ty)]) ∧ Below w.heap.size w W' ∧ B ≤ W'.heap.size ∧
      ∀ b o, b < w3.heap.size → some b ≠ v.ownBlock → W'.cell? ⟨b, o, none⟩ = w3.cell? ⟨b, o, none⟩ := by
  have sw := bw.size
  have hb3 : Below wr.heap.size wr w3 := bw.trans (r3.mono sw)
  have ho3 := ho.below hb3
  have hB3 : B ≤ w3.heap.size := Nat.le_trans hB hb3.size
  have ne : ∀ {A : Option Addr} {l : Bs}, (∀ a, A = some a → wr.heap.size ≤ a.block) → (l ≠ [] → ∀ a, A = some a → some a.block ≠ v.ownBlock) := fun hf _ a ha => own_lt ho (hf a ha)
  obtain ⟨v', W', hrun, ho', hg⟩ := append_parts w3 B v xs [(A3, c3, tx), (A4, c4, ty)] ho3 #[.slice A3 n3 c3, .slice A4 n4 c4] 2 rfl (by rw [enc_at h3, enc_at h4]; rfl) (fun x hx => by
    rcases List.mem_cons.1 hx with rfl | hx
    · exact ⟨h3.nil, h3.row, ne (fun a ha => Nat.le_trans sw (f3 a ha))⟩
    · rcases List.mem_cons.1 hx with rfl | hx
      · exact ⟨h4.nil, h4.row, ne (fun a ha => Nat.le_trans (Nat.le_trans sw r2.size) (f4 a ha))⟩
      · cases hx) (by omega) hB3
  have hb4 : Below w.heap.size w (w3.alloc (.cells #[.slice A3 n3 c3, .slice A4 n4 c4] 129)) := (hb.trans (hb3.mono hb.size)).alloc (Nat.le_trans hb.size hb3.size) _
  refine ⟨v', W', hrun, ho', hb4.grown hg hb4.size (fun k hk => Nat.le_trans hwB (World.ownsRow.lt ho.1 k hk).1), Nat.le_trans hB3 (Nat.le_trans (by simp) hg.size), fun b o hlt hne => ?_⟩
  rw [World.cell?_of_block (w := w3.alloc (.cells #[.slice A3 n3 c3, .slice A4 n4 c4] 129)) (a := ⟨b, o, none⟩) (hg.block b (by simp; omega) hne)]
  exact ((Below.refl w3.heap.size w3).alloc (Nat.le_refl _) _).cell hlt
/-- One part more. -/
theorem one_append {w wr w3 : World} {B : Nat} {v : Value} {xs : List Part} {A3 : Option Addr} {n3 c3 : Nat} {tx : Bs} (ho : OwnS wr B v xs) (hb : Below w.heap.size w wr) (hwB : w.heap.size ≤ B) (hB : B ≤ wr.heap.size) (r3 : Below wr.heap.size wr w3)
    (h3 : BytesAt w3 A3 n3 c3 tx) (f3 : ∀ a, A3 = some a → wr.heap.size ≤ a.block) (hn : xs.length ≤ 100000) :
    ∃ v' W', (Builtin.append_ #[225, 225] 225 #[v, .slice (some ⟨w3.heap.size, 0, none⟩) 1 1]).run Tryz.prog (w3.alloc (.cells #[.slice A3 n3 c3] 129)) = .ok v' W' ∧ OwnS W' B v' (xs ++ [(A3, c3, tx)]) ∧ Below w.heap.size w W' ∧ B ≤ W'.heap.size ∧
      ∀ b o, b < w3.heap.size → some b ≠ v.ownBlock → W'.cell? ⟨b, o, none⟩ = w3.cell? ⟨b, o, none⟩ := by
  have ho3 := ho.below r3
  have hB3 : B ≤ w3.heap.size := Nat.le_trans hB r3.size
  obtain ⟨v', W', hrun, ho', hg⟩ := append_parts w3 B v xs [(A3, c3, tx)] ho3 #[.slice A3 n3 c3] 1 rfl (by rw [enc_at h3]; rfl) (fun x hx => by
    rcases List.mem_cons.1 hx with rfl | hx
    · exact ⟨h3.nil, h3.row, fun _ a ha => own_lt ho (f3 a ha)⟩
    · cases hx) (by omega) hB3
  have hb4 : Below w.heap.size w (w3.alloc (.cells #[.slice A3 n3 c3] 129)) := (hb.trans (r3.mono hb.size)).alloc (Nat.le_trans hb.size r3.size) _
  refine ⟨v', W', hrun, ho', hb4.grown hg hb4.size (fun k hk => Nat.le_trans hwB (World.ownsRow.lt ho.1 k hk).1), Nat.le_trans hB3 (Nat.le_trans (by simp) hg.size), fun b o hlt hne => ?_⟩
  rw [World.cell?_of_block (w := w3.alloc (.cells #[.slice A3 n3 c3] 129)) (a := ⟨b, o, none⟩) (hg.block b (by simp; omega) hne)]
  exact ((Below.refl w3.heap.size w3).alloc (Nat.le_refl _) _).cell hlt
set_option maxRecDepth 100000 in
set_option maxHeartbeats 1000000 in
theorem layLeaf_any (p : Pg) (a : Lay) (w : World) (hR : PRow w a.A1 p.pairs) (hn6 : p.pairs.length ≤ 6) (hs : ∀ x ∈ p.pairs, x.1.length ≤ 100 ∧ x.2.length ≤ 100) (hT : (bodyLeaf p).length ≤ 100000) : Calls Tryz.prog 172 #[pgV p a] w (Lays (bodyLeaf p) w) := by
  have B1 : Below w.heap.size w (w.alloc (.cells (pgC p a) 82)) := (Below.refl _ _).alloc (Nat.le_refl _) _
  have HB1 := Lib.hid B1
  have HR := Lib.hid hR
  have cL := layNumber_any p.pairs.length (w.alloc (.cells (pgC p a) 82)) (by omega) (by omega)
  have HS := Lib.hid hs
  unfold bodyLeaf at *
  have c1 : (w.alloc (.cells (pgC p a) 82)).cell? ⟨w.heap.size, 1, none⟩ = some (.slice a.A1 p.pairs.length a.c1) := by simp [pgC]
  clear hR B1 hs
  change Calls _ _ _ _ (Lays (num2 (p.pairs.length : Int)) _) at cL
  unfold pgC at HB1 cL c1
  generalize hps : p.pairs = ps at *
  unfold pgV pgC
  rw [hps]
  generalize a.A1 = A1 at *
  have H6 := Lib.hid hn6
  have HT := Lib.hid hT
  obtain ⟨n, hn⟩ : ∃ n, ps.length = n := ⟨_, rfl⟩
  generalize hH : num2 (ps.length : Int) = H at *
  have hHl : H.length = 2 := by rw [← hH]; exact num2_len _
  rw [hn] at c1 cL hn6 HB1 ⊢
  have HN := Lib.hid hn
  clear hps hT hn hH
  go_enter Tryz.func172, Tryz.ntmps172
  go_wp2_with fail
  refine cL.mono ?_
  rintro e w1 ⟨A2, n2, c2, rfl, h2, b2, f2⟩
  have d1 := cell_below c1 b2
  have B2 := HB1.out.trans (b2.mono HB1.out.size)
  have HO := Lib.hid (own_lit w1 w.heap.size #[.slice A2 n2 c2] 1 [(A2, c2, H)] rfl (by rw [enc_at h2]; rfl) ((PartsIn.nil _).cons h2) B2.size (by omega))
  have HB2 := Lib.hid (B2.alloc B2.size (.cells #[.slice A2 n2 c2] 129))
  have d2 := cell_below d1 ((Below.refl _ _).alloc (Nat.le_refl _) (.cells #[.slice A2 n2 c2] 129))
  clear h2 b2 f2 B2 d1 cL c1
  go_wp2_with fail
  clear d2
  go_loopw [3, 14] (fun v i wr => LeafRel w H ps v i wr) (fun _ i _ => n - (intOf i).toNat)
  case atStart => exact ⟨0, [(A2, c2, H)], rfl, Nat.zero_le _, HO.out, rfl, by simp [allOf], HB2.out⟩
  case round =>
    obtain ⟨k, xs, rfl, hk, ho, hxl, hall, hb⟩ := hrel
    by_cases hlt : k < n
    · have hkl : k < ps.length := by have := HN.out; omega
      obtain ⟨b, off, rfl, hlb, hc⟩ := HR.out (by intro e; subst e; simp at hkl)
      obtain ⟨hc1, hc2⟩ := hc k hkl
      rw [← hb.cell (p := ⟨b, off + k * 2, none⟩) hlb] at hc1
      rw [← hb.cell (p := ⟨b, off + k * 2 + 1, none⟩) hlb] at hc2
      obtain ⟨X, hX⟩ : ∃ X, strB ps[k].1 = X := ⟨_, rfl⟩
      obtain ⟨Y, hY⟩ : ∃ Y, strB ps[k].2 = Y := ⟨_, rfl⟩
      rw [show strV ps[k].1 = .string X by rw [← hX]] at hc1
      rw [show strV ps[k].2 = .string Y by rw [← hY]] at hc2
      have hsk := HS.out _ (List.getElem_mem hkl)
      have HT1 := Lib.hid (fun W => layText_any ps[k].1 W (by omega))
      have HT2 := Lib.hid (fun W => layText_any ps[k].2 W (by omega))
      rw [show strV ps[k].1 = .string X by rw [← hX], show be 1 ps[k].1.length ++ ps[k].1 = txt ps[k].1 from rfl] at HT1
      rw [show strV ps[k].2 = .string Y by rw [← hY], show be 1 ps[k].2.length ++ ps[k].2 = txt ps[k].2 from rfl] at HT2
      have HAL : Hid (∀ z1 z2 : Part, z1.2.2 = txt ps[k].1 → z2.2.2 = txt ps[k].2 → allOf (xs ++ [z1, z2]) = H ++ (ps.take (k + 1)).flatMap (fun x => txt x.1 ++ txt x.2)) := Lib.hid (fun z1 z2 h1 h2 => by
        rw [allOf_append, hall, flat_step _ _ hkl]; simp [allOf, h1, h2])
      generalize txt ps[k].1 = tx at HT1 HAL
      generalize txt ps[k].2 = ty at HT2 HAL
      have hbl := hb.size
      have KS := Lib.hid (two_keep (w1 := wr.alloc (.cells #[.string X, .string Y] 36)) (b1 := wr.heap.size) (o1 := 0) (b2 := wr.heap.size) (o2 := 1) (u := .string X) (v := .string Y) (by simp) (by simp))
      have BW := Lib.hid ((Below.refl _ wr).alloc (Nat.le_refl _) (.cells #[.string X, .string Y] 36))
      have SW := Lib.hid (show wr.heap.size < (wr.alloc (.cells #[.string X, .string Y] 36)).heap.size by simp)
      have NE := Lib.hid (show some wr.heap.size ≠ u3.ownBlock from own_lt ho (a := ⟨wr.heap.size, 0, none⟩) (Nat.le_refl _))
      have HO := Lib.hid ho
      have HBB := Lib.hid hb
      have HXL := Lib.hid hxl
      clear hc hX hY hb ho hsk hxl hall
      go_wp2_with fail
      have R0 := Lib.hid (Below.refl (wr.alloc (.cells #[.string X, .string Y] 36)).heap.size (wr.alloc (.cells #[.string X, .string Y] 36)))
      have K0 := Lib.hid (KS.out _ R0.out.drew)
      go_region_held3 (fun w' => w'.cell? ⟨wr.heap.size, 0, none⟩ = some (.string X) ∧ w'.cell? ⟨wr.heap.size, 1, none⟩ = some (.string Y))
        (with_reducible (first | exact K0.out | exact K2.out | exact K3.out | exact K4.out | exact K5.out))
        (first
          | (go_at_call 186; (with_reducible refine (HT1.out _).mono ?_); rintro e w2 ⟨A3, n3, c3, rfl, h3, b3, f3⟩; have R2 := Lib.hid (R0.out.drew.trans (b3.mono R0.out.drew.size)); have H3 := Lib.hid h3; have F3 := Lib.hid f3; have K2 := Lib.hid (KS.out _ R2.out); clear h3 b3 f3)
          | (go_at_call 186; (with_reducible refine (HT2.out _).mono ?_); rintro e w3 ⟨A4, n4, c4, rfl, h4, b4, f4⟩; have R3 := Lib.hid (R2.out.trans (b4.mono R2.out.size)); have H4 := Lib.hid h4; have F4 := Lib.hid f4; have H3' := Lib.hid (H3.out.below b4); have K3 := Lib.hid (KS.out _ R3.out); have K4 := Lib.hid (KS.out _ (R3.out.alloc R3.out.size (.cells #[.slice A3 n3 c3, .slice A4 n4 c4] 129))); clear h4 b4 f4;
              obtain ⟨v5, w5, hrun5, ho5, hb5, hB5, hk5⟩ := two_append HO.out HBB.out (Nat.le_refl _) HBB.out.size BW.out R2.out R3.out H3'.out H4.out F3.out F4.out (by have := HXL.out; have := H6.out; have := HN.out; omega);
              have Q5 := Lib.hid hrun5; have O5 := Lib.hid ho5; have B5 := Lib.hid hb5; have K5 := Lib.hid (And.intro ((hk5 wr.heap.size 0 (Nat.lt_of_lt_of_le SW.out R3.out.size) NE.out).trans K3.out.1) ((hk5 wr.heap.size 1 (Nat.lt_of_lt_of_le SW.out R3.out.size) NE.out).trans K3.out.2)); clear hrun5 ho5 hb5 hB5 hk5)
          | (refine step_append2_eq (by rfl) (.tmp 18) (.tmp 25) _ _ (by rfl) (by rfl) (by rfl) Q5.out ?_; skip))
      clear K0 K2 K3 K4 K5 HT1 HT2 KS
      go_wp2_with fail
      go_roundw
      case rel => exact ⟨k + 1, xs ++ [(A3, c3, tx), (A4, c4, ty)], by go_num, hkl, O5.out, by rw [List.length_append, HXL.out]; simp; omega, HAL.out _ _ rfl rfl, B5.out⟩
      case measure => simp [intOf]; omega
    · have hfin : allOf xs = H ++ ps.flatMap (fun x => txt x.1 ++ txt x.2) := by rw [hall, List.take_of_length_le (by have := HN.out; omega)]
      obtain ⟨A, c, hv, _, _, _, hrow⟩ := OwnG.row ho.1
      subst hv
      have cJ := joined_any A xs.length c xs wr rfl (by have := H6.out; omega) hrow ho.parts (by rw [hfin]; have := HT.out; omega)
      rw [hfin] at cJ
      have HJ := Lib.hid cJ
      have HBB := Lib.hid hb
      generalize xs.length = m at *
      clear hfin hrow ho hall hxl cJ hb
      go_wp2_with fail
      refine HJ.out.mono ?_
      rintro e w3 ⟨A3, n3, c3, rfl, h3, b3, f3⟩
      have B3 := Lib.hid (HBB.out.trans (b3.mono HBB.out.size))
      have H3 := Lib.hid h3
      have F3 := Lib.hid (fun a ha => Nat.le_trans HBB.out.size (f3 a ha))
      clear b3 h3 f3
      go_wp2_with fail
      go_ret
      exact ⟨_, _, _, rfl, H3.out, B3.out, F3.out⟩
end Go.Proofs.YtboaamaneeodfaaGreat.Page
namespace Go.Proofs.YtboaamaneeodfaaGreat.Page
open Go.RowKit Gen

def FreeRel (w : World) (H : Bs) (ps : List Int) (v i : Value) (wr : World) : Prop := ∃ (k : Nat) (xs : List Part), i = .int .i64 k ∧ k ≤ ps.length ∧ OwnS wr (w.heap.size + 1) v xs ∧ xs.length = 1 + k ∧ allOf xs = H ++ (ps.take k).flatMap num2 ∧ Below w.heap.size w wr ∧ w.heap.size + 1 ≤ wr.heap.size ∧ ∃ z, wr.cell? ⟨w.heap.size, 5, none⟩ = some z
set_option maxRecDepth 100000 in
set_option maxHeartbeats 1000000 in
theorem layFree_any (p : Pg) (a : Lay) (w : World) (hR : IRow w a.A4 p.pages) (hn6 : p.pages.length ≤ 200) (hs : ∀ x ∈ p.pages, 0 ≤ x ∧ x ≤ 9223372036854775807) (hx0 : 0 ≤ p.next) (hx1 : p.next ≤ 9223372036854775807) : Calls Tryz.prog 174 #[pgV p a] w (Lays (bodyFree p) w) := by
  have B1 : Below w.heap.size w (w.alloc (.cells (pgC p a) 82)) := (Below.refl _ _).alloc (Nat.le_refl _) _
  have HB1 := Lib.hid B1
  have HR := Lib.hid hR
  have cL := layNumber_any p.pages.length (w.alloc (.cells (pgC p a) 82)) (by omega) (by omega)
  have cX := Lib.hid (fun W => layNumber_any p.next W hx0 hx1)
  change Hid (∀ W, Calls _ _ _ _ (Lays (num2 p.next) _)) at cX
  have HS := Lib.hid hs
  have c1 : (w.alloc (.cells (pgC p a) 82)).cell? ⟨w.heap.size, 4, none⟩ = some (.slice a.A4 p.pages.length a.c4) := by simp [pgC]
  have c5 : (w.alloc (.cells (pgC p a) 82)).cell? ⟨w.heap.size, 5, none⟩ = some (.int .i64 p.next) := by simp [pgC]
  have HSZ := Lib.hid (show w.heap.size + 1 ≤ (w.alloc (.cells (pgC p a) 82)).heap.size by simp)
  clear hR B1 hs hx0 hx1
  change Calls _ _ _ _ (Lays (num2 (p.pages.length : Int)) _) at cL
  unfold pgC at HB1 cL c1 c5 HSZ
  unfold bodyFree
  generalize hps : p.pages = ps at *
  unfold pgV pgC
  rw [hps]
  generalize a.A4 = A1 at *
  generalize p.next = nx at *
  have H6 := Lib.hid hn6
  obtain ⟨n, hn⟩ : ∃ n, ps.length = n := ⟨_, rfl⟩
  generalize hH : num2 (ps.length : Int) = H at *
  have hHl : Hid (H.length = 2) := Lib.hid (by rw [← hH]; exact num2_len _)
  rw [hn] at c1 c5 cL hn6 HB1 HSZ ⊢
  have HN := Lib.hid hn
  clear hps hn hH
  go_enter Tryz.func174, Tryz.ntmps174
  go_wp2_with fail
  refine cL.mono ?_
  rintro e w1 ⟨A2, n2, c2, rfl, h2, b2, f2⟩
  have B2 := HB1.out.trans (b2.mono HB1.out.size)
  have SZ2 := Nat.le_trans HSZ.out b2.size
  have d1 := cell_below (cell_below c1 b2) ((Below.refl _ _).alloc (Nat.le_refl _) (.cells #[.slice A2 n2 c2] 129))
  have d5 := cell_below (cell_below c5 b2) ((Below.refl _ _).alloc (Nat.le_refl _) (.cells #[.slice A2 n2 c2] 129))
  have HO := Lib.hid (own_lit w1 (w.heap.size + 1) #[.slice A2 n2 c2] 1 [(A2, c2, H)] rfl (by rw [enc_at h2]; rfl) ((PartsIn.nil _).cons h2) SZ2 (by omega))
  have HB2 := Lib.hid (B2.alloc B2.size (.cells #[.slice A2 n2 c2] 129))
  have HSZ2 := Lib.hid (show w.heap.size + 1 ≤ (w1.alloc (.cells #[.slice A2 n2 c2] 129)).heap.size by simp; omega)
  have HD5 := Lib.hid d5
  clear h2 b2 f2 B2 cL c1 c5 SZ2 HSZ d5
  go_wp2_with fail
  clear d1
  go_loopw [3, 14] (fun v i wr => FreeRel w H ps v i wr ∧ wr.cell? ⟨w.heap.size, 5, none⟩ = some (.int .i64 nx)) (fun _ i _ => n - (intOf i).toNat)
  case atStart => exact ⟨⟨0, [(A2, c2, H)], rfl, Nat.zero_le _, HO.out, rfl, by simp [allOf], HB2.out, HSZ2.out, _, HD5.out⟩, HD5.out⟩
  case round =>
    obtain ⟨⟨k, xs, rfl, hk, ho, hxl, hall, hb, hsz, -⟩, h5⟩ := hrel
    by_cases hlt : k < n
    · have hkl : k < ps.length := by have := HN.out; omega
      obtain ⟨b, off, rfl, hlb, hc⟩ := HR.out (by intro e; subst e; simp at hkl)
      have hc1 := hc k hkl
      rw [← hb.cell (p := ⟨b, off + k, none⟩) hlb] at hc1
      have hsk := HS.out _ (List.getElem_mem hkl)
      have HT1 := Lib.hid (fun W => layNumber_any ps[k] W hsk.1 hsk.2)
      change Hid (∀ W, Calls _ _ _ _ (Lays (num2 ps[k]) _)) at HT1
      have HAL : Hid (∀ z1 : Part, z1.2.2 = num2 ps[k] → allOf (xs ++ [z1]) = H ++ (ps.take (k + 1)).flatMap num2) := Lib.hid (fun z1 h1 => by
        rw [allOf_append, hall, flat_step _ _ hkl]; simp [allOf, h1])
      generalize num2 ps[k] = tx at HT1 HAL
      generalize ps[k] = x at hc1 HT1
      have hbl := hb.size
      have HO3 := Lib.hid ho
      have HBB := Lib.hid hb
      have HXL := Lib.hid hxl
      have HSZ3 := Lib.hid hsz
      have H5 := Lib.hid h5
      have NE := Lib.hid (show some w.heap.size ≠ u3.ownBlock from fun e => by have := (World.ownsRow.lt ho.1 w.heap.size e.symm).1; omega)
      clear hc hb ho hsk hxl hall hsz h5
      go_wp2_with fail
      refine (HT1.out _).mono ?_
      rintro e w2 ⟨A3, n3, c3, rfl, h3, b3, f3⟩
      obtain ⟨v5, w5, hrun5, ho5, hb5, hB5, hk5⟩ := one_append HO3.out HBB.out (Nat.le_succ _) HSZ3.out b3 h3 f3 (by have := HXL.out; have := H6.out; have := HN.out; omega)
      have Q5 := Lib.hid hrun5
      have O5 := Lib.hid ho5
      have B5 := Lib.hid hb5
      have S5 := Lib.hid hB5
      have C5 := Lib.hid ((hk5 w.heap.size 5 (by have := b3.size; have := HSZ3.out; omega) NE.out).trans (cell_below H5.out b3))
      clear h3 b3 f3 hrun5 ho5 hb5 hB5 hk5 HT1 hc1
      go_wp2_with (at_builtin; (refine wpList_append_eq rfl (.tmp 18) (.tmp 21) _ rfl rfl rfl Q5.out ?_; clear Q5))
      go_roundw
      case rel => exact ⟨⟨k + 1, xs ++ [(A3, c3, tx)], by go_num, hkl, O5.out, by rw [List.length_append, HXL.out]; simp; omega, HAL.out _ rfl, B5.out, S5.out, _, C5.out⟩, C5.out⟩
      case measure => simp [intOf]; omega
    · have hfin : allOf xs = H ++ ps.flatMap num2 := by rw [hall, List.take_of_length_le (by have := HN.out; omega)]
      have HO3 := Lib.hid ho
      have HBB := Lib.hid hb
      have HXL := Lib.hid hxl
      have HSZ3 := Lib.hid hsz
      have HF := Lib.hid hfin
      have HLN : Hid (∀ l : List Int, (l.flatMap num2).length = 2 * l.length) := Lib.hid (fun l => by
        induction l with
        | nil => rfl
        | cons x l ih => rw [List.flatMap_cons, List.length_append, ih, num2_len, List.length_cons]; omega)
      clear ho hb hxl hsz hfin hall
      go_wp2_with fail
      refine (cX.out _).mono ?_
      rintro e w2 ⟨A3, n3, c3, rfl, h3, b3, f3⟩
      obtain ⟨v5, w5, hrun5, ho5, hb5, hB5, hk5⟩ := one_append HO3.out HBB.out (Nat.le_succ _) HSZ3.out b3 h3 f3 (by have := HXL.out; have := H6.out; have := HN.out; omega)
      have Q5 := Lib.hid hrun5
      have B5 := Lib.hid hb5
      obtain ⟨A, c, hv, _, _, _, hrow⟩ := OwnG.row ho5.1
      subst hv
      have hall2 : allOf (xs ++ [(A3, c3, num2 nx)]) = H ++ ps.flatMap num2 ++ num2 nx := by rw [allOf_append, HF.out]; simp [allOf]
      have cJ := joined_any A (xs ++ [(A3, c3, num2 nx)]).length c (xs ++ [(A3, c3, num2 nx)]) w5 rfl (by rw [List.length_append]; have := HXL.out; have := H6.out; simp; omega) hrow ho5.parts (by
        rw [hall2, List.length_append, List.length_append, HLN.out, num2_len]; have := hHl.out; have := H6.out; omega)
      rw [hall2] at cJ
      have HJ := Lib.hid cJ
      generalize (xs ++ [(A3, c3, num2 nx)]).length = m at *
      clear h3 b3 f3 hrun5 ho5 hb5 hB5 hk5 hrow cJ hall2
      go_wp2_with (at_builtin; (refine wpList_append_eq rfl (.tmp 24) (.tmp 28) _ rfl rfl rfl Q5.out ?_; clear Q5))
      refine HJ.out.mono ?_
      rintro e w3 ⟨A3, n3, c3, rfl, h3, b3, f3⟩
      have B3 := Lib.hid (B5.out.trans (b3.mono B5.out.size))
      have H3 := Lib.hid h3
      have F3 := Lib.hid (fun a ha => Nat.le_trans B5.out.size (f3 a ha))
      clear b3 h3 f3
      go_wp2_with fail
      go_ret
      exact ⟨_, _, _, rfl, H3.out, B3.out, F3.out⟩
end Go.Proofs.YtboaamaneeodfaaGreat.Page
