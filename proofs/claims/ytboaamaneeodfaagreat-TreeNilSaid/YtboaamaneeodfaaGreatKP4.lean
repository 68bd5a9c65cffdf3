/-
  Texts of one family, one behind the other: PRead1, PRead2, PSuper, POwn.
-/
import Derived.Test.YtboaamaneeodfaaGreatKP3
import Derived.Laws.BytesArg
import Derived.Laws.BitsAllLaws
import Derived.Laws.Bits64b
import Derived.Maps.AppendAt
import Derived.Deep.AppendLies
namespace Go.Proofs.YtboaamaneeodfaaGreat.Page
open Go.RowKit Gen

abbrev ptr (b : Nat) : Value := .pointer (some ⟨b, 0, none⟩)
/-- A reader, and what it has yet to read. -/
def Rd (w : World) (rb : Nat) (u : Bs) : Prop := ∃ A n c, w.cell? ⟨rb, 0, none⟩ = some (.slice A n c) ∧ w.frozen? ⟨rb, 0, none⟩ = false ∧ BytesAt w A n c u ∧ ∀ a, A = some a → u ≠ [] → a.block < rb
theorem Rd.lt {w : World} {rb : Nat} {u : Bs} (h : Rd w rb u) : rb < w.heap.size := by
  obtain ⟨A, n, c, h, _⟩ := h
  exact cell_lt h
theorem BytesAt.grown {w w' : World} {A : Option Addr} {n c rb : Nat} {l : Bs} (h : BytesAt w A n c l) (g : w.grownBy w' (some rb)) (ha : l ≠ [] → ∀ a, A = some a → a.block ≠ rb) : BytesAt w' A n c l :=
  ⟨h.len, h.cap, h.max, h.nil, row_grown h.row g (fun hne a e => by simpa using ha hne a e)⟩
theorem grown_set (w : World) (rb o : Nat) (v : Value) : w.grownBy (w.setCell ⟨rb, o, none⟩ v) (some rb) :=
  ⟨rfl, rfl, rfl, by simp, fun k _ hne => Below.heap_setCell _ _ _ _ (by simpa using hne)⟩
theorem Rd.set {w : World} {rb : Nat} {u : Bs} (h : Rd w rb u) {A : Option Addr} {n c : Nat} {l : Bs} (hb : BytesAt w A n c l) (ha : ∀ a, A = some a → l ≠ [] → a.block < rb) : Rd (w.setCell ⟨rb, 0, none⟩ (.slice A n c)) rb l := by
  obtain ⟨A0, n0, c0, h0, hf, _⟩ := h
  exact ⟨A, n, c, World.cell?_setCell_same _ _ _ h0, by rw [World.frozen?_setCell]; exact hf, hb.grown (grown_set _ _ _ _) (fun hne a e => by have := ha a e hne; omega), ha⟩
theorem add_zero (a : Addr) : a.add 0 = a := by unfold Addr.add; split <;> simp_all
theorem add_none (b o j : Nat) : (⟨b, o, none⟩ : Addr).add j = ⟨b, o + j, none⟩ := by unfold Addr.add; split <;> simp_all
theorem elem_un : Tryz.prog.underlying 204 = some (.slice (Tryz.prog.elem 204)) := by kernel_rfl
theorem size_un (w : World) : (sizeOf (Tryz.prog.elem 204)).run Tryz.prog w = .ok 1 w := by kernel_rfl
theorem head_run (A : Option Addr) (n c k : Nat) (h : k ≤ c) (W : World) : (Instr.slice 204 (.slice A n c) none (some (.int .i64 k)) none).run Tryz.prog W = .ok (.slice A k c) W := by
  rw [run_slice_h W 204 A n c elem_un .i64 (k : Int) (by omega) (by omega), size_un]
  unfold sliced
  rcases A with _ | a
  · simp [Result.andThen]
  · simp [Result.andThen, add_zero]
theorem tail_run (A : Option Addr) (n c k : Nat) (h : k ≤ n) (W : World) : (Instr.slice 204 (.slice A n c) (some (.int .i64 k)) none none).run Tryz.prog W = .ok (.slice (if c = k then A else A.map (·.add k)) (n - k) (c - k)) W := by
  rw [run_slice_l W 204 A n c elem_un .i64 (k : Int) (by omega) (by omega), size_un]
  unfold sliced
  simp [Result.andThen]
theorem BytesAt.head {w : World} {A : Option Addr} {n c : Nat} {l : Bs} (h : BytesAt w A n c l) {k : Nat} (hk : k ≤ n) : BytesAt w A k c (l.take k) :=
  ⟨by rw [List.length_take, h.len]; omega, Nat.le_trans hk h.cap, h.max, h.nil, fun hne => by
    obtain ⟨b, off, e, hb, hc⟩ := h.row (by intro e; subst e; simp at hne)
    refine ⟨b, off, e, hb, fun j hj => ?_⟩
    rw [List.length_take] at hj
    rw [hc j (by omega), List.getElem_take]⟩
theorem BytesAt.tail {w : World} {A : Option Addr} {n c : Nat} {l : Bs} (h : BytesAt w A n c l) {k : Nat} : BytesAt w (if c = k then A else A.map (·.add k)) (n - k) (c - k) (l.drop k) := by
  refine ⟨by rw [List.length_drop, h.len], Nat.sub_le_sub_right h.cap k, Nat.le_trans (Nat.sub_le _ _) h.max, fun e => ?_, fun hne => ?_⟩
  · split at e
    · have := h.nil e; omega
    · rcases A with _ | a
      · have := h.nil rfl; omega
      · simp at e
  · have hkl : k < n := by
      rcases Nat.lt_or_ge k n with h1 | h1
      · exact h1
      · exact absurd (List.drop_eq_nil_of_le (by rw [h.len]; omega)) hne
    obtain ⟨b, off, rfl, hb, hc⟩ := h.row (by intro e; subst e; simp at hne)
    have := h.cap
    rw [if_neg (by omega)]
    refine ⟨b, off + k, by simp [add_none], hb, fun j hj => ?_⟩
    rw [List.length_drop] at hj
    rw [Nat.add_assoc, hc (k + j) (by omega), List.getElem_drop]
theorem tail_block {A : Option Addr} {c k rb : Nat} (h : ∀ a, A = some a → a.block < rb) : ∀ a, (if c = k then A else A.map (·.add k)) = some a → a.block < rb := fun a e => by
  split at e
  · exact h a e
  · rcases A with _ | a0
    · cases e
    · have := h a0 rfl
      simp only [Option.map_some, Option.some.injEq] at e
      subst e
      unfold Addr.add
      split <;> simpa using this
/-- The panic by which reading is given up. -/
abbrev gaveUp : Ending := .panicked [{ v := .iface 39 (.int .i64 50), recovered := false }]
/-- Some bytes are handed out. -/
def Takes (k : Nat) (u : Bs) (rb : Nat) (w : World) (e : Ending) (w' : World) : Prop :=
  ∃ A c, e = .returned (.slice A k c) ∧ BytesAt w' A k c (u.take k) ∧ Rd w' rb (u.drop k) ∧ w.grownBy w' (some rb)
set_option maxRecDepth 100000 in
theorem take_ok (rb k : Nat) (u : Bs) (w : World) (h : Rd w rb u) (hk : k ≤ u.length) : Calls Tryz.prog 181 #[ptr rb, .int .i64 (k : Int)] w (Takes k u rb w) := by
  have h0 := h
  obtain ⟨A, n, c, hc, hf, hb, ha⟩ := h
  have hkn : k ≤ n := by rw [← hb.len]; exact hk
  have d : ¬ n < k := by omega
  have s1 := head_run A n c k (Nat.le_trans hkn hb.cap)
  have s2 := tail_run A n c k hkn
  have ht := hb.tail (k := k)
  have hblk : ∀ a, (if c = k then A else A.map (·.add k)) = some a → u.drop k ≠ [] → a.block < rb := fun a e hne => tail_block (fun a' e' => ha a' e' (by intro e; subst e; simp at hne)) a e
  generalize (if c = k then A else A.map (·.add k)) = A2 at *
  have R := Lib.hid (h0.set ht hblk)
  have H := Lib.hid ((hb.head hkn).grown (grown_set w rb 0 (.slice A2 (n - k) (c - k))) (fun hne a e => by have := ha a e (by intro e; subst e; simp at hne); omega))
  have i1 : (k : Int) ≤ (n : Int) := by omega
  have i2 : (0 : Int) ≤ (k : Int) := by omega
  clear h0 hb ha hk hkn ht hblk
  go_enter Tryz.func181, Tryz.ntmps181
  go_wp2_with fail
  go_ret
  exact ⟨_, _, rfl, H.out, R.out, grown_set _ _ _ _⟩
set_option maxRecDepth 100000 in
theorem take_bad (rb k : Nat) (u : Bs) (w : World) (h : Rd w rb u) (hk : u.length < k) : Calls Tryz.prog 181 #[ptr rb, .int .i64 (k : Int)] w fun e w' => e = gaveUp ∧ w.grownBy w' (some rb) := by
  obtain ⟨A, n, c, hc, hf, hb, ha⟩ := h
  have d : n < k := by have := hb.len; omega
  clear hb ha hk hf
  go_enter Tryz.func181, Tryz.ntmps181
  go_wp2_with fail
  exact ⟨rfl, rfl, World.grownBy.refl _ _⟩

/-- The number of bytes, the highest first. -/
def ofBe (l : Bs) : Nat := l.foldl (fun n b => n * 256 + b.toNat) 0
theorem ofBe_snoc (l : Bs) (b : UInt8) : ofBe (l ++ [b]) = ofBe l * 256 + b.toNat := by simp [ofBe]
theorem ofBe_lt : ∀ (l : Bs), ofBe l < 256 ^ l.length := by
  have h : ∀ (l : Bs) (n m : Nat), n < 256 ^ m → l.foldl (fun n b => n * 256 + b.toNat) n < 256 ^ (m + l.length) := by
    intro l
    induction l with
    | nil => intro n m h; exact h
    | cons b l ih =>
      intro n m h
      have := b.toNat_lt
      rw [List.foldl_cons, List.length_cons, show m + (l.length + 1) = (m + 1) + l.length by omega]
      refine ih _ _ ?_
      rw [Nat.pow_succ]
      omega
  intro l
  simpa [ofBe] using h l 0 0 (by simp)
theorem or_byte (n : Nat) (b : UInt8) (h : n < 72057594037927936) : bits BinOp.or IntKind.u64 ((n : Int) * 256) (b.toNat : Int) = ((n * 256 + b.toNat : Nat) : Int) := by
  have hb := b.toNat_lt
  have := bits_or_u64_nat (n * 256) b.toNat (by omega) (by omega)
  rw [show (n : Int) * 256 = ((n * 256 : Nat) : Int) by omega, this, Nat.mul_comm, ← Nat.two_pow_add_eq_or_of_lt (i := 8) (by omega)]
def Wides (k : Nat) (u : Bs) (rb : Nat) (w : World) (e : Ending) (w' : World) : Prop :=
  e = .returned (.int .u64 (ofBe (u.take k) : Nat)) ∧ Rd w' rb (u.drop k) ∧ w.grownBy w' (some rb)
theorem take_wide {l : Bs} {j : Nat} (h : j < l.length) : ofBe (l.take (j + 1)) = ofBe (l.take j) * 256 + l[j].toNat := by
  rw [List.take_succ_eq_append_getElem h, ofBe_snoc]
theorem take_wide_lt {l : Bs} {j : Nat} (hj : j < 8) : ofBe (l.take j) < 72057594037927936 :=
  Nat.lt_of_lt_of_le (ofBe_lt _) (Nat.le_trans (Nat.pow_le_pow_right (by omega) (show (l.take j).length ≤ 7 by rw [List.length_take]; omega)) (by decide))
set_option maxRecDepth 100000 in
theorem wide_ok (rb k : Nat) (u : Bs) (w : World) (h : Rd w rb u) (hk : k ≤ u.length) (hk8 : k ≤ 8) : Calls Tryz.prog 162 #[ptr rb, .int .i64 (k : Int)] w (Wides k u rb w) := by
  have cT := take_ok rb k u w h hk
  unfold Wides
  have hl : (u.take k).length = k := by rw [List.length_take]; omega
  unfold Takes at cT
  generalize u.take k = l at *
  clear h hk
  have HL := Lib.hid hl
  clear hl
  go_enter Tryz.func162, Tryz.ntmps162
  go_wp2_with fail
  refine cT.mono ?_
  rintro e w1 ⟨A, c, rfl, hb, hr, hg⟩
  have HB := Lib.hid hb.row
  have HR := Lib.hid hr
  have HG := Lib.hid hg
  clear hb hr hg cT
  go_wp2_with fail
  go_loop [5, 12] (fun x i => ∃ j n : Nat, i = .int .i64 j ∧ x = .int .u64 (n : Int) ∧ j ≤ k ∧ Hid (n = ofBe (l.take j))) (fun _ i => k - (intOf i).toNat)
  case atStart => exact ⟨0, 0, rfl, rfl, Nat.zero_le _, Lib.hid rfl⟩
  case round =>
    obtain ⟨j, n, rfl, rfl, hj, hQ⟩ := hrel
    by_cases hlt : j < k
    · have hjl : j < l.length := by have := HL.out; omega
      obtain ⟨b, off, rfl, hbl, hc⟩ := HB.out (by intro e; subst e; simp at hjl)
      have hcj := hc j hjl
      have hn : n < 72057594037927936 := by rw [hQ.out]; exact take_wide_lt (by omega)
      have HQ : Hid (n * 256 + l[j].toNat = ofBe (l.take (j + 1))) := Lib.hid (by rw [take_wide hjl, hQ.out])
      have hor := or_byte n l[j] hn
      generalize l[j] = x at *
      have hw : IntKind.u64.wrap ((n : Int) * 256) = (n : Int) * 256 := by rw [IntKind.wrap_u64]; omega
      have hx := x.toNat_lt
      have hxw : IntKind.u64.wrap (x.toNat : Int) = (x.toNat : Int) := by rw [IntKind.wrap_u64]; omega
      clear hc hQ
      go_wp2_with fail
      go_round
      case rel => exact ⟨j + 1, n * 256 + x.toNat, by go_num, rfl, by omega, HQ⟩
      case measure => simp [intOf]; omega
    · obtain rfl : j = k := by omega
      rw [List.take_of_length_le (by have := HL.out; omega)] at hQ
      go_wp2_with fail
      go_ret
      exact ⟨congrArg (fun n : Nat => Ending.returned (.int .u64 (n : Int))) hQ.out, HR.out, HG.out⟩
set_option maxRecDepth 100000 in
theorem wide_bad (rb k : Nat) (u : Bs) (w : World) (h : Rd w rb u) (hk : u.length < k) : Calls Tryz.prog 162 #[ptr rb, .int .i64 (k : Int)] w fun e w' => e = gaveUp ∧ w.grownBy w' (some rb) := by
  have cT := take_bad rb k u w h hk
  clear h hk
  go_enter Tryz.func162, Tryz.ntmps162
  go_wp2_with fail
  refine cT.mono ?_
  rintro e w1 ⟨rfl, hg⟩
  exact ⟨rfl, rfl, hg⟩
end Go.Proofs.YtboaamaneeodfaaGreat.Page
namespace Go.Proofs.YtboaamaneeodfaaGreat.Page
open Go.RowKit Gen

def rWide (k : Nat) (u : Bs) : Option (Nat × Bs) := if k ≤ u.length then some (ofBe (u.take k), u.drop k) else none
def rNum (u : Bs) : Option (Int × Bs) := (rWide 2 u).map fun x => ((x.1 : Int), x.2)
def rText (u : Bs) : Option (Bs × Bs) := (rWide 1 u).bind fun x => if x.1 ≤ x.2.length then some (x.2.take x.1, x.2.drop x.1) else none
/-- What is read, or that reading is given up. -/
def Reads {α : Type} (r : Option (α × Bs)) (enc : α → Value) (rb : Nat) (w : World) (e : Ending) (w' : World) : Prop :=
  w.grownBy w' (some rb) ∧ match r with
  | none => e = gaveUp
  | some (x, u) => e = .returned (enc x) ∧ Rd w' rb u
theorem wide_any (rb k : Nat) (u : Bs) (w : World) (h : Rd w rb u) (hk8 : k ≤ 8) : Calls Tryz.prog 162 #[ptr rb, .int .i64 (k : Int)] w (Reads (rWide k u) (fun n : Nat => .int .u64 (n : Int)) rb w) := by
  unfold Reads rWide
  by_cases hk : k ≤ u.length
  · rw [if_pos hk]
    refine (wide_ok rb k u w h hk hk8).mono ?_
    rintro e w' ⟨h1, h2, h3⟩
    exact ⟨h3, h1, h2⟩
  · rw [if_neg hk]
    refine (wide_bad rb k u w h (by omega)).mono ?_
    rintro e w' ⟨h1, h3⟩
    exact ⟨h3, h1⟩
theorem wide_lt {k : Nat} {u v : Bs} {n : Nat} (h : rWide k u = some (n, v)) (hk : k ≤ 8) : n < 256 ^ k ∧ n < 18446744073709551616 := by
  unfold rWide at h
  split at h
  · simp only [Option.some.injEq, Prod.mk.injEq] at h
    rename_i hl
    have := ofBe_lt (u.take k)
    rw [List.length_take, show min k u.length = k by omega, h.1] at this
    exact ⟨this, Nat.lt_of_lt_of_le this (Nat.le_trans (Nat.pow_le_pow_right (by omega) hk) (by decide))⟩
  · cases h
set_option maxRecDepth 100000 in
theorem number_any (rb : Nat) (u : Bs) (w : World) (h : Rd w rb u) : Calls Tryz.prog 199 #[ptr rb] w (Reads (rNum u) numV rb w) := by
  have cW := wide_any rb 2 u w h (by omega)
  clear h
  rcases hr : rWide 2 u with _ | ⟨n, v⟩
  · have e0 : rNum u = none := by simp [rNum, hr]
    rw [hr] at cW
    rw [e0]
    clear hr e0
    go_enter Tryz.func199, Tryz.ntmps199
    go_wp2_with fail
    refine cW.mono ?_
    rintro e w1 ⟨hg, rfl⟩
    exact ⟨rfl, hg, rfl⟩
  · rw [hr] at cW
    have hlt := (wide_lt hr (by omega)).1
    have e0 : rNum u = some ((n : Int), v) := by simp [rNum, hr]
    rw [e0]
    clear e0
    have hw : IntKind.i64.wrap (n : Int) = (n : Int) := by rw [IntKind.wrap_i64]; omega
    clear hr
    go_enter Tryz.func199, Tryz.ntmps199
    go_wp2_with fail
    refine cW.mono ?_
    rintro e w1 ⟨hg, rfl, hv⟩
    have HG := Lib.hid hg
    have HV := Lib.hid hv
    clear hg hv cW
    go_wp2_with fail
    go_ret
    exact ⟨HG.out, rfl, HV.out⟩
theorem conv_run {w : World} {A : Option Addr} {l : Bs} {n : Nat} (c : Nat) (hl : l.length = n) (hR : BRow w A l) : (convert 129 9 (.slice A n c)).run Tryz.prog w = .ok (.string (strB l)) w := by
  rcases A with _ | a
  · have e : l = [] := by
      by_cases h : l = []
      · exact h
      · obtain ⟨_, _, h, _⟩ := hR h; cases h
    subst e
    rw [run_convert_bytes_nil w 129 5 Tryz.underlying129 Tryz.underlying5 _ _ 9 Tryz.underlying9]
    rfl
  · have hload : (loadCells a n).run Tryz.prog w = .ok ((l.map fun c => (c.toNat : Int)).map (Value.int .u8)).toArray w := by
      by_cases h : l = []
      · subst h
        obtain rfl : n = 0 := hl.symm
        simp [loadCells, loadCellsFrom]
      · obtain ⟨b, off, e, _, hc⟩ := hR h
        cases e
        have := run_loadCells_list (P := Tryz.prog) w ⟨b, off, none⟩ ((l.map fun c => (c.toNat : Int)).map (Value.int .u8)) (fun j v hj => by
          have hplain : (⟨b, off, none⟩ : Addr).add j = ⟨b, off + j, none⟩ := by unfold Addr.add; split <;> simp_all
          rw [List.map_map, List.getElem?_map, Option.map_eq_some_iff] at hj
          obtain ⟨x, hx, rfl⟩ := hj
          obtain ⟨hjl, hx⟩ := List.getElem?_eq_some_iff.1 hx
          rw [hplain, hc j hjl, hx]; rfl)
        simpa [hl] using this
    rw [run_convert_bytes_string w 129 9 5 _ n c Tryz.underlying129 Tryz.underlying5 Tryz.underlying9, run_bytesToString w _ n c _ hload, foldl_push_bytes]
    have e2 : (l.map fun c => (c.toNat : Int)).map (fun n => UInt8.ofNat n.toNat) = l := by
      rw [List.map_map]
      conv => rhs; rw [← List.map_id l]
      exact List.map_congr_left (fun c _ => by simp)
    rw [e2]
    simp [strB, ByteArray.empty, ByteArray.emptyWithCapacity]
    rfl
set_option maxRecDepth 100000 in
theorem text_any (rb : Nat) (u : Bs) (w : World) (h : Rd w rb u) : Calls Tryz.prog 200 #[ptr rb] w (Reads (rText u) strV rb w) := by
  have cW := wide_any rb 1 u w h (by omega)
  clear h
  rcases hr : rWide 1 u with _ | ⟨n, v⟩
  · have e0 : rText u = none := by simp [rText, hr]
    rw [hr] at cW
    rw [e0]
    clear hr e0
    go_enter Tryz.func200, Tryz.ntmps200
    go_wp2_with fail
    refine cW.mono ?_
    rintro e w1 ⟨hg, rfl⟩
    exact ⟨rfl, hg, rfl⟩
  · rw [hr] at cW
    have hlt := (wide_lt hr (by omega)).1
    have hw : IntKind.i64.wrap (n : Int) = (n : Int) := by rw [IntKind.wrap_i64]; omega
    by_cases hn : n ≤ v.length
    · have e0 : rText u = some (v.take n, v.drop n) := by simp [rText, hr, hn]
      rw [e0]
      clear e0 hr
      go_enter Tryz.func200, Tryz.ntmps200
      go_wp2_with fail
      refine cW.mono ?_
      rintro e w1 ⟨hg, rfl, hv⟩
      have HG := Lib.hid hg
      have cT := take_ok rb n v w1 hv hn
      clear hg hv cW hn
      go_wp2_with fail
      refine cT.mono ?_
      rintro e w2 ⟨A, c, rfl, hb, hr, hg⟩
      have HG2 := Lib.hid (HG.out.trans hg)
      have HR := Lib.hid hr
      have hcv := conv_run c hb.len hb.row
      clear hb hr hg cT
      go_wp2_with fail
      go_ret
      exact ⟨HG2.out, rfl, HR.out⟩
    · have e0 : rText u = none := by simp [rText, hr]; omega
      rw [e0]
      clear e0 hr
      go_enter Tryz.func200, Tryz.ntmps200
      go_wp2_with fail
      refine cW.mono ?_
      rintro e w1 ⟨hg, rfl, hv⟩
      have HG := Lib.hid hg
      have cT := take_bad rb n v w1 hv (by omega)
      clear hg hv cW hn
      go_wp2_with fail
      refine cT.mono ?_
      rintro e w2 ⟨rfl, hg⟩
      exact ⟨rfl, HG.out.trans hg, rfl⟩
end Go.Proofs.YtboaamaneeodfaaGreat.Page
namespace Go.Proofs.YtboaamaneeodfaaGreat.Page
open Go.RowKit Gen

/-- Its lists lie in blocks from n on. -/
structure New (p : Pg) (a : Lay) (n : Nat) : Prop where
  n1 : ∀ x, a.A1 = some x → n ≤ x.block
  n2 : ∀ x, a.A2 = some x → n ≤ x.block
  n3 : ∀ x, a.A3 = some x → n ≤ x.block
  n4 : ∀ x, a.A4 = some x → n ≤ x.block
  n5 : a.A4 = none → a.c4 = 0
  k1 : p.pairs.length ≤ a.c1
  k2 : p.keys.length ≤ a.c2
  k3 : p.kids.length ≤ a.c3
  k4 : p.pages.length ≤ a.c4
  z1 : a.A1 = none → a.c1 = 0
  z2 : a.A2 = none → a.c2 = 0
  z3 : a.A3 = none → a.c3 = 0
/-- A page that is read, or that reading is given up. -/
def PReads (r : Option (Pg × Bs)) (rb : Nat) (w : World) (e : Ending) (w' : World) : Prop :=
  w.grownBy w' (some rb) ∧ match r with
  | none => e = gaveUp
  | some (p, u) => ∃ a, e = .returned (pgV p a) ∧ PgRows w' p a ∧ PgOk p ∧ Rd w' rb u ∧ New p a w.heap.size
theorem At.grown {w w' : World} {b rb : Nat} {C : Array Value} (h : At w b C) (g : w.grownBy w' (some rb)) (hne : b ≠ rb) : At w' b C :=
  ⟨Nat.lt_of_lt_of_le h.1 g.size, fun j => (World.frozen?_of_block (a := ⟨b, j, none⟩) (g.block b h.1 (by simpa using hne))).trans (h.2.1 j), fun j v hv => (World.cell?_of_block (a := ⟨b, j, none⟩) (g.block b h.1 (by simpa using hne))).trans (h.2.2 j v hv)⟩
theorem Rd.below {w w' : World} {rb : Nat} {u : Bs} (h : Rd w rb u) (hb : Below w.heap.size w w') : Rd w' rb u := by
  have hlt := h.lt
  obtain ⟨A, n, c, h1, h2, h3, h4⟩ := h
  exact ⟨A, n, c, (hb.cell (p := ⟨rb, 0, none⟩) hlt).trans h1, (hb.frozen (p := ⟨rb, 0, none⟩) hlt).trans h2, h3.below hb, h4⟩
theorem Rd.set_other {w : World} {rb b o : Nat} {u : Bs} {v : Value} (h : Rd w rb u) (hb : rb < b) : Rd (w.setCell ⟨b, o, none⟩ v) rb u := by
  obtain ⟨A, n, c, h1, h2, h3, h4⟩ := h
  exact ⟨A, n, c, by rw [World.cell?_setCell_other _ _ _ _ (by intro h; injection h; omega)]; exact h1, by rw [World.frozen?_setCell]; exact h2, h3.grown (grown_set _ _ _ _) (fun hne a e => by have := h4 a e hne; omega), h4⟩
theorem grown_new {w w' : World} {rb b o : Nat} {v : Value} (h : w.grownBy w' (some rb)) (hb : w.heap.size ≤ b) : w.grownBy (w'.setCell ⟨b, o, none⟩ v) (some rb) :=
  ⟨h.os, h.tape, h.output, by simpa using h.size, fun k hk hne => (Below.heap_setCell _ _ _ _ (by show k ≠ b; omega)).trans (h.block k hk hne)⟩
theorem grown_alloc {w w' : World} {rb : Nat} (h : w.grownBy w' (some rb)) (o : Obj) : w.grownBy (w'.alloc o) (some rb) := h.trans (World.grownBy_alloc _ _ _)
theorem preads_none {r : Option (Pg × Bs)} {rb : Nat} {w w' : World} (hr : r = none) (g : w.grownBy w' (some rb)) : PReads r rb w gaveUp w' := by
  subst hr; exact ⟨g, rfl⟩
theorem preads_some {r : Option (Pg × Bs)} {rb : Nat} {w w' : World} {p : Pg} {u : Bs} (a : Lay) (hr : r = some (p, u)) (g : w.grownBy w' (some rb)) (h1 : PgRows w' p a) (h2 : PgOk p) (h3 : Rd w' rb u) (h4 : New p a w.heap.size) : PReads r rb w (.returned (pgV p a)) w' := by
  subst hr; exact ⟨g, a, rfl, h1, h2, h3, h4⟩
def rSuper (u : Bs) : Option (Pg × Bs) :=
  (rNum u).bind fun a => (rNum a.2).bind fun b => (rWide 4 b.2).bind fun c => (rNum c.2).bind fun d => (rNum d.2).map fun e =>
    ({ kind := 4, root := a.1, depth := b.1, count := (c.1 : Int), high := d.1, next := e.1 }, e.2)
theorem num_range {u v : Bs} {x : Int} (h : rNum u = some (x, v)) : 0 ≤ x ∧ x < 65536 := by
  unfold rNum at h
  rcases hr : rWide 2 u with _ | ⟨n, u2⟩
  · rw [hr] at h; cases h
  · rw [hr] at h
    have := (wide_lt hr (by omega)).1
    simp at h
    omega
abbrev pC (k : Int) : Array Value := pgC { kind := k } {}
/-- Once more, one by one: what a store into each of eleven cells leaves. -/
theorem made_two (w : World) (k : Int) : At ((w.alloc (.cells (pC 0) 82)).alloc (.cells (pC k) 82)) (w.heap.size + 1) (pC k) ∧ At ((w.alloc (.cells (pC 0) 82)).alloc (.cells (pC k) 82)) w.heap.size (pC 0) := by
  constructor
  · exact At.of_block (by
      have := heap_alloc_last (w.alloc (.cells (pC 0) 82)) (.cells (pC k) 82)
      rw [show (w.alloc (.cells (pC 0) 82)).heap.size = w.heap.size + 1 by simp] at this
      exact this)
  · exact (At.of_block (heap_alloc_last w _)).below ((Below.refl _ _).alloc (Nat.le_refl _) _) (by simp)

/-- Eleven cells, laid one by one. -/
def set11 (w : World) (b : Nat) (v0 v1 v2 v3 v4 v5 v6 v7 v8 v9 v10 : Value) : World := (((((((((((w.setCell ⟨b, 0, none⟩ v0).setCell ⟨b, 1, none⟩ v1).setCell ⟨b, 2, none⟩ v2).setCell ⟨b, 3, none⟩ v3).setCell ⟨b, 4, none⟩ v4).setCell ⟨b, 5, none⟩ v5).setCell ⟨b, 6, none⟩ v6).setCell ⟨b, 7, none⟩ v7).setCell ⟨b, 8, none⟩ v8).setCell ⟨b, 9, none⟩ v9).setCell ⟨b, 10, none⟩ v10)
set_option maxHeartbeats 2000000 in
theorem set11_at {w : World} {b : Nat} (h : At w b (pC 0)) (v0 v1 v2 v3 v4 v5 v6 v7 v8 v9 v10 : Value) : At (set11 w b v0 v1 v2 v3 v4 v5 v6 v7 v8 v9 v10) b #[v0, v1, v2, v3, v4, v5, v6, v7, v8, v9, v10] := by
  have h : At w b #[.int .i64 0, .slice none 0 0, .slice none 0 0, .slice none 0 0, .slice none 0 0, .int .i64 0, .int .u64 0, .int .i64 0, .int .i64 0, .int .i64 0, .int .i64 0] := h
  have h0 : At (w.setCell ⟨b, 0, none⟩ v0) b #[v0, .slice none 0 0, .slice none 0 0, .slice none 0 0, .slice none 0 0, .int .i64 0, .int .u64 0, .int .i64 0, .int .i64 0, .int .i64 0, .int .i64 0] := by
    have e := h.set 0 v0 (by simp)
    rw [show (#[.int .i64 0, .slice none 0 0, .slice none 0 0, .slice none 0 0, .slice none 0 0, .int .i64 0, .int .u64 0, .int .i64 0, .int .i64 0, .int .i64 0, .int .i64 0] : Array Value).setIfInBounds 0 v0 = #[v0, .slice none 0 0, .slice none 0 0, .slice none 0 0, .slice none 0 0, .int .i64 0, .int .u64 0, .int .i64 0, .int .i64 0, .int .i64 0, .int .i64 0] from rfl] at e
    exact e
  have h1 : At ((w.setCell ⟨b, 0, none⟩ v0).setCell ⟨b, 1, none⟩ v1) b #[v0, v1, .slice none 0 0, .slice none 0 0, .slice none 0 0, .int .i64 0, .int .u64 0, .int .i64 0, .int .i64 0, .int .i64 0, .int .i64 0] := by
    have e := h0.set 1 v1 (by simp)
    rw [show (#[v0, .slice none 0 0, .slice none 0 0, .slice none 0 0, .slice none 0 0, .int .i64 0, .int .u64 0, .int .i64 0, .int .i64 0, .int .i64 0, .int .i64 0] : Array Value).setIfInBounds 1 v1 = #[v0, v1, .slice none 0 0, .slice none 0 0, .slice none 0 0, .int .i64 0, .int .u64 0, .int .i64 0, .int .i64 0, .int .i64 0, .int .i64 0] from rfl] at e
    exact e
  have h2 : At (((w.setCell ⟨b, 0, none⟩ v0).setCell ⟨b, 1, none⟩ v1).setCell ⟨b, 2, none⟩ v2) b #[v0, v1, v2, .slice none 0 0, .slice none 0 0, .int .i64 0, .int .u64 0, .int .i64 0, .int .i64 0, .int .i64 0, .int .i64 0] := by
    have e := h1.set 2 v2 (by simp)
    rw [show (#[v0, v1, .slice none 0 0, .slice none 0 0, .slice none 0 0, .int .i64 0, .int .u64 0, .int .i64 0, .int .i64 0, .int .i64 0, .int .i64 0] : Array Value).setIfInBounds 2 v2 = #[v0, v1, v2, .slice none 0 0, .slice none 0 0, .int .i64 0, .int .u64 0, .int .i64 0, .int .i64 0, .int .i64 0, .int .i64 0] from rfl] at e
    exact e
  have h3 : At ((((w.setCell ⟨b, 0, none⟩ v0).setCell ⟨b, 1, none⟩ v1).setCell ⟨b, 2, none⟩ v2).setCell ⟨b, 3, none⟩ v3) b #[v0, v1, v2, v3, .slice none 0 0, .int .i64 0, .int .u64 0, .int .i64 0, .int .i64 0, .int .i64 0, .int .i64 0] := by
    have e := h2.set 3 v3 (by simp)
    rw [show (#[v0, v1, v2, .slice none 0 0, .slice none 0 0, .int .i64 0, .int .u64 0, .int .i64 0, .int .i64 0, .int .i64 0, .int .i64 0] : Array Value).setIfInBounds 3 v3 = #[v0, v1, v2, v3, .slice none 0 0, .int .i64 0, .int .u64 0, .int .i64 0, .int .i64 0, .int .i64 0, .int .i64 0] from rfl] at e
    exact e
  have h4 : At (((((w.setCell ⟨b, 0, none⟩ v0).setCell ⟨b, 1, none⟩ v1).setCell ⟨b, 2, none⟩ v2).setCell ⟨b, 3, none⟩ v3).setCell ⟨b, 4, none⟩ v4) b #[v0, v1, v2, v3, v4, .int .i64 0, .int .u64 0, .int .i64 0, .int .i64 0, .int .i64 0, .int .i64 0] := by
    have e := h3.set 4 v4 (by simp)
    rw [show (#[v0, v1, v2, v3, .slice none 0 0, .int .i64 0, .int .u64 0, .int .i64 0, .int .i64 0, .int .i64 0, .int .i64 0] : Array Value).setIfInBounds 4 v4 = #[v0, v1, v2, v3, v4, .int .i64 0, .int .u64 0, .int .i64 0, .int .i64 0, .int .i64 0, .int .i64 0] from rfl] at e
    exact e
  have h5 : At ((((((w.setCell ⟨b, 0, none⟩ v0).setCell ⟨b, 1, none⟩ v1).setCell ⟨b, 2, none⟩ v2).setCell ⟨b, 3, none⟩ v3).setCell ⟨b, 4, none⟩ v4).setCell ⟨b, 5, none⟩ v5) b #[v0, v1, v2, v3, v4, v5, .int .u64 0, .int .i64 0, .int .i64 0, .int .i64 0, .int .i64 0] := by
    have e := h4.set 5 v5 (by simp)
    rw [show (#[v0, v1, v2, v3, v4, .int .i64 0, .int .u64 0, .int .i64 0, .int .i64 0, .int .i64 0, .int .i64 0] : Array Value).setIfInBounds 5 v5 = #[v0, v1, v2, v3, v4, v5, .int .u64 0, .int .i64 0, .int .i64 0, .int .i64 0, .int .i64 0] from rfl] at e
    exact e
  have h6 : At (((((((w.setCell ⟨b, 0, none⟩ v0).setCell ⟨b, 1, none⟩ v1).setCell ⟨b, 2, none⟩ v2).setCell ⟨b, 3, none⟩ v3).setCell ⟨b, 4, none⟩ v4).setCell ⟨b, 5, none⟩ v5).setCell ⟨b, 6, none⟩ v6) b #[v0, v1, v2, v3, v4, v5, v6, .int .i64 0, .int .i64 0, .int .i64 0, .int .i64 0] := by
    have e := h5.set 6 v6 (by simp)
    rw [show (#[v0, v1, v2, v3, v4, v5, .int .u64 0, .int .i64 0, .int .i64 0, .int .i64 0, .int .i64 0] : Array Value).setIfInBounds 6 v6 = #[v0, v1, v2, v3, v4, v5, v6, .int .i64 0, .int .i64 0, .int .i64 0, .int .i64 0] from rfl] at e
    exact e
  have h7 : At ((((((((w.setCell ⟨b, 0, none⟩ v0).setCell ⟨b, 1, none⟩ v1).setCell ⟨b, 2, none⟩ v2).setCell ⟨b, 3, none⟩ v3).setCell ⟨b, 4, none⟩ v4).setCell ⟨b, 5, none⟩ v5).setCell ⟨b, 6, none⟩ v6).setCell ⟨b, 7, none⟩ v7) b #[v0, v1, v2, v3, v4, v5, v6, v7, .int .i64 0, .int .i64 0, .int .i64 0] := by
    have e := h6.set 7 v7 (by simp)
    rw [show (#[v0, v1, v2, v3, v4, v5, v6, .int .i64 0, .int .i64 0, .int .i64 0, .int .i64 0] : Array Value).setIfInBounds 7 v7 = #[v0, v1, v2, v3, v4, v5, v6, v7, .int .i64 0, .int .i64 0, .int .i64 0] from rfl] at e
    exact e
  have h8 : At (((((((((w.setCell ⟨b, 0, none⟩ v0).setCell ⟨b, 1, none⟩ v1).setCell ⟨b, 2, none⟩ v2).setCell ⟨b, 3, none⟩ v3).setCell ⟨b, 4, none⟩ v4).setCell ⟨b, 5, none⟩ v5).setCell ⟨b, 6, none⟩ v6).setCell ⟨b, 7, none⟩ v7).setCell ⟨b, 8, none⟩ v8) b #[v0, v1, v2, v3, v4, v5, v6, v7, v8, .int .i64 0, .int .i64 0] := by
    have e := h7.set 8 v8 (by simp)
    rw [show (#[v0, v1, v2, v3, v4, v5, v6, v7, .int .i64 0, .int .i64 0, .int .i64 0] : Array Value).setIfInBounds 8 v8 = #[v0, v1, v2, v3, v4, v5, v6, v7, v8, .int .i64 0, .int .i64 0] from rfl] at e
    exact e
  have h9 : At ((((((((((w.setCell ⟨b, 0, none⟩ v0).setCell ⟨b, 1, none⟩ v1).setCell ⟨b, 2, none⟩ v2).setCell ⟨b, 3, none⟩ v3).setCell ⟨b, 4, none⟩ v4).setCell ⟨b, 5, none⟩ v5).setCell ⟨b, 6, none⟩ v6).setCell ⟨b, 7, none⟩ v7).setCell ⟨b, 8, none⟩ v8).setCell ⟨b, 9, none⟩ v9) b #[v0, v1, v2, v3, v4, v5, v6, v7, v8, v9, .int .i64 0] := by
    have e := h8.set 9 v9 (by simp)
    rw [show (#[v0, v1, v2, v3, v4, v5, v6, v7, v8, .int .i64 0, .int .i64 0] : Array Value).setIfInBounds 9 v9 = #[v0, v1, v2, v3, v4, v5, v6, v7, v8, v9, .int .i64 0] from rfl] at e
    exact e
  have h10 : At (((((((((((w.setCell ⟨b, 0, none⟩ v0).setCell ⟨b, 1, none⟩ v1).setCell ⟨b, 2, none⟩ v2).setCell ⟨b, 3, none⟩ v3).setCell ⟨b, 4, none⟩ v4).setCell ⟨b, 5, none⟩ v5).setCell ⟨b, 6, none⟩ v6).setCell ⟨b, 7, none⟩ v7).setCell ⟨b, 8, none⟩ v8).setCell ⟨b, 9, none⟩ v9).setCell ⟨b, 10, none⟩ v10) b #[v0, v1, v2, v3, v4, v5, v6, v7, v8, v9, v10] := by
    have e := h9.set 10 v10 (by simp)
    rw [show (#[v0, v1, v2, v3, v4, v5, v6, v7, v8, v9, .int .i64 0] : Array Value).setIfInBounds 10 v10 = #[v0, v1, v2, v3, v4, v5, v6, v7, v8, v9, v10] from rfl] at e
    exact e
  exact h10
theorem set11_grown {w0 w : World} {b rb : Nat} (h : w0.grownBy w (some rb)) (hb : w0.heap.size ≤ b) (v0 v1 v2 v3 v4 v5 v6 v7 v8 v9 v10 : Value) : w0.grownBy (set11 w b v0 v1 v2 v3 v4 v5 v6 v7 v8 v9 v10) (some rb) := (grown_new (grown_new (grown_new (grown_new (grown_new (grown_new (grown_new (grown_new (grown_new (grown_new (grown_new h hb) hb) hb) hb) hb) hb) hb) hb) hb) hb) hb)
theorem set11_only (w : World) (b : Nat) (v0 v1 v2 v3 v4 v5 v6 v7 v8 v9 v10 : Value) : w.grownBy (set11 w b v0 v1 v2 v3 v4 v5 v6 v7 v8 v9 v10) (some b) := (World.grownBy.refl w (some b)) |>.trans (grown_set _ b 0 v0) |>.trans (grown_set _ b 1 v1) |>.trans (grown_set _ b 2 v2) |>.trans (grown_set _ b 3 v3) |>.trans (grown_set _ b 4 v4) |>.trans (grown_set _ b 5 v5) |>.trans (grown_set _ b 6 v6) |>.trans (grown_set _ b 7 v7) |>.trans (grown_set _ b 8 v8) |>.trans (grown_set _ b 9 v9) |>.trans (grown_set _ b 10 v10)
theorem set11_rd {w : World} {b rb : Nat} {u : Bs} (h : Rd w rb u) (hb : rb < b) (v0 v1 v2 v3 v4 v5 v6 v7 v8 v9 v10 : Value) : Rd (set11 w b v0 v1 v2 v3 v4 v5 v6 v7 v8 v9 v10) rb u := h |>.set_other (o := 0) (v := v0) hb |>.set_other (o := 1) (v := v1) hb |>.set_other (o := 2) (v := v2) hb |>.set_other (o := 3) (v := v3) hb |>.set_other (o := 4) (v := v4) hb |>.set_other (o := 5) (v := v5) hb |>.set_other (o := 6) (v := v6) hb |>.set_other (o := 7) (v := v7) hb |>.set_other (o := 8) (v := v8) hb |>.set_other (o := 9) (v := v9) hb |>.set_other (o := 10) (v := v10) hb
theorem rows_none (w : World) (p : Pg) (a : Lay) (h1 : p.pairs = []) (h2 : p.keys = []) (h3 : p.kids = []) (h4 : p.pages = []) : PgRows w p a :=
  ⟨fun h => absurd h1 h, fun h => absurd h2 h, fun h => absurd h3 h, fun h => absurd h4 h⟩
theorem wide4_any (rb : Nat) (u : Bs) (w : World) (h : Rd w rb u) : Calls Tryz.prog 162 #[ptr rb, .int .i64 4] w (Reads (rWide 4 u) (fun n : Nat => .int .u64 (n : Int)) rb w) := wide_any rb 4 u w h (by omega)
set_option maxRecDepth 100000 in
set_option maxHeartbeats 4000000 in
theorem super_read (rb : Nat) (u0 : Bs) (w : World) (h : Rd w rb u0) : Calls Tryz.prog 185 #[ptr rb] w (PReads (rSuper u0) rb w) := by
  have hlt := h.lt
  obtain ⟨hat, har⟩ := made_two w 4
  have b0 : Below w.heap.size w ((w.alloc (.cells (pC 0) 82)).alloc (.cells (pC 4) 82)) := ((Below.refl _ _).alloc (Nat.le_refl _) _).alloc (by simp) _
  have R0 := Lib.hid (h.below b0)
  have G0 := Lib.hid (grown_alloc (rb := rb) (grown_alloc (World.grownBy.refl w (some rb)) (.cells (pC 0) 82)) (.cells (pC 4) 82))
  have AP0 := Lib.hid hat
  have AR0 := Lib.hid har
  have NE := Lib.hid (show w.heap.size + 1 ≠ rb ∧ w.heap.size ≠ rb by omega)
  have LT := Lib.hid hlt
  have cF := number_any rb u0 _ (h.below b0)
  clear hat har b0 h hlt
  unfold pC pgC at *
  rcases hr0 : rNum u0 with _ | ⟨x0, u1⟩
  · rw [hr0] at cF
    have Z0 := Lib.hid hr0
    clear hr0
    go_enter Tryz.func185, Tryz.ntmps185
    go_wp2_with fail
    refine cF.mono ?_
    rintro e w1 ⟨hg, rfl⟩
    exact ⟨rfl, preads_none (by simp [rSuper, Z0.out]) (G0.out.trans hg)⟩
  rw [hr0] at cF
  have N0 := Lib.hid (num_range hr0)
  have E0 := Lib.hid hr0
  clear hr0
  go_enter Tryz.func185, Tryz.ntmps185
  go_wp2_with fail
  refine cF.mono ?_
  rintro e w1 ⟨hg, rfl, hr⟩
  have AP1a := AP0.out.grown hg NE.out.1
  have s1 := AP1a.2.2 7 _ rfl
  have f1 := AP1a.2.1 7
  have AP1 := Lib.hid (AP1a.set 7 (.int .i64 x0) (by simp))
  have AR1 := Lib.hid ((AR0.out.grown hg NE.out.2).set_other (b' := w.heap.size + 1) (i := 7) (v := .int .i64 x0) (by omega))
  have R1 := Lib.hid (hr.set_other (b := w.heap.size + 1) (o := 7) (v := .int .i64 x0) (by have := LT.out; omega))
  have G1 := Lib.hid (grown_new (b := w.heap.size + 1) (o := 7) (v := .int .i64 x0) (G0.out.trans hg) (by omega))
  clear hg hr AP1a cF
  have cF := number_any rb u1 _ R1.out
  rcases hr1 : rNum u1 with _ | ⟨x1, u2⟩
  · rw [hr1] at cF
    have Z1 := Lib.hid hr1
    clear hr1
    go_wp2_with fail
    refine cF.mono ?_
    rintro e w2 ⟨hg, rfl⟩
    exact ⟨rfl, preads_none (by simp [rSuper, E0.out, Z1.out]) (G1.out.trans hg)⟩
  rw [hr1] at cF
  have N1 := Lib.hid (num_range hr1)
  have E1 := Lib.hid hr1
  clear hr1
  go_wp2_with fail
  refine cF.mono ?_
  rintro e w2 ⟨hg, rfl, hr⟩
  have AP2a := AP1.out.grown hg NE.out.1
  have s2 := AP2a.2.2 8 _ rfl
  have f2 := AP2a.2.1 8
  have AP2 := Lib.hid (AP2a.set 8 (.int .i64 x1) (by simp))
  have AR2 := Lib.hid ((AR1.out.grown hg NE.out.2).set_other (b' := w.heap.size + 1) (i := 8) (v := .int .i64 x1) (by omega))
  have R2 := Lib.hid (hr.set_other (b := w.heap.size + 1) (o := 8) (v := .int .i64 x1) (by have := LT.out; omega))
  have G2 := Lib.hid (grown_new (b := w.heap.size + 1) (o := 8) (v := .int .i64 x1) (G1.out.trans hg) (by omega))
  clear hg hr AP2a cF
  have cF := wide4_any rb u2 _ R2.out
  rcases hr2 : rWide 4 u2 with _ | ⟨x2, u3⟩
  · rw [hr2] at cF
    have Z2 := Lib.hid hr2
    clear hr2
    go_wp2_with fail
    refine cF.mono ?_
    rintro e w3 ⟨hg, rfl⟩
    exact ⟨rfl, preads_none (by simp [rSuper, E0.out, E1.out, Z2.out]) (G2.out.trans hg)⟩
  rw [hr2] at cF
  have N2 := Lib.hid ((wide_lt hr2 (by omega)).1)
  have E2 := Lib.hid hr2
  clear hr2
  go_wp2_with fail
  refine cF.mono ?_
  rintro e w3 ⟨hg, rfl, hr⟩
  have AP3a := AP2.out.grown hg NE.out.1
  have s3 := AP3a.2.2 9 _ rfl
  have f3 := AP3a.2.1 9
  have AP3 := Lib.hid (AP3a.set 9 (.int .i64 (x2 : Int)) (by simp))
  have AR3 := Lib.hid ((AR2.out.grown hg NE.out.2).set_other (b' := w.heap.size + 1) (i := 9) (v := .int .i64 (x2 : Int)) (by omega))
  have R3 := Lib.hid (hr.set_other (b := w.heap.size + 1) (o := 9) (v := .int .i64 (x2 : Int)) (by have := LT.out; omega))
  have G3 := Lib.hid (grown_new (b := w.heap.size + 1) (o := 9) (v := .int .i64 (x2 : Int)) (G2.out.trans hg) (by omega))
  clear hg hr AP3a cF
  have n2 := N2.out
  have hw2 : IntKind.i64.wrap (x2 : Int) = (x2 : Int) := by rw [IntKind.wrap_i64]; omega
  clear n2
  have cF := number_any rb u3 _ R3.out
  rcases hr3 : rNum u3 with _ | ⟨x3, u4⟩
  · rw [hr3] at cF
    have Z3 := Lib.hid hr3
    clear hr3
    go_wp2_with fail
    refine cF.mono ?_
    rintro e w4 ⟨hg, rfl⟩
    exact ⟨rfl, preads_none (by simp [rSuper, E0.out, E1.out, E2.out, Z3.out]) (G3.out.trans hg)⟩
  rw [hr3] at cF
  have N3 := Lib.hid (num_range hr3)
  have E3 := Lib.hid hr3
  clear hr3
  go_wp2_with fail
  refine cF.mono ?_
  rintro e w4 ⟨hg, rfl, hr⟩
  have AP4a := AP3.out.grown hg NE.out.1
  have s4 := AP4a.2.2 10 _ rfl
  have f4 := AP4a.2.1 10
  have AP4 := Lib.hid (AP4a.set 10 (.int .i64 x3) (by simp))
  have AR4 := Lib.hid ((AR3.out.grown hg NE.out.2).set_other (b' := w.heap.size + 1) (i := 10) (v := .int .i64 x3) (by omega))
  have R4 := Lib.hid (hr.set_other (b := w.heap.size + 1) (o := 10) (v := .int .i64 x3) (by have := LT.out; omega))
  have G4 := Lib.hid (grown_new (b := w.heap.size + 1) (o := 10) (v := .int .i64 x3) (G3.out.trans hg) (by omega))
  clear hg hr AP4a cF
  have cF := number_any rb u4 _ R4.out
  rcases hr4 : rNum u4 with _ | ⟨x4, u5⟩
  · rw [hr4] at cF
    have Z4 := Lib.hid hr4
    clear hr4
    go_wp2_with fail
    refine cF.mono ?_
    rintro e w5 ⟨hg, rfl⟩
    exact ⟨rfl, preads_none (by simp [rSuper, E0.out, E1.out, E2.out, E3.out, Z4.out]) (G4.out.trans hg)⟩
  rw [hr4] at cF
  have N4 := Lib.hid (num_range hr4)
  have E4 := Lib.hid hr4
  clear hr4
  go_wp2_with fail
  refine cF.mono ?_
  rintro e w5 ⟨hg, rfl, hr⟩
  have AP5a := AP4.out.grown hg NE.out.1
  have s5 := AP5a.2.2 5 _ rfl
  have f5 := AP5a.2.1 5
  have AP5 := Lib.hid (AP5a.set 5 (.int .i64 x4) (by simp))
  have AR5 := Lib.hid ((AR4.out.grown hg NE.out.2).set_other (b' := w.heap.size + 1) (i := 5) (v := .int .i64 x4) (by omega))
  have R5 := Lib.hid (hr.set_other (b := w.heap.size + 1) (o := 5) (v := .int .i64 x4) (by have := LT.out; omega))
  have G5 := Lib.hid (grown_new (b := w.heap.size + 1) (o := 5) (v := .int .i64 x4) (G4.out.trans hg) (by omega))
  clear hg hr AP5a cF
  have c0 : (w5.setCell ⟨w.heap.size + 1, 5, none⟩ (.int .i64 x4)).cell? ⟨w.heap.size + 1, 0, none⟩ = some (.int .i64 4) := AP5.out.2.2 0 _ rfl
  have c1 : (w5.setCell ⟨w.heap.size + 1, 5, none⟩ (.int .i64 x4)).cell? ⟨w.heap.size + 1, 1, none⟩ = some (.slice none 0 0) := AP5.out.2.2 1 _ rfl
  have c2 : (w5.setCell ⟨w.heap.size + 1, 5, none⟩ (.int .i64 x4)).cell? ⟨w.heap.size + 1, 2, none⟩ = some (.slice none 0 0) := AP5.out.2.2 2 _ rfl
  have c3 : (w5.setCell ⟨w.heap.size + 1, 5, none⟩ (.int .i64 x4)).cell? ⟨w.heap.size + 1, 3, none⟩ = some (.slice none 0 0) := AP5.out.2.2 3 _ rfl
  have c4 : (w5.setCell ⟨w.heap.size + 1, 5, none⟩ (.int .i64 x4)).cell? ⟨w.heap.size + 1, 4, none⟩ = some (.slice none 0 0) := AP5.out.2.2 4 _ rfl
  have c5 : (w5.setCell ⟨w.heap.size + 1, 5, none⟩ (.int .i64 x4)).cell? ⟨w.heap.size + 1, 5, none⟩ = some (.int .i64 x4) := AP5.out.2.2 5 _ rfl
  have c6 : (w5.setCell ⟨w.heap.size + 1, 5, none⟩ (.int .i64 x4)).cell? ⟨w.heap.size + 1, 6, none⟩ = some (.int .u64 0) := AP5.out.2.2 6 _ rfl
  have c7 : (w5.setCell ⟨w.heap.size + 1, 5, none⟩ (.int .i64 x4)).cell? ⟨w.heap.size + 1, 7, none⟩ = some (.int .i64 x0) := AP5.out.2.2 7 _ rfl
  have c8 : (w5.setCell ⟨w.heap.size + 1, 5, none⟩ (.int .i64 x4)).cell? ⟨w.heap.size + 1, 8, none⟩ = some (.int .i64 x1) := AP5.out.2.2 8 _ rfl
  have c9 : (w5.setCell ⟨w.heap.size + 1, 5, none⟩ (.int .i64 x4)).cell? ⟨w.heap.size + 1, 9, none⟩ = some (.int .i64 (x2 : Int)) := AP5.out.2.2 9 _ rfl
  have c10 : (w5.setCell ⟨w.heap.size + 1, 5, none⟩ (.int .i64 x4)).cell? ⟨w.heap.size + 1, 10, none⟩ = some (.int .i64 x3) := AP5.out.2.2 10 _ rfl
  have r0 : (w5.setCell ⟨w.heap.size + 1, 5, none⟩ (.int .i64 x4)).cell? ⟨w.heap.size, 0, none⟩ = some (.int .i64 0) := AR5.out.2.2 0 _ rfl
  have r1 : (w5.setCell ⟨w.heap.size + 1, 5, none⟩ (.int .i64 x4)).cell? ⟨w.heap.size, 1, none⟩ = some (.slice none 0 0) := AR5.out.2.2 1 _ rfl
  have r2 : (w5.setCell ⟨w.heap.size + 1, 5, none⟩ (.int .i64 x4)).cell? ⟨w.heap.size, 2, none⟩ = some (.slice none 0 0) := AR5.out.2.2 2 _ rfl
  have r3 : (w5.setCell ⟨w.heap.size + 1, 5, none⟩ (.int .i64 x4)).cell? ⟨w.heap.size, 3, none⟩ = some (.slice none 0 0) := AR5.out.2.2 3 _ rfl
  have r4 : (w5.setCell ⟨w.heap.size + 1, 5, none⟩ (.int .i64 x4)).cell? ⟨w.heap.size, 4, none⟩ = some (.slice none 0 0) := AR5.out.2.2 4 _ rfl
  have r5 : (w5.setCell ⟨w.heap.size + 1, 5, none⟩ (.int .i64 x4)).cell? ⟨w.heap.size, 5, none⟩ = some (.int .i64 0) := AR5.out.2.2 5 _ rfl
  have r6 : (w5.setCell ⟨w.heap.size + 1, 5, none⟩ (.int .i64 x4)).cell? ⟨w.heap.size, 6, none⟩ = some (.int .u64 0) := AR5.out.2.2 6 _ rfl
  have r7 : (w5.setCell ⟨w.heap.size + 1, 5, none⟩ (.int .i64 x4)).cell? ⟨w.heap.size, 7, none⟩ = some (.int .i64 0) := AR5.out.2.2 7 _ rfl
  have r8 : (w5.setCell ⟨w.heap.size + 1, 5, none⟩ (.int .i64 x4)).cell? ⟨w.heap.size, 8, none⟩ = some (.int .i64 0) := AR5.out.2.2 8 _ rfl
  have r9 : (w5.setCell ⟨w.heap.size + 1, 5, none⟩ (.int .i64 x4)).cell? ⟨w.heap.size, 9, none⟩ = some (.int .i64 0) := AR5.out.2.2 9 _ rfl
  have r10 : (w5.setCell ⟨w.heap.size + 1, 5, none⟩ (.int .i64 x4)).cell? ⟨w.heap.size, 10, none⟩ = some (.int .i64 0) := AR5.out.2.2 10 _ rfl
  have fz : ∀ j, (w5.setCell ⟨w.heap.size + 1, 5, none⟩ (.int .i64 x4)).frozen? ⟨w.heap.size, j, none⟩ = false := AR5.out.2.1
  have ARZ := Lib.hid AR5.out
  clear AP0 AP1 AP2 AP3 AP4 AP5 AR0 AR1 AR2 AR3 AR4 AR5 R0 R1 R2 R3 R4 G0 G1 G2 G3 G4 s1 s2 s3 s4 f1 f2 f3 f4
  go_wp2_with fail
  have AW := set11_at ARZ.out (.int .i64 4) (.slice none 0 0) (.slice none 0 0) (.slice none 0 0) (.slice none 0 0) (.int .i64 x4) (.int .u64 0) (.int .i64 x0) (.int .i64 x1) (.int .i64 (x2 : Int)) (.int .i64 x3)
  have GW := set11_grown G5.out (b := w.heap.size) (Nat.le_refl _) (.int .i64 4) (.slice none 0 0) (.slice none 0 0) (.slice none 0 0) (.slice none 0 0) (.int .i64 x4) (.int .u64 0) (.int .i64 x0) (.int .i64 x1) (.int .i64 (x2 : Int)) (.int .i64 x3)
  have RW := set11_rd R5.out LT.out (.int .i64 4) (.slice none 0 0) (.slice none 0 0) (.slice none 0 0) (.slice none 0 0) (.int .i64 x4) (.int .u64 0) (.int .i64 x0) (.int .i64 x1) (.int .i64 (x2 : Int)) (.int .i64 x3)
  change bodyPost _ _ _ _ _ (set11 (w5.setCell ⟨w.heap.size + 1, 5, none⟩ (.int .i64 x4)) w.heap.size (.int .i64 4) (.slice none 0 0) (.slice none 0 0) (.slice none 0 0) (.slice none 0 0) (.int .i64 x4) (.int .u64 0) (.int .i64 x0) (.int .i64 x1) (.int .i64 (x2 : Int)) (.int .i64 x3))
  generalize set11 (w5.setCell ⟨w.heap.size + 1, 5, none⟩ (.int .i64 x4)) w.heap.size (.int .i64 4) (.slice none 0 0) (.slice none 0 0) (.slice none 0 0) (.slice none 0 0) (.int .i64 x4) (.int .u64 0) (.int .i64 x0) (.int .i64 x1) (.int .i64 (x2 : Int)) (.int .i64 x3) = W at *
  clear c0 r0 c1 r1 c2 r2 c3 r3 c4 r4 c5 r5 c6 r6 c7 r7 c8 r8 c9 r9 c10 r10 fz
  have c0 := AW.2.2 0 _ rfl
  have c1 := AW.2.2 1 _ rfl
  have c2 := AW.2.2 2 _ rfl
  have c3 := AW.2.2 3 _ rfl
  have c4 := AW.2.2 4 _ rfl
  have c5 := AW.2.2 5 _ rfl
  have c6 := AW.2.2 6 _ rfl
  have c7 := AW.2.2 7 _ rfl
  have c8 := AW.2.2 8 _ rfl
  have c9 := AW.2.2 9 _ rfl
  have c10 := AW.2.2 10 _ rfl
  refine bodyPost_ret (v := .agg #[.int .i64 4, .slice none 0 0, .slice none 0 0, .slice none 0 0, .slice none 0 0, .int .i64 x4, .int .u64 0, .int .i64 x0, .int .i64 x1, .int .i64 (x2 : Int), .int .i64 x3]) (by simp [results, Tryz.results185, go_sem, *]) rfl ?_
  have n0 := N0.out
  have n1 := N1.out
  have n2 := N2.out
  have n3 := N3.out
  have n4 := N4.out
  refine preads_some (p := { kind := 4, root := x0, depth := x1, count := (x2 : Int), high := x3, next := x4 }) (u := u5) {} (by simp [rSuper, E0.out, E1.out, E2.out, E3.out, E4.out]) GW (rows_none _ _ _ rfl rfl rfl rfl) (by refine ⟨?_, ?_, ?_, ?_, ?_, ?_, ?_, ?_, ?_, ?_, ?_⟩ <;> simp [I64] <;> omega) RW ⟨(fun _ h => by cases h), (fun _ h => by cases h), (fun _ h => by cases h), (fun _ h => by cases h), (fun _ => rfl), (by simp), (by simp), (by simp), (by simp), (fun _ => rfl), (fun _ => rfl), (fun _ => rfl)⟩
end Go.Proofs.YtboaamaneeodfaaGreat.Page
namespace Go.Proofs.YtboaamaneeodfaaGreat.Page
open Go.RowKit Gen

abbrev flat (l : List (Bs × Bs)) : List Value := l.flatMap fun x => [strV x.1, strV x.2]
/-- Pairs in a row of the call's own. -/
def OwnP (w : World) (B : Nat) (v : Value) (l : List (Bs × Bs)) : Prop := w.ownsRow B 36 2 v l.length (flat l)
theorem flat_get : ∀ (l : List (Bs × Bs)) (j : Nat) (h : j < l.length), (flat l)[j * 2]? = some (strV l[j].1) ∧ (flat l)[j * 2 + 1]? = some (strV l[j].2)
  | [], _, h => by simp at h
  | _ :: _, 0, _ => ⟨rfl, rfl⟩
  | _ :: l, j + 1, h => by
    have := flat_get l j (by simpa using h)
    rw [show (j + 1) * 2 = j * 2 + 2 by omega]
    exact this
theorem flat_len2 : ∀ (l : List (Bs × Bs)), (flat l).length = l.length * 2
  | [] => rfl
  | x :: l => by
    have := flat_len2 l
    simp only [flat, List.flatMap_cons, List.length_append, List.length_cons, List.length_nil] at this ⊢
    omega
theorem OwnP.row {w : World} {B : Nat} {v : Value} {l : List (Bs × Bs)} (h : OwnP w B v l) : ∃ A c, v = .slice A l.length c ∧ PRow w A l ∧ ∀ a, A = some a → B ≤ a.block := by
  have h0 := h
  obtain ⟨hl, ⟨rfl, hn⟩ | ⟨g, cap, cur, rfl, hg, hh, hnc, hcm, _, ht⟩⟩ := h
  · exact ⟨none, 0, by rw [hn], (fun hne => absurd (List.eq_nil_of_length_eq_zero hn) hne), fun a h => by cases h⟩
  · refine ⟨some ⟨g, 0, none⟩, cap, rfl, fun _ => ⟨g, 0, rfl, ?_, fun j hj => ?_⟩, fun a h => by cases h; exact hg⟩
    · exact (Array.getElem?_eq_some_iff.1 hh).1
    · have hget : ∀ i u, (flat l)[i]? = some u → w.cell? ⟨g, i, none⟩ = some u := fun i u hu => by
        rw [cell_of_row w g i cur _ _ hh, ← Array.getElem?_toList]
        have : i < (flat l).length := (List.getElem?_eq_some_iff.1 hu).1
        rw [flat_len2] at this
        rw [← hu, ← ht, List.getElem?_take_of_lt this]
      obtain ⟨h1, h2⟩ := flat_get l j hj
      exact ⟨by rw [Nat.zero_add]; exact hget _ _ h1, by rw [Nat.zero_add]; exact hget _ _ h2⟩
theorem OwnP.nil (w : World) (B : Nat) : OwnP w B (.slice none 0 0) [] := ⟨rfl, .inl ⟨rfl, rfl⟩⟩
theorem OwnP.grown {w w' : World} {B rb : Nat} {v : Value} {l : List (Bs × Bs)} (h : OwnP w B v l) (g : w.grownBy w' (some rb)) (hb : rb < B) : OwnP w' B v l := by
  obtain ⟨hl, h | ⟨k, cap, cur, hv, hg, hh, h4, h5, h6, h7⟩⟩ := h
  · exact ⟨hl, .inl h⟩
  · exact ⟨hl, .inr ⟨k, cap, cur, hv, hg, by rw [g.block k (Array.getElem?_eq_some_iff.1 hh).1 (by simp; omega)]; exact hh, h4, h5, h6, h7⟩⟩
theorem own_grown {w w' : World} {e : TypeId} {α : Type} {enc : α → Value} {B rb : Nat} {v : Value} {l : List α} (h : OwnG w e enc B v l) (g : w.grownBy w' (some rb)) (hb : rb < B) : OwnG w' e enc B v l := by
  obtain ⟨hl, h | ⟨k, cap, cur, hv, hg, hh, h4, h5, h6, h7⟩⟩ := h
  · exact ⟨hl, .inl h⟩
  · exact ⟨hl, .inr ⟨k, cap, cur, hv, hg, by rw [g.block k (Array.getElem?_eq_some_iff.1 hh).1 (by simp; omega)]; exact hh, h4, h5, h6, h7⟩⟩
theorem pair_info : (Tryz.prog.info? 36).map (fun i => (i.zero, i.size, i.bytes)) = some (some (.agg #[.string ⟨#[]⟩, .string ⟨#[]⟩]), 2, 32) := by kernel_rfl
theorem info_parts' {t : TypeId} {z : Value} {n b : Nat} (h : (Tryz.prog.info? t).map (fun i => (i.zero, i.size, i.bytes)) = some (some z, n, b)) : ∃ i, Tryz.prog.info? t = some i ∧ i.zero = some z ∧ i.size = n ∧ i.bytes = b := by
  obtain ⟨i, hi, hzz⟩ := Option.map_eq_some_iff.1 h
  simp only [Prod.mk.injEq] at hzz
  exact ⟨i, hi, hzz.1, hzz.2.1, hzz.2.2⟩
/-- One pair more. -/
theorem append_pair (W : World) (B : Nat) (v : Value) (l : List (Bs × Bs)) (h : OwnP W B v l) (x y : Bs) (X Y : ByteArray) (hX : strB x = X) (hY : strB y = Y) (hn : l.length ≤ 1000000) (hB : B ≤ W.heap.size) :
    ∃ v' W', (Builtin.append_ #[27, 27] 27 #[v, .slice (some ⟨W.heap.size, 0, none⟩) 1 1]).run Tryz.prog (W.alloc (.cells #[.string X, .string Y] 36)) = .ok v' W' ∧ OwnP W' B v' (l ++ [(x, y)]) ∧ W.grownBy W' v.ownBlock ∧ (∀ k, v.ownBlock = some k → B ≤ k) := by
  obtain ⟨i0, hi, hz0, hz1, hz2⟩ := info_parts' pair_info
  subst hX hY
  have h0 := h
  have hnew := heap_alloc_last W (.cells #[strV x, strV y] 36)
  have hg0 : W.grownBy (W.alloc (.cells #[strV x, strV y] 36)) v.ownBlock := World.grownBy_alloc W _ _
  obtain ⟨v', W', h1, h2, h3, _, _⟩ := run_append_own_at (P := Tryz.prog) (W.alloc (.cells #[strV x, strV y] 36)) B 27 27 36 i0 _ 2 32 Tryz.underlying27 hi hz0 hz1 hz2 rfl (by decide) v _ _ (World.ownsRow.alloc h _) ⟨W.heap.size, 0, none⟩ 1 1
    [strV x, strV y] rfl (fun j u hu => by
      have e : (⟨W.heap.size, 0, none⟩ : Addr).add j = ⟨W.heap.size, j, none⟩ := by unfold Addr.add; split <;> simp_all
      rw [e, cell_of_row _ _ j _ _ _ hnew]
      simpa using hu) (fun u hu => by
        simp only [List.mem_cons, List.not_mem_nil, or_false] at hu
        rcases hu with rfl | rfl <;> rfl) (by simp only [maxLen]; omega) (by omega) (by simp; omega)
  refine ⟨v', W', h1, ?_, hg0.trans h3, fun k hk => (World.ownsRow.lt h0 k hk).1⟩
  unfold OwnP
  rw [List.length_append]
  simpa [flat] using h2
set_option maxRecDepth 100000 in
theorem ints_elem : Elem Tryz.prog 68 3 numV :=
  ⟨Tryz.underlying68, ⟨_, _, 8, rfl, rfl, rfl, rfl, rfl, by omega⟩, fun _ => rfl⟩
/-- Old blocks and the reader's: what a call may have changed since w. -/
theorem grown_own {w W W' : World} {rb : Nat} {row : Option Nat} (h : w.grownBy W (some rb)) (k : W.grownBy W' row) (hr : ∀ j, row = some j → w.heap.size ≤ j) : w.grownBy W' (some rb) := ⟨k.os.trans h.os, k.tape.trans h.tape, k.output.trans h.output, Nat.le_trans h.size k.size, fun j hj hne => (k.block j (Nat.lt_of_lt_of_le hj h.size) (fun e => by have := hr j e.symm; omega)).trans (h.block j hj hne)⟩
theorem At.grownRow {w w' : World} {b : Nat} {C : Array Value} {row : Option Nat} (h : At w b C) (g : w.grownBy w' row) (hne : some b ≠ row) : At w' b C :=
  ⟨Nat.lt_of_lt_of_le h.1 g.size, fun j => (World.frozen?_of_block (a := ⟨b, j, none⟩) (g.block b h.1 hne)).trans (h.2.1 j), fun j v hv => (World.cell?_of_block (a := ⟨b, j, none⟩) (g.block b h.1 hne)).trans (h.2.2 j v hv)⟩
theorem Rd.grownRow {w w' : World} {rb : Nat} {u : Bs} {row : Option Nat} (h : Rd w rb u) (g : w.grownBy w' row) (hr : ∀ k, row = some k → rb < k) : Rd w' rb u := by
  have hlt := h.lt
  have hne : ∀ k, k ≤ rb → some k ≠ row := fun k hk e => by have := hr k e.symm; omega
  obtain ⟨A, n, c, h1, h2, h3, h4⟩ := h
  exact ⟨A, n, c, (World.cell?_of_block (a := ⟨rb, 0, none⟩) (g.block rb hlt (hne _ (Nat.le_refl _)))).trans h1, (World.frozen?_of_block (a := ⟨rb, 0, none⟩) (g.block rb hlt (hne _ (Nat.le_refl _)))).trans h2,
    ⟨h3.len, h3.cap, h3.max, h3.nil, row_grown h3.row g (fun hn a e => hne _ (Nat.le_of_lt (h4 a e hn)))⟩, h4⟩
end Go.Proofs.YtboaamaneeodfaaGreat.Page
