/-
  Contracts of the reader's small parts: take, wide, number, text.
-/
import Derived.Test.YtiebaeahimeedaaPEncode
import Derived.Laws.BytesArg
import Derived.Laws.BitsAllLaws
import Derived.Laws.Bits64b
import Derived.Maps.AppendAt
import Derived.Deep.AppendLies
namespace Go.Proofs.Ytiebaeahimeedaa.Page
open Go.RowKit Gen

abbrev ptr (b : Nat) : Value := .pointer (some ⟨b, 0, none⟩)
/-- A reader, and what it has yet to read. -/
def Rd (w : World) (rb : Nat) (u : Bs) : Prop := ∃ A n c, w.cell? ⟨rb, 0, none⟩ = some (.slice A n c) ∧ w.frozen? ⟨rb, 0, none⟩ = false ∧ BytesAt w A n c u ∧ ∀ a, A = some a → u ≠ [] → a.block < rb
theorem Rd.lt {w : World} {rb : Nat} {u : Bs} (h : Rd w rb u) : rb < w.heap.size := by
  obtain ⟨A, n, c, h, _⟩ := h
  exact cell_lt h
theorem BytesAt.grown {w w' : World} {A : Option Addr} {n c rb : Nat} {l : Bs} (h : BytesAt w A n c l) (g : w.grownBy w' (some rb)) (ha : l ≠ [] → ∀ a, A = some a → a.block ≠ rb) : BytesAt w' A n c l :=
  ⟨h.len, h.cap, h.max, h.nil, row_grown h.row g (fun hne a e => by simpa using ha hne a e)⟩
theorem grown_set (w : World) (rb o : Nat) (v : Value) : w.grownBy (w.setCell ⟨rb, o, none⟩ v) (some rb) :=
  ⟨rfl, rfl, rfl, by simp, fun k _ hne => Below.heap_setCell _ _ _ _ (by simpa using hne)⟩
theorem Rd.set {w : World} {rb : Nat} {u : Bs} (h : Rd w rb u) {A : Option Addr} {n c : Nat} {l : Bs} (hb : BytesAt w A n c l) (ha : ∀ a, A = some a → l ≠ [] → a.block < rb) : Rd (w.setCell ⟨rb, 0, none⟩ (.slice A n c)) rb l := by
  obtain ⟨A0, n0, c0, h0, hf, _⟩ := h
  exact ⟨A, n, c, World.cell?_setCell_same _ _ _ h0, by rw [World.frozen?_setCell]; exact hf, hb.grown (grown_set _ _ _ _) (fun hne a e => by have := ha a e hne; omega), ha⟩
theorem add_zero (a : Addr) : a.add 0 = a := by unfold Addr.add; split <;> simp_all
theorem add_none (b o j : Nat) : (⟨b, o, none⟩ : Addr).add j = ⟨b, o + j, none⟩ := by unfold Addr.add; split <;> simp_all
theorem elem_un : Try.prog.underlying 71 = some (.slice (Try.prog.elem 71)) := by kernel_rfl
theorem size_un (w : World) : (sizeOf (Try.prog.elem 71)).run Try.prog w = .ok 1 w := by kernel_rfl
theorem head_run (A : Option Addr) (n c k : Nat) (h : k ≤ c) (W : World) : (Instr.slice 71 (.slice A n c) none (some (.int .i64 k)) none).run Try.prog W = .ok (.slice A k c) W := by
  rw [run_slice_h W 71 A n c elem_un .i64 (k : Int) (by omega) (by omega), size_un]
  unfold sliced
  rcases A with _ | a
  · simp [Result.andThen]
  · simp [Result.andThen, add_zero]
theorem tail_run (A : Option Addr) (n c k : Nat) (h : k ≤ n) (W : World) : (Instr.slice 71 (.slice A n c) (some (.int .i64 k)) none none).run Try.prog W = .ok (.slice (if c = k then A else A.map (·.add k)) (n - k) (c - k)) W := by
  rw [run_slice_l W 71 A n c elem_un .i64 (k : Int) (by omega) (by omega), size_un]
  unfold sliced
  simp [Result.andThen]
theorem BytesAt.head {w : World} {A : Option Addr} {n c : Nat} {l : Bs} (h : BytesAt w A n c l) {k : Nat} (hk : k ≤ n) : BytesAt w A k c (l.take k) :=
  ⟨by rw [List.length_take, h.len]; omega, Nat.le_trans hk h.cap, h.max, h.nil, fun hne => by
    obtain ⟨b, off, e, hb, hc⟩ := h.row (by intro e; subst e; simp at hne)
    refine ⟨b, off, e, hb, fun j hj => ?_⟩
    rw [List.length_take] at hj
    rw [hc j (by omega), List.getElem_take]⟩
theorem BytesAt.tail {w : World} {A : Option Addr} {n c : Nat} {l : Bs} (h : BytesAt w A n c l) {k : Nat} : BytesAt w (if c = k then A else A.map (·.add k)) (n - k) (c - k) (l.drop k) := by
  refine ⟨by rw [List.length_drop, h.len], Nat.sub_le_sub_right h.cap k, Nat.le_trans (Nat.sub_le _ _) h.max, fun e => ?_, fun hne => ?_⟩
  · split at e
    · have := h.nil e; omega
    · rcases A with _ | a
      · have := h.nil rfl; omega
      · simp at e
  · have hkl : k < n := by
      rcases Nat.lt_or_ge k n with h1 | h1
      · exact h1
      · exact absurd (List.drop_eq_nil_of_le (by rw [h.len]; omega)) hne
    obtain ⟨b, off, rfl, hb, hc⟩ := h.row (by intro e; subst e; simp at hne)
    have := h.cap
    rw [if_neg (by omega)]
    refine ⟨b, off + k, by simp [add_none], hb, fun j hj => ?_⟩
    rw [List.length_drop] at hj
    rw [Nat.add_assoc, hc (k + j) (by omega), List.getElem_drop]
theorem tail_block {A : Option Addr} {c k rb : Nat} (h : ∀ a, A = some a → a.block < rb) : ∀ a, (if c = k then A else A.map (·.add k)) = some a → a.block < rb := fun a e => by
  split at e
  · exact h a e
  · rcases A with _ | a0
    · cases e
    · have := h a0 rfl
      simp only [Option.map_some, Option.some.injEq] at e
      subst e
      unfold Addr.add
      split <;> simpa using this
/-- The panic by which reading is given up. -/
abbrev gaveUp : Ending := .panicked [{ v := .iface 31 (.int .i64 50), recovered := false }]
/-- Some bytes are handed out. -/
def Takes (k : Nat) (u : Bs) (rb : Nat) (w : World) (e : Ending) (w' : World) : Prop :=
  ∃ A c, e = .returned (.slice A k c) ∧ BytesAt w' A k c (u.take k) ∧ Rd w' rb (u.drop k) ∧ w.grownBy w' (some rb)
set_option maxRecDepth 100000 in
theorem take_ok (rb k : Nat) (u : Bs) (w : World) (h : Rd w rb u) (hk : k ≤ u.length) : Calls Try.prog 70 #[ptr rb, .int .i64 (k : Int)] w (Takes k u rb w) := by
  have h0 := h
  obtain ⟨A, n, c, hc, hf, hb, ha⟩ := h
  have hkn : k ≤ n := by rw [← hb.len]; exact hk
  have d : ¬ n < k := by omega
  have s1 := head_run A n c k (Nat.le_trans hkn hb.cap)
  have s2 := tail_run A n c k hkn
  have ht := hb.tail (k := k)
  have hblk : ∀ a, (if c = k then A else A.map (·.add k)) = some a → u.drop k ≠ [] → a.block < rb := fun a e hne => tail_block (fun a' e' => ha a' e' (by intro e; subst e; simp at hne)) a e
  generalize (if c = k then A else A.map (·.add k)) = A2 at *
  have R := Lib.hid (h0.set ht hblk)
  have H := Lib.hid ((hb.head hkn).grown (grown_set w rb 0 (.slice A2 (n - k) (c - k))) (fun hne a e => by have := ha a e (by intro e; subst e; simp at hne); omega))
  have i1 : (k : Int) ≤ (n : Int) := by omega
  have i2 : (0 : Int) ≤ (k : Int) := by omega
  clear h0 hb ha hk hkn ht hblk
  go_enter Try.func70, Try.ntmps70
  go_wp2_with fail
  go_ret
  exact ⟨_, _, rfl, H.out, R.out, grown_set _ _ _ _⟩
set_option maxRecDepth 100000 in
theorem take_bad (rb k : Nat) (u : Bs) (w : World) (h : Rd w rb u) (hk : u.length < k) : Calls Try.prog 70 #[ptr rb, .int .i64 (k : Int)] w fun e w' => e = gaveUp ∧ w.grownBy w' (some rb) := by
  obtain ⟨A, n, c, hc, hf, hb, ha⟩ := h
  have d : n < k := by have := hb.len; omega
  clear hb ha hk hf
  go_enter Try.func70, Try.ntmps70
  go_wp2_with fail
  exact ⟨rfl, rfl, World.grownBy.refl _ _⟩

/-- The number of bytes, the highest first. -/
def ofBe (l : Bs) : Nat := l.foldl (fun n b => n * 256 + b.toNat) 0
theorem ofBe_snoc (l : Bs) (b : UInt8) : ofBe (l ++ [b]) = ofBe l * 256 + b.toNat := by simp [ofBe]
theorem ofBe_lt : ∀ (l : Bs), ofBe l < 256 ^ l.length := by
  have h : ∀ (l : Bs) (n m : Nat), n < 256 ^ m → l.foldl (fun n b => n * 256 + b.toNat) n < 256 ^ (m + l.length) := by
    intro l
    induction l with
    | nil => intro n m h; exact h
    | cons b l ih =>
      intro n m h
      have := b.toNat_lt
      rw [List.foldl_cons, List.length_cons, show m + (l.length + 1) = (m + 1) + l.length by omega]
      refine ih _ _ ?_
      rw [Nat.pow_succ]
      omega
  intro l
  simpa [ofBe] using h l 0 0 (by simp)
theorem or_byte (n : Nat) (b : UInt8) (h : n < 72057594037927936) : bits BinOp.or IntKind.u64 ((n : Int) * 256) (b.toNat : Int) = ((n * 256 + b.toNat : Nat) : Int) := by
  have hb := b.toNat_lt
  have := bits_or_u64_nat (n * 256) b.toNat (by omega) (by omega)
  rw [show (n : Int) * 256 = ((n * 256 : Nat) : Int) by omega, this, Nat.mul_comm, ← Nat.two_pow_add_eq_or_of_lt (i := 8) (by omega)]
def Wides (k : Nat) (u : Bs) (rb : Nat) (w : World) (e : Ending) (w' : World) : Prop :=
  e = .returned (.int .u64 (ofBe (u.take k) : Nat)) ∧ Rd w' rb (u.drop k) ∧ w.grownBy w' (some rb)
theorem take_wide {l : Bs} {j : Nat} (h : j < l.length) : ofBe (l.take (j + 1)) = ofBe (l.take j) * 256 + l[j].toNat := by
  rw [List.take_succ_eq_append_getElem h, ofBe_snoc]
theorem take_wide_lt {l : Bs} {j : Nat} (hj : j < 8) : ofBe (l.take j) < 72057594037927936 :=
  Nat.lt_of_lt_of_le (ofBe_lt _) (Nat.le_trans (Nat.pow_le_pow_right (by omega) (show (l.take j).length ≤ 7 by rw [List.length_take]; omega)) (by decide))
set_option maxRecDepth 100000 in
theorem wide_ok (rb k : Nat) (u : Bs) (w : World) (h : Rd w rb u) (hk : k ≤ u.length) (hk8 : k ≤ 8) : Calls Try.prog 66 #[ptr rb, .int .i64 (k : Int)] w (Wides k u rb w) := by
  have cT := take_ok rb k u w h hk
  unfold Wides
  have hl : (u.take k).length = k := by rw [List.length_take]; omega
  unfold Takes at cT
  generalize u.take k = l at *
  clear h hk
  have HL := Lib.hid hl
  clear hl
  go_enter Try.func66, Try.ntmps66
  go_wp2_with fail
  refine cT.mono ?_
  rintro e w1 ⟨A, c, rfl, hb, hr, hg⟩
  have HB := Lib.hid hb.row
  have HR := Lib.hid hr
  have HG := Lib.hid hg
  clear hb hr hg cT
  go_wp2_with fail
  go_loop [5, 12] (fun x i => ∃ j n : Nat, i = .int .i64 j ∧ x = .int .u64 (n : Int) ∧ j ≤ k ∧ Hid (n = ofBe (l.take j))) (fun _ i => k - (intOf i).toNat)
  case atStart => exact ⟨0, 0, rfl, rfl, Nat.zero_le _, Lib.hid rfl⟩
  case round =>
    obtain ⟨j, n, rfl, rfl, hj, hQ⟩ := hrel
    by_cases hlt : j < k
    · have hjl : j < l.length := by have := HL.out; omega
      obtain ⟨b, off, rfl, hbl, hc⟩ := HB.out (by intro e; subst e; simp at hjl)
      have hcj := hc j hjl
      have hn : n < 72057594037927936 := by rw [hQ.out]; exact take_wide_lt (by omega)
      have HQ : Hid (n * 256 + l[j].toNat = ofBe (l.take (j + 1))) := Lib.hid (by rw [take_wide hjl, hQ.out])
      have hor := or_byte n l[j] hn
      generalize l[j] = x at *
      have hw : IntKind.u64.wrap ((n : Int) * 256) = (n : Int) * 256 := by rw [IntKind.wrap_u64]; omega
      have hx := x.toNat_lt
      have hxw : IntKind.u64.wrap (x.toNat : Int) = (x.toNat : Int) := by rw [IntKind.wrap_u64]; omega
      clear hc hQ
      go_wp2_with fail
      go_round
      case rel => exact ⟨j + 1, n * 256 + x.toNat, by go_num, rfl, by omega, HQ⟩
      case measure => simp [intOf]; omega
    · obtain rfl : j = k := by omega
      rw [List.take_of_length_le (by have := HL.out; omega)] at hQ
      go_wp2_with fail
      go_ret
      exact ⟨congrArg (fun n : Nat => Ending.returned (.int .u64 (n : Int))) hQ.out, HR.out, HG.out⟩
set_option maxRecDepth 100000 in
theorem wide_bad (rb k : Nat) (u : Bs) (w : World) (h : Rd w rb u) (hk : u.length < k) : Calls Try.prog 66 #[ptr rb, .int .i64 (k : Int)] w fun e w' => e = gaveUp ∧ w.grownBy w' (some rb) := by
  have cT := take_bad rb k u w h hk
  clear h hk
  go_enter Try.func66, Try.ntmps66
  go_wp2_with fail
  refine cT.mono ?_
  rintro e w1 ⟨rfl, hg⟩
  exact ⟨rfl, rfl, hg⟩
end Go.Proofs.Ytiebaeahimeedaa.Page
