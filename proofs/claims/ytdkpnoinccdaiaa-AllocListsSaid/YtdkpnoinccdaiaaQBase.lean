/-
  A pool as plain data and as a value; how its lists lie in memory; the small functions of package alloc, and the library's Index and IndexFunc.
-/
import Derived.WalkKit
import Derived.Test.YtdkpnoinccdaiaaOwn
import Derived.Test.YtdkpnoinccdaiaaQPure
import Derived.Lib.Walk
import Derived.BigQuiet
import Derived.Shelf.Abstract
import Derived.Test.YtdkpnoinccdaiaaProg
namespace Go.Proofs.Ytdkpnoinccdaiaa.Pool
open Go.RowKit Gen

abbrev numV (n : Int) : Value := .int .i64 n
abbrev IRow (w : World) (A : Option Addr) (l : List Int) : Prop := RowG w numV A l
/-- Numbers that lie in a slice's cells. -/
structure NAt (w : World) (A : Option Addr) (n c : Nat) (l : List Int) : Prop where
  len : l.length = n
  cap : n ≤ c
  max : c ≤ maxLen
  nil : A = none → c = 0
  row : IRow w A l
theorem NAt.below {w w' : World} {A : Option Addr} {n c : Nat} {l : List Int} (h : NAt w A n c l) (hb : Below w.heap.size w w') : NAt w' A n c l := ⟨h.len, h.cap, h.max, h.nil, RowG.below h.row hb⟩
theorem NAt.none (w : World) : NAt w none 0 0 [] := ⟨rfl, Nat.le_refl _, Nat.zero_le _, fun _ => rfl, fun h => absurd rfl h⟩
theorem ints_elem : Elem Try.prog 23 3 numV :=
  ⟨Try.underlying23, ⟨_, _, 8, rfl, rfl, rfl, rfl, rfl, by omega⟩, fun _ => rfl⟩
abbrev OwnI (w : World) (B : Nat) (v : Value) (l : List Int) : Prop := OwnG w 3 numV B v l
theorem own_nums {w : World} {B : Nat} {v : Value} {l : List Int} (h : OwnI w B v l) : ∃ A n c, v = .slice A n c ∧ NAt w A n c l ∧ ∀ a, A = some a → B ≤ a.block := by
  have h0 := h
  obtain ⟨A, c, e, h1, h2, h3, h4⟩ := OwnG.row h
  refine ⟨A, l.length, c, e, ⟨rfl, h2, h3, h1, h4⟩, fun a ha => ?_⟩
  subst ha
  rw [e] at h0
  exact (World.ownsRow.lt h0 a.block rfl).1
/-- A part of such a list. -/
theorem NAt.head {w : World} {A : Option Addr} {n c : Nat} {l : List Int} (h : NAt w A n c l) {k : Nat} (hk : k ≤ n) : NAt w A k c (l.take k) :=
  ⟨by rw [List.length_take, h.len]; omega, Nat.le_trans hk h.cap, h.max, h.nil, fun hne => by
    obtain ⟨b, o, e, hlt, hc⟩ := h.row (fun e => hne (by rw [e]; simp))
    exact ⟨b, o, e, hlt, fun j hj => by
      rw [List.getElem_take]
      exact hc j (by rw [List.length_take] at hj; omega)⟩⟩
theorem NAt.tail {w : World} {A : Option Addr} {n c : Nat} {l : List Int} (h : NAt w A n c l) {k : Nat} (hk : k ≤ n) : NAt w (if c = k then A else A.map (·.add k)) (n - k) (c - k) (l.drop k) := by
  have hcap := h.cap
  have hmax := h.max
  have hlen := h.len
  refine ⟨by rw [List.length_drop, h.len], by omega, by omega, fun e => ?_, fun hne => ?_⟩
  · split at e
    · have := h.nil e; omega
    · have := h.nil (by simpa using e); omega
  · have hl : k < l.length := by
      rcases Nat.lt_or_ge k l.length with g | g
      · exact g
      · exact absurd (List.drop_eq_nil_of_le g) hne
    obtain ⟨b, o, rfl, hlt, hc⟩ := h.row (fun e => by rw [e] at hl; simp at hl)
    rw [if_neg (by omega)]
    refine ⟨b, o + k, by simp [Addr.add], hlt, fun j hj => ?_⟩
    rw [List.length_drop] at hj
    rw [List.getElem_drop, Nat.add_assoc]
    exact hc (k + j) (by omega)
/-- A block's cells. -/
def At (w : World) (b : Nat) (C : Array Value) : Prop := b < w.heap.size ∧ (∀ j, w.frozen? ⟨b, j, none⟩ = false) ∧ ∀ j v, C[j]? = some v → w.cell? ⟨b, j, none⟩ = some v
theorem At.of_block {w : World} {b : Nat} {C : Array Value} {t : TypeId} (h : w.heap[b]? = some (.cells C t (0, 0))) : At w b C :=
  ⟨(Array.getElem?_eq_some_iff.1 h).1, fun j => frozen_of_row w b j C t h, fun j v hv => by rw [cell_of_row w b j C _ _ h]; exact hv⟩
theorem At.below {w w' : World} {b : Nat} {C : Array Value} {n : Nat} (h : At w b C) (hb : Below n w w') (hn : b < n) : At w' b C :=
  ⟨Nat.lt_of_lt_of_le h.1 hb.size, fun j => (hb.frozen (p := ⟨b, j, none⟩) hn).trans (h.2.1 j), fun j v hv => (hb.cell (p := ⟨b, j, none⟩) hn).trans (h.2.2 j v hv)⟩
theorem At.set {w : World} {b : Nat} {C : Array Value} (h : At w b C) (i : Nat) (v : Value) (hi : i < C.size) : At (w.setCell ⟨b, i, none⟩ v) b (C.setIfInBounds i v) := by
  have hc := h.2.2 i _ (Array.getElem?_eq_getElem hi)
  refine ⟨by simpa using h.1, fun j => ?_, fun j u hu => ?_⟩
  · rw [World.frozen?_setCell]; exact h.2.1 j
  · rw [Array.getElem?_setIfInBounds] at hu
    by_cases e : i = j
    · subst e
      rw [if_pos rfl, if_pos hi] at hu
      cases hu
      exact World.cell?_setCell_same _ _ _ hc
    · rw [if_neg e] at hu
      rw [World.cell?_setCell_other _ _ _ _ (by intro h; injection h; contradiction)]
      exact h.2.2 j u hu
theorem At.set_other {w : World} {b b' i : Nat} {C : Array Value} {v : Value} (h : At w b C) (hne : b' ≠ b) : At (w.setCell ⟨b', i, none⟩ v) b C :=
  ⟨by simpa using h.1, fun j => by rw [World.frozen?_setCell]; exact h.2.1 j, fun j u hu => by
    rw [World.cell?_setCell_other _ _ _ _ (by intro h; injection h; contradiction)]; exact h.2.2 j u hu⟩
/-- Nothing but the count of draws has changed. -/
def Drew (w w' : World) : Prop := ∃ n, w' = w.drewN n
theorem Drew.refl (w : World) : Drew w w := ⟨0, rfl⟩
theorem Drew.drewN {w w' : World} (h : Drew w w') (m : Nat) : Drew w (w'.drewN m) := by
  obtain ⟨n, rfl⟩ := h
  exact ⟨n + m, by rw [World.drewN_drewN]⟩
theorem Drew.cell {w w' : World} (h : Drew w w') (p : Addr) : w'.cell? p = w.cell? p := by
  obtain ⟨n, rfl⟩ := h
  rfl
theorem Drew.below {w w' : World} (h : Drew w w') (B : Nat) : Below B w w' := by
  obtain ⟨n, rfl⟩ := h
  exact ⟨rfl, rfl, rfl, Nat.le_refl _, fun _ _ => rfl⟩
theorem Below.drewN' {w w' : World} {B : Nat} (h : Below B w w') (n : Nat) : Below B w (w'.drewN n) := ⟨h.os, h.tape, h.output, h.size, h.block⟩
/-- An answer that tells whether something is so. -/
def Tells (p : Prop) (w : World) (e : Ending) (w' : World) : Prop := ∃ r : Bool, e = .returned (.bool r) ∧ (r = true ↔ p) ∧ Below w.heap.size w w'

/-- Where a pool's lists lie. -/
structure La where
  A1 : Option Addr := none
  c1 : Nat := 0
  A2 : Option Addr := none
  c2 : Nat := 0
abbrev poC (p : Po) (a : La) : Array Value := #[.int .i64 p.high, .slice a.A1 p.free.length a.c1, .slice a.A2 p.limbo.length a.c2]
abbrev poV (p : Po) (a : La) : Value := .agg (poC p a)
/-- A pool's lists, in memory. -/
structure PoAt (w : World) (p : Po) (a : La) : Prop where
  f : NAt w a.A1 p.free.length a.c1 p.free
  l : NAt w a.A2 p.limbo.length a.c2 p.limbo
theorem PoAt.below {w w' : World} {p : Po} {a : La} (h : PoAt w p a) (hb : Below w.heap.size w w') : PoAt w' p a := ⟨h.f.below hb, h.l.below hb⟩
theorem po_box (w : World) (p : Po) (a : La) : At (w.alloc (.cells (poC p a) 25)) w.heap.size (poC p a) := At.of_block (heap_alloc_new w _)
theorem below_box (w : World) (o : Obj) : Below w.heap.size w (w.alloc o) := (Below.refl _ _).alloc (Nat.le_refl _) _
def I64 (n : Int) : Prop := -9223372036854775808 ≤ n ∧ n ≤ 9223372036854775807
def Covers (high n : Int) : Prop := 2 ≤ n ∧ n < high

theorem covers_any (p : Po) (a : La) (n : Int) (w : World) : Calls Try.prog 36 #[poV p a, .int .i64 n] w (Tells (Covers p.high n) w) := by
  have B1 := Lib.hid (below_box w (.cells (poC p a) 25))
  unfold poV
  unfold poC at *
  by_cases h1 : 2 ≤ n
  · have d1 : decide (2 ≤ n) = true := by simp [h1]
    go_enter Try.func36, Try.ntmps36
    go_wp2_with fail
    go_ret
    exact ⟨_, rfl, by unfold Covers; simp [h1], B1.out⟩
  · have d1 : decide (2 ≤ n) = false := by simp [h1]
    go_enter Try.func36, Try.ntmps36
    go_wp2_with fail
    go_ret
    exact ⟨_, rfl, by unfold Covers; simp; omega, B1.out⟩
theorem rises_step {l : List Int} {k : Nat} (hk : k + 1 < l.length) (hQ : ∀ j (h : j + 1 < l.length), j < k → l[j] < l[j + 1]) :
    (l[k] < l[k + 1] → ∀ j (h : j + 1 < l.length), j < k + 1 → l[j] < l[j + 1]) ∧ (¬ l[k] < l[k + 1] → ¬ Rise l) :=
  ⟨fun h j hj hjk => by
    by_cases e : j = k
    · subst e; exact h
    · exact hQ j hj (by omega), fun h h2 => h ((rise_iff l).1 h2 k hk)⟩
set_option maxRecDepth 100000 in
theorem rises_any (A : Option Addr) (n c : Nat) (l : List Int) (w : World) (h : NAt w A n c l) : Calls Try.prog 37 #[.slice A n c] w (Tells (Rise l) w) := by
  have HR := Lib.hid h.row
  have HL := Lib.hid h.len
  have hn : n ≤ 9223372036854775807 := by have h1 := h.cap; have h2 := h.max; unfold maxLen at h2; omega
  clear h
  go_enter Try.func37, Try.ntmps37
  go_wp2_with fail
  go_loopw [3] (fun i wr => ∃ k : Nat, i = .int .i64 ((k : Int) + 1) ∧ (k ≤ n) ∧ Hid (∀ j (h : j + 1 < l.length), j < k → l[j] < l[j + 1]) ∧ Drew w wr) (fun i _ => n + 1 - (intOf i).toNat)
  case atStart => exact ⟨0, rfl, Nat.zero_le _, Lib.hid (fun j h hj => absurd hj (Nat.not_lt_zero j)), Drew.refl _⟩
  case round =>
    obtain ⟨k, rfl, hk, hQ, hD⟩ := hrel
    have HD := Lib.hid hD
    clear hD
    by_cases hlt : k + 1 < n
    · have hkl : k + 1 < l.length := by have := HL.out; omega
      obtain ⟨b, off, rfl, hb, hc⟩ := HR.out (by intro e; subst e; simp at hkl)
      have hc1 := hc k (by omega)
      have hc2 := hc (k + 1) hkl
      obtain ⟨h1, h2⟩ := rises_step hkl hQ.out
      have H1 := Lib.hid h1
      have H2 := Lib.hid h2
      generalize hx : l[k] = x at hc1 H1 H2
      generalize hy : l[k + 1] = y at hc2 H1 H2
      rw [← HD.out.cell] at hc1 hc2
      have e1 : (k : Int) + 1 - 1 = (k : Int) := by omega
      have e2 : ((k : Int) + 1).toNat = k + 1 := by omega
      clear hx hy hc h1 h2 hQ
      by_cases hxy : x < y
      · have d : decide (y ≤ x) = false := by simp; omega
        have HN := Lib.hid (H1.out hxy)
        clear H1 H2 hxy
        go_wp2_with fail
        go_quiet (fail)
        go_wp2_with fail
        go_roundw
        case rel => exact ⟨k + 1, by go_num, by omega, HN, HD.out.drewN _⟩
        case measure => simp [intOf]; omega
      · have d : decide (y ≤ x) = true := by simp; omega
        have HN := Lib.hid (H2.out hxy)
        clear H1 H2 hxy
        go_wp2_with fail
        go_quiet (fail)
        go_wp2_with fail
        go_ret
        exact ⟨_, rfl, ⟨fun h => (by cases h), fun h => absurd h HN.out⟩, (HD.out.drewN _).below _⟩
    · have HN : Hid (Rise l) := Lib.hid ((rise_iff l).2 (fun j hj => hQ.out j hj (by have := HL.out; omega)))
      clear hQ
      go_wp2_with fail
      go_ret
      exact ⟨_, rfl, ⟨fun _ => HN.out, fun _ => rfl⟩, HD.out.below _⟩
/-- slices.Contains. -/
theorem index_any (A : Option Addr) (n c : Nat) (l : List Int) (x : Int) (w : World) (h : NAt w A n c l) : Calls Try.prog 49 #[.slice A n c, .int .i64 x] w fun e w' => ∃ k : Int, e = .returned (.int .i64 k) ∧ (0 ≤ k ↔ x ∈ l) ∧ w = w' := by
  have HR := Lib.hid h.row
  have HL := Lib.hid h.len
  have hn : n ≤ 9223372036854775807 := by have h1 := h.cap; have h2 := h.max; unfold maxLen at h2; omega
  clear h
  go_enter Try.func49, Try.ntmps49
  go_wp2_with fail
  go_loop [5, 8] (fun _ i => ∃ k : Nat, i = .int .i64 (k : Int) ∧ k ≤ n ∧ Hid (∀ j (h : j < l.length), j < k → l[j] ≠ x)) (fun _ i => n - (intOf i).toNat)
  case atStart => exact ⟨0, rfl, Nat.zero_le _, Lib.hid (fun j h hj => absurd hj (Nat.not_lt_zero j))⟩
  case round =>
    obtain ⟨k, rfl, hk, hQ⟩ := hrel
    by_cases hlt : k < n
    · have hkl : k < l.length := by have := HL.out; omega
      obtain ⟨b, off, rfl, hb, hc⟩ := HR.out (by intro e; subst e; simp at hkl)
      have hc1 := hc k hkl
      have HM := Lib.hid (List.getElem_mem hkl)
      have HQ : Hid (l[k] ≠ x → ∀ j (h : j < l.length), j < k + 1 → l[j] ≠ x) := Lib.hid (fun e j hj hjk => by
        by_cases g : j = k
        · subst g; exact e
        · exact hQ.out j hj (by omega))
      generalize l[k] = y at hc1 HM HQ
      clear hc hQ
      by_cases hxy : x = y
      · have d : (x == y) = true := by simp [hxy]
        have HX := Lib.hid hxy
        clear hxy
        go_wp2_with fail
        go_ret
        exact ⟨_, rfl, ⟨fun _ => by rw [HX.out]; exact HM.out, fun _ => by omega⟩, rfl⟩
      · have d : (x == y) = false := by simp [hxy]
        have HN := Lib.hid (HQ.out (fun e => hxy e.symm))
        clear hxy HQ
        go_wp2_with fail
        go_round
        case rel => exact ⟨k + 1, by go_num, by omega, HN⟩
        case measure => simp [intOf]; omega
    · have HN : Hid (x ∉ l) := Lib.hid (fun hm => by
        obtain ⟨j, hj, e⟩ := List.getElem_of_mem hm
        exact hQ.out j hj (by have := HL.out; omega) e)
      clear hQ
      go_wp2_with fail
      go_ret
      exact ⟨_, rfl, ⟨fun h => by omega, fun h => absurd h HN.out⟩, rfl⟩
theorem contains_any (A : Option Addr) (n c : Nat) (l : List Int) (x : Int) (w : World) (h : NAt w A n c l) : Calls Try.prog 42 #[.slice A n c, .int .i64 x] w fun e w' => ∃ r : Bool, e = .returned (.bool r) ∧ (r = true ↔ x ∈ l) ∧ w = w' := by
  have cI := index_any A n c l x w h
  clear h
  go_enter Try.func42, Try.ntmps42
  go_wp2_with fail
  refine cI.mono ?_
  rintro e w' ⟨k, rfl, hk, rfl⟩
  have HK := Lib.hid hk
  clear hk cI
  go_wp2_with fail
  go_ret
  exact ⟨_, rfl, by rw [decide_eq_true_iff]; exact HK.out, rfl⟩
/-- slices.IndexFunc, of a function value that tells p, and may make memory. -/
theorem indexFunc_any (g : Nat) (lb : Array Value) (p : Int → Bool) (eg : ∀ args w, (callFunc g args).run Try.prog w = .ok (.enter g args) w) (A : Option Addr) (n c : Nat) (l : List Int) (w : World) (h : NAt w A n c l)
    (hp : ∀ W x, Below w.heap.size w W → Calls Try.prog g (#[.int .i64 x] ++ lb) W fun e w' => e = .returned (.bool (p x)) ∧ Below w.heap.size w w') :
    Calls Try.prog 47 #[.slice A n c, .func (.func g) #[] lb] w fun e w' => ∃ k : Int, e = .returned (.int .i64 k) ∧ ((k = -1 ∧ ∀ x ∈ l, p x = false) ∨ ∃ j : Nat, k = (j : Int) ∧ ∃ h : j < l.length, p l[j] = true ∧ ∀ i (h : i < l.length), i < j → p l[i] = false) ∧ Below w.heap.size w w' := by
  have HR := Lib.hid h.row
  have HL := Lib.hid h.len
  have HP := Lib.hid hp
  have hn : n ≤ 9223372036854775807 := by have h1 := h.cap; have h2 := h.max; unfold maxLen at h2; omega
  clear h hp
  go_enter Try.func47, Try.ntmps47
  go_wp2_with fail
  go_loopw [5, 8] (fun _ i wr => ∃ k : Nat, i = .int .i64 (k : Int) ∧ k ≤ n ∧ Hid (∀ j (h : j < l.length), j < k → p l[j] = false) ∧ Below w.heap.size w wr) (fun _ i _ => n - (intOf i).toNat)
  case atStart => exact ⟨0, rfl, Nat.zero_le _, Lib.hid (fun j h hj => absurd hj (Nat.not_lt_zero j)), Below.refl _ _⟩
  case round =>
    obtain ⟨k, rfl, hk, hQ, hB⟩ := hrel
    have HB := Lib.hid hB
    by_cases hlt : k < n
    · have hkl : k < l.length := by have := HL.out; omega
      obtain ⟨b, off, rfl, hb, hc⟩ := HR.out (by intro e; subst e; simp at hkl)
      have hc1 := (hB.cell (p := ⟨b, off + k, none⟩) hb).trans (hc k hkl)
      have HM := Lib.hid (show p l[k] = true → ∃ j : Nat, (k : Int) = (j : Int) ∧ ∃ h : j < l.length, p l[j] = true ∧ ∀ i (h : i < l.length), i < j → p l[i] = false from fun e => ⟨k, rfl, hkl, e, hQ.out⟩)
      have HQ : Hid (p l[k] = false → ∀ j (h : j < l.length), j < k + 1 → p l[j] = false) := Lib.hid (fun e j hj hjk => by
        by_cases g : j = k
        · subst g; exact e
        · exact hQ.out j hj (by omega))
      generalize l[k] = y at hc1 HM HQ
      have hcall := HP.out wr y HB.out
      clear hc hQ hB
      cases hq : p y with
      | true =>
        rw [hq] at hcall
        have HX := Lib.hid (HM.out hq)
        clear HM HQ hq
        go_wp2_with (go_at_fn g; refine hcall.mono ?_; rintro e w' ⟨rfl, hb'⟩)
        go_ret
        exact ⟨_, rfl, .inr HX.out, hb'⟩
      | false =>
        rw [hq] at hcall
        have HX := Lib.hid (HQ.out hq)
        clear HM HQ hq
        go_wp2_with (go_at_fn g; refine hcall.mono ?_; rintro e w' ⟨rfl, hb'⟩)
        go_roundw
        case rel => exact ⟨k + 1, by go_num, by omega, HX, hb'⟩
        case measure => simp [intOf]; omega
    · have HN : Hid (∀ x ∈ l, p x = false) := Lib.hid (fun x hm => by
        obtain ⟨j, hj, rfl⟩ := List.getElem_of_mem hm
        exact hQ.out j hj (by have := HL.out; omega))
      clear hQ hB
      go_wp2_with fail
      go_ret
      exact ⟨_, rfl, .inl ⟨rfl, HN.out⟩, HB.out⟩
theorem containsFunc_any (g : Nat) (lb : Array Value) (p : Int → Bool) (eg : ∀ args w, (callFunc g args).run Try.prog w = .ok (.enter g args) w) (A : Option Addr) (n c : Nat) (l : List Int) (w : World) (h : NAt w A n c l)
    (hp : ∀ W x, Below w.heap.size w W → Calls Try.prog g (#[.int .i64 x] ++ lb) W fun e w' => e = .returned (.bool (p x)) ∧ Below w.heap.size w w') :
    Calls Try.prog 38 #[.slice A n c, .func (.func g) #[] lb] w (Tells (∃ x ∈ l, p x = true) w) := by
  have cI := indexFunc_any g lb p eg A n c l w h hp
  clear h hp
  go_enter Try.func38, Try.ntmps38
  go_wp2_with fail
  refine cI.mono ?_
  rintro e w' ⟨k, rfl, hk, hb⟩
  have HK : Hid (decide (0 ≤ k) = true ↔ ∃ x ∈ l, p x = true) := Lib.hid (by
    rw [decide_eq_true_iff]
    rcases hk with ⟨rfl, hk⟩ | ⟨j, rfl, hj, hk, -⟩
    · exact ⟨fun h => by omega, fun ⟨x, hx, e⟩ => by rw [hk x hx] at e; cases e⟩
    · exact ⟨fun _ => ⟨_, List.getElem_mem hj, hk⟩, fun _ => by omega⟩)
  clear hk cI
  go_wp2_with fail
  go_ret
  exact ⟨_, rfl, HK.out, hb⟩
end Go.Proofs.Ytdkpnoinccdaiaa.Pool
