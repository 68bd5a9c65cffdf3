/-
  Texts of one family, one behind the other: SOpen0, SChain1, SChain2, SNewest1, SNewest2.
-/
import Derived.Test.YtboaamaneeodfaaGreatKS5
import Derived.Test.YtboaamaneeodfaaGreatKS2
import Derived.Test.YtboaamaneeodfaaGreatKQ3
import Derived.Test.YtboaamaneeodfaaGreatKP2
import Derived.Deep.RegionHeld3
import Derived.WalkMore
namespace Go.Proofs.YtboaamaneeodfaaGreat.Store
open Go.RowKit Gen
open Disk (St Dev Mod ptr)
open Page (Pg Lay PgOk PgRows pgC pgV Enc IsDec BytesAt)
open Pool (Po NAt PoAt La poC poV numV At takeP giveP backP Fresh PoolOk May Tells)

/-- slices.IndexFunc, of a function value that tells p, and may make memory. -/
theorem indexFunc_first (g : Nat) (fa : Value) (p : Int → Bool) (eg : ∀ args w, (callFunc g args).run Tryz.prog w = .ok (.enter g args) w) (A : Option Addr) (n c : Nat) (l : List Int) (w : World) (h : NAt w A n c l)
    (hp : ∀ W x, Below w.heap.size w W → Calls Tryz.prog g #[fa, .int .i64 x] W fun e w' => e = .returned (.bool (p x)) ∧ Below w.heap.size w w') :
    Calls Tryz.prog 80 #[.slice A n c, .func (.func g) #[fa] #[]] w fun e w' => ∃ k : Int, e = .returned (.int .i64 k) ∧ ((k = -1 ∧ ∀ x ∈ l, p x = false) ∨ ∃ j : Nat, k = (j : Int) ∧ ∃ h : j < l.length, p l[j] = true ∧ ∀ i (h : i < l.length), i < j → p l[i] = false) ∧ Below w.heap.size w w' := by
  have HR := Lib.hid h.row
  have HL := Lib.hid h.len
  have HP := Lib.hid hp
  have hn : n ≤ 9223372036854775807 := by have h1 := h.cap; have h2 := h.max; unfold maxLen at h2; omega
  clear h hp
  go_enter Tryz.func80, Tryz.ntmps80
  go_wp2_with fail
  go_loopw [5, 8] (fun _ i wr => ∃ k : Nat, i = .int .i64 (k : Int) ∧ k ≤ n ∧ Hid (∀ j (h : j < l.length), j < k → p l[j] = false) ∧ Below w.heap.size w wr) (fun _ i _ => n - (intOf i).toNat)
  case atStart => exact ⟨0, rfl, Nat.zero_le _, Lib.hid (fun j h hj => absurd hj (Nat.not_lt_zero j)), Below.refl _ _⟩
  case round =>
    obtain ⟨k, rfl, hk, hQ, hB⟩ := hrel
    have HB := Lib.hid hB
    by_cases hlt : k < n
    · have hkl : k < l.length := by have := HL.out; omega
      obtain ⟨b, off, rfl, hb, hc⟩ := HR.out (by intro e; subst e; simp at hkl)
      have hc1 := (hB.cell (p := ⟨b, off + k, none⟩) hb).trans (hc k hkl)
      have HM := Lib.hid (show p l[k] = true → ∃ j : Nat, (k : Int) = (j : Int) ∧ ∃ h : j < l.length, p l[j] = true ∧ ∀ i (h : i < l.length), i < j → p l[i] = false from fun e => ⟨k, rfl, hkl, e, hQ.out⟩)
      have HQ : Hid (p l[k] = false → ∀ j (h : j < l.length), j < k + 1 → p l[j] = false) := Lib.hid (fun e j hj hjk => by
        by_cases g : j = k
        · subst g; exact e
        · exact hQ.out j hj (by omega))
      generalize l[k] = y at hc1 HM HQ
      have hcall := HP.out wr y HB.out
      clear hc hQ hB
      cases hq : p y with
      | true =>
        rw [hq] at hcall
        have HX := Lib.hid (HM.out hq)
        clear HM HQ hq
        go_wp2_with (go_at_fn g; refine hcall.mono ?_; rintro e w' ⟨rfl, hb'⟩)
        go_ret
        exact ⟨_, rfl, .inr HX.out, hb'⟩
      | false =>
        rw [hq] at hcall
        have HX := Lib.hid (HQ.out hq)
        clear HM HQ hq
        go_wp2_with (go_at_fn g; refine hcall.mono ?_; rintro e w' ⟨rfl, hb'⟩)
        go_roundw
        case rel => exact ⟨k + 1, by go_num, by omega, HX, hb'⟩
        case measure => simp [intOf]; omega
    · have HN : Hid (∀ x ∈ l, p x = false) := Lib.hid (fun x hm => by
        obtain ⟨j, hj, rfl⟩ := List.getElem_of_mem hm
        exact hQ.out j hj (by have := HL.out; omega))
      clear hQ hB
      go_wp2_with fail
      go_ret
      exact ⟨_, rfl, .inl ⟨rfl, HN.out⟩, HB.out⟩
theorem containsFunc_first (g : Nat) (fa : Value) (p : Int → Bool) (eg : ∀ args w, (callFunc g args).run Tryz.prog w = .ok (.enter g args) w) (A : Option Addr) (n c : Nat) (l : List Int) (w : World) (h : NAt w A n c l)
    (hp : ∀ W x, Below w.heap.size w W → Calls Tryz.prog g #[fa, .int .i64 x] W fun e w' => e = .returned (.bool (p x)) ∧ Below w.heap.size w w') :
    Calls Tryz.prog 47 #[.slice A n c, .func (.func g) #[fa] #[]] w (Tells (∃ x ∈ l, p x = true) w) := by
  have cI := indexFunc_first g fa p eg A n c l w h hp
  clear h hp
  go_enter Tryz.func47, Tryz.ntmps47
  go_wp2_with fail
  refine cI.mono ?_
  rintro e w' ⟨k, rfl, hk, hb⟩
  have HK : Hid (decide (0 ≤ k) = true ↔ ∃ x ∈ l, p x = true) := Lib.hid (by
    rw [decide_eq_true_iff]
    rcases hk with ⟨rfl, hk⟩ | ⟨j, rfl, hj, hk, -⟩
    · exact ⟨fun h => by omega, fun ⟨x, hx, e⟩ => by rw [hk x hx] at e; cases e⟩
    · exact ⟨fun _ => ⟨_, List.getElem_mem hj, hk⟩, fun _ => by omega⟩)
  clear hk cI
  go_wp2_with fail
  go_ret
  exact ⟨_, rfl, HK.out, hb⟩
theorem com_one (sup : Pg) (own : List Int) (base : Po) (a : Lys) : (comC sup own base a).all (·.oneCell') = true := by simp [Value.oneCell']
set_option maxRecDepth 100000 in
set_option maxHeartbeats 4000000 in
theorem refuses_any {w : World} {sup : Pg} {own : List Int} {base : Po} {a : Lys} (hb : PoAt w base a.b) (hf : base.free.length ≤ 100000) (hl : base.limbo.length ≤ 100000) (n : Int) :
    Calls Tryz.prog 48 #[.agg (comC sup own base a), .int .i64 n] w (fun e w' => e = .returned (.bool ((giveP base n).2 != 0)) ∧ Below w.heap.size w w') := by
  have b1 := Pool.below_box w (.cells (comC sup own base a) 84)
  have A1 := at_new w (comC sup own base a) 84
  have cG := Pool.give_any base a.b n (w.alloc (.cells (comC sup own base a) 84)) (hb.below b1) hf hl
  have LP := Lib.hid (load_pool (o := 12) A1 base a.b rfl)
  have B1 := Lib.hid b1
  clear b1 A1 hb hf hl
  obtain ⟨r, hr⟩ : ∃ r, giveP base n = r := ⟨_, rfl⟩
  rw [hr] at cG ⊢
  clear hr
  obtain ⟨W1, hW1⟩ : ∃ W1, w.alloc (.cells (comC sup own base a) 84) = W1 := ⟨_, rfl⟩
  rw [hW1] at cG LP B1
  obtain ⟨pv, hpv⟩ : ∃ pv, poV base a.b = pv := ⟨_, rfl⟩
  rw [hpv] at LP cG
  clear hpv
  generalize hC : comC sup own base a = C at *
  go_enter Tryz.func48, Tryz.ntmps48
  go_wp2_with (first | ((with_reducible refine Disk.wpList_box_eq rfl 84 (.tmp 0) rfl C ?_ ?_); (next => rfl)) | ((with_reducible refine Disk.wpList_load_eq rfl 73 (.tmp 8) rfl _ ?_ LP.out ?_); (next => rfl)))
  refine cG.mono ?_
  rintro e w1 ⟨c, rfl, hp, hb, hf⟩
  have P1 := Lib.hid (put_pool w1 r.1 c)
  have B2 := Lib.hid (B1.out.trans ((hb.trans ((Pool.below_box w1 (.cells (poC r.1 c) 73)).mono hb.size)).mono B1.out.size))
  clear hp hb hf cG LP hW1 hC
  generalize poC r.1 c = qc at *
  generalize poV r.1 c = qv at *
  go_wp2_with (first | ((with_reducible refine Disk.wpList_store_eq rfl 73 (.tmp 5) (.tmp 12) rfl _ _ ?_ ?_ P1.out ?_); (next => rfl); (next => rfl)))
  go_ret
  exact ⟨rfl, B2.out⟩
end Go.Proofs.YtboaamaneeodfaaGreat.Store
namespace Go.Proofs.YtboaamaneeodfaaGreat.Store
open Go.RowKit Gen
open Disk (St Dev Mod ptr)
open Page (Pg Lay PgOk PgRows pgC pgV Enc IsDec BytesAt)
open Pool (Po NAt PoAt La poC poV numV At takeP giveP backP Fresh PoolOk OwnI PartsW)

abbrev OwnL (w : World) (B : Nat) (v : Value) (l : List Pool.Part) : Prop := OwnG w 68 Pool.encS B v l
abbrev AppI1 (W W' : World) (v u v' : Value) : Prop := (Builtin.append_ #[68, 68] 68 #[v, u]).run Tryz.prog W = .ok v' W'
/-- Both rows, and where other lists lie. -/
structure Rows2 (B : Nat) (v1 : Value) (l1 : List Int) (v2 : Value) (xs ys : List Pool.Part) (W : World) : Prop where
  own1 : OwnI W B v1 l1
  own2 : OwnL W B v2 xs
  parts : PartsW W ys
  sep : ∀ x ∈ ys, x.2.2 ≠ [] → ∀ a, x.1 = some a → v1.ownBlock ≠ some a.block ∧ v2.ownBlock ≠ some a.block
  low : B ≤ W.heap.size
theorem Rows2.below {B : Nat} {v1 v2 : Value} {l1 : List Int} {xs ys : List Pool.Part} {W W' : World} (h : Rows2 B v1 l1 v2 xs ys W) (b : Below W.heap.size W W') : Rows2 B v1 l1 v2 xs ys W' :=
  ⟨OwnG.kept h.own1 b, OwnG.kept h.own2 b, h.parts.below b, h.sep, Nat.le_trans h.low b.size⟩
theorem Rows2.ne {B : Nat} {v1 v2 : Value} {l1 : List Int} {xs ys : List Pool.Part} {W : World} (h : Rows2 B v1 l1 v2 xs ys W) {k : Nat} (hk : v1.ownBlock = some k) : v2.ownBlock ≠ some k := fun e => Page.own_ne h.own1 h.own2 (by decide) hk (by rw [e])
theorem part_block {W : World} {x : Pool.Part} (h : (x.1 = none → x.2.1 = 0) ∧ Page.IRow W x.1 x.2.2) (hne : x.2.2 ≠ []) {a : Addr} (e : x.1 = some a) : a.block < W.heap.size := by
  obtain ⟨b, o, e', hlt, _⟩ := h.2 hne
  rw [e] at e'; cases e'
  exact hlt
/-- A list more, that lies apart. -/
theorem Rows2.pend {B : Nat} {v1 v2 : Value} {l1 : List Int} {xs ys : List Pool.Part} {W : World} (h : Rows2 B v1 l1 v2 xs ys W) {x : Pool.Part} (hx : (x.1 = none → x.2.1 = 0) ∧ Page.IRow W x.1 x.2.2) {n : Nat} (hn : ∀ a, x.1 = some a → n ≤ a.block) (h1 : ∀ k, v1.ownBlock = some k → k < n) (h2 : ∀ k, v2.ownBlock = some k → k < n) : Rows2 B v1 l1 v2 xs (ys ++ [x]) W :=
  ⟨h.own1, h.own2, fun y hy => by
    rcases List.mem_append.1 hy with hy | hy
    · exact h.parts y hy
    · rw [List.mem_singleton] at hy; rw [hy]; exact hx, fun y hy hne a e => by
    rcases List.mem_append.1 hy with hy | hy
    · exact h.sep y hy hne a e
    · rw [List.mem_singleton] at hy
      rw [hy] at e
      have := hn a e
      exact ⟨fun e => by have := h1 _ e; omega, fun e => by have := h2 _ e; omega⟩, h.low⟩
theorem Rows2.lt1 {B : Nat} {v1 v2 : Value} {l1 : List Int} {xs ys : List Pool.Part} {W : World} (h : Rows2 B v1 l1 v2 xs ys W) : ∀ k, v1.ownBlock = some k → k < W.heap.size := fun k hk => (World.ownsRow.lt h.own1 k hk).2
theorem Rows2.lt2 {B : Nat} {v1 v2 : Value} {l1 : List Int} {xs ys : List Pool.Part} {W : World} (h : Rows2 B v1 l1 v2 xs ys W) : ∀ k, v2.ownBlock = some k → k < W.heap.size := fun k hk => (World.ownsRow.lt h.own2 k hk).2
theorem parts_grown {W W' : World} {ys : List Pool.Part} {row : Option Nat} (h : PartsW W ys) (g : W.grownBy W' row) (hs : ∀ x ∈ ys, x.2.2 ≠ [] → ∀ a, x.1 = some a → row ≠ some a.block) : PartsW W' ys := fun x hx => ⟨(h x hx).1, Pool.row_grown (h x hx).2 g (fun hne a e => Ne.symm (hs x hx hne a e))⟩
/-- A page more. -/
theorem Rows2.more1 {B : Nat} {v1 v2 : Value} {l1 : List Int} {xs ys : List Pool.Part} {W : World} (h : Rows2 B v1 l1 v2 xs ys W) {b : Nat} {n : Int} (hb : W.cell? ⟨b, 0, none⟩ = some (.int .i64 n)) (hbl : b < W.heap.size) (hl : l1.length ≤ 100000) :
    ∃ v' W', AppI1 W W' v1 (.slice (some ⟨b, 0, none⟩) 1 1) v' ∧ Rows2 B v' (l1 ++ [n]) v2 xs ys W' ∧ W.grownBy W' v1.ownBlock := by
  obtain ⟨v', W', hrun, ho, hg, hv⟩ := append_row Pool.ints_elem W B v1 l1 h.own1 (some ⟨b, 0, none⟩) 1 1 [n] rfl (fun e => by cases e) (fun _ => ⟨b, 0, rfl, hbl, fun k hk => by
    obtain rfl : k = 0 := by simp at hk; omega
    exact hb⟩) (by omega) h.low
  refine ⟨v', W', hrun, ⟨ho, Page.own_kept h.own2 hg (fun k hk e => h.ne e.symm hk), parts_grown h.parts hg (fun x hx hne a e => (h.sep x hx hne a e).1), fun x hx hne a e => ⟨fun e2 => ?_, (h.sep x hx hne a e).2⟩, Nat.le_trans h.low hg.size⟩, hg⟩
  rcases hv with hv | hv
  · exact (h.sep x hx hne a e).1 (by rw [← hv]; exact e2)
  · rw [hv] at e2
    have := part_block (h.parts x hx) hne e
    injection e2 with e2
    omega
abbrev AppL (W W' : World) (v u v' : Value) : Prop := (Builtin.append_ #[98, 98] 98 #[v, u]).run Tryz.prog W = .ok v' W'
/-- A list more. -/
theorem Rows2.more2 {B : Nat} {v1 v2 : Value} {l1 : List Int} {xs ys : List Pool.Part} {W : World} (h : Rows2 B v1 l1 v2 xs ys W) {b : Nat} {x : Pool.Part} (hb : W.cell? ⟨b, 0, none⟩ = some (Pool.encS x)) (hbl : b < W.heap.size) (hl : xs.length ≤ 100000) :
    ∃ v' W', AppL W W' v2 (.slice (some ⟨b, 0, none⟩) 1 1) v' ∧ Rows2 B v1 l1 v' (xs ++ [x]) ys W' ∧ W.grownBy W' v2.ownBlock := by
  obtain ⟨v', W', hrun, ho, hg, hv⟩ := append_row Pool.lists_elem W B v2 xs h.own2 (some ⟨b, 0, none⟩) 1 1 [x] rfl (fun e => by cases e) (fun _ => ⟨b, 0, rfl, hbl, fun k hk => by
    obtain rfl : k = 0 := by simp at hk; omega
    exact hb⟩) (by omega) h.low
  refine ⟨v', W', hrun, ⟨Page.own_kept h.own1 hg (fun k hk e => h.ne hk e.symm), ho, parts_grown h.parts hg (fun x hx hne a e => (h.sep x hx hne a e).2), fun x hx hne a e => ⟨(h.sep x hx hne a e).1, fun e2 => ?_⟩, Nat.le_trans h.low hg.size⟩, hg⟩
  rcases hv with hv | hv
  · exact (h.sep x hx hne a e).2 (by rw [← hv]; exact e2)
  · rw [hv] at e2
    have := part_block (h.parts x hx) hne e
    injection e2 with e2
    omega
/-- Both, whose places are made ahead of them. -/
theorem Rows2.both {B : Nat} {v1 v2 : Value} {l1 : List Int} {xs ys : List Pool.Part} {W0 W : World} (h : Rows2 B v1 l1 v2 xs ys W0) (hW : Below W0.heap.size W0 W) {b1 b2 : Nat} {n : Int} {x : Pool.Part} (c1 : W.cell? ⟨b1, 0, none⟩ = some (.int .i64 n)) (c2 : W.cell? ⟨b2, 0, none⟩ = some (Pool.encS x)) (l1' : b1 < W.heap.size) (l2' : b2 < W.heap.size) (hb2 : W0.heap.size ≤ b2) (k1 : l1.length ≤ 100000) (k2 : xs.length ≤ 100000) :
    ∃ v1' W1 v2' W2, AppI1 W W1 v1 (.slice (some ⟨b1, 0, none⟩) 1 1) v1' ∧ AppL W1 W2 v2 (.slice (some ⟨b2, 0, none⟩) 1 1) v2' ∧ Below B W0 W1 ∧ Below B W0 W2 ∧ (∀ g, v1.ownBlock ≠ some g → v2.ownBlock ≠ some g → g < W0.heap.size → W1.heap[g]? = W0.heap[g]? ∧ W2.heap[g]? = W0.heap[g]?) ∧ Rows2 B v1' (l1 ++ [n]) v2' (xs ++ [x]) ys W2 := by
  have hr := h.below hW
  obtain ⟨v1', W1, r1, h1, g1⟩ := hr.more1 c1 l1' k1
  have hne : v1.ownBlock ≠ some b2 := fun e => by have := h.lt1 b2 e; omega
  have c2' : W1.cell? ⟨b2, 0, none⟩ = some (Pool.encS x) := (World.cell?_of_block (a := ⟨b2, 0, none⟩) (g1.block b2 l2' (Ne.symm hne))).trans c2
  obtain ⟨v2', W2, r2, h2, g2⟩ := h1.more2 c2' (Nat.lt_of_lt_of_le l2' g1.size) k2
  have hB0 : Below B W0 W := hW.mono h.low
  have hB1 := below_grown hB0 hr.own1 g1 hr.low
  exact ⟨v1', W1, v2', W2, r1, r2, hB1, below_grown hB1 h1.own2 g2 h1.low, fun g e1 e2 hg => by
    have a := hW.block g hg
    have b := g1.block g (Nat.lt_of_lt_of_le hg hW.size) (Ne.symm e1)
    have c := g2.block g (Nat.lt_of_lt_of_le hg (Nat.le_trans hW.size g1.size)) (Ne.symm e2)
    exact ⟨b.trans a, c.trans (b.trans a)⟩, h2⟩
/-- .. and where the second one's place is made behind the first one. -/
theorem Rows2.after {B : Nat} {v1 v2 : Value} {l1 : List Int} {xs ys : List Pool.Part} {W0 W : World} (h : Rows2 B v1 l1 v2 xs ys W0) (hW : Below W0.heap.size W0 W) {b1 : Nat} {n : Int} {x : Pool.Part} (c1 : W.cell? ⟨b1, 0, none⟩ = some (.int .i64 n)) (l1' : b1 < W.heap.size) (k1 : l1.length ≤ 100000) (k2 : xs.length ≤ 100000) :
    ∃ v1' W1 v2' W2, AppI1 W W1 v1 (.slice (some ⟨b1, 0, none⟩) 1 1) v1' ∧ AppL (W1.alloc (.cells #[Pool.encS x] 68)) W2 v2 (.slice (some ⟨W1.heap.size, 0, none⟩) 1 1) v2' ∧ Below B W0 W1 ∧ Below B W0 (W1.alloc (.cells #[Pool.encS x] 68)) ∧ Below B W0 W2 ∧ (∀ g, v1.ownBlock ≠ some g → v2.ownBlock ≠ some g → g < W0.heap.size → W1.heap[g]? = W0.heap[g]? ∧ (W1.alloc (.cells #[Pool.encS x] 68)).heap[g]? = W0.heap[g]? ∧ W2.heap[g]? = W0.heap[g]?) ∧ Rows2 B v1' (l1 ++ [n]) v2' (xs ++ [x]) ys W2 := by
  have hr := h.below hW
  obtain ⟨v1', W1, r1, h1, g1⟩ := hr.more1 c1 l1' k1
  have b3 := Pool.below_box W1 (.cells #[Pool.encS x] 68)
  have h1' := h1.below b3
  obtain ⟨v2', W2, r2, h2, g2⟩ := h1'.more2 (b := W1.heap.size) (x := x) (Pool.cell1 W1 (Pool.encS x) 68).1 (by simp) k2
  have hB0 : Below B W0 W := hW.mono h.low
  have hB1 := below_grown hB0 hr.own1 g1 hr.low
  have hB2 := hB1.trans (b3.mono h1.low)
  exact ⟨v1', W1, v2', W2, r1, r2, hB1, hB2, below_grown hB2 h1'.own2 g2 h1'.low, fun g e1 e2 hg => by
    have a := hW.block g hg
    have b := g1.block g (Nat.lt_of_lt_of_le hg hW.size) (Ne.symm e1)
    have s1 := Nat.lt_of_lt_of_le hg (Nat.le_trans hW.size g1.size)
    have b' := b3.block g s1
    have c := g2.block g (by simp; omega) (Ne.symm e2)
    exact ⟨b.trans a, b'.trans (b.trans a), c.trans (b'.trans (b.trans a))⟩, h2⟩
end Go.Proofs.YtboaamaneeodfaaGreat.Store
namespace Go.Proofs.YtboaamaneeodfaaGreat.Store
open Go.RowKit Gen
open Disk (St Dev Mod ptr)
open Page (Pg Lay PgOk PgRows pgC pgV Enc IsDec BytesAt)
open Pool (Po NAt PoAt La poC poV numV At takeP giveP backP Fresh PoolOk OwnI PartsW)

/-- Where a chain has come. -/
structure ChRel (w : World) (g : Int → Disk.Bs) (own : List Int) (ls : List (List Int)) (v1 v2 : Value) (done : List Int) (xs : List Pool.Part) (nx : Int) (wr : World) : Prop where
  rows : Rows2 w.heap.size v1 done v2 xs xs wr
  below : Below w.heap.size w wr
  len : xs.length = done.length
  rest : ∃ rest lr, Chain g nx rest lr ∧ done ++ rest = own ∧ xs.map (·.2.2) ++ lr = ls
/-- What chain tells. -/
def ChainR (own : List Int) (ls : List (List Int)) (w : World) (e : Ending) (w' : World) : Prop := ∃ A1 c1 A2 c2 xs, e = .returned (.tuple #[.slice A1 own.length c1, .slice A2 xs.length c2, .bool true]) ∧ xs.map (·.2.2) = ls ∧ Rows2 w.heap.size (.slice A1 own.length c1) own (.slice A2 xs.length c2) xs xs w' ∧ Below w.heap.size w w'
set_option maxRecDepth 100000 in
set_option maxHeartbeats 8000000 in
theorem chain_any {w : World} {sb bl bc : Nat} {d : St} (h : Dev w sb bl bc d) {n : Int} {own : List Int} {ls : List (List Int)} (hc : Chain d.readB n own ls) (hn : own.Nodup) (he : ∀ x ∈ own, d.readE x = 0) (hl : own.length ≤ 100000) :
    Calls Tryz.prog 44 #[ptr sb, .int .i64 n] w (ChainR own ls w) := by
  have H := Lib.hid h
  have ST := Lib.hid (show ChRel w d.readB own ls (.slice none 0 0) (.slice none 0 0) [] [] n w from ⟨⟨OwnG.nil _ _ _ _, OwnG.nil _ _ _ _, fun x hx => (by cases hx), fun x hx => (by cases hx), Nat.le_refl _⟩, Below.refl _ _, rfl, own, ls, hc, rfl, rfl⟩)
  have HN := Lib.hid hn
  have HE := Lib.hid he
  have HL := Lib.hid hl
  clear h hc hn he hl
  go_enter Tryz.func44, Tryz.ntmps44
  go_wp2_with fail
  go_step3
  go_wp2_with fail
  go_step3
  go_wp2_with fail
  go_loopw [4, 5, 7] (fun v4 v5 v7 wr => ∃ (done : List Int) (xs : List Pool.Part) (nx : Int) (A1 A2 : Option Addr) (c1 c2 : Nat), v4 = .slice A1 done.length c1 ∧ v5 = .slice A2 xs.length c2 ∧ v7 = .int .i64 nx ∧ Hid (ChRel w d.readB own ls (.slice A1 done.length c1) (.slice A2 xs.length c2) done xs nx wr)) (fun v4 _ _ _ => own.length - (match v4 with | .slice _ n _ => n | _ => 0))
  case atStart => exact ⟨[], [], n, none, none, 0, 0, rfl, rfl, rfl, ST⟩
  case round =>
    obtain ⟨done, xs, nx, A1, A2, c1, c2, rfl, rfl, rfl, R⟩ := hrel
    clear ST
    obtain ⟨rest, lr, hch, hown, hls⟩ := R.out.rest
    rcases chain_inv hch with ⟨rfl, rfl, rfl⟩ | ⟨p, o, l, hne, rfl, rfl, hdec, hk, hch2⟩
    · have FIN := Lib.hid (show ChainR own ls w (.returned (.tuple #[.slice A1 done.length c1, .slice A2 xs.length c2, .bool true])) wr from by
        rw [List.append_nil] at hown hls
        subst hown
        exact ⟨A1, c1, A2, c2, xs, rfl, hls, R.out.rows, R.out.below⟩)
      clear hch hown hls R
      go_wp2_with fail
      (try rw [Exit.noGoto_ret])
      (try simp only [Exit.inBlock, Exit.then])
      refine bodyPost_ret (results_t3 rfl) rfl ?_
      exact FIN.out
    · have hx : nx ∈ own := by rw [← hown]; exact List.mem_append_right _ (List.mem_cons_self ..)
      have hnd : nx ∉ done := fun hm => by
        have := HN.out
        rw [← hown] at this
        exact (List.nodup_append.1 this).2.2 _ hm _ (List.mem_cons_self ..) rfl
      have cR := read_any (H.out.below R.out.below) nx
      have hz := HE.out nx hx
      go_wp2_with fail
      refine cR.mono ?_
      rintro e w2 ⟨b2, ⟨hne2, rfl⟩ | ⟨_, ⟨p', y, rfl, hrow, hok, hdec2, hnew⟩ | ⟨rfl, hno⟩⟩⟩
      · exact absurd hz hne2
      · obtain rfl := Page.dec_fun hdec2 hdec
        have b3 := Pool.below_box w2 (.cells (pgC p' y) 82)
        have P := Lib.hid (put_page w2 p' y)
        have AB := at_new w2 (pgC p' y) 82
        have c0 : (w2.alloc (.cells (pgC p' y) 82)).cell? ⟨w2.heap.size, 0, none⟩ = some (.int .i64 3) := by rw [← hk]; exact AB.2.2 0 _ rfl
        have R3 := ((R.out.rows.below b2).pend (x := (y.A4, y.c4, p'.pages)) ⟨hnew.n5, hrow.r4⟩ (n := wr.heap.size) hnew.n4 R.out.rows.lt1 R.out.rows.lt2).below b3
        have BB := R.out.below.trans ((b2.trans (b3.mono b2.size)).mono R.out.below.size)
        obtain ⟨W3, hW3⟩ : ∃ W3, w2.alloc (.cells (pgC p' y) 82) = W3 := ⟨_, rfl⟩
        have hs3 : w2.heap.size + 1 = W3.heap.size := by rw [← hW3, World.size_alloc]
        rw [hW3] at P AB c0 R3 BB b3
        clear hW3
        have NA := Pool.own_nums R3.own1
        obtain ⟨A0, n0, c0', e0, hN, -⟩ := NA
        cases e0
        have cC := Pool.contains_any A1 _ c1 done nx W3 hN
        have KB := Lib.hid (show ∀ w' : World, w'.heap[w2.heap.size]? = W3.heap[w2.heap.size]? → w'.cell? ⟨w2.heap.size, 4, none⟩ = some (.slice y.A4 p'.pages.length y.c4) ∧ w'.cell? ⟨w2.heap.size, 5, none⟩ = some (.int .i64 p'.next) from fun w' e => ⟨(World.cell?_of_block (a := ⟨w2.heap.size, 4, none⟩) e).trans (AB.2.2 4 _ rfl), (World.cell?_of_block (a := ⟨w2.heap.size, 5, none⟩) e).trans (AB.2.2 5 _ rfl)⟩)
        have ne1 : ∀ k, (Value.slice A1 done.length c1).ownBlock = some k → k < w2.heap.size := fun k e => Nat.lt_of_lt_of_le (R.out.rows.lt1 k e) b2.size
        have ne2 : ∀ k, (Value.slice A2 xs.length c2).ownBlock = some k → k < w2.heap.size := fun k e => Nat.lt_of_lt_of_le (R.out.rows.lt2 k e) b2.size
        have hlen := R.out.len
        have hdl : done.length ≤ 100000 := by have := HL.out; rw [← hown, List.length_append] at this; omega
        have q1 : (Value.slice A1 done.length c1).ownBlock ≠ some w2.heap.size := fun e => Nat.lt_irrefl _ (ne1 _ e)
        have q2 : (Value.slice A2 xs.length c2).ownBlock ≠ some w2.heap.size := fun e => Nat.lt_irrefl _ (ne2 _ e)
        have hgl : w2.heap.size < W3.heap.size := by omega
        obtain ⟨x, hx'⟩ : ∃ x : Pool.Part, (y.A4, y.c4, p'.pages) = x := ⟨_, rfl⟩
        rw [hx'] at R3
        have bi : Below W3.heap.size W3 (W3.alloc (.cells #[numV nx] 3)).drew := (Pool.below_box W3 _).drew
        have bij : Below W3.heap.size W3 ((W3.alloc (.cells #[numV nx] 3)).alloc (.cells #[Pool.encS x] 68)).drew := ((Pool.below_box W3 _).alloc (Pool.below_box W3 _).size _).drew
        have bj : Below W3.heap.size W3 (W3.alloc (.cells #[Pool.encS x] 68)).drew := (Pool.below_box W3 _).drew
        have bji : Below W3.heap.size W3 ((W3.alloc (.cells #[Pool.encS x] 68)).alloc (.cells #[numV nx] 3)).drew := ((Pool.below_box W3 _).alloc (Pool.below_box W3 _).size _).drew
        obtain ⟨vA, WA1, uA, WA2, qA1, qA2, -, -, bA2, sA, RA⟩ := R3.after bi (b1 := W3.heap.size) (n := nx) (x := x) (Pool.cell1 W3 (numV nx) 3).1 (by simp) hdl (by omega)
        obtain ⟨vB, WB1, uB, WB2, qB1, qB2, -, bB2, sB, RB⟩ := R3.both bij (b1 := W3.heap.size) (b2 := W3.heap.size + 1) (n := nx) (x := x) (((Pool.below_box (W3.alloc (.cells #[numV nx] 3)) (.cells #[Pool.encS x] 68)).cell (p := ⟨W3.heap.size, 0, none⟩) (by simp)).trans (Pool.cell1 W3 (numV nx) 3).1) (by
          have := (Pool.cell1 (W3.alloc (.cells #[numV nx] 3)) (Pool.encS x) 68).1
          rw [World.size_alloc] at this
          exact this) (by simp; omega) (by simp) (by omega) hdl (by omega)
        obtain ⟨vC, WC1, uC, WC2, qC1, qC2, -, bC2, sC, RC⟩ := R3.both bji (b1 := W3.heap.size + 1) (b2 := W3.heap.size) (n := nx) (x := x) (by
          have := (Pool.cell1 (W3.alloc (.cells #[Pool.encS x] 68)) (numV nx) 3).1
          rw [World.size_alloc] at this
          exact this) (((Pool.below_box (W3.alloc (.cells #[Pool.encS x] 68)) (.cells #[numV nx] 3)).cell (p := ⟨W3.heap.size, 0, none⟩) (by simp)).trans (Pool.cell1 W3 (Pool.encS x) 68).1) (by simp) (by simp; omega) (by omega) hdl (by omega)
        have K0 := Lib.hid (KB.out W3.drew rfl)
        have Ki := Lib.hid (KB.out _ (bi.block _ hgl))
        have Kj := Lib.hid (KB.out _ (bj.block _ hgl))
        have Kij := Lib.hid (KB.out _ (bij.block _ hgl))
        have Kji := Lib.hid (KB.out _ (bji.block _ hgl))
        have KA1 := Lib.hid (KB.out _ (sA _ q1 q2 hgl).1)
        have KA3 := Lib.hid (KB.out _ (sA _ q1 q2 hgl).2.1)
        have KA2 := Lib.hid (KB.out _ (sA _ q1 q2 hgl).2.2)
        have KB1 := Lib.hid (KB.out _ (sB _ q1 q2 hgl).1)
        have KB2 := Lib.hid (KB.out _ (sB _ q1 q2 hgl).2)
        have KC1 := Lib.hid (KB.out _ (sC _ q1 q2 hgl).1)
        have KC2 := Lib.hid (KB.out _ (sC _ q1 q2 hgl).2)
        have CH := Lib.hid (show ∃ rest lr, Chain d.readB p'.next rest lr ∧ (done ++ [nx]) ++ rest = own ∧ (xs ++ [x]).map (·.2.2) ++ lr = ls from ⟨o, l, hch2, by rw [List.append_assoc]; exact hown, by rw [List.map_append, List.append_assoc, ← hx']; exact hls⟩)
        have en : ∀ (v u : Value) (W : World), Rows2 w.heap.size v (done ++ [nx]) u (xs ++ [x]) (xs ++ [x]) W → Below w.heap.size w W → ∃ A1 c1 A2 c2, v = .slice A1 (done ++ [nx]).length c1 ∧ u = .slice A2 (xs ++ [x]).length c2 ∧ Hid (ChRel w d.readB own ls (.slice A1 (done ++ [nx]).length c1) (.slice A2 (xs ++ [x]).length c2) (done ++ [nx]) (xs ++ [x]) p'.next W) := fun v u W h hb => by
          obtain ⟨B1, e1, rfl, -⟩ := OwnG.row h.own1
          obtain ⟨B2, e2, rfl, -⟩ := OwnG.row h.own2
          exact ⟨B1, e1, B2, e2, rfl, rfl, Lib.hid ⟨h, hb, by simp; omega, CH.out⟩⟩
        obtain ⟨XA1, eA1, XA2, eA2, rfl, rfl, NA⟩ := en vA uA WA2 RA (BB.trans bA2)
        have QA1 := Lib.hid qA1
        have QA2 := Lib.hid qA2
        obtain ⟨XB1, eB1, XB2, eB2, rfl, rfl, NB⟩ := en vB uB WB2 RB (BB.trans bB2)
        have QB1 := Lib.hid qB1
        have QB2 := Lib.hid qB2
        obtain ⟨XC1, eC1, XC2, eC2, rfl, rfl, NC⟩ := en vC uC WC2 RC (BB.trans bC2)
        have QC1 := Lib.hid qC1
        have QC2 := Lib.hid qC2
        have HND := Lib.hid hnd
        have HM := Lib.hid (show done.length < own.length from by rw [← hown]; simp)
        have E1 := Lib.hid (show done.length + 1 = (done ++ [nx]).length from by simp)
        have E2 := Lib.hid (show xs.length + 1 = (xs ++ [(y.A4, y.c4, p'.pages)]).length from by simp)
        subst hx'
        clear qA1 qA2 qB1 qB2 qC1 qC2 sA sB sC RA RB RC R3 en CH bi bij bj bji bA2 bB2 bC2 hN hgl q1 q2 ne1 ne2 KB AB b2 b3 BB hs3 cR hrow hok hdec hdec2 hnew hnd hx hown hls hch hch2 hz hlen hdl hk
        go_wp2_with (first | ((with_reducible refine Disk.wpList_store_eq rfl 82 (.tmp 8) (.tmp 17) rfl _ _ ?_ ?_ P.out ?_); (next => rfl); (next => rfl)))
        refine cC.mono ?_
        rintro e w4 ⟨r, rfl, hr, rfl⟩
        obtain rfl : r = false := by
          rcases r with _ | _
          · rfl
          · exact absurd (hr.1 rfl) HND.out
        clear hr cC
        go_wp2_with fail
        go_region_held3 (fun w' => w'.cell? ⟨w2.heap.size, 4, none⟩ = some (.slice y.A4 p'.pages.length y.c4) ∧ w'.cell? ⟨w2.heap.size, 5, none⟩ = some (.int .i64 p'.next))
          (with_reducible (first | exact K0.out | exact Ki.out | exact Kj.out | exact Kij.out | exact Kji.out | exact KA1.out | exact KA3.out | exact KA2.out | exact KB1.out | exact KB2.out | exact KC1.out | exact KC2.out))
          (first
            | ((with_reducible refine Page.step_append2_eq ?_ (.tmp 28) (.tmp 30) _ _ ?_ ?_ ?_ QA1.out ?_); (next => rfl); (next => rfl); (next => rfl); (next => rfl))
            | ((with_reducible refine Page.step_append2_eq ?_ (.tmp 32) (.tmp 35) _ _ ?_ ?_ ?_ QA2.out ?_); (next => rfl); (next => rfl); (next => rfl); (next => rfl))
            | ((with_reducible refine Page.step_append2_eq ?_ (.tmp 28) (.tmp 30) _ _ ?_ ?_ ?_ QB1.out ?_); (next => rfl); (next => rfl); (next => rfl); (next => rfl))
            | ((with_reducible refine Page.step_append2_eq ?_ (.tmp 32) (.tmp 35) _ _ ?_ ?_ ?_ QB2.out ?_); (next => rfl); (next => rfl); (next => rfl); (next => rfl))
            | ((with_reducible refine Page.step_append2_eq ?_ (.tmp 28) (.tmp 30) _ _ ?_ ?_ ?_ QC1.out ?_); (next => rfl); (next => rfl); (next => rfl); (next => rfl))
            | ((with_reducible refine Page.step_append2_eq ?_ (.tmp 32) (.tmp 35) _ _ ?_ ?_ ?_ QC2.out ?_); (next => rfl); (next => rfl); (next => rfl); (next => rfl)))
        all_goals
          go_wp2_with fail
          go_roundw
          case rel => first | exact ⟨done ++ [nx], xs ++ [(y.A4, y.c4, p'.pages)], p'.next, XA1, XA2, eA1, eA2, by rw [E1.out], by rw [E2.out], rfl, NA⟩ | exact ⟨done ++ [nx], xs ++ [(y.A4, y.c4, p'.pages)], p'.next, XB1, XB2, eB1, eB2, by rw [E1.out], by rw [E2.out], rfl, NB⟩ | exact ⟨done ++ [nx], xs ++ [(y.A4, y.c4, p'.pages)], p'.next, XC1, XC2, eC1, eC2, by rw [E1.out], by rw [E2.out], rfl, NC⟩
          case measure => have := HM.out; simp; omega
      · exact absurd hdec (hno p)
end Go.Proofs.YtboaamaneeodfaaGreat.Store
namespace Go.Proofs.YtboaamaneeodfaaGreat.Store
open Go.RowKit Gen
open Disk (St Dev Mod ptr)
open Page (Pg Lay PgOk PgRows pgC pgV Enc IsDec BytesAt)
open Pool (Po NAt PoAt La poC poV numV At takeP giveP backP Fresh PoolOk)

abbrev flatP (l : List (Pg × Lay)) : List Value := l.flatMap fun x => (pgC x.1 x.2).toList
/-- Pages in a row of the call's own. -/
def OwnPg (w : World) (B : Nat) (v : Value) (l : List (Pg × Lay)) : Prop := w.ownsRow B 82 11 v l.length (flatP l)
/-- Pages in a row. -/
def PgRow (w : World) (A : Option Addr) (l : List (Pg × Lay)) : Prop := l ≠ [] → ∃ b, A = some ⟨b, 0, none⟩ ∧ b < w.heap.size ∧ ∀ j, (h : j < l.length) → w.rangeAt b (j * 11) (pgC l[j].1 l[j].2).toList
theorem flatP_len : ∀ (l : List (Pg × Lay)), (flatP l).length = l.length * 11
  | [] => rfl
  | x :: l => by
    have := flatP_len l
    simp only [flatP, List.flatMap_cons, List.length_append, List.length_cons, List.length_nil] at this ⊢
    omega
theorem flatP_get : ∀ (l : List (Pg × Lay)) (j i : Nat) (h : j < l.length), i < 11 → (flatP l)[j * 11 + i]? = (pgC l[j].1 l[j].2).toList[i]?
  | [], _, _, h, _ => by simp at h
  | x :: l, 0, i, _, hi => by
    rw [flatP, List.flatMap_cons, Nat.zero_mul, Nat.zero_add, List.getElem?_append_left (by simp; exact hi)]
    rfl
  | x :: l, j + 1, i, h, hi => by
    have := flatP_get l j i (by simpa using h) hi
    rw [flatP, List.flatMap_cons, List.getElem?_append_right (by simp; omega)]
    rw [show (j + 1) * 11 + i - ((pgC x.1 x.2).toList).length = j * 11 + i by simp; omega]
    exact this
theorem OwnPg.nil (w : World) (B : Nat) : OwnPg w B (.slice none 0 0) [] := ⟨rfl, .inl ⟨rfl, rfl⟩⟩
theorem OwnPg.row {w : World} {B : Nat} {v : Value} {l : List (Pg × Lay)} (h : OwnPg w B v l) : ∃ A c, v = .slice A l.length c ∧ PgRow w A l := by
  obtain ⟨hl, ⟨rfl, hn⟩ | ⟨g, cap, cur, rfl, hg, hh, hnc, hcm, _, ht⟩⟩ := h
  · exact ⟨none, 0, by rw [hn], (fun hne => absurd (List.eq_nil_of_length_eq_zero hn) hne)⟩
  · refine ⟨some ⟨g, 0, none⟩, cap, rfl, fun _ => ⟨g, rfl, (Array.getElem?_eq_some_iff.1 hh).1, fun j hj i v hv => ?_⟩⟩
    have hi : i < 11 := by
      have := (List.getElem?_eq_some_iff.1 hv).1
      simpa using this
    rw [← flatP_get l j i hj hi] at hv
    rw [cell_of_row w g (j * 11 + i) cur _ _ hh, ← Array.getElem?_toList]
    have := (List.getElem?_eq_some_iff.1 hv).1
    rw [flatP_len] at this
    rw [← hv, ← ht, List.getElem?_take_of_lt this]
theorem OwnPg.below {w w' : World} {B lo : Nat} {v : Value} {l : List (Pg × Lay)} (h : OwnPg w B v l) (b : Below w.heap.size w w') (_ : lo = lo) : OwnPg w' B v l := by
  obtain ⟨hl, h | ⟨k, cap, cur, hv, hg, hh, h4, h5, h6, h7⟩⟩ := h
  · exact ⟨hl, .inl h⟩
  · exact ⟨hl, .inr ⟨k, cap, cur, hv, hg, by rw [b.block k (Array.getElem?_eq_some_iff.1 hh).1]; exact hh, h4, h5, h6, h7⟩⟩
theorem PgRow.below {w w' : World} {A : Option Addr} {l : List (Pg × Lay)} (h : PgRow w A l) (b : Below w.heap.size w w') : PgRow w' A l := fun hne => by
  obtain ⟨g, e, hlt, hc⟩ := h hne
  exact ⟨g, e, Nat.lt_of_lt_of_le hlt b.size, fun j hj i v hv => (World.cell?_of_block (w := w) (a := ⟨g, j * 11 + i, none⟩) (b.block g hlt)).trans (hc j hj i v hv)⟩
/-- A page in a row is read. -/
theorem load_row {w : World} {b : Nat} {p : Pg} {a : Lay} {o : Nat} (h : w.rangeAt b o (pgC p a).toList) : (Instr.loadAt 82 (.pointer (some ⟨b, o, none⟩))).run Tryz.prog w = .ok (pgV p a) w := by
  have := run_loadAt_mid (P := Tryz.prog) w b o 82 (pgC p a).toList _ h Tryz.underlying82 rfl (by simpa using size_page)
  simpa using this
theorem page_info : (Tryz.prog.info? 82).map (fun i => (i.zero, i.size, i.bytes)) = some (some (.agg pgZ), 11, 152) := by kernel_rfl
/-- One page more. -/
theorem append_page (W : World) (B : Nat) (v : Value) (l : List (Pg × Lay)) (h : OwnPg W B v l) (p : Pg) (a : Lay) (hn : l.length ≤ 1000) (hB : B ≤ W.heap.size) :
    ∃ v' W', (Builtin.append_ #[130, 130] 130 #[v, .slice (some ⟨W.heap.size, 0, none⟩) 1 1]).run Tryz.prog (W.alloc (.cells (pgC p a) 82)) = .ok v' W' ∧ OwnPg W' B v' (l ++ [(p, a)]) ∧ W.grownBy W' v.ownBlock ∧ (∀ k, v.ownBlock = some k → B ≤ k) := by
  obtain ⟨i0, hi, hzz⟩ := Option.map_eq_some_iff.1 page_info
  simp only [Prod.mk.injEq] at hzz
  obtain ⟨hz0, hz1, hz2⟩ := hzz
  have h0 := h
  have hnew := heap_alloc_last W (.cells (pgC p a) 82)
  have hg0 : W.grownBy (W.alloc (.cells (pgC p a) 82)) v.ownBlock := World.grownBy_alloc W _ _
  obtain ⟨v', W', h1, h2, h3, _, _⟩ := run_append_own_at (P := Tryz.prog) (W.alloc (.cells (pgC p a) 82)) B 130 130 82 i0 _ 11 152 Tryz.underlying130 hi hz0 hz1 hz2 rfl (by decide) v _ _ (World.ownsRow.alloc h _) ⟨W.heap.size, 0, none⟩ 1 1
    (pgC p a).toList rfl (fun j u hu => by
      have e : (⟨W.heap.size, 0, none⟩ : Addr).add j = ⟨W.heap.size, j, none⟩ := by unfold Addr.add; split <;> simp_all
      rw [e, cell_of_row _ _ j _ _ _ hnew]
      simpa using hu) (fun u hu => by
        have := page_one p a
        rw [Array.all_eq_true'] at this
        exact this u (by simpa using hu)) (by simp only [maxLen]; omega) (by omega) (by simp; omega)
  refine ⟨v', W', h1, ?_, hg0.trans h3, fun k hk => (World.ownsRow.lt h0 k hk).1⟩
  unfold OwnPg
  rw [List.length_append]
  simpa [flatP] using h2
theorem nan_any (x : Int) (w : World) : Calls Tryz.prog 108 #[.int .u64 x] w fun e w' => e = .returned (.bool false) ∧ w = w' := by
  have d1 : (x != x) = false := by simp
  go_enter Tryz.func108, Tryz.ntmps108
  go_wp2_with fail
  go_ret
  exact ⟨rfl, rfl⟩
def cmpN (x y : Nat) : Int := if x < y then -1 else if y < x then 1 else 0
theorem compare_any (x y : Nat) (w : World) : Calls Tryz.prog 76 #[.int .u64 (x : Int), .int .u64 (y : Int)] w fun e w' => e = .returned (.int .i64 (cmpN x y)) ∧ w = w' := by
  have n1 := nan_any (x : Int) w
  have n2 := nan_any (y : Int) w
  obtain ⟨z, hz⟩ : ∃ z, cmpN x y = z := ⟨_, rfl⟩
  rw [hz]
  rcases Nat.lt_trichotomy x y with h | h | h
  · obtain rfl : z = -1 := by rw [← hz, cmpN, if_pos h]
    clear hz
    go_enter Tryz.func76, Tryz.ntmps76
    go_wp2_with fail
    refine n1.mono ?_
    rintro e w1 ⟨rfl, rfl⟩
    go_wp2_with fail
    refine n2.mono ?_
    rintro e w1 ⟨rfl, rfl⟩
    go_wp2_with fail
    go_ret
    exact ⟨rfl, rfl⟩
  · subst h
    obtain rfl : z = 0 := by rw [← hz, cmpN, if_neg (Nat.lt_irrefl _), if_neg (Nat.lt_irrefl _)]
    clear hz n2
    have h1 : ¬ x < x := Nat.lt_irrefl _
    go_enter Tryz.func76, Tryz.ntmps76
    go_wp2_with fail
    refine n1.mono ?_
    rintro e w1 ⟨rfl, rfl⟩
    go_wp2_with fail
    refine n1.mono ?_
    rintro e w1 ⟨rfl, rfl⟩
    go_wp2_with fail
    go_ret
    exact ⟨rfl, rfl⟩
  · obtain rfl : z = 1 := by rw [← hz, cmpN, if_neg (by omega), if_pos h]
    clear hz
    have h1 : ¬ x < y := by omega
    go_enter Tryz.func76, Tryz.ntmps76
    go_wp2_with fail
    refine n1.mono ?_
    rintro e w1 ⟨rfl, rfl⟩
    go_wp2_with fail
    refine n2.mono ?_
    rintro e w1 ⟨rfl, rfl⟩
    go_wp2_with fail
    go_ret
    exact ⟨rfl, rfl⟩
set_option maxRecDepth 100000 in
theorem elder_any (p q : Pg) (a b : Lay) (w : World) : Calls Tryz.prog 75 #[pgV p a, pgV q b] w fun e w' => e = .returned (.int .i64 (cmpN p.epoch q.epoch)) ∧ Below w.heap.size w w' := by
  have b1 := Pool.below_box w (.cells (pgC p a) 82)
  have b2 := Pool.below_box (w.alloc (.cells (pgC p a) 82)) (.cells (pgC q b) 82)
  have A1 := (at_new w (pgC p a) 82).below b2 (at_new w (pgC p a) 82).1
  have A2 := at_new (w.alloc (.cells (pgC p a) 82)) (pgC q b) 82
  rw [World.size_alloc] at A2
  have k1 := A1.2.2 6 (.int .u64 (p.epoch : Int)) rfl
  have k2 := A2.2.2 6 (.int .u64 (q.epoch : Int)) rfl
  have BB := Lib.hid (b1.trans (b2.mono b1.size))
  have cC := compare_any p.epoch q.epoch ((w.alloc (.cells (pgC p a) 82)).alloc (.cells (pgC q b) 82))
  clear b1 b2 A1 A2
  go_enter Tryz.func75, Tryz.ntmps75
  generalize hp : pgC p a = P at *
  generalize hq : pgC q b = Q at *
  go_wp2_with (first
    | ((with_reducible refine Disk.wpList_box_eq rfl 82 (.tmp 0) rfl P ?_ ?_); (next => rfl))
    | ((with_reducible refine Disk.wpList_box_eq rfl 82 (.tmp 1) rfl Q ?_ ?_); (next => rfl)))
  refine cC.mono ?_
  rintro e w1 ⟨rfl, rfl⟩
  go_wp2_with fail
  go_ret
  exact ⟨rfl, BB.out⟩
end Go.Proofs.YtboaamaneeodfaaGreat.Store
namespace Go.Proofs.YtboaamaneeodfaaGreat.Store
open Go.RowKit Gen
open Disk (St Dev Mod ptr)
open Page (Pg Lay PgOk PgRows pgC pgV Enc IsDec BytesAt)
open Pool (Po NAt PoAt La poC poV numV At takeP giveP backP Fresh PoolOk)

abbrev elderF : Value := .func (.func 75) #[] #[]
set_option maxRecDepth 100000 in
set_option maxHeartbeats 4000000 in
theorem max_one {w : World} {b : Nat} {c : Nat} {p : Pg} {y : Lay} (hlt : b < w.heap.size) (h : w.rangeAt b 0 (pgC p y).toList) :
    Calls Tryz.prog 74 #[.slice (some ⟨b, 0, none⟩) 1 c, elderF] w (fun e w' => e = .returned (pgV p y) ∧ Below w.heap.size w w') := by
  have b1 := Pool.below_box w (.cells pgZ 82)
  have L1 := Lib.hid (load_row (o := 0) (w := w.alloc (.cells pgZ 82)) (b := b) (p := p) (a := y) (fun i v hv => (b1.cell (p := ⟨b, 0 + i, none⟩) hlt).trans (h i v hv)))
  have P1 := Lib.hid (put_page (w.alloc (.cells pgZ 82)) p y)
  have b2 := Pool.below_box (w.alloc (.cells pgZ 82)) (.cells (pgC p y) 82)
  have A1 := at_new w pgZ 82
  have A2 := at_new (w.alloc (.cells pgZ 82)) (pgC p y) 82
  have B1 := Lib.hid (b1.trans (b2.mono b1.size))
  have A3 := A1.below b2 A1.1
  have R := Lib.hid (store_page (o := 0) A3 p y (by simp))
  have A4 := at_over (vs := (pgC p y).toList) (C' := pgC p y) (o := 0) A3 (by simp) rfl
  have L2 := Lib.hid (load_page (o := 0) A2 p y rfl)
  have L3 := Lib.hid (var_page (o := 0) A4 p y rfl)
  have B4 := Lib.hid (B1.out.grown (grown_puts (pgC p y).toList 0 _ w.heap.size) B1.out.size (fun k hk => by cases hk; exact Nat.le_refl _))
  have hsz : (w.alloc (.cells pgZ 82)).heap.size = w.heap.size + 1 := World.size_alloc _ _
  rw [hsz] at P1 L2
  clear b1 b2 A1 A2 A3 A4 h hlt hsz B1
  obtain ⟨pv, hpv⟩ : ∃ pv, pgV p y = pv := ⟨_, rfl⟩
  rw [hpv] at L1 P1 R L2 L3 ⊢
  generalize hW2 : ((w.alloc (.cells pgZ 82)).alloc (.cells (pgC p y) 82)) = W2 at *
  generalize W2.setCells w.heap.size 0 (pgC p y).toList = W4 at *
  go_enter Tryz.func74, Tryz.ntmps74
  go_wp2_with (first | ((with_reducible refine Disk.wpList_load_eq rfl 82 (.tmp 12) rfl _ ?_ L1.out ?_); (next => rfl)) | ((with_reducible refine Disk.wpList_store_eq rfl 82 (.tmp 5) (.tmp 13) rfl _ _ ?_ ?_ P1.out ?_); (next => rfl); (next => rfl)))
  go_loopw [6] (fun i wr => i = .int .i64 1 ∧ wr = W2) (fun _ _ => 0)
  case atStart => exact ⟨rfl, rfl⟩
  case round =>
    obtain ⟨rfl, rfl⟩ := hrel
    go_wp2_with (first | ((with_reducible refine Disk.wpList_load_eq rfl 82 (.tmp 5) rfl _ ?_ L2.out ?_); (next => rfl)) | ((with_reducible refine Disk.wpList_store_eq rfl 82 (.tmp 4) (.tmp 32) rfl _ _ ?_ ?_ R.out ?_); (next => rfl); (next => rfl)))
    refine bodyPost_ret (results_c rfl rfl L3.out) rfl ?_
    exact ⟨rfl, B4.out⟩

theorem row_cells {w : World} {b o : Nat} {C : Array Value} (h : w.rangeAt b o C.toList) (i : Nat) (v : Value) (hv : C[i]? = some v) : w.cell? ⟨b, o + i, none⟩ = some v := h i v (by rw [Array.getElem?_toList]; exact hv)
/-- The compared pages, as cells. -/
theorem two_cells {w : World} {b g : Nat} {p q : Pg} {y z : Lay} (h : w.rangeAt b 11 (pgC q z).toList) (k : At w g (pgC p y)) : w.cell? ⟨b, 11, none⟩ = some (.int .i64 q.kind) ∧ w.cell? ⟨b, 12, none⟩ = some (.slice z.A1 q.pairs.length z.c1) ∧ w.cell? ⟨b, 13, none⟩ = some (.slice z.A2 q.keys.length z.c2) ∧ w.cell? ⟨b, 14, none⟩ = some (.slice z.A3 q.kids.length z.c3) ∧ w.cell? ⟨b, 15, none⟩ = some (.slice z.A4 q.pages.length z.c4) ∧ w.cell? ⟨b, 16, none⟩ = some (.int .i64 q.next) ∧ w.cell? ⟨b, 17, none⟩ = some (.int .u64 (q.epoch : Int)) ∧ w.cell? ⟨b, 18, none⟩ = some (.int .i64 q.root) ∧ w.cell? ⟨b, 19, none⟩ = some (.int .i64 q.depth) ∧ w.cell? ⟨b, 20, none⟩ = some (.int .i64 q.count) ∧ w.cell? ⟨b, 21, none⟩ = some (.int .i64 q.high) ∧ w.cell? ⟨g, 0, none⟩ = some (.int .i64 p.kind) ∧ w.cell? ⟨g, 1, none⟩ = some (.slice y.A1 p.pairs.length y.c1) ∧ w.cell? ⟨g, 2, none⟩ = some (.slice y.A2 p.keys.length y.c2) ∧ w.cell? ⟨g, 3, none⟩ = some (.slice y.A3 p.kids.length y.c3) ∧ w.cell? ⟨g, 4, none⟩ = some (.slice y.A4 p.pages.length y.c4) ∧ w.cell? ⟨g, 5, none⟩ = some (.int .i64 p.next) ∧ w.cell? ⟨g, 6, none⟩ = some (.int .u64 (p.epoch : Int)) ∧ w.cell? ⟨g, 7, none⟩ = some (.int .i64 p.root) ∧ w.cell? ⟨g, 8, none⟩ = some (.int .i64 p.depth) ∧ w.cell? ⟨g, 9, none⟩ = some (.int .i64 p.count) ∧ w.cell? ⟨g, 10, none⟩ = some (.int .i64 p.high) :=
  ⟨row_cells h 0 _ rfl, row_cells h 1 _ rfl, row_cells h 2 _ rfl, row_cells h 3 _ rfl, row_cells h 4 _ rfl, row_cells h 5 _ rfl, row_cells h 6 _ rfl, row_cells h 7 _ rfl, row_cells h 8 _ rfl, row_cells h 9 _ rfl, row_cells h 10 _ rfl, k.2.2 0 _ rfl, k.2.2 1 _ rfl, k.2.2 2 _ rfl, k.2.2 3 _ rfl, k.2.2 4 _ rfl, k.2.2 5 _ rfl, k.2.2 6 _ rfl, k.2.2 7 _ rfl, k.2.2 8 _ rfl, k.2.2 9 _ rfl, k.2.2 10 _ rfl⟩
theorem range_below {w w' : World} {b o : Nat} {cs : List Value} (h : w.rangeAt b o cs) (hb : b < w.heap.size) (B : Below w.heap.size w w') : w'.rangeAt b o cs := fun i v hv => (B.cell (p := ⟨b, o + i, none⟩) hb).trans (h i v hv)
theorem cmp_pos (x y : Nat) : (cmpN x y > 0) ↔ y < x := by
  unfold cmpN
  split
  · constructor <;> intro h <;> omega
  · split
    · constructor <;> intro h <;> omega
    · constructor <;> intro h <;> omega
set_option maxRecDepth 100000 in
set_option maxHeartbeats 8000000 in
theorem max_two {w : World} {b : Nat} {c : Nat} {p q : Pg} {y z : Lay} (hlt : b < w.heap.size) (h0 : w.rangeAt b 0 (pgC p y).toList) (h1 : w.rangeAt b 11 (pgC q z).toList) :
    Calls Tryz.prog 74 #[.slice (some ⟨b, 0, none⟩) 2 c, elderF] w (fun e w' => ((e = .returned (pgV p y) ∧ q.epoch ≤ p.epoch) ∨ (e = .returned (pgV q z) ∧ p.epoch < q.epoch)) ∧ Below w.heap.size w w') := by
  have b1 := Pool.below_box w (.cells pgZ 82)
  have L1 := Lib.hid (load_row (o := 0) (w := w.alloc (.cells pgZ 82)) (b := b) (p := p) (a := y) (range_below h0 hlt b1))
  have P1 := Lib.hid (put_page (w.alloc (.cells pgZ 82)) p y)
  have b2 := Pool.below_box (w.alloc (.cells pgZ 82)) (.cells (pgC p y) 82)
  have A1 := at_new w pgZ 82
  have A2 := at_new (w.alloc (.cells pgZ 82)) (pgC p y) 82
  have B1 := Lib.hid (b1.trans (b2.mono b1.size))
  have A3 := Lib.hid (A1.below b2 A1.1)
  have hsz : (w.alloc (.cells pgZ 82)).heap.size = w.heap.size + 1 := World.size_alloc _ _
  rw [hsz] at P1 A2
  have A2H := Lib.hid A2
  have R1 := Lib.hid (range_below h1 hlt B1.out)
  have HLT := Lib.hid hlt
  clear b1 b2 A1 A2 h0 h1 hlt hsz
  obtain ⟨pv, hpv⟩ : ∃ pv, pgV p y = pv := ⟨_, rfl⟩
  have PV := Lib.hid hpv
  rw [hpv] at L1 P1
  clear hpv
  obtain ⟨W2, hW2⟩ : ∃ W2, (w.alloc (.cells pgZ 82)).alloc (.cells (pgC p y) 82) = W2 := ⟨_, rfl⟩
  rw [hW2] at P1 A3 A2H B1 R1
  clear hW2
  generalize hg : w.heap.size + 1 = g at *
  go_enter Tryz.func74, Tryz.ntmps74
  go_wp2_with (first | ((with_reducible refine Disk.wpList_load_eq rfl 82 (.tmp 12) rfl _ ?_ L1.out ?_); (next => rfl)) | ((with_reducible refine Disk.wpList_store_eq rfl 82 (.tmp 5) (.tmp 13) rfl _ _ ?_ ?_ P1.out ?_); (next => rfl); (next => rfl)))
  go_loopw [6] (fun i wr => (i = .int .i64 1 ∧ wr = W2) ∨ (i = .int .i64 2 ∧ ∃ r u, Hid (Below w.heap.size w wr ∧ At wr w.heap.size pgZ ∧ At wr g (pgC r u) ∧ ((pgV r u = pgV p y ∧ q.epoch ≤ p.epoch) ∨ (pgV r u = pgV q z ∧ p.epoch < q.epoch))))) (fun i _ => 2 - (intOf i).toNat)
  case atStart => exact .inl ⟨rfl, rfl⟩
  case round =>
    rcases hrel with ⟨rfl, rfl⟩ | ⟨rfl, r, u, hrel⟩
    · have bD : Below wr.heap.size wr wr.drew := (Below.refl _ _).drew
      have KS : ∀ w', Below wr.heap.size wr w' → w'.cell? ⟨b, 11, none⟩ = some (.int .i64 q.kind) ∧ w'.cell? ⟨b, 12, none⟩ = some (.slice z.A1 q.pairs.length z.c1) ∧ w'.cell? ⟨b, 13, none⟩ = some (.slice z.A2 q.keys.length z.c2) ∧ w'.cell? ⟨b, 14, none⟩ = some (.slice z.A3 q.kids.length z.c3) ∧ w'.cell? ⟨b, 15, none⟩ = some (.slice z.A4 q.pages.length z.c4) ∧ w'.cell? ⟨b, 16, none⟩ = some (.int .i64 q.next) ∧ w'.cell? ⟨b, 17, none⟩ = some (.int .u64 (q.epoch : Int)) ∧ w'.cell? ⟨b, 18, none⟩ = some (.int .i64 q.root) ∧ w'.cell? ⟨b, 19, none⟩ = some (.int .i64 q.depth) ∧ w'.cell? ⟨b, 20, none⟩ = some (.int .i64 q.count) ∧ w'.cell? ⟨b, 21, none⟩ = some (.int .i64 q.high) ∧ w'.cell? ⟨g, 0, none⟩ = some (.int .i64 p.kind) ∧ w'.cell? ⟨g, 1, none⟩ = some (.slice y.A1 p.pairs.length y.c1) ∧ w'.cell? ⟨g, 2, none⟩ = some (.slice y.A2 p.keys.length y.c2) ∧ w'.cell? ⟨g, 3, none⟩ = some (.slice y.A3 p.kids.length y.c3) ∧ w'.cell? ⟨g, 4, none⟩ = some (.slice y.A4 p.pages.length y.c4) ∧ w'.cell? ⟨g, 5, none⟩ = some (.int .i64 p.next) ∧ w'.cell? ⟨g, 6, none⟩ = some (.int .u64 (p.epoch : Int)) ∧ w'.cell? ⟨g, 7, none⟩ = some (.int .i64 p.root) ∧ w'.cell? ⟨g, 8, none⟩ = some (.int .i64 p.depth) ∧ w'.cell? ⟨g, 9, none⟩ = some (.int .i64 p.count) ∧ w'.cell? ⟨g, 10, none⟩ = some (.int .i64 p.high) := fun w' hb => two_cells (range_below R1.out (Nat.lt_of_lt_of_le HLT.out B1.out.size) hb) (A2H.out.below hb A2H.out.1)
      have K0 := Lib.hid (KS _ bD)
      have HKS := Lib.hid KS
      have cE := elder_any q p z y wr.drew
      unfold pgV pgC at cE
      have eg : ∀ args w, (callFunc 75 args).run Tryz.prog w = .ok (.enter 75 args) w := fun args w => enters_of Tryz.func75 (by kernel_rfl) rfl args w
      have BD := Lib.hid bD
      obtain ⟨cz, hcz⟩ : ∃ cz, cmpN q.epoch p.epoch = cz := ⟨_, rfl⟩
      rw [hcz] at cE
      have CZ := Lib.hid (show 0 < cz ↔ p.epoch < q.epoch from by rw [← hcz]; exact cmp_pos _ _)
      clear KS bD hcz L1 P1
      by_cases hgt : 0 < cz
      · have d1 : decide (0 < cz) = true := decide_eq_true hgt
        have HGT := Lib.hid (CZ.out.1 hgt)
        clear CZ hgt
        go_wp2_with fail
        go_region_held3 (fun w' => w'.cell? ⟨b, 11, none⟩ = some (.int .i64 q.kind) ∧ w'.cell? ⟨b, 12, none⟩ = some (.slice z.A1 q.pairs.length z.c1) ∧ w'.cell? ⟨b, 13, none⟩ = some (.slice z.A2 q.keys.length z.c2) ∧ w'.cell? ⟨b, 14, none⟩ = some (.slice z.A3 q.kids.length z.c3) ∧ w'.cell? ⟨b, 15, none⟩ = some (.slice z.A4 q.pages.length z.c4) ∧ w'.cell? ⟨b, 16, none⟩ = some (.int .i64 q.next) ∧ w'.cell? ⟨b, 17, none⟩ = some (.int .u64 (q.epoch : Int)) ∧ w'.cell? ⟨b, 18, none⟩ = some (.int .i64 q.root) ∧ w'.cell? ⟨b, 19, none⟩ = some (.int .i64 q.depth) ∧ w'.cell? ⟨b, 20, none⟩ = some (.int .i64 q.count) ∧ w'.cell? ⟨b, 21, none⟩ = some (.int .i64 q.high) ∧ w'.cell? ⟨g, 0, none⟩ = some (.int .i64 p.kind) ∧ w'.cell? ⟨g, 1, none⟩ = some (.slice y.A1 p.pairs.length y.c1) ∧ w'.cell? ⟨g, 2, none⟩ = some (.slice y.A2 p.keys.length y.c2) ∧ w'.cell? ⟨g, 3, none⟩ = some (.slice y.A3 p.kids.length y.c3) ∧ w'.cell? ⟨g, 4, none⟩ = some (.slice y.A4 p.pages.length y.c4) ∧ w'.cell? ⟨g, 5, none⟩ = some (.int .i64 p.next) ∧ w'.cell? ⟨g, 6, none⟩ = some (.int .u64 (p.epoch : Int)) ∧ w'.cell? ⟨g, 7, none⟩ = some (.int .i64 p.root) ∧ w'.cell? ⟨g, 8, none⟩ = some (.int .i64 p.depth) ∧ w'.cell? ⟨g, 9, none⟩ = some (.int .i64 p.count) ∧ w'.cell? ⟨g, 10, none⟩ = some (.int .i64 p.high))
          (with_reducible (first | exact K0.out | exact K1.out))
          (first
            | (go_at_fn 75; (with_reducible refine cE.mono ?_); rintro e w3 ⟨rfl, hb⟩
               have B3 := Lib.hid (BD.out.trans hb)
               have K1 := Lib.hid (HKS.out _ B3.out)
               clear hb))
        have L3 := Lib.hid (load_row (range_below R1.out (Nat.lt_of_lt_of_le HLT.out B1.out.size) B3.out))
        have AB := Lib.hid (A2H.out.below B3.out A2H.out.1)
        have R3 := Lib.hid (store_page (o := 0) AB.out q z (by simp))
        have A4 := Lib.hid (at_over (vs := (pgC q z).toList) (C' := pgC q z) (o := 0) AB.out (by simp) rfl)
        have G4 := grown_puts (pgC q z).toList 0 w3 g
        have BB := B1.out.trans (B3.out.mono B1.out.size)
        have B4 := Lib.hid (BB.grown G4 BB.size (fun k hk => by cases hk; omega))
        have AZ := A3.out.below B3.out A3.out.1
        have A5 := Lib.hid (at_mod AZ ((Mod.refl [g] _).grown G4 (fun k hk => .inl (by cases hk; simp))) (by simp; omega))
        have NEW := Lib.hid (show Below w.heap.size w (w3.setCells g 0 (pgC q z).toList) ∧ At (w3.setCells g 0 (pgC q z).toList) w.heap.size pgZ ∧ At (w3.setCells g 0 (pgC q z).toList) g (pgC q z) ∧ ((pgV q z = pgV p y ∧ q.epoch ≤ p.epoch) ∨ (pgV q z = pgV q z ∧ p.epoch < q.epoch)) from ⟨B4.out, A5.out, A4.out, .inr ⟨rfl, HGT.out⟩⟩)
        generalize hW9 : w3.setCells g 0 (pgC q z).toList = W9 at *
        clear K0 K1 HKS cE AB AZ A4 A5 B4 G4 BB B3 hW9 BD
        generalize hqv : pgV q z = qv at L3 R3
        clear hqv
        go_wp2_with (first | ((with_reducible refine Disk.wpList_load_eq rfl 82 (.tmp 30) rfl _ ?_ L3.out ?_); (next => rfl)) | ((with_reducible refine Disk.wpList_store_eq rfl 82 (.tmp 5) (.tmp 31) rfl _ _ ?_ ?_ R3.out ?_); (next => rfl); (next => rfl)))
        go_roundw
        case rel => exact .inr ⟨rfl, q, z, NEW⟩
        case measure => simp [intOf]
      · have d1 : decide (0 < cz) = false := decide_eq_false hgt
        have HGT := Lib.hid (show q.epoch ≤ p.epoch from by have := CZ.out; omega)
        clear CZ hgt
        go_wp2_with fail
        go_region_held3 (fun w' => w'.cell? ⟨b, 11, none⟩ = some (.int .i64 q.kind) ∧ w'.cell? ⟨b, 12, none⟩ = some (.slice z.A1 q.pairs.length z.c1) ∧ w'.cell? ⟨b, 13, none⟩ = some (.slice z.A2 q.keys.length z.c2) ∧ w'.cell? ⟨b, 14, none⟩ = some (.slice z.A3 q.kids.length z.c3) ∧ w'.cell? ⟨b, 15, none⟩ = some (.slice z.A4 q.pages.length z.c4) ∧ w'.cell? ⟨b, 16, none⟩ = some (.int .i64 q.next) ∧ w'.cell? ⟨b, 17, none⟩ = some (.int .u64 (q.epoch : Int)) ∧ w'.cell? ⟨b, 18, none⟩ = some (.int .i64 q.root) ∧ w'.cell? ⟨b, 19, none⟩ = some (.int .i64 q.depth) ∧ w'.cell? ⟨b, 20, none⟩ = some (.int .i64 q.count) ∧ w'.cell? ⟨b, 21, none⟩ = some (.int .i64 q.high) ∧ w'.cell? ⟨g, 0, none⟩ = some (.int .i64 p.kind) ∧ w'.cell? ⟨g, 1, none⟩ = some (.slice y.A1 p.pairs.length y.c1) ∧ w'.cell? ⟨g, 2, none⟩ = some (.slice y.A2 p.keys.length y.c2) ∧ w'.cell? ⟨g, 3, none⟩ = some (.slice y.A3 p.kids.length y.c3) ∧ w'.cell? ⟨g, 4, none⟩ = some (.slice y.A4 p.pages.length y.c4) ∧ w'.cell? ⟨g, 5, none⟩ = some (.int .i64 p.next) ∧ w'.cell? ⟨g, 6, none⟩ = some (.int .u64 (p.epoch : Int)) ∧ w'.cell? ⟨g, 7, none⟩ = some (.int .i64 p.root) ∧ w'.cell? ⟨g, 8, none⟩ = some (.int .i64 p.depth) ∧ w'.cell? ⟨g, 9, none⟩ = some (.int .i64 p.count) ∧ w'.cell? ⟨g, 10, none⟩ = some (.int .i64 p.high))
          (with_reducible (first | exact K0.out | exact K1.out))
          (first
            | (go_at_fn 75; (with_reducible refine cE.mono ?_); rintro e w3 ⟨rfl, hb⟩
               have B3 := Lib.hid (BD.out.trans hb)
               have K1 := Lib.hid (HKS.out _ B3.out)
               clear hb))
        have NEW := Lib.hid (show Below w.heap.size w w3 ∧ At w3 w.heap.size pgZ ∧ At w3 g (pgC p y) ∧ ((pgV p y = pgV p y ∧ q.epoch ≤ p.epoch) ∨ (pgV p y = pgV q z ∧ p.epoch < q.epoch)) from ⟨B1.out.trans (B3.out.mono B1.out.size), A3.out.below B3.out A3.out.1, A2H.out.below B3.out A2H.out.1, .inl ⟨rfl, HGT.out⟩⟩)
        clear K0 K1 HKS cE B3 BD
        go_wp2_with fail
        go_roundw
        case rel => exact .inr ⟨rfl, p, y, NEW⟩
        case measure => simp [intOf]
    · have L2 := Lib.hid (load_page (o := 0) hrel.out.2.2.1 r u rfl)
      have R := Lib.hid (store_page (o := 0) hrel.out.2.1 r u (by simp))
      have A4 := at_over (vs := (pgC r u).toList) (C' := pgC r u) (o := 0) hrel.out.2.1 (by simp) rfl
      have L3 := Lib.hid (var_page (o := 0) A4 r u rfl)
      have B4 := Lib.hid (hrel.out.1.grown (grown_puts (pgC r u).toList 0 wr w.heap.size) hrel.out.1.size (fun k hk => by cases hk; exact Nat.le_refl _))
      have FIN := Lib.hid hrel.out.2.2.2
      clear A4 hrel L1 P1
      generalize wr.setCells w.heap.size 0 (pgC r u).toList = W9 at *
      obtain ⟨rv, hrv⟩ : ∃ rv, pgV r u = rv := ⟨_, rfl⟩
      rw [hrv] at L2 R L3 FIN
      go_wp2_with (first | ((with_reducible refine Disk.wpList_load_eq rfl 82 (.tmp 5) rfl _ ?_ L2.out ?_); (next => rfl)) | ((with_reducible refine Disk.wpList_store_eq rfl 82 (.tmp 4) (.tmp 32) rfl _ _ ?_ ?_ R.out ?_); (next => rfl); (next => rfl)))
      refine bodyPost_ret (results_c rfl rfl L3.out) rfl ?_
      refine ⟨?_, B4.out⟩
      rcases FIN.out with ⟨e, h⟩ | ⟨e, h⟩
      · exact .inl ⟨by rw [e], h⟩
      · exact .inr ⟨by rw [e], h⟩
end Go.Proofs.YtboaamaneeodfaaGreat.Store
