/-
  Lists of sectors with their bytes, as they lie in memory; one more at the end; sectors in order.
-/
import Derived.Test.YtoldkhfnebjacaaDRestart
import Derived.Maps.AppendAt
namespace Go.Proofs.Ytoldkhfnebjacaa.Disk
open Go.RowKit Go.Maps Gen

def listOf (N : Nat) (f : Int → Option Bs) : List (Int × Bs) := (List.range N).filterMap fun i : Nat => (f (i : Int)).map fun l => ((i : Int), l)
def keysOf (N : Nat) (f : Int → Option Bs) : List Int := (listOf N f).map (·.1)
theorem mem_listOf {N : Nat} {f : Int → Option Bs} {x : Int} {l : Bs} : (x, l) ∈ listOf N f ↔ f x = some l ∧ 0 ≤ x ∧ x < N := by
  simp only [listOf, List.mem_filterMap, List.mem_range, Option.map_eq_some_iff, Prod.mk.injEq]
  constructor
  · rintro ⟨i, hi, m, hm, rfl, rfl⟩
    exact ⟨hm, by omega, by omega⟩
  · rintro ⟨h, h0, h1⟩
    exact ⟨x.toNat, by omega, l, by rw [show ((x.toNat : Nat) : Int) = x by omega]; exact h, by omega, rfl⟩
theorem listOf_sorted (N : Nat) (f : Int → Option Bs) : (listOf N f).Pairwise (fun p q => p.1 < q.1) := by
  unfold listOf
  rw [List.pairwise_filterMap]
  refine List.Pairwise.imp (fun {i j} hij p hp q hq => ?_) List.pairwise_lt_range
  obtain ⟨_, _, rfl⟩ := Option.map_eq_some_iff.1 hp
  obtain ⟨_, _, rfl⟩ := Option.map_eq_some_iff.1 hq
  simp only
  omega
theorem keysOf_sorted (N : Nat) (f : Int → Option Bs) : (keysOf N f).Pairwise (· < ·) := by
  unfold keysOf
  rw [List.pairwise_map]
  exact listOf_sorted N f
theorem mem_keysOf {N : Nat} {f : Int → Option Bs} {x : Int} : x ∈ keysOf N f ↔ (∃ l, f x = some l) ∧ 0 ≤ x ∧ x < N := by
  simp only [keysOf, List.mem_map]
  constructor
  · rintro ⟨⟨y, l⟩, h, rfl⟩
    have := mem_listOf.1 h
    exact ⟨⟨l, this.1⟩, this.2⟩
  · rintro ⟨⟨l, h⟩, h2⟩
    exact ⟨(x, l), mem_listOf.2 ⟨h, h2⟩, rfl⟩
theorem listOf_get {N : Nat} {f : Int → Option Bs} {k : Nat} (h : k < (listOf N f).length) : f (listOf N f)[k].1 = some (listOf N f)[k].2 ∧ 0 ≤ (listOf N f)[k].1 ∧ (listOf N f)[k].1 < N :=
  mem_listOf.1 (List.getElem_mem h)
theorem listOf_le (N : Nat) (f : Int → Option Bs) : (listOf N f).length ≤ N := by
  have := List.length_filterMap_le (fun i : Nat => (f (i : Int)).map fun l => ((i : Int), l)) (List.range N)
  simpa [listOf] using this
theorem keysOf_len (N : Nat) (f : Int → Option Bs) : (keysOf N f).length = (listOf N f).length := by simp [keysOf]
/-- Two lists that rise, with the same members, are one. -/
theorem rising_ext : ∀ (a b : List Int), a.Pairwise (· < ·) → b.Pairwise (· < ·) → (∀ x, x ∈ a ↔ x ∈ b) → a = b
  | [], [], _, _, _ => rfl
  | [], y :: b, _, _, h => absurd ((h y).2 (List.mem_cons_self ..)) (by simp)
  | x :: a, [], _, _, h => absurd ((h x).1 (List.mem_cons_self ..)) (by simp)
  | x :: a, y :: b, ha, hb, h => by
    rw [List.pairwise_cons] at ha hb
    have e : x = y := by
      have h1 := (h x).1 (List.mem_cons_self ..)
      have h2 := (h y).2 (List.mem_cons_self ..)
      rcases List.mem_cons.1 h1 with e | h1
      · exact e
      · rcases List.mem_cons.1 h2 with e | h2
        · exact e.symm
        · have := hb.1 x h1
          have := ha.1 y h2
          omega
    subst e
    rw [rising_ext a b ha.2 hb.2 (fun z => ?_)]
    constructor
    · intro hz
      rcases List.mem_cons.1 ((h z).1 (List.mem_cons_of_mem _ hz)) with e | h2
      · have := ha.1 z hz; omega
      · exact h2
    · intro hz
      rcases List.mem_cons.1 ((h z).2 (List.mem_cons_of_mem _ hz)) with e | h2
      · have := hb.1 z hz; omega
      · exact h2
theorem sorted_keys (N : Nat) (f : Int → Option Bs) (ss : List Int) (hn : ss.Nodup) (hm : ∀ x, x ∈ ss ↔ x ∈ keysOf N f) : ss.mergeSort (fun x y => decide (x ≤ y)) = keysOf N f := by
  have hp := List.pairwise_mergeSort (le := fun x y : Int => decide (x ≤ y)) (fun a b c h1 h2 => by simp at h1 h2 ⊢; omega) (fun a b => by simp; omega) ss
  have hd : (ss.mergeSort (fun x y => decide (x ≤ y))).Nodup := (List.mergeSort_perm ss _).nodup_iff.2 hn
  refine rising_ext _ _ ?_ (keysOf_sorted N f) (fun x => by rw [List.mem_mergeSort]; exact hm x)
  refine List.Pairwise.imp_of_mem (fun {a b} _ _ h => h) (List.Pairwise.imp (fun {a b} h => ?_) (List.Pairwise.and hp hd))
  obtain ⟨h1, h2⟩ := h
  simp at h1
  omega

/-- A list of sectors with their bytes, in memory. -/
def Kepts (w : World) (v : Value) (l : List (Int × Bs)) : Prop :=
  ∃ A c, v = .slice A l.length c ∧ (A = none → c = 0) ∧ l.length ≤ c ∧ c ≤ maxLen ∧ (l ≠ [] → ∃ b off, A = some ⟨b, off, none⟩ ∧ b < w.heap.size ∧ ∀ j (h : j < l.length), w.cell? ⟨b, off + 2 * j, none⟩ = some (.int .i64 l[j].1) ∧
    ∃ A' c', w.cell? ⟨b, off + (2 * j + 1), none⟩ = some (.slice A' l[j].2.length c') ∧ BRow w A' l[j].2)
theorem Kepts.below {w w' : World} {v : Value} {l : List (Int × Bs)} (h : Kepts w v l) (hb : Below w.heap.size w w') : Kepts w' v l := by
  obtain ⟨A, c, e, h1, h2, h3, h4⟩ := h
  refine ⟨A, c, e, h1, h2, h3, fun hne => ?_⟩
  obtain ⟨b, off, ha, hlt, hc⟩ := h4 hne
  refine ⟨b, off, ha, Nat.lt_of_lt_of_le hlt hb.size, fun j hj => ?_⟩
  obtain ⟨c1, A', c', c2, hr⟩ := hc j hj
  exact ⟨(hb.cell (p := ⟨b, off + 2 * j, none⟩) hlt).trans c1, A', c', (hb.cell (p := ⟨b, off + (2 * j + 1), none⟩) hlt).trans c2, hr.below hb⟩
theorem Kepts.nil (w : World) : Kepts w (.slice none 0 0) [] := ⟨none, 0, rfl, fun _ => rfl, Nat.le_refl _, Nat.zero_le _, fun h => absurd rfl h⟩
/-- .. the call's own, to which more are added. -/
def OwnK (w : World) (B : Nat) (v : Value) (l : List (Int × Bs)) : Prop :=
  ∃ cs : List Value, w.ownsRow B 45 2 v l.length cs ∧ ∀ j (h : j < l.length), cs[2 * j]? = some (.int .i64 l[j].1) ∧ ∃ A' c', cs[2 * j + 1]? = some (.slice A' l[j].2.length c') ∧ BRow w A' l[j].2 ∧ (l[j].2 ≠ [] → ∀ a, A' = some a → some a.block ≠ v.ownBlock)
theorem OwnK.nil (w : World) (B : Nat) : OwnK w B (.slice none 0 0) [] := ⟨[], ⟨rfl, .inl ⟨rfl, rfl⟩⟩, fun j h => by simp at h⟩
theorem OwnK.kepts {w : World} {B : Nat} {v : Value} {l : List (Int × Bs)} (h : OwnK w B v l) : Kepts w v l := by
  obtain ⟨cs, ⟨hl, hc | ⟨g, cap, cur, rfl, _, hh, hnc, hcm, _, ht⟩⟩, hj⟩ := h
  · obtain ⟨rfl, hz⟩ := hc
    obtain rfl : l = [] := List.eq_nil_of_length_eq_zero hz
    exact Kepts.nil w
  · refine ⟨some ⟨g, 0, none⟩, cap, rfl, (fun h => by cases h), hnc, hcm, fun _ => ⟨g, 0, rfl, (Array.getElem?_eq_some_iff.1 hh).1, fun j hjl => ?_⟩⟩
    have hget : ∀ i u, cs[i]? = some u → w.cell? ⟨g, 0 + i, none⟩ = some u := fun i u hu => by
      rw [Nat.zero_add, cell_of_row w g i cur _ _ hh, ← Array.getElem?_toList]
      have : i < cs.length := (List.getElem?_eq_some_iff.1 hu).1
      rw [← hu, ← ht, List.getElem?_take_of_lt (by rw [hl] at this; exact this)]
    obtain ⟨c1, A', c', c2, hr, _⟩ := hj j hjl
    exact ⟨hget _ _ c1, A', c', hget _ _ c2, hr⟩
theorem kept_info : (Try.prog.info? 45).map (fun i => (i.zero, i.size, i.bytes)) = some (some (.agg #[.int .i64 0, .slice none 0 0]), 2, 32) := by kernel_rfl
theorem OwnK.block {w : World} {B : Nat} {v : Value} {l : List (Int × Bs)} (h : OwnK w B v l) {k : Nat} (hk : v.ownBlock = some k) : B ≤ k ∧ ∃ cur, w.heap[k]? = some (.cells cur 45 (0, 0)) := by
  obtain ⟨cs, ⟨_, hc | ⟨g, cap, cur, rfl, hB, hh, _⟩⟩, _⟩ := h
  · obtain ⟨rfl, _⟩ := hc; cases hk
  · cases hk; exact ⟨hB, cur, hh⟩
theorem row_grown {α : Type} {enc : α → Value} {w w' : World} {A : Option Addr} {l : List α} {row : Option Nat} (h : RowG w enc A l) (g : w.grownBy w' row) (hA : l ≠ [] → ∀ a, A = some a → some a.block ≠ row) : RowG w' enc A l := fun hne => by
  obtain ⟨b, off, e, hlt, hc⟩ := h hne
  refine ⟨b, off, e, Nat.lt_of_lt_of_le hlt g.size, fun k hk => ?_⟩
  rw [World.cell?_of_block (w := w) (a := ⟨b, off + k, none⟩) (g.block b hlt (hA hne _ e))]; exact hc k hk
/-- One more. -/
theorem append_kept (W : World) (B : Nat) (v : Value) (l : List (Int × Bs)) (h : OwnK W B v l) (x : Int) (bs : Bs) (A' : Option Addr) (c' : Nat) (hR : BRow W A' bs) (hA : bs ≠ [] → ∀ a, A' = some a → some a.block ≠ v.ownBlock) (hn : l.length ≤ 1000000) (hB : B ≤ W.heap.size) :
    ∃ v' W', (Builtin.append_ #[41, 41] 41 #[v, .slice (some ⟨W.heap.size, 0, none⟩) 1 1]).run Try.prog (W.alloc (.cells #[.int .i64 x, .slice A' bs.length c'] 45)) = .ok v' W' ∧ OwnK W' B v' (l ++ [(x, bs)]) ∧ W.grownBy W' v.ownBlock := by
  obtain ⟨i0, hi, hz0, hz1, hz2⟩ := info_parts kept_info
  have h0 := h
  obtain ⟨cs, hrow, hj⟩ := h
  have hnew := heap_alloc_last W (.cells #[.int .i64 x, .slice A' bs.length c'] 45)
  have hg0 : W.grownBy (W.alloc (.cells #[.int .i64 x, .slice A' bs.length c'] 45)) v.ownBlock := World.grownBy_alloc W _ _
  obtain ⟨v', W', h1, h2, h3, _, h5⟩ := run_append_own_at (P := Try.prog) (W.alloc (.cells #[.int .i64 x, .slice A' bs.length c'] 45)) B 41 41 45 i0 _ 2 32 Try.underlying41 hi hz0 hz1 hz2 rfl (by decide) v _ _ (hrow.alloc _) ⟨W.heap.size, 0, none⟩ 1 1
    [.int .i64 x, .slice A' bs.length c'] rfl (fun j u hu => by
      have e : (⟨W.heap.size, 0, none⟩ : Addr).add j = ⟨W.heap.size, j, none⟩ := by unfold Addr.add; split <;> simp_all
      rw [e, cell_of_row _ _ j _ _ _ hnew]
      simpa using hu) (fun u hu => by
        simp only [List.mem_cons, List.not_mem_nil, or_false] at hu
        rcases hu with rfl | rfl <;> rfl) (by simp only [maxLen]; omega) (by omega) (by simp; omega)
  have hgr : W.grownBy W' v.ownBlock := hg0.trans h3
  refine ⟨v', W', h1, ⟨cs ++ [.int .i64 x, .slice A' bs.length c'], by simpa using h2, fun j hjl => ?_⟩, hgr⟩
  have hcl : cs.length = l.length * 2 := hrow.1
  have hlt : ∀ (A : Option Addr) (bs : Bs), BRow W A bs → (bs ≠ [] → ∀ a, A = some a → some a.block ≠ v.ownBlock) → (bs ≠ [] → ∀ a, A = some a → some a.block ≠ v'.ownBlock) := fun A bs hR hA hne a ha => by
    obtain ⟨b, off, e, hb, _⟩ := hR hne
    have hA2 := hA hne a ha
    rw [ha] at e
    cases e
    rcases h5 with h5 | h5
    · rw [h5]; exact hA2
    · rw [h5]; simp only [ne_eq, Option.some.injEq]
      intro e; simp at e; omega
  rw [List.length_append, List.length_singleton] at hjl
  by_cases hlast : j < l.length
  · obtain ⟨c1, A1, k1, c2, hr, ha⟩ := hj j hlast
    rw [List.getElem_append_left hlast]
    exact ⟨by rw [List.getElem?_append_left (by omega)]; exact c1, A1, k1, by rw [List.getElem?_append_left (by omega)]; exact c2, row_grown hr hgr ha, hlt A1 _ hr ha⟩
  · obtain rfl : j = l.length := by omega
    rw [List.getElem_append_right (Nat.le_refl _)]
    simp only [Nat.sub_self, List.getElem_singleton]
    exact ⟨by rw [List.getElem?_append_right (by omega), show 2 * l.length - cs.length = 0 by omega]; rfl, A', c', by rw [List.getElem?_append_right (by omega), show 2 * l.length + 1 - cs.length = 1 by omega]; rfl, row_grown hR hgr hA, hlt A' bs hR hA⟩
end Go.Proofs.Ytoldkhfnebjacaa.Disk
