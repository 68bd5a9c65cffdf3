/-
  Texts of one family, one behind the other: QPure, QBase, QJoin, QVals, QSort.
-/
import Derived.WalkKit
import Derived.Lib.Hide
import Derived.Test.YtboaamaneeodfaaGreatKA1
import Derived.Lib.Walk
import Derived.BigQuiet
import Derived.Shelf.Abstract
import Derived.Test.YtboaamaneeodfaaGreatProg
import Derived.Deep.RegionLaw
import Derived.RangeFuncBox
import Derived.RangeFuncLeaves
import Derived.OwnWalkIn
import Derived.TacticsInMore
import Derived.LoopNIn
import Derived.LoopIn
import Derived.Maps.AppendAt
namespace Go.Proofs.YtboaamaneeodfaaGreat.Pool

/-- A list with a page laid in. -/
def lay1 (p : Int) : List Int → List Int
  | [] => [p]
  | x :: l => if x < p then x :: lay1 p l else p :: x :: l
/-- How many lie ahead of the first one that is not less. -/
def plc (p : Int) : List Int → Nat
  | [] => 0
  | x :: l => if x < p then plc p l + 1 else 0
theorem plc_le (p : Int) : ∀ l, plc p l ≤ l.length
  | [] => Nat.le_refl _
  | x :: l => by
    have := plc_le p l
    unfold plc
    split <;> simp
    omega
theorem plc_ahead (p : Int) : ∀ l : List Int, ∀ x ∈ l.take (plc p l), x < p
  | [], x, h => by simp at h
  | y :: l, x, h => by
    unfold plc at h
    split at h
    · rename_i hy
      rw [List.take_succ_cons] at h
      rcases List.mem_cons.1 h with rfl | h
      · exact hy
      · exact plc_ahead p l x h
    · simp at h
theorem plc_behind (p : Int) : ∀ l : List Int, ∀ x ∈ (l.drop (plc p l)).head?, p ≤ x
  | [], x, h => by simp at h
  | y :: l, x, h => by
    unfold plc at h
    split at h
    · rw [List.drop_succ_cons] at h
      exact plc_behind p l x h
    · simp at h; omega
theorem plc_at (p : Int) (l : List Int) (k : Nat) (hk : k ≤ l.length) (h1 : ∀ j (h : j < l.length), j < k → l[j] < p) (h2 : ∀ (h : k < l.length), p ≤ l[k]) : plc p l = k := by
  induction l generalizing k with
  | nil => simp at hk; subst hk; rfl
  | cons x l ih =>
    rcases k with _ | k
    · have := h2 (by simp)
      simp only [List.getElem_cons_zero] at this
      rw [plc, if_neg (by omega)]
    · have := h1 0 (by simp) (by omega)
      simp only [List.getElem_cons_zero] at this
      rw [plc, if_pos this, ih k (by simpa using hk) (fun j hj hjk => h1 (j + 1) (by simpa using hj) (by omega)) (fun h => h2 (by simpa using h))]
theorem lay1_cut (p : Int) : ∀ l, lay1 p l = l.take (plc p l) ++ p :: l.drop (plc p l)
  | [] => rfl
  | x :: l => by
    unfold lay1 plc
    split
    · rw [List.take_succ_cons, List.drop_succ_cons, lay1_cut p l]; rfl
    · rfl
theorem lay1_comm (a b : Int) : ∀ l, lay1 a (lay1 b l) = lay1 b (lay1 a l)
  | [] => by
    simp only [lay1]
    split <;> split <;> first | rfl | omega | (rename_i h g; obtain rfl : a = b := by omega
                                               rfl)
  | x :: l => by
    simp only [lay1]
    by_cases h1 : x < a <;> by_cases h2 : x < b
    · rw [if_pos h1, if_pos h2, lay1, lay1, if_pos h1, if_pos h2, lay1_comm a b l]
    · rw [if_pos h1, if_neg h2, lay1, if_pos (by omega), lay1, if_pos h1, lay1, if_neg h2]
    · rw [if_neg h1, if_pos h2, lay1, if_neg h1, lay1, if_pos (by omega), lay1, if_pos h2]
    · rw [if_neg h1, if_neg h2, lay1, lay1]
      by_cases h3 : b < a
      · rw [if_pos h3, lay1, if_neg h1, lay1, if_neg (show ¬ a < b by omega)]
      · by_cases h4 : a < b
        · rw [if_neg h3, lay1, if_pos h4, lay1, if_neg h2]
        · obtain rfl : a = b := by omega
          rfl
theorem lay1_perm (p : Int) : ∀ l, (lay1 p l).Perm (p :: l)
  | [] => List.Perm.refl _
  | x :: l => by
    unfold lay1
    split
    · exact ((lay1_perm p l).cons x).trans (List.Perm.swap p x l)
    · exact List.Perm.refl _
theorem lay1_sub (p : Int) : ∀ l, List.Sublist l (lay1 p l)
  | [] => List.nil_sublist _
  | x :: l => by
    unfold lay1
    split
    · exact (lay1_sub p l).cons_cons x
    · exact List.sublist_cons_self _ _
theorem lay1_len (p : Int) (l : List Int) : (lay1 p l).length = l.length + 1 := by rw [(lay1_perm p l).length_eq]; rfl
/-- .. with pages laid in, one by one. -/
def layAll (l ps : List Int) : List Int := ps.foldl (fun l p => lay1 p l) l
theorem layAll_cons (l : List Int) (p : Int) (ps : List Int) : layAll l (p :: ps) = layAll (lay1 p l) ps := rfl
theorem layAll_same {ps qs : List Int} (h : ps.Perm qs) : ∀ l, layAll l ps = layAll l qs := by
  induction h with
  | nil => intro l; rfl
  | cons x _ ih => intro l; exact ih _
  | swap x y _ => intro l; rw [layAll_cons, layAll_cons, layAll_cons, layAll_cons, lay1_comm]
  | trans _ _ i1 i2 => intro l; exact (i1 l).trans (i2 l)
theorem layAll_perm : ∀ ps l, (layAll l ps).Perm (l ++ ps)
  | [], l => by rw [List.append_nil]; exact List.Perm.refl _
  | p :: ps, l => by
    rw [layAll_cons]
    refine (layAll_perm ps _).trans ?_
    refine ((lay1_perm p l).append_right ps).trans ?_
    rw [List.cons_append]
    exact List.perm_middle.symm
theorem layAll_sub : ∀ ps l, List.Sublist l (layAll l ps)
  | [], _ => List.Sublist.refl _
  | p :: ps, l => (lay1_sub p l).trans (layAll_sub ps _)
theorem layAll_len (l ps : List Int) : (layAll l ps).length = l.length + ps.length := by rw [(layAll_perm ps l).length_eq, List.length_append]
theorem layAll_mem (l ps : List Int) (x : Int) : x ∈ layAll l ps ↔ x ∈ l ∨ x ∈ ps := by rw [(layAll_perm ps l).mem_iff, List.mem_append]
theorem lay1_mem (l : List Int) (p x : Int) : x ∈ lay1 p l ↔ x = p ∨ x ∈ l := by rw [(lay1_perm p l).mem_iff, List.mem_cons]
/-- Sorted. -/
def srt (l : List Int) : List Int := l.mergeSort (fun x y => decide (x ≤ y))
theorem srt_perm (l : List Int) : (srt l).Perm l := List.mergeSort_perm l _
theorem srt_rises (l : List Int) : (srt l).Pairwise (· ≤ ·) :=
  (List.pairwise_mergeSort (le := fun x y : Int => decide (x ≤ y)) (fun a b c h1 h2 => by simp at h1 h2 ⊢; omega) (fun a b => by simp; omega) l).imp (fun {a b} h => by simpa using h)
theorem srt_len (l : List Int) : (srt l).length = l.length := (srt_perm l).length_eq
/-- Pages that rise laid into a list, each behind the one before. -/
def laidS : List Int → List Int → List Int
  | l, [] => l
  | l, p :: ps => l.take (plc p l) ++ p :: laidS (l.drop (plc p l)) ps
theorem layAll_split : ∀ (ps t d : List Int) (p : Int), (∀ x ∈ t, x < p) → (∀ x ∈ d.head?, p ≤ x) → (∀ q ∈ ps, p ≤ q) → layAll (t ++ p :: d) ps = t ++ p :: layAll d ps
  | [], t, d, p, _, _, _ => rfl
  | q :: ps, t, d, p, h1, h2, h3 => by
    have hq := h3 q (List.mem_cons_self ..)
    have e : lay1 q (t ++ p :: d) = t ++ p :: lay1 q d := by
      clear h3
      induction t with
      | nil =>
        rw [List.nil_append, List.nil_append, lay1]
        split
        · rfl
        · obtain rfl : q = p := by omega
          rcases d with _ | ⟨y, d⟩
          · rfl
          · have := h2 y (by simp)
            rw [lay1, if_neg (by omega)]
      | cons x t ih =>
        have := h1 x (List.mem_cons_self ..)
        rw [List.cons_append, lay1, if_pos (by omega), ih (fun y hy => h1 y (List.mem_cons_of_mem _ hy))]
        rfl
    rw [layAll_cons, e, layAll_split ps t (lay1 q d) p h1 (fun x hx => ?_) (fun y hy => h3 y (List.mem_cons_of_mem _ hy))]
    · rfl
    · rcases d with _ | ⟨y, d⟩
      · simp only [lay1, List.head?_cons, Option.mem_some_iff] at hx; omega
      · have := h2 y (by simp)
        unfold lay1 at hx
        split at hx
        · simp only [List.head?_cons, Option.mem_some_iff] at hx; omega
        · simp only [List.head?_cons, Option.mem_some_iff] at hx; omega
theorem laidS_all : ∀ (ps l : List Int), ps.Pairwise (· ≤ ·) → laidS l ps = layAll l ps
  | [], _, _ => rfl
  | p :: ps, l, h => by
    rw [List.pairwise_cons] at h
    rw [laidS, laidS_all ps _ h.2, layAll_cons, lay1_cut, layAll_split ps _ _ p (plc_ahead p l) (plc_behind p l) h.1]
theorem laid_eq (l ps : List Int) : laidS l (srt ps) = layAll l ps := by rw [laidS_all _ _ (srt_rises ps), layAll_same (srt_perm ps)]
/-- A list whose pages rise. -/
def Rise (l : List Int) : Prop := l.Pairwise (· < ·)
instance (l : List Int) : Decidable (Rise l) := inferInstanceAs (Decidable (List.Pairwise _ _))
theorem rise_iff : ∀ l : List Int, Rise l ↔ ∀ j (h : j + 1 < l.length), l[j] < l[j + 1]
  | [] => ⟨fun _ j h => by simp at h, fun _ => List.Pairwise.nil⟩
  | [x] => ⟨fun _ j h => by simp at h, fun _ => List.pairwise_singleton _ _⟩
  | x :: y :: l => by
    have ih := rise_iff (y :: l)
    constructor
    · intro h j hj
      unfold Rise at h
      rw [List.pairwise_cons] at h
      rcases j with _ | j
      · exact h.1 y (List.mem_cons_self ..)
      · exact ih.1 h.2 j (by simpa using hj)
    · intro h
      have h1 : Rise (y :: l) := ih.2 (fun j hj => h (j + 1) (by simpa using hj))
      have h0 := h 0 (by simp)
      simp only [List.getElem_cons_zero, List.getElem_cons_succ] at h0
      unfold Rise at h1 ⊢
      refine List.pairwise_cons.2 ⟨fun z hz => ?_, h1⟩
      rcases List.mem_cons.1 hz with rfl | hz
      · exact h0
      · have := (List.pairwise_cons.1 h1).1 z hz; omega
theorem lay1_rise (p : Int) : ∀ l, Rise l → p ∉ l → Rise (lay1 p l)
  | [], _, _ => List.pairwise_singleton _ _
  | x :: l, h, hp => by
    unfold Rise at h
    rw [List.pairwise_cons] at h
    have hx : p ≠ x := fun e => hp (by rw [e]; exact List.mem_cons_self ..)
    unfold lay1
    split
    · refine List.pairwise_cons.2 ⟨fun y hy => ?_, lay1_rise p l h.2 (fun e => hp (List.mem_cons_of_mem _ e))⟩
      rcases (lay1_mem l p y).1 hy with rfl | hy
      · assumption
      · exact h.1 y hy
    · refine List.pairwise_cons.2 ⟨fun y hy => ?_, List.pairwise_cons.2 h⟩
      rcases List.mem_cons.1 hy with rfl | hy
      · omega
      · have := h.1 y hy; omega
theorem rise_nodup {l : List Int} (h : Rise l) : l.Nodup := List.Pairwise.imp (fun {a b} hab e => by omega) h
theorem layAll_rise : ∀ ps l, Rise l → ps.Nodup → (∀ x ∈ ps, x ∉ l) → Rise (layAll l ps)
  | [], _, h, _, _ => h
  | p :: ps, l, h, hn, hd => by
    rw [List.nodup_cons] at hn
    rw [layAll_cons]
    refine layAll_rise ps _ (lay1_rise p l h (hd p (List.mem_cons_self ..))) hn.2 (fun x hx e => ?_)
    rcases (lay1_mem l p x).1 e with rfl | e
    · exact hn.1 hx
    · exact hd x (List.mem_cons_of_mem _ hx) e
/-- A pool, as plain data. -/
structure Po where
  high : Int
  free : List Int := []
  limbo : List Int := []
/-- A pool that may be, of at most so many sectors. -/
structure PoolOk (p : Po) (most : Int) : Prop where
  low : 2 ≤ p.high
  top : p.high ≤ most
  free : Rise p.free
  limbo : Rise p.limbo
  f : ∀ x ∈ p.free, 2 ≤ x ∧ x < p.high
  l : ∀ x ∈ p.limbo, 2 ≤ x ∧ x < p.high
  apart : ∀ x ∈ p.limbo, x ∉ p.free
theorem poolOk_iff (p : Po) (most : Int) : PoolOk p most ↔ 2 ≤ p.high ∧ p.high ≤ most ∧ Rise p.limbo ∧ Rise (layAll p.free p.limbo) ∧ ∀ x ∈ layAll p.free p.limbo, 2 ≤ x ∧ x < p.high := by
  constructor
  · intro h
    refine ⟨h.low, h.top, h.limbo, layAll_rise _ _ h.free (rise_nodup h.limbo) h.apart, fun x hx => ?_⟩
    rcases (layAll_mem _ _ x).1 hx with hx | hx
    · exact h.f x hx
    · exact h.l x hx
  · rintro ⟨h1, h2, h3, h4, h5⟩
    refine ⟨h1, h2, List.Pairwise.sublist (layAll_sub _ _) h4, h3, fun x hx => h5 x ((layAll_mem _ _ x).2 (.inl hx)), fun x hx => h5 x ((layAll_mem _ _ x).2 (.inr hx)), fun x hx hf => ?_⟩
    have hn := (layAll_perm p.limbo p.free).nodup_iff.1 (rise_nodup h4)
    exact (List.nodup_append.1 hn).2.2 x hf x hx rfl
/-- Lists of at most two hundred. -/
def chunkF : Nat → List Int → List (List Int)
  | 0, _ => []
  | n + 1, l => if l.length = 0 then [] else l.take 200 :: chunkF n (l.drop 200)
def chunks (l : List Int) : List (List Int) := chunkF l.length l
theorem chunkF_more : ∀ (n m : Nat) (l : List Int), l.length ≤ n → l.length ≤ m → chunkF n l = chunkF m l
  | 0, 0, _, _, _ => rfl
  | 0, m + 1, l, h, _ => by rw [chunkF, chunkF, if_pos (by omega)]
  | n + 1, 0, l, _, h => by rw [chunkF, chunkF, if_pos (by omega)]
  | n + 1, m + 1, l, h, g => by
    rw [chunkF, chunkF]
    by_cases e : l.length = 0
    · rw [if_pos e, if_pos e]
    · rw [if_neg e, if_neg e, chunkF_more n m (l.drop 200) (by rw [List.length_drop]; omega) (by rw [List.length_drop]; omega)]
theorem chunks_nil : chunks [] = [] := rfl
theorem chunks_cons (l : List Int) (h : l.length ≠ 0) : chunks l = l.take 200 :: chunks (l.drop 200) := by
  rw [chunks, chunkF_more l.length (l.length + 1) l (Nat.le_refl _) (by omega), chunkF, if_neg h, chunks, chunkF_more (l.drop 200).length l.length _ (Nat.le_refl _) (by rw [List.length_drop]; omega)]
theorem chunks_flat (l : List Int) : (chunks l).flatten = l := by
  obtain ⟨n, hn⟩ : ∃ n, l.length = n := ⟨_, rfl⟩
  induction n using Nat.strongRecOn generalizing l with
  | ind n ih =>
    by_cases h : l.length = 0
    · rw [List.eq_nil_of_length_eq_zero h]; rfl
    · rw [chunks_cons l h, List.flatten_cons, ih (l.drop 200).length (by rw [List.length_drop]; omega) _ rfl, List.take_append_drop]
theorem chunks_len (l : List Int) : (chunks l).length ≤ l.length := by
  obtain ⟨n, hn⟩ : ∃ n, l.length = n := ⟨_, rfl⟩
  induction n using Nat.strongRecOn generalizing l with
  | ind n ih =>
    by_cases h : l.length = 0
    · rw [List.eq_nil_of_length_eq_zero h]; exact Nat.le_refl _
    · rw [chunks_cons l h, List.length_cons]
      have := ih (l.drop 200).length (by rw [List.length_drop]; omega) _ rfl
      rw [List.length_drop] at this
      omega
end Go.Proofs.YtboaamaneeodfaaGreat.Pool
namespace Go.Proofs.YtboaamaneeodfaaGreat.Pool
open Go.RowKit Gen

abbrev numV (n : Int) : Value := .int .i64 n
abbrev IRow (w : World) (A : Option Addr) (l : List Int) : Prop := RowG w numV A l
/-- Numbers that lie in a slice's cells. -/
structure NAt (w : World) (A : Option Addr) (n c : Nat) (l : List Int) : Prop where
  len : l.length = n
  cap : n ≤ c
  max : c ≤ maxLen
  nil : A = none → c = 0
  row : IRow w A l
theorem NAt.below {w w' : World} {A : Option Addr} {n c : Nat} {l : List Int} (h : NAt w A n c l) (hb : Below w.heap.size w w') : NAt w' A n c l := ⟨h.len, h.cap, h.max, h.nil, RowG.below h.row hb⟩
theorem NAt.none (w : World) : NAt w none 0 0 [] := ⟨rfl, Nat.le_refl _, Nat.zero_le _, fun _ => rfl, fun h => absurd rfl h⟩
set_option maxRecDepth 100000 in
theorem ints_elem : Elem Tryz.prog 68 3 numV :=
  ⟨Tryz.underlying68, ⟨_, _, 8, rfl, rfl, rfl, rfl, rfl, by omega⟩, fun _ => rfl⟩
abbrev OwnI (w : World) (B : Nat) (v : Value) (l : List Int) : Prop := OwnG w 3 numV B v l
theorem own_nums {w : World} {B : Nat} {v : Value} {l : List Int} (h : OwnI w B v l) : ∃ A n c, v = .slice A n c ∧ NAt w A n c l ∧ ∀ a, A = some a → B ≤ a.block := by
  have h0 := h
  obtain ⟨A, c, e, h1, h2, h3, h4⟩ := OwnG.row h
  refine ⟨A, l.length, c, e, ⟨rfl, h2, h3, h1, h4⟩, fun a ha => ?_⟩
  subst ha
  rw [e] at h0
  exact (World.ownsRow.lt h0 a.block rfl).1
/-- A part of such a list. -/
theorem NAt.head {w : World} {A : Option Addr} {n c : Nat} {l : List Int} (h : NAt w A n c l) {k : Nat} (hk : k ≤ n) : NAt w A k c (l.take k) :=
  ⟨by rw [List.length_take, h.len]; omega, Nat.le_trans hk h.cap, h.max, h.nil, fun hne => by
    obtain ⟨b, o, e, hlt, hc⟩ := h.row (fun e => hne (by rw [e]; simp))
    exact ⟨b, o, e, hlt, fun j hj => by
      rw [List.getElem_take]
      exact hc j (by rw [List.length_take] at hj; omega)⟩⟩
theorem NAt.tail {w : World} {A : Option Addr} {n c : Nat} {l : List Int} (h : NAt w A n c l) {k : Nat} (hk : k ≤ n) : NAt w (if c = k then A else A.map (·.add k)) (n - k) (c - k) (l.drop k) := by
  have hcap := h.cap
  have hmax := h.max
  have hlen := h.len
  refine ⟨by rw [List.length_drop, h.len], by omega, by omega, fun e => ?_, fun hne => ?_⟩
  · split at e
    · have := h.nil e; omega
    · have := h.nil (by simpa using e); omega
  · have hl : k < l.length := by
      rcases Nat.lt_or_ge k l.length with g | g
      · exact g
      · exact absurd (List.drop_eq_nil_of_le g) hne
    obtain ⟨b, o, rfl, hlt, hc⟩ := h.row (fun e => by rw [e] at hl; simp at hl)
    rw [if_neg (by omega)]
    refine ⟨b, o + k, by simp [Addr.add], hlt, fun j hj => ?_⟩
    rw [List.length_drop] at hj
    rw [List.getElem_drop, Nat.add_assoc]
    exact hc (k + j) (by omega)
/-- A block's cells. -/
def At (w : World) (b : Nat) (C : Array Value) : Prop := b < w.heap.size ∧ (∀ j, w.frozen? ⟨b, j, none⟩ = false) ∧ ∀ j v, C[j]? = some v → w.cell? ⟨b, j, none⟩ = some v
theorem At.of_block {w : World} {b : Nat} {C : Array Value} {t : TypeId} (h : w.heap[b]? = some (.cells C t (0, 0))) : At w b C :=
  ⟨(Array.getElem?_eq_some_iff.1 h).1, fun j => frozen_of_row w b j C t h, fun j v hv => by rw [cell_of_row w b j C _ _ h]; exact hv⟩
theorem At.below {w w' : World} {b : Nat} {C : Array Value} {n : Nat} (h : At w b C) (hb : Below n w w') (hn : b < n) : At w' b C :=
  ⟨Nat.lt_of_lt_of_le h.1 hb.size, fun j => (hb.frozen (p := ⟨b, j, none⟩) hn).trans (h.2.1 j), fun j v hv => (hb.cell (p := ⟨b, j, none⟩) hn).trans (h.2.2 j v hv)⟩
theorem At.set {w : World} {b : Nat} {C : Array Value} (h : At w b C) (i : Nat) (v : Value) (hi : i < C.size) : At (w.setCell ⟨b, i, none⟩ v) b (C.setIfInBounds i v) := by
  have hc := h.2.2 i _ (Array.getElem?_eq_getElem hi)
  refine ⟨by simpa using h.1, fun j => ?_, fun j u hu => ?_⟩
  · rw [World.frozen?_setCell]; exact h.2.1 j
  · rw [Array.getElem?_setIfInBounds] at hu
    by_cases e : i = j
    · subst e
      rw [if_pos rfl, if_pos hi] at hu
      cases hu
      exact World.cell?_setCell_same _ _ _ hc
    · rw [if_neg e] at hu
      rw [World.cell?_setCell_other _ _ _ _ (by intro h; injection h; contradiction)]
      exact h.2.2 j u hu
theorem At.set_other {w : World} {b b' i : Nat} {C : Array Value} {v : Value} (h : At w b C) (hne : b' ≠ b) : At (w.setCell ⟨b', i, none⟩ v) b C :=
  ⟨by simpa using h.1, fun j => by rw [World.frozen?_setCell]; exact h.2.1 j, fun j u hu => by
    rw [World.cell?_setCell_other _ _ _ _ (by intro h; injection h; contradiction)]; exact h.2.2 j u hu⟩
/-- Nothing but the count of draws has changed. -/
def Drew (w w' : World) : Prop := ∃ n, w' = w.drewN n
theorem Drew.refl (w : World) : Drew w w := ⟨0, rfl⟩
theorem Drew.drewN {w w' : World} (h : Drew w w') (m : Nat) : Drew w (w'.drewN m) := by
  obtain ⟨n, rfl⟩ := h
  exact ⟨n + m, by rw [World.drewN_drewN]⟩
theorem Drew.cell {w w' : World} (h : Drew w w') (p : Addr) : w'.cell? p = w.cell? p := by
  obtain ⟨n, rfl⟩ := h
  rfl
theorem Drew.below {w w' : World} (h : Drew w w') (B : Nat) : Below B w w' := by
  obtain ⟨n, rfl⟩ := h
  exact ⟨rfl, rfl, rfl, Nat.le_refl _, fun _ _ => rfl⟩
theorem Below.drewN' {w w' : World} {B : Nat} (h : Below B w w') (n : Nat) : Below B w (w'.drewN n) := ⟨h.os, h.tape, h.output, h.size, h.block⟩
/-- An answer that tells whether something is so. -/
def Tells (p : Prop) (w : World) (e : Ending) (w' : World) : Prop := ∃ r : Bool, e = .returned (.bool r) ∧ (r = true ↔ p) ∧ Below w.heap.size w w'

/-- Where a pool's lists lie. -/
structure La where
  A1 : Option Addr := none
  c1 : Nat := 0
  A2 : Option Addr := none
  c2 : Nat := 0
abbrev poC (p : Po) (a : La) : Array Value := #[.int .i64 p.high, .slice a.A1 p.free.length a.c1, .slice a.A2 p.limbo.length a.c2]
abbrev poV (p : Po) (a : La) : Value := .agg (poC p a)
/-- A pool's lists, in memory. -/
structure PoAt (w : World) (p : Po) (a : La) : Prop where
  f : NAt w a.A1 p.free.length a.c1 p.free
  l : NAt w a.A2 p.limbo.length a.c2 p.limbo
theorem PoAt.below {w w' : World} {p : Po} {a : La} (h : PoAt w p a) (hb : Below w.heap.size w w') : PoAt w' p a := ⟨h.f.below hb, h.l.below hb⟩
theorem po_box (w : World) (p : Po) (a : La) : At (w.alloc (.cells (poC p a) 73)) w.heap.size (poC p a) := At.of_block (heap_alloc_new w _)
theorem below_box (w : World) (o : Obj) : Below w.heap.size w (w.alloc o) := (Below.refl _ _).alloc (Nat.le_refl _) _
def I64 (n : Int) : Prop := -9223372036854775808 ≤ n ∧ n ≤ 9223372036854775807
def Covers (high n : Int) : Prop := 2 ≤ n ∧ n < high

theorem covers_any (p : Po) (a : La) (n : Int) (w : World) : Calls Tryz.prog 111 #[poV p a, .int .i64 n] w (Tells (Covers p.high n) w) := by
  have B1 := Lib.hid (below_box w (.cells (poC p a) 73))
  unfold poV
  unfold poC at *
  by_cases h1 : 2 ≤ n
  · have d1 : decide (2 ≤ n) = true := by simp [h1]
    go_enter Tryz.func111, Tryz.ntmps111
    go_wp2_with fail
    go_ret
    exact ⟨_, rfl, by unfold Covers; simp [h1], B1.out⟩
  · have d1 : decide (2 ≤ n) = false := by simp [h1]
    go_enter Tryz.func111, Tryz.ntmps111
    go_wp2_with fail
    go_ret
    exact ⟨_, rfl, by unfold Covers; simp; omega, B1.out⟩
theorem rises_step {l : List Int} {k : Nat} (hk : k + 1 < l.length) (hQ : ∀ j (h : j + 1 < l.length), j < k → l[j] < l[j + 1]) :
    (l[k] < l[k + 1] → ∀ j (h : j + 1 < l.length), j < k + 1 → l[j] < l[j + 1]) ∧ (¬ l[k] < l[k + 1] → ¬ Rise l) :=
  ⟨fun h j hj hjk => by
    by_cases e : j = k
    · subst e; exact h
    · exact hQ j hj (by omega), fun h h2 => h ((rise_iff l).1 h2 k hk)⟩
set_option maxRecDepth 100000 in
theorem rises_any (A : Option Addr) (n c : Nat) (l : List Int) (w : World) (h : NAt w A n c l) : Calls Tryz.prog 112 #[.slice A n c] w (Tells (Rise l) w) := by
  have HR := Lib.hid h.row
  have HL := Lib.hid h.len
  have hn : n ≤ 9223372036854775807 := by have h1 := h.cap; have h2 := h.max; unfold maxLen at h2; omega
  clear h
  go_enter Tryz.func112, Tryz.ntmps112
  go_wp2_with fail
  go_loopw [3] (fun i wr => ∃ k : Nat, i = .int .i64 ((k : Int) + 1) ∧ (k ≤ n) ∧ Hid (∀ j (h : j + 1 < l.length), j < k → l[j] < l[j + 1]) ∧ Drew w wr) (fun i _ => n + 1 - (intOf i).toNat)
  case atStart => exact ⟨0, rfl, Nat.zero_le _, Lib.hid (fun j h hj => absurd hj (Nat.not_lt_zero j)), Drew.refl _⟩
  case round =>
    obtain ⟨k, rfl, hk, hQ, hD⟩ := hrel
    have HD := Lib.hid hD
    clear hD
    by_cases hlt : k + 1 < n
    · have hkl : k + 1 < l.length := by have := HL.out; omega
      obtain ⟨b, off, rfl, hb, hc⟩ := HR.out (by intro e; subst e; simp at hkl)
      have hc1 := hc k (by omega)
      have hc2 := hc (k + 1) hkl
      obtain ⟨h1, h2⟩ := rises_step hkl hQ.out
      have H1 := Lib.hid h1
      have H2 := Lib.hid h2
      generalize hx : l[k] = x at hc1 H1 H2
      generalize hy : l[k + 1] = y at hc2 H1 H2
      rw [← HD.out.cell] at hc1 hc2
      have e1 : (k : Int) + 1 - 1 = (k : Int) := by omega
      have e2 : ((k : Int) + 1).toNat = k + 1 := by omega
      clear hx hy hc h1 h2 hQ
      by_cases hxy : x < y
      · have d : decide (y ≤ x) = false := by simp; omega
        have HN := Lib.hid (H1.out hxy)
        clear H1 H2 hxy
        go_wp2_with fail
        go_quiet (fail)
        go_wp2_with fail
        go_roundw
        case rel => exact ⟨k + 1, by go_num, by omega, HN, HD.out.drewN _⟩
        case measure => simp [intOf]; omega
      · have d : decide (y ≤ x) = true := by simp; omega
        have HN := Lib.hid (H2.out hxy)
        clear H1 H2 hxy
        go_wp2_with fail
        go_quiet (fail)
        go_wp2_with fail
        go_ret
        exact ⟨_, rfl, ⟨fun h => (by cases h), fun h => absurd h HN.out⟩, (HD.out.drewN _).below _⟩
    · have HN : Hid (Rise l) := Lib.hid ((rise_iff l).2 (fun j hj => hQ.out j hj (by have := HL.out; omega)))
      clear hQ
      go_wp2_with fail
      go_ret
      exact ⟨_, rfl, ⟨fun _ => HN.out, fun _ => rfl⟩, HD.out.below _⟩
/-- slices.Contains. -/
theorem index_any (A : Option Addr) (n c : Nat) (l : List Int) (x : Int) (w : World) (h : NAt w A n c l) : Calls Tryz.prog 109 #[.slice A n c, .int .i64 x] w fun e w' => ∃ k : Int, e = .returned (.int .i64 k) ∧ (0 ≤ k ↔ x ∈ l) ∧ w = w' := by
  have HR := Lib.hid h.row
  have HL := Lib.hid h.len
  have hn : n ≤ 9223372036854775807 := by have h1 := h.cap; have h2 := h.max; unfold maxLen at h2; omega
  clear h
  go_enter Tryz.func109, Tryz.ntmps109
  go_wp2_with fail
  go_loop [5, 8] (fun _ i => ∃ k : Nat, i = .int .i64 (k : Int) ∧ k ≤ n ∧ Hid (∀ j (h : j < l.length), j < k → l[j] ≠ x)) (fun _ i => n - (intOf i).toNat)
  case atStart => exact ⟨0, rfl, Nat.zero_le _, Lib.hid (fun j h hj => absurd hj (Nat.not_lt_zero j))⟩
  case round =>
    obtain ⟨k, rfl, hk, hQ⟩ := hrel
    by_cases hlt : k < n
    · have hkl : k < l.length := by have := HL.out; omega
      obtain ⟨b, off, rfl, hb, hc⟩ := HR.out (by intro e; subst e; simp at hkl)
      have hc1 := hc k hkl
      have HM := Lib.hid (List.getElem_mem hkl)
      have HQ : Hid (l[k] ≠ x → ∀ j (h : j < l.length), j < k + 1 → l[j] ≠ x) := Lib.hid (fun e j hj hjk => by
        by_cases g : j = k
        · subst g; exact e
        · exact hQ.out j hj (by omega))
      generalize l[k] = y at hc1 HM HQ
      clear hc hQ
      by_cases hxy : x = y
      · have d : (x == y) = true := by simp [hxy]
        have HX := Lib.hid hxy
        clear hxy
        go_wp2_with fail
        go_ret
        exact ⟨_, rfl, ⟨fun _ => by rw [HX.out]; exact HM.out, fun _ => by omega⟩, rfl⟩
      · have d : (x == y) = false := by simp [hxy]
        have HN := Lib.hid (HQ.out (fun e => hxy e.symm))
        clear hxy HQ
        go_wp2_with fail
        go_round
        case rel => exact ⟨k + 1, by go_num, by omega, HN⟩
        case measure => simp [intOf]; omega
    · have HN : Hid (x ∉ l) := Lib.hid (fun hm => by
        obtain ⟨j, hj, e⟩ := List.getElem_of_mem hm
        exact hQ.out j hj (by have := HL.out; omega) e)
      clear hQ
      go_wp2_with fail
      go_ret
      exact ⟨_, rfl, ⟨fun h => by omega, fun h => absurd h HN.out⟩, rfl⟩
theorem contains_any (A : Option Addr) (n c : Nat) (l : List Int) (x : Int) (w : World) (h : NAt w A n c l) : Calls Tryz.prog 77 #[.slice A n c, .int .i64 x] w fun e w' => ∃ r : Bool, e = .returned (.bool r) ∧ (r = true ↔ x ∈ l) ∧ w = w' := by
  have cI := index_any A n c l x w h
  clear h
  go_enter Tryz.func77, Tryz.ntmps77
  go_wp2_with fail
  refine cI.mono ?_
  rintro e w' ⟨k, rfl, hk, rfl⟩
  have HK := Lib.hid hk
  clear hk cI
  go_wp2_with fail
  go_ret
  exact ⟨_, rfl, by rw [decide_eq_true_iff]; exact HK.out, rfl⟩
/-- slices.IndexFunc, of a function value that tells p, and may make memory. -/
theorem indexFunc_any (g : Nat) (lb : Array Value) (p : Int → Bool) (eg : ∀ args w, (callFunc g args).run Tryz.prog w = .ok (.enter g args) w) (A : Option Addr) (n c : Nat) (l : List Int) (w : World) (h : NAt w A n c l)
    (hp : ∀ W x, Below w.heap.size w W → Calls Tryz.prog g (#[.int .i64 x] ++ lb) W fun e w' => e = .returned (.bool (p x)) ∧ Below w.heap.size w w') :
    Calls Tryz.prog 80 #[.slice A n c, .func (.func g) #[] lb] w fun e w' => ∃ k : Int, e = .returned (.int .i64 k) ∧ ((k = -1 ∧ ∀ x ∈ l, p x = false) ∨ ∃ j : Nat, k = (j : Int) ∧ ∃ h : j < l.length, p l[j] = true ∧ ∀ i (h : i < l.length), i < j → p l[i] = false) ∧ Below w.heap.size w w' := by
  have HR := Lib.hid h.row
  have HL := Lib.hid h.len
  have HP := Lib.hid hp
  have hn : n ≤ 9223372036854775807 := by have h1 := h.cap; have h2 := h.max; unfold maxLen at h2; omega
  clear h hp
  go_enter Tryz.func80, Tryz.ntmps80
  go_wp2_with fail
  go_loopw [5, 8] (fun _ i wr => ∃ k : Nat, i = .int .i64 (k : Int) ∧ k ≤ n ∧ Hid (∀ j (h : j < l.length), j < k → p l[j] = false) ∧ Below w.heap.size w wr) (fun _ i _ => n - (intOf i).toNat)
  case atStart => exact ⟨0, rfl, Nat.zero_le _, Lib.hid (fun j h hj => absurd hj (Nat.not_lt_zero j)), Below.refl _ _⟩
  case round =>
    obtain ⟨k, rfl, hk, hQ, hB⟩ := hrel
    have HB := Lib.hid hB
    by_cases hlt : k < n
    · have hkl : k < l.length := by have := HL.out; omega
      obtain ⟨b, off, rfl, hb, hc⟩ := HR.out (by intro e; subst e; simp at hkl)
      have hc1 := (hB.cell (p := ⟨b, off + k, none⟩) hb).trans (hc k hkl)
      have HM := Lib.hid (show p l[k] = true → ∃ j : Nat, (k : Int) = (j : Int) ∧ ∃ h : j < l.length, p l[j] = true ∧ ∀ i (h : i < l.length), i < j → p l[i] = false from fun e => ⟨k, rfl, hkl, e, hQ.out⟩)
      have HQ : Hid (p l[k] = false → ∀ j (h : j < l.length), j < k + 1 → p l[j] = false) := Lib.hid (fun e j hj hjk => by
        by_cases g : j = k
        · subst g; exact e
        · exact hQ.out j hj (by omega))
      generalize l[k] = y at hc1 HM HQ
      have hcall := HP.out wr y HB.out
      clear hc hQ hB
      cases hq : p y with
      | true =>
        rw [hq] at hcall
        have HX := Lib.hid (HM.out hq)
        clear HM HQ hq
        go_wp2_with (go_at_fn g; refine hcall.mono ?_; rintro e w' ⟨rfl, hb'⟩)
        go_ret
        exact ⟨_, rfl, .inr HX.out, hb'⟩
      | false =>
        rw [hq] at hcall
        have HX := Lib.hid (HQ.out hq)
        clear HM HQ hq
        go_wp2_with (go_at_fn g; refine hcall.mono ?_; rintro e w' ⟨rfl, hb'⟩)
        go_roundw
        case rel => exact ⟨k + 1, by go_num, by omega, HX, hb'⟩
        case measure => simp [intOf]; omega
    · have HN : Hid (∀ x ∈ l, p x = false) := Lib.hid (fun x hm => by
        obtain ⟨j, hj, rfl⟩ := List.getElem_of_mem hm
        exact hQ.out j hj (by have := HL.out; omega))
      clear hQ hB
      go_wp2_with fail
      go_ret
      exact ⟨_, rfl, .inl ⟨rfl, HN.out⟩, HB.out⟩
theorem containsFunc_any (g : Nat) (lb : Array Value) (p : Int → Bool) (eg : ∀ args w, (callFunc g args).run Tryz.prog w = .ok (.enter g args) w) (A : Option Addr) (n c : Nat) (l : List Int) (w : World) (h : NAt w A n c l)
    (hp : ∀ W x, Below w.heap.size w W → Calls Tryz.prog g (#[.int .i64 x] ++ lb) W fun e w' => e = .returned (.bool (p x)) ∧ Below w.heap.size w w') :
    Calls Tryz.prog 47 #[.slice A n c, .func (.func g) #[] lb] w (Tells (∃ x ∈ l, p x = true) w) := by
  have cI := indexFunc_any g lb p eg A n c l w h hp
  clear h hp
  go_enter Tryz.func47, Tryz.ntmps47
  go_wp2_with fail
  refine cI.mono ?_
  rintro e w' ⟨k, rfl, hk, hb⟩
  have HK : Hid (decide (0 ≤ k) = true ↔ ∃ x ∈ l, p x = true) := Lib.hid (by
    rw [decide_eq_true_iff]
    rcases hk with ⟨rfl, hk⟩ | ⟨j, rfl, hj, hk, -⟩
    · exact ⟨fun h => by omega, fun ⟨x, hx, e⟩ => by rw [hk x hx] at e; cases e⟩
    · exact ⟨fun _ => ⟨_, List.getElem_mem hj, hk⟩, fun _ => by omega⟩)
  clear hk cI
  go_wp2_with fail
  go_ret
  exact ⟨_, rfl, HK.out, hb⟩
end Go.Proofs.YtboaamaneeodfaaGreat.Pool
namespace Go.Proofs.YtboaamaneeodfaaGreat.Pool
open Go.RowKit Gen

theorem elem_is : Tryz.prog.underlying 68 = some (.slice (Tryz.prog.elem 68)) := by kernel_rfl
theorem size_is (w : World) : (sizeOf (Tryz.prog.elem 68)).run Tryz.prog w = .ok 1 w := by kernel_rfl
theorem add_zero (a : Addr) : a.add 0 = a := by
  unfold Addr.add
  split <;> simp_all
theorem head_run (A : Option Addr) (n c k : Nat) (h : k ≤ c) (W : World) : (Instr.slice 68 (.slice A n c) none (some (.int .i64 k)) none).run Tryz.prog W = .ok (.slice A k c) W := by
  rw [run_slice_h W 68 A n c elem_is .i64 (k : Int) (by omega) (by omega), size_is]
  unfold sliced
  rcases A with _ | a
  · simp [Result.andThen]
  · simp [Result.andThen, add_zero]
theorem tail_run (A : Option Addr) (n c k : Nat) (h : k ≤ n) (W : World) : (Instr.slice 68 (.slice A n c) (some (.int .i64 k)) none none).run Tryz.prog W = .ok (.slice (if c = k then A else A.map (·.add k)) (n - k) (c - k)) W := by
  rw [run_slice_l W 68 A n c elem_is .i64 (k : Int) (by omega) (by omega), size_is]
  unfold sliced
  simp [Result.andThen]
/-- A list, as a slice in a cell: where it lies, how much room it has, its numbers. -/
abbrev Part := Option Addr × Nat × List Int
abbrev encS (x : Part) : Value := .slice x.1 x.2.2.length x.2.1
def PartsIn (w : World) (xs : List Part) : Prop := ∀ x ∈ xs, NAt w x.1 x.2.2.length x.2.1 x.2.2
theorem PartsIn.below {w w' : World} {xs : List Part} (h : PartsIn w xs) (hb : Below w.heap.size w w') : PartsIn w' xs := fun x hx => (h x hx).below hb
def allOf (xs : List Part) : List Int := xs.flatMap (·.2.2)
theorem allOf_append (xs ys : List Part) : allOf (xs ++ ys) = allOf xs ++ allOf ys := List.flatMap_append
theorem allOf_snoc {xs : List Part} {k : Nat} (h : k < xs.length) : allOf (xs.take (k + 1)) = allOf (xs.take k) ++ xs[k].2.2 := by
  rw [allOf, List.take_succ_eq_append_getElem h, List.flatMap_append]; simp [allOf]
theorem allOf_take_le (xs : List Part) (k : Nat) : (allOf (xs.take k)).length ≤ (allOf xs).length := by
  have : allOf xs = allOf (xs.take k) ++ allOf (xs.drop k) := by rw [allOf, allOf, allOf, ← List.flatMap_append, List.take_append_drop]
  rw [this, List.length_append]; omega
/-- A list of the call's own is handed back. -/
def Owns (l : List Int) (w : World) (e : Ending) (w' : World) : Prop := ∃ v, e = .returned v ∧ OwnI w' w.heap.size v l ∧ Below w.heap.size w w'
/-- Lists, of which no room is told. -/
def PartsW (w : World) (xs : List Part) : Prop := ∀ x ∈ xs, (x.1 = none → x.2.1 = 0) ∧ IRow w x.1 x.2.2
theorem PartsW.below {w w' : World} {xs : List Part} (h : PartsW w xs) (hb : Below w.heap.size w w') : PartsW w' xs := fun x hx => ⟨(h x hx).1, RowG.below (h x hx).2 hb⟩
theorem PartsIn.weak {w : World} {xs : List Part} (h : PartsIn w xs) : PartsW w xs := fun x hx => ⟨(h x hx).nil, (h x hx).row⟩
set_option maxRecDepth 100000 in
theorem joined_w (A : Option Addr) (n c : Nat) (xs : List Part) (w : World) (hl : xs.length = n) (hn : n ≤ 1000000) (hR : RowG w encS A xs) (hP : PartsW w xs) (hb : (allOf xs).length ≤ 1000000000) :
    Calls Tryz.prog 78 #[.slice A n c] w (Owns (allOf xs) w) := by
  have HR := Lib.hid hR
  have HL := Lib.hid hl
  have HP := Lib.hid hP
  have HT := Lib.hid (allOf_take_le xs)
  have HB := Lib.hid hb
  clear hR hl hP hb
  go_enter Tryz.func78, Tryz.ntmps78
  go_wp2_with fail
  go_loopw [3, 8] (fun v i wr => ∃ k : Nat, i = .int .i64 k ∧ k ≤ n ∧ OwnI wr w.heap.size v (allOf (xs.take k)) ∧ Below w.heap.size w wr ∧ w.heap.size ≤ wr.heap.size) (fun _ i _ => n - (intOf i).toNat)
  case atStart => exact ⟨0, rfl, Nat.zero_le _, OwnG.nil _ _ _ _, Below.refl _ _, Nat.le_refl _⟩
  case round =>
    obtain ⟨k, rfl, hk, ho, hb, hB⟩ := hrel
    by_cases hlt : k < n
    · have hkl : k < xs.length := by have := HL.out; omega
      obtain ⟨b, off, rfl, hlb, hc⟩ := HR.out (by intro e; subst e; simp at hkl)
      have hck := hc k hkl
      rw [← hb.cell (p := ⟨b, off + k, none⟩) hlb] at hck
      have hin := HP.out _ (List.getElem_mem hkl)
      have hle := HT.out (k + 1)
      rw [allOf_snoc hkl, List.length_append] at hle
      have hrow := RowG.below hin.2 hb
      obtain ⟨v', W', hrun, ho', hg, _⟩ := append_row ints_elem wr w.heap.size _ _ ho xs[k].1 xs[k].2.2.length xs[k].2.1 xs[k].2.2 rfl hin.1 hrow (by have := HB.out; omega) hB
      have hb' := below_grown hb ho hg hB
      have hB' := Nat.le_trans hB hg.size
      rw [← allOf_snoc hkl] at ho'
      have hck2 : wr.cell? ⟨b, off + k, none⟩ = some (.slice xs[k].1 xs[k].2.2.length xs[k].2.1) := hck
      have R1 := Lib.hid hrun
      clear hck hrun
      generalize hx1 : xs[k].1 = x1 at hck2 R1
      generalize hx2 : xs[k].2.2.length = x2 at hck2 R1
      generalize hx3 : xs[k].2.1 = x3 at hck2 R1
      have HO' := Lib.hid ho'
      have HB' := Lib.hid hb'
      clear hx1 hx2 hx3 ho' hb' hg ho hb hc hin hle hrow
      go_wp2_with (at_builtin; (refine wpList_append_eq rfl (.tmp 12) (.tmp 13) _ rfl rfl rfl R1.out ?_; clear R1))
      go_roundw
      case rel => exact ⟨k + 1, by go_num, by omega, HO'.out, HB'.out, hB'⟩
      case measure => simp [intOf]; omega
    · rw [List.take_of_length_le (by have := HL.out; omega)] at ho
      have HO := Lib.hid ho
      have HBB := Lib.hid hb
      clear ho hb
      go_wp2_with fail
      go_ret
      exact ⟨_, rfl, HO.out, HBB.out⟩
theorem joined_any (A : Option Addr) (n c : Nat) (xs : List Part) (w : World) (hl : xs.length = n) (hn : n ≤ 1000000) (hR : RowG w encS A xs) (hP : PartsIn w xs) (hb : (allOf xs).length ≤ 1000000000) :
    Calls Tryz.prog 78 #[.slice A n c] w (Owns (allOf xs) w) := joined_w A n c xs w hl hn hR hP.weak hb
/-- joined, of one list that a call hands to it. -/
theorem join1 (x : Part) (w : World) (h : NAt w x.1 x.2.2.length x.2.1 x.2.2) (hn : x.2.2.length ≤ 1000000) :
    Calls Tryz.prog 78 #[.slice (some ⟨w.heap.size, 0, none⟩) 1 1] (w.alloc (.cells #[encS x] 68)) fun e w' => ∃ v, e = .returned v ∧ OwnI w' w.heap.size v x.2.2 ∧ Below w.heap.size w w' := by
  have hb := below_box w (.cells #[encS x] 68)
  refine (joined_any (some ⟨w.heap.size, 0, none⟩) 1 1 [x] _ rfl (by omega) (fun _ => ⟨w.heap.size, 0, rfl, by simp, fun k hk => ?_⟩) (fun y hy => ?_) (by simp [allOf]; omega)).mono ?_
  · obtain rfl : k = 0 := by simp at hk; omega
    simp
  · rw [List.mem_singleton.1 hy]; exact h.below hb
  · rintro e w' ⟨v, rfl, ho, hb'⟩
    rw [show allOf [x] = x.2.2 by simp [allOf]] at ho
    refine ⟨v, rfl, ⟨ho.1, ?_⟩, hb.trans (hb'.mono hb.size)⟩
    rcases ho.2 with h | ⟨g, cap, cur, e, hg, rest⟩
    · exact .inl h
    · exact .inr ⟨g, cap, cur, e, by simp at hg; omega, rest⟩
theorem own_base {w : World} {e : TypeId} {α : Type} {enc : α → Value} {B B' : Nat} {v : Value} {l : List α} (h : OwnG w e enc B v l) (hb : B' ≤ B) : OwnG w e enc B' v l := by
  refine ⟨h.1, ?_⟩
  rcases h.2 with hn | ⟨g, cap, cur, hv, hbg, rest⟩
  · exact .inl hn
  · exact .inr ⟨g, cap, cur, hv, Nat.le_trans hb hbg, rest⟩
/-- place's own closure. -/
theorem place1_any (b : Nat) (p x : Int) (w : World) (h : w.cell? ⟨b, 0, none⟩ = some (.int .i64 p)) : Calls Tryz.prog 159 #[.int .i64 x, .pointer (some ⟨b, 0, none⟩)] w fun e w' => e = .returned (.bool (decide (p ≤ x))) ∧ w = w' := by
  go_enter Tryz.func159, Tryz.ntmps159
  go_wp2_with fail
  go_ret
  exact ⟨rfl, rfl⟩
theorem place_any (A : Option Addr) (n c : Nat) (l : List Int) (p : Int) (w : World) (h : NAt w A n c l) : Calls Tryz.prog 135 #[.slice A n c, .int .i64 p] w fun e w' => e = .returned (.int .i64 (plc p l : Int)) ∧ Below w.heap.size w w' := by
  have hb := below_box w (.cells #[.int .i64 p] 3)
  have cF := indexFunc_any 159 #[.pointer (some ⟨w.heap.size, 0, none⟩)] (fun x => decide (p ≤ x)) (Go.Proofs.enters_of Tryz.func159 (by kernel_rfl) rfl) A n c l _ (h.below hb) (fun W x hW =>
    (place1_any w.heap.size p x W ((hW.cell (p := ⟨w.heap.size, 0, none⟩) (by simp)).trans (by simp))).mono (by rintro e w' ⟨rfl, rfl⟩; exact ⟨rfl, hW⟩))
  have HB := Lib.hid hb
  have HL := Lib.hid h.len
  clear h hb
  go_enter Tryz.func135, Tryz.ntmps135
  go_wp2_with fail
  refine cF.mono ?_
  rintro e w' ⟨k, rfl, hk, hb'⟩
  have HB' := Lib.hid (HB.out.trans (hb'.mono HB.out.size))
  clear cF hb'
  rcases hk with ⟨rfl, hk⟩ | ⟨j, rfl, hj, hk, hi⟩
  · have e : (plc p l : Int) = (n : Int) := by
      rw [plc_at p l n (by have := HL.out; omega) (fun j hj _ => by have := hk _ (List.getElem_mem hj); simp at this; omega) (fun h => by have := HL.out; omega)]
    have HE := Lib.hid e
    clear hk e
    go_wp2_with fail
    go_ret
    exact ⟨by rw [HE.out]; rfl, HB'.out⟩
  · have e : (plc p l : Int) = (j : Int) := by
      rw [plc_at p l j (by omega) (fun i h hij => by have := hi i h hij; simp at this; omega) (fun _ => by simpa using hk)]
    have d : ¬ (j : Int) < 0 := by omega
    have HE := Lib.hid e
    clear hk e hi
    go_wp2_with fail
    go_ret
    exact ⟨by rw [HE.out]; rfl, HB'.out⟩
end Go.Proofs.YtboaamaneeodfaaGreat.Pool
namespace Go.Proofs.YtboaamaneeodfaaGreat.Pool
open Go.RowKit Go.Shelf Gen
attribute [local go_sem] Oper.semAt_some

set_option maxRecDepth 100000 in
set_option maxHeartbeats 2000000 in
theorem values1_in (F : Fence) (n : Nat) (hf : F.fn 158) (hro : F.round = none) (hn : 1 ≤ n) (l Bs n₀ : Nat) (A : Option Addr) (len cap : Nat) (zs : List Int) (hz : zs.length = len) (hreach : len ≤ 1000000) (J Jx : List Int → World → Prop)
    (hY : ∀ pre x W, J pre W → pre.length < len → YieldAt F (n - 1) Tryz.prog l #[.int .i64 x] W fun e W' =>
      (e = .returned (.bool true) ∧ J (pre ++ [x]) W' ∧ Below n₀ W W') ∨ (e = .returned (.bool false) ∧ Jx (pre ++ [x]) W'))
    (W : World) (hBs : W.cell? ⟨Bs, 0, none⟩ = some (.slice A len cap)) (hc : zs ≠ [] → ∃ b off, A = some ⟨b, off, none⟩ ∧ b < n₀ ∧ ∀ j (h : j < zs.length), W.cell? ⟨b, off + j, none⟩ = some (.int .i64 zs[j])) (h0 : J [] W) :
    CallsIn F n Tryz.prog 158 #[.func (.yield l) #[] #[], .pointer (some ⟨Bs, 0, none⟩)] W fun e W' => (∃ v, e = .returned v) ∧
      ((∃ ys, ys = zs ∧ J ys W') ∨ (∃ pre, pre <+: zs ∧ Jx pre W')) := by
  refine callsIn_of_wp Tryz.func158 rfl hf ?_ hro
  simp only [Tryz.ntmps158, List.size_toArray, List.length_cons, List.length_nil, Nat.reduceAdd, Nat.reduceSub, Array.replicate_succ, Array.replicate_zero, List.push_toArray, List.append_toArray, List.nil_append, List.cons_append]
  have HC := Lib.hid hc
  clear hc
  gi_wp2
  gi_loopw [7] (fun i wr => ∃ k : Nat, k ≤ len ∧ i = .int .i64 k ∧ J (zs.take k) wr ∧ Below n₀ W wr)
    (fun i _ => len - (intOf i).toNat)
  case atStart => exact ⟨0, Nat.zero_le _, rfl, h0, Below.refl _ _⟩
  case round =>
    obtain ⟨k, hk, rfl, hJs, hnx⟩ := hrel
    by_cases hlt : k < len
    · have hkl : k < zs.length := by omega
      obtain ⟨b, off, rfl, hb, hcs⟩ := HC.out (by intro e; subst e; simp at hkl)
      have hcx' := (hnx.cell (p := ⟨b, off + k, none⟩) hb).trans (hcs k hkl)
      have HT := Lib.hid (show zs.take (k + 1) = zs.take k ++ [zs[k]] from List.take_succ_eq_append_getElem hkl)
      generalize hx : zs[k] = x at hcx' HT
      obtain ⟨fn, tmps, assign, body, hy, hR⟩ := hY _ x wr hJs (by rw [List.length_take]; omega)
      clear hcs hx
      gi_wp2
      refine hR.mono ?_
      rintro e W3 (⟨rfl, hJ3, hk3⟩ | ⟨rfl, hJx3⟩)
      · gi_wp2
        go_roundw
        case rel => exact ⟨k + 1, by omega, by simp, by rw [HT.out]; exact hJ3, hnx.trans hk3⟩
        case measure => simp [intOf]; omega
      · gi_wp2
        refine bodyPost_ret (results_none rfl _ _ _) rfl ?_
        exact ⟨⟨_, rfl⟩, .inr ⟨_, by rw [← HT.out]; exact List.take_prefix _ _, hJx3⟩⟩
    · obtain rfl : k = len := by omega
      gi_wp2
      go_end0
      exact ⟨⟨_, rfl⟩, .inl ⟨_, List.take_of_length_le (by omega), hJs⟩⟩
set_option maxHeartbeats 1000000 in
theorem values_in (F : Fence) (n : Nat) (h5 : F.fn 134) (hro : F.round = none) (a : Option Addr) (len cap : Nat) (w : World) :
    CallsIn F n Tryz.prog 134 #[.slice a len cap] w fun e w' => e = .returned (.func (.func 158) #[] #[.pointer (some ⟨w.heap.size, 0, none⟩)]) ∧ w' = w.alloc (.cells #[.slice a len cap] 68) := by
  refine callsIn_of_wp Tryz.func134 rfl h5 ?_ hro
  simp only [Tryz.ntmps134, List.size_toArray, List.length_cons, List.length_nil, Nat.reduceAdd, Nat.reduceSub, Array.replicate_succ, Array.replicate_zero, List.push_toArray, List.append_toArray, List.nil_append, List.cons_append]
  gi_wp2
  go_ret
  exact ⟨rfl, rfl⟩
/-- The numbers of a row that came before n₀. -/
def RowTo (n₀ : Nat) (W : World) (A : Option Addr) (zs : List Int) : Prop := zs ≠ [] → ∃ b off, A = some ⟨b, off, none⟩ ∧ b < n₀ ∧ ∀ j (h : j < zs.length), W.cell? ⟨b, off + j, none⟩ = some (.int .i64 zs[j])
theorem RowTo.below {n₀ : Nat} {W W' : World} {A : Option Addr} {zs : List Int} (h : RowTo n₀ W A zs) (hb : Below n₀ W W') : RowTo n₀ W' A zs := fun hne => by
  obtain ⟨b, off, e, hlt, hc⟩ := h hne
  exact ⟨b, off, e, hlt, fun j hj => (hb.cell (p := ⟨b, off + j, none⟩) hlt).trans (hc j hj)⟩
theorem RowTo.of {w : World} {A : Option Addr} {zs : List Int} (h : IRow w A zs) : RowTo w.heap.size w A zs := h
theorem values_stops (F : Fence) (n : Nat) (h7 : F.fn 158) (hro : F.round = none) (hn : 1 ≤ n) (Bs n₀ : Nat) (A : Option Addr) (len cap : Nat) (zs : List Int) (hz : zs.length = len) (hreach : len ≤ 1000000) (w : World) (hBs : Bs < w.heap.size) (hn₀ : n₀ ≤ w.heap.size)
    (hc : w.cell? ⟨Bs, 0, none⟩ = some (.slice A len cap)) (hI : RowTo n₀ w A zs) :
    SeqStopsK F n Tryz.prog 158 #[.pointer (some ⟨Bs, 0, none⟩)] (fun x : Int => #[Value.int .i64 x]) (Below n₀) (fun ys => ys = zs) (fun pre => pre <+: zs) len w := fun l J Jx W hW _ _ hY h0 =>
  values1_in F n h7 hro hn l Bs n₀ A len cap zs hz hreach J Jx hY W ((hW.cell (p := ⟨Bs, 0, none⟩) hBs).trans hc) (hI.below (hW.mono hn₀)) h0
theorem info_int : (Tryz.prog.info? 3).map (fun i => (i.zero, i.size, i.bytes)) = some (some (.int .i64 0), 1, 8) := by kernel_rfl
theorem info_parts' {t : TypeId} {z : Value} {n b : Nat} (h : (Tryz.prog.info? t).map (fun i => (i.zero, i.size, i.bytes)) = some (some z, n, b)) : ∃ i, Tryz.prog.info? t = some i ∧ i.zero = some z ∧ i.size = n ∧ i.bytes = b := by
  obtain ⟨i, hi, hzz⟩ := Option.map_eq_some_iff.1 h
  simp only [Prod.mk.injEq] at hzz
  exact ⟨i, hi, hzz.1, hzz.2.1, hzz.2.2⟩
set_option maxRecDepth 100000 in
set_option maxHeartbeats 4000000 in
/-- slices.AppendSeq(nil, slices.Values(..)). -/
theorem appendSeq_in (F : Fence) (n : Nat) (h11 : F.fn 178) (h7 : F.fn 158) (hro : F.round = none) (hn : 3 ≤ n) (Bs : Nat) (A : Option Addr) (len cap : Nat) (zs : List Int) (hz : zs.length = len) (hreach : len ≤ 1000000) (w : World) (hBs : Bs < w.heap.size)
    (hc : w.cell? ⟨Bs, 0, none⟩ = some (.slice A len cap)) (hI : IRow w A zs) :
    CallsIn F n Tryz.prog 178 #[.slice none 0 0, .func (.func 158) #[] #[.pointer (some ⟨Bs, 0, none⟩)]] w fun e w' => ∃ v, e = .returned v ∧ OwnI w' w.heap.size v zs ∧ Below w.heap.size w w' := by
  have h1 : 1 ≤ n := by omega
  obtain ⟨i0, hi, hz0, hz1, hz2⟩ := info_parts' info_int
  refine callsIn_of_wp_marks Tryz.func178 rfl h11 ?_ hro
  simp only [Tryz.ntmps178, List.size_toArray, List.length_cons, List.length_nil, Nat.reduceAdd, Nat.reduceSub, Array.replicate_succ, Array.replicate_zero, List.push_toArray, List.append_toArray, List.nil_append, List.cons_append]
  gi_wp2
  have bS := Boxed.new w 68 (.slice none 0 0)
  have hB0 : Below w.heap.size w (w.alloc (.cells #[.slice none 0 0] 68)) := (Below.refl _ w).alloc (Nat.le_refl _) _
  refine wpIn_rangeFunc_ownG hro h1 (gf := 158) (lb := #[.pointer (some ⟨Bs, 0, none⟩)]) rfl h7 (enters_of Tryz.func158 (by kernel_rfl) rfl)
    (values_stops F (n - 1) h7 hro (by omega) Bs w.heap.size A len cap zs hz hreach _ (by simp; omega) (by simp) ((hB0.cell (p := ⟨Bs, 0, none⟩) hBs).trans hc) ((RowTo.of hI).below hB0)) belowK_t (belowK_b (by simp)) (Below.refl _ _) (fun _ => rfl)
    (fun pre W => (∃ v, Boxed W w.heap.size 68 v ∧ W.ownsRow w.heap.size 3 1 v pre.length (pre.map numV) ∧ True) ∧ Below w.heap.size w W)
    (fun _ _ _ => False)
    (OwnFrom.and (Own.from (holdsRow_own w.heap.size w.heap.size 68 3 1 (fun pre : List Int => pre.length) (fun pre : List Int => pre.map numV) (fun _ _ => True)) _) (ownFrom_below (Nat.le_refl _) (by simp)))
    (fun _ _ _ _ _ hs _ _ => hs)
    ⟨⟨_, bS, OwnG.nil _ _ _ _, trivial⟩, hB0⟩
    (fun x => { tmps := #[.slice none 0 0, .func (.func 158) #[] #[.pointer (some ⟨Bs, 0, none⟩)], .pointer (some ⟨w.heap.size, 0, none⟩), undef, .slice none 0 0, .int .i64 x, .func (.func 158) #[] #[.pointer (some ⟨Bs, 0, none⟩)], .int .i64 x, undef, undef, undef, undef, undef], defers := [] }) ?assign ?body ?done ?stop
  case assign =>
    intro l x W K hK
    gi_wp2
    exact hK
  case body =>
    rintro l pre x W ⟨⟨v, hv, hrow, -⟩, hB⟩ hlen
    have hvc := hv.cell
    have hle := hB.size
    gi_wp2_with (first
      | (gi_at_builtin; refine wpListIn_append_own _ rfl _ _ 68 rfl w.heap.size 3 i0 _ 1 8 Tryz.underlying68 hi hz0 hz1 hz2 rfl (by decide) _ _ _ rfl (hrow.alloc _) ⟨W.heap.size, 0, none⟩ 1 1 [numV x] rfl rfl (cell_one_new _ _ _) (by simp [Value.oneCell']) (by unfold maxLen; omega) (by omega) (by simp; omega) ?_; intro v' w1 hown' hgrow _; obtain ⟨g', cap', rfl⟩ := ownsRow_succ hown'; obtain ⟨hv1, hv2, hr2, hk2, hb2⟩ := hv.appended (by decide) hrow hle (Nat.le_refl _) hown' hgrow; have hc1 := hv1.cell; have hf1 := hv1.frozen)
      | gi_in)
    exact ⟨hk2.from _, hb2, ⟨_, hv2, by rw [List.length_append, List.map_append]; exact hr2, trivial⟩, hB.trans hb2⟩
  case done =>
    rintro D ys W hD rfl ⟨⟨v, hv, hrow, -⟩, hB⟩ hK
    have hvc := hv.cell
    gi_wp2
    refine ⟨by simp, .inl ⟨_, _, rfl, run_takeDeferred hK, ?_⟩⟩
    exact ⟨_, results_tmp rfl _ _ _, v, rfl, ownsRow_putObj hrow _ hK rfl, hB.trans (belowK_b (w := w) (Nat.le_refl _) W D _ _ (by simp at hD; omega) hK rfl rfl)⟩
  case stop =>
    rintro D c pre W _ _ h _
    exact h.elim
set_option maxHeartbeats 1000000 in
theorem collect_in (F : Fence) (n : Nat) (h8 : F.fn 156) (h11 : F.fn 178) (h7 : F.fn 158) (hro : F.round = none) (hn : 4 ≤ n) (Bs : Nat) (A : Option Addr) (len cap : Nat) (zs : List Int) (hz : zs.length = len) (hreach : len ≤ 1000000) (w : World) (hBs : Bs < w.heap.size)
    (hc : w.cell? ⟨Bs, 0, none⟩ = some (.slice A len cap)) (hI : IRow w A zs) :
    CallsIn F n Tryz.prog 156 #[.func (.func 158) #[] #[.pointer (some ⟨Bs, 0, none⟩)]] w fun e w' => ∃ v, e = .returned v ∧ OwnI w' w.heap.size v zs ∧ Below w.heap.size w w' := by
  have h1 : 1 ≤ n := by omega
  refine callsIn_of_wp Tryz.func156 rfl h8 ?_ hro
  simp only [Tryz.ntmps156, List.size_toArray, List.length_cons, List.length_nil, Nat.reduceAdd, Nat.reduceSub, Array.replicate_succ, Array.replicate_zero, List.push_toArray, List.append_toArray, List.nil_append, List.cons_append]
  gi_wp2_with (gi_at_call 178; refine (appendSeq_in F (n - 1) h11 h7 hro (by omega) Bs A len cap zs hz hreach _ hBs hc hI).mono ?_; rintro e w' ⟨v, rfl, hrow, hb⟩)
  go_ret
  exact ⟨v, rfl, hrow, hb⟩
end Go.Proofs.YtboaamaneeodfaaGreat.Pool
namespace Go.Proofs.YtboaamaneeodfaaGreat.Pool
open Go.RowKit Go.Sort Go.Shelf Gen

theorem values_any (a : Option Addr) (len cap : Nat) (w : World) : Calls Tryz.prog 134 #[.slice a len cap] w fun e w' => e = .returned (.func (.func 158) #[] #[.pointer (some ⟨w.heap.size, 0, none⟩)]) ∧ w' = w.alloc (.cells #[.slice a len cap] 68) :=
  (callsIn_wide (n := 5)).1 (values_in Fence.wide 5 trivial rfl a len cap w)
theorem sort_any (gb cap : Nat) (zs : List Int) (W : World) (hH : Holds encZ W gb 0 zs.toArray) (hgl : gb < W.heap.size) (hsz : zs.length < 4611686018427387904) : Calls Tryz.prog 157 #[.slice (some ⟨gb, 0, none⟩) zs.length cap] W fun e w' => e = .returned (.tuple #[]) ∧ ∃ n os, w' = grow (putRow encZ (Sort.ahead W n) gb 0 (srt zs).toArray) os :=
  AnyM.slices_Sort_int Tryz.sortA gb 0 cap zs W hH hgl hsz
set_option maxHeartbeats 2000000 in
theorem sorted_any (Bs : Nat) (A : Option Addr) (len cap : Nat) (zs : List Int) (w : World) (h : NAt w A len cap zs) (hreach : len ≤ 1000000) (hBs : Bs < w.heap.size) (hc : w.cell? ⟨Bs, 0, none⟩ = some (.slice A len cap)) :
    Calls Tryz.prog 133 #[.func (.func 158) #[] #[.pointer (some ⟨Bs, 0, none⟩)]] w (Owns (srt zs) w) := by
  have cC := (callsIn_wide (n := 5)).1 (collect_in Fence.wide 5 trivial trivial trivial rfl (by omega) Bs A len cap zs h.len hreach w hBs hc h.row)
  obtain rfl := h.len
  clear h hc
  go_enter Tryz.func133, Tryz.ntmps133
  go_wp2_with fail
  refine cC.mono ?_
  rintro e W ⟨v, rfl, hrow, hb⟩
  clear cC
  rcases hrow.2 with ⟨rfl, hz0⟩ | ⟨gb, cap, cur, rfl, hbase, hgb, r1, r2, r3, r4⟩
  · have hss : zs = [] := List.eq_nil_of_length_eq_zero hz0
    subst hss
    have HB := Lib.hid hb
    clear hb hrow
    go_wp2_with fail
    refine (AnyM.slices_Sort_int_none Tryz.sortA none 0 W).mono ?_
    rintro e w' ⟨rfl, rfl⟩
    go_wp2_with fail
    go_ret
    exact ⟨.slice none 0 0, rfl, (by rw [show srt [] = [] by simp [srt]]; exact OwnG.nil _ _ _ _), HB.out⟩
  · have hH : Holds encZ W gb 0 zs.toArray := holds_of_block_i hgb (by simpa using r4)
    have hgl : gb < W.heap.size := (Array.getElem?_eq_some_iff.1 hgb).1
    have hsz : zs.length < 4611686018427387904 := by omega
    have cS := sort_any gb cap zs W hH hgl hsz
    go_wp2_with fail
    refine cS.mono ?_
    rintro e w' ⟨rfl, nn, os, rfl⟩
    have HX : Hid (OwnI (grow (putRow encZ (Sort.ahead W nn) gb 0 (srt zs).toArray) os) w.heap.size (.slice (some ⟨gb, 0, none⟩) zs.length cap) (srt zs)) := Lib.hid (by
      have := ownsRow_sorted_i (ss := zs) (ts := srt zs) (n := nn) (os := os) (srt_len zs) hbase hgb r1 r2 r3
      unfold OwnI OwnG
      rw [srt_len]
      exact this)
    have HB := Lib.hid (hb.grown (grownBy_sorted_i (n := nn) (os := os) (w := W) (g := gb) (srt zs).toArray) hb.size (fun j hj => by cases hj; exact hbase))
    clear cS hH hb hrow
    go_wp2_with fail
    go_ret
    exact ⟨_, rfl, HX.out, HB.out⟩
end Go.Proofs.YtboaamaneeodfaaGreat.Pool
