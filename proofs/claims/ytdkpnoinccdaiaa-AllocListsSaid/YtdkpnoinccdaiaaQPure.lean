/-
  Plain facts of lists of pages: laid in, sorted, in lists.
-/
import Derived.WalkKit
import Derived.Lib.Hide
namespace Go.Proofs.Ytdkpnoinccdaiaa.Pool

/-- A list with a page laid in. -/
def lay1 (p : Int) : List Int → List Int
  | [] => [p]
  | x :: l => if x < p then x :: lay1 p l else p :: x :: l
/-- How many lie ahead of the first one that is not less. -/
def plc (p : Int) : List Int → Nat
  | [] => 0
  | x :: l => if x < p then plc p l + 1 else 0
theorem plc_le (p : Int) : ∀ l, plc p l ≤ l.length
  | [] => Nat.le_refl _
  | x :: l => by
    have := plc_le p l
    unfold plc
    split <;> simp
    omega
theorem plc_ahead (p : Int) : ∀ l : List Int, ∀ x ∈ l.take (plc p l), x < p
  | [], x, h => by simp at h
  | y :: l, x, h => by
    unfold plc at h
    split at h
    · rename_i hy
      rw [List.take_succ_cons] at h
      rcases List.mem_cons.1 h with rfl | h
      · exact hy
      · exact plc_ahead p l x h
    · simp at h
theorem plc_behind (p : Int) : ∀ l : List Int, ∀ x ∈ (l.drop (plc p l)).head?, p ≤ x
  | [], x, h => by simp at h
  | y :: l, x, h => by
    unfold plc at h
    split at h
    · rw [List.drop_succ_cons] at h
      exact plc_behind p l x h
    · simp at h; omega
theorem plc_at (p : Int) (l : List Int) (k : Nat) (hk : k ≤ l.length) (h1 : ∀ j (h : j < l.length), j < k → l[j] < p) (h2 : ∀ (h : k < l.length), p ≤ l[k]) : plc p l = k := by
  induction l generalizing k with
  | nil => simp at hk; subst hk; rfl
  | cons x l ih =>
    rcases k with _ | k
    · have := h2 (by simp)
      simp only [List.getElem_cons_zero] at this
      rw [plc, if_neg (by omega)]
    · have := h1 0 (by simp) (by omega)
      simp only [List.getElem_cons_zero] at this
      rw [plc, if_pos this, ih k (by simpa using hk) (fun j hj hjk => h1 (j + 1) (by simpa using hj) (by omega)) (fun h => h2 (by simpa using h))]
theorem lay1_cut (p : Int) : ∀ l, lay1 p l = l.take (plc p l) ++ p :: l.drop (plc p l)
  | [] => rfl
  | x :: l => by
    unfold lay1 plc
    split
    · rw [List.take_succ_cons, List.drop_succ_cons, lay1_cut p l]; rfl
    · rfl
theorem lay1_comm (a b : Int) : ∀ l, lay1 a (lay1 b l) = lay1 b (lay1 a l)
  | [] => by
    simp only [lay1]
    split <;> split <;> first | rfl | omega | (rename_i h g; obtain rfl : a = b := by omega
                                               rfl)
  | x :: l => by
    simp only [lay1]
    by_cases h1 : x < a <;> by_cases h2 : x < b
    · rw [if_pos h1, if_pos h2, lay1, lay1, if_pos h1, if_pos h2, lay1_comm a b l]
    · rw [if_pos h1, if_neg h2, lay1, if_pos (by omega), lay1, if_pos h1, lay1, if_neg h2]
    · rw [if_neg h1, if_pos h2, lay1, if_neg h1, lay1, if_pos (by omega), lay1, if_pos h2]
    · rw [if_neg h1, if_neg h2, lay1, lay1]
      by_cases h3 : b < a
      · rw [if_pos h3, lay1, if_neg h1, lay1, if_neg (show ¬ a < b by omega)]
      · by_cases h4 : a < b
        · rw [if_neg h3, lay1, if_pos h4, lay1, if_neg h2]
        · obtain rfl : a = b := by omega
          rfl
theorem lay1_perm (p : Int) : ∀ l, (lay1 p l).Perm (p :: l)
  | [] => List.Perm.refl _
  | x :: l => by
    unfold lay1
    split
    · exact ((lay1_perm p l).cons x).trans (List.Perm.swap p x l)
    · exact List.Perm.refl _
theorem lay1_sub (p : Int) : ∀ l, List.Sublist l (lay1 p l)
  | [] => List.nil_sublist _
  | x :: l => by
    unfold lay1
    split
    · exact (lay1_sub p l).cons_cons x
    · exact List.sublist_cons_self _ _
theorem lay1_len (p : Int) (l : List Int) : (lay1 p l).length = l.length + 1 := by rw [(lay1_perm p l).length_eq]; rfl
/-- .. with pages laid in, one by one. -/
def layAll (l ps : List Int) : List Int := ps.foldl (fun l p => lay1 p l) l
theorem layAll_cons (l : List Int) (p : Int) (ps : List Int) : layAll l (p :: ps) = layAll (lay1 p l) ps := rfl
theorem layAll_same {ps qs : List Int} (h : ps.Perm qs) : ∀ l, layAll l ps = layAll l qs := by
  induction h with
  | nil => intro l; rfl
  | cons x _ ih => intro l; exact ih _
  | swap x y _ => intro l; rw [layAll_cons, layAll_cons, layAll_cons, layAll_cons, lay1_comm]
  | trans _ _ i1 i2 => intro l; exact (i1 l).trans (i2 l)
theorem layAll_perm : ∀ ps l, (layAll l ps).Perm (l ++ ps)
  | [], l => by rw [List.append_nil]; exact List.Perm.refl _
  | p :: ps, l => by
    rw [layAll_cons]
    refine (layAll_perm ps _).trans ?_
    refine ((lay1_perm p l).append_right ps).trans ?_
    rw [List.cons_append]
    exact List.perm_middle.symm
theorem layAll_sub : ∀ ps l, List.Sublist l (layAll l ps)
  | [], _ => List.Sublist.refl _
  | p :: ps, l => (lay1_sub p l).trans (layAll_sub ps _)
theorem layAll_len (l ps : List Int) : (layAll l ps).length = l.length + ps.length := by rw [(layAll_perm ps l).length_eq, List.length_append]
theorem layAll_mem (l ps : List Int) (x : Int) : x ∈ layAll l ps ↔ x ∈ l ∨ x ∈ ps := by rw [(layAll_perm ps l).mem_iff, List.mem_append]
theorem lay1_mem (l : List Int) (p x : Int) : x ∈ lay1 p l ↔ x = p ∨ x ∈ l := by rw [(lay1_perm p l).mem_iff, List.mem_cons]
/-- Sorted. -/
def srt (l : List Int) : List Int := l.mergeSort (fun x y => decide (x ≤ y))
theorem srt_perm (l : List Int) : (srt l).Perm l := List.mergeSort_perm l _
theorem srt_rises (l : List Int) : (srt l).Pairwise (· ≤ ·) :=
  (List.pairwise_mergeSort (le := fun x y : Int => decide (x ≤ y)) (fun a b c h1 h2 => by simp at h1 h2 ⊢; omega) (fun a b => by simp; omega) l).imp (fun {a b} h => by simpa using h)
theorem srt_len (l : List Int) : (srt l).length = l.length := (srt_perm l).length_eq
/-- Pages that rise laid into a list, each behind the one before. -/
def laidS : List Int → List Int → List Int
  | l, [] => l
  | l, p :: ps => l.take (plc p l) ++ p :: laidS (l.drop (plc p l)) ps
theorem layAll_split : ∀ (ps t d : List Int) (p : Int), (∀ x ∈ t, x < p) → (∀ x ∈ d.head?, p ≤ x) → (∀ q ∈ ps, p ≤ q) → layAll (t ++ p :: d) ps = t ++ p :: layAll d ps
  | [], t, d, p, _, _, _ => rfl
  | q :: ps, t, d, p, h1, h2, h3 => by
    have hq := h3 q (List.mem_cons_self ..)
    have e : lay1 q (t ++ p :: d) = t ++ p :: lay1 q d := by
      clear h3
      induction t with
      | nil =>
        rw [List.nil_append, List.nil_append, lay1]
        split
        · rfl
        · obtain rfl : q = p := by omega
          rcases d with _ | ⟨y, d⟩
          · rfl
          · have := h2 y (by simp)
            rw [lay1, if_neg (by omega)]
      | cons x t ih =>
        have := h1 x (List.mem_cons_self ..)
        rw [List.cons_append, lay1, if_pos (by omega), ih (fun y hy => h1 y (List.mem_cons_of_mem _ hy))]
        rfl
    rw [layAll_cons, e, layAll_split ps t (lay1 q d) p h1 (fun x hx => ?_) (fun y hy => h3 y (List.mem_cons_of_mem _ hy))]
    · rfl
    · rcases d with _ | ⟨y, d⟩
      · simp only [lay1, List.head?_cons, Option.mem_some_iff] at hx; omega
      · have := h2 y (by simp)
        unfold lay1 at hx
        split at hx
        · simp only [List.head?_cons, Option.mem_some_iff] at hx; omega
        · simp only [List.head?_cons, Option.mem_some_iff] at hx; omega
theorem laidS_all : ∀ (ps l : List Int), ps.Pairwise (· ≤ ·) → laidS l ps = layAll l ps
  | [], _, _ => rfl
  | p :: ps, l, h => by
    rw [List.pairwise_cons] at h
    rw [laidS, laidS_all ps _ h.2, layAll_cons, lay1_cut, layAll_split ps _ _ p (plc_ahead p l) (plc_behind p l) h.1]
theorem laid_eq (l ps : List Int) : laidS l (srt ps) = layAll l ps := by rw [laidS_all _ _ (srt_rises ps), layAll_same (srt_perm ps)]
/-- A list whose pages rise. -/
def Rise (l : List Int) : Prop := l.Pairwise (· < ·)
instance (l : List Int) : Decidable (Rise l) := inferInstanceAs (Decidable (List.Pairwise _ _))
theorem rise_iff : ∀ l : List Int, Rise l ↔ ∀ j (h : j + 1 < l.length), l[j] < l[j + 1]
  | [] => ⟨fun _ j h => by simp at h, fun _ => List.Pairwise.nil⟩
  | [x] => ⟨fun _ j h => by simp at h, fun _ => List.pairwise_singleton _ _⟩
  | x :: y :: l => by
    have ih := rise_iff (y :: l)
    constructor
    · intro h j hj
      unfold Rise at h
      rw [List.pairwise_cons] at h
      rcases j with _ | j
      · exact h.1 y (List.mem_cons_self ..)
      · exact ih.1 h.2 j (by simpa using hj)
    · intro h
      have h1 : Rise (y :: l) := ih.2 (fun j hj => h (j + 1) (by simpa using hj))
      have h0 := h 0 (by simp)
      simp only [List.getElem_cons_zero, List.getElem_cons_succ] at h0
      unfold Rise at h1 ⊢
      refine List.pairwise_cons.2 ⟨fun z hz => ?_, h1⟩
      rcases List.mem_cons.1 hz with rfl | hz
      · exact h0
      · have := (List.pairwise_cons.1 h1).1 z hz; omega
theorem lay1_rise (p : Int) : ∀ l, Rise l → p ∉ l → Rise (lay1 p l)
  | [], _, _ => List.pairwise_singleton _ _
  | x :: l, h, hp => by
    unfold Rise at h
    rw [List.pairwise_cons] at h
    have hx : p ≠ x := fun e => hp (by rw [e]; exact List.mem_cons_self ..)
    unfold lay1
    split
    · refine List.pairwise_cons.2 ⟨fun y hy => ?_, lay1_rise p l h.2 (fun e => hp (List.mem_cons_of_mem _ e))⟩
      rcases (lay1_mem l p y).1 hy with rfl | hy
      · assumption
      · exact h.1 y hy
    · refine List.pairwise_cons.2 ⟨fun y hy => ?_, List.pairwise_cons.2 h⟩
      rcases List.mem_cons.1 hy with rfl | hy
      · omega
      · have := h.1 y hy; omega
theorem rise_nodup {l : List Int} (h : Rise l) : l.Nodup := List.Pairwise.imp (fun {a b} hab e => by omega) h
theorem layAll_rise : ∀ ps l, Rise l → ps.Nodup → (∀ x ∈ ps, x ∉ l) → Rise (layAll l ps)
  | [], _, h, _, _ => h
  | p :: ps, l, h, hn, hd => by
    rw [List.nodup_cons] at hn
    rw [layAll_cons]
    refine layAll_rise ps _ (lay1_rise p l h (hd p (List.mem_cons_self ..))) hn.2 (fun x hx e => ?_)
    rcases (lay1_mem l p x).1 e with rfl | e
    · exact hn.1 hx
    · exact hd x (List.mem_cons_of_mem _ hx) e
/-- A pool, as plain data. -/
structure Po where
  high : Int
  free : List Int := []
  limbo : List Int := []
/-- A pool that may be, of at most so many sectors. -/
structure PoolOk (p : Po) (most : Int) : Prop where
  low : 2 ≤ p.high
  top : p.high ≤ most
  free : Rise p.free
  limbo : Rise p.limbo
  f : ∀ x ∈ p.free, 2 ≤ x ∧ x < p.high
  l : ∀ x ∈ p.limbo, 2 ≤ x ∧ x < p.high
  apart : ∀ x ∈ p.limbo, x ∉ p.free
theorem poolOk_iff (p : Po) (most : Int) : PoolOk p most ↔ 2 ≤ p.high ∧ p.high ≤ most ∧ Rise p.limbo ∧ Rise (layAll p.free p.limbo) ∧ ∀ x ∈ layAll p.free p.limbo, 2 ≤ x ∧ x < p.high := by
  constructor
  · intro h
    refine ⟨h.low, h.top, h.limbo, layAll_rise _ _ h.free (rise_nodup h.limbo) h.apart, fun x hx => ?_⟩
    rcases (layAll_mem _ _ x).1 hx with hx | hx
    · exact h.f x hx
    · exact h.l x hx
  · rintro ⟨h1, h2, h3, h4, h5⟩
    refine ⟨h1, h2, List.Pairwise.sublist (layAll_sub _ _) h4, h3, fun x hx => h5 x ((layAll_mem _ _ x).2 (.inl hx)), fun x hx => h5 x ((layAll_mem _ _ x).2 (.inr hx)), fun x hx hf => ?_⟩
    have hn := (layAll_perm p.limbo p.free).nodup_iff.1 (rise_nodup h4)
    exact (List.nodup_append.1 hn).2.2 x hf x hx rfl
/-- Lists of at most two hundred. -/
def chunkF : Nat → List Int → List (List Int)
  | 0, _ => []
  | n + 1, l => if l.length = 0 then [] else l.take 200 :: chunkF n (l.drop 200)
def chunks (l : List Int) : List (List Int) := chunkF l.length l
theorem chunkF_more : ∀ (n m : Nat) (l : List Int), l.length ≤ n → l.length ≤ m → chunkF n l = chunkF m l
  | 0, 0, _, _, _ => rfl
  | 0, m + 1, l, h, _ => by rw [chunkF, chunkF, if_pos (by omega)]
  | n + 1, 0, l, _, h => by rw [chunkF, chunkF, if_pos (by omega)]
  | n + 1, m + 1, l, h, g => by
    rw [chunkF, chunkF]
    by_cases e : l.length = 0
    · rw [if_pos e, if_pos e]
    · rw [if_neg e, if_neg e, chunkF_more n m (l.drop 200) (by rw [List.length_drop]; omega) (by rw [List.length_drop]; omega)]
theorem chunks_nil : chunks [] = [] := rfl
theorem chunks_cons (l : List Int) (h : l.length ≠ 0) : chunks l = l.take 200 :: chunks (l.drop 200) := by
  rw [chunks, chunkF_more l.length (l.length + 1) l (Nat.le_refl _) (by omega), chunkF, if_neg h, chunks, chunkF_more (l.drop 200).length l.length _ (Nat.le_refl _) (by rw [List.length_drop]; omega)]
theorem chunks_flat (l : List Int) : (chunks l).flatten = l := by
  obtain ⟨n, hn⟩ : ∃ n, l.length = n := ⟨_, rfl⟩
  induction n using Nat.strongRecOn generalizing l with
  | ind n ih =>
    by_cases h : l.length = 0
    · rw [List.eq_nil_of_length_eq_zero h]; rfl
    · rw [chunks_cons l h, List.flatten_cons, ih (l.drop 200).length (by rw [List.length_drop]; omega) _ rfl, List.take_append_drop]
theorem chunks_len (l : List Int) : (chunks l).length ≤ l.length := by
  obtain ⟨n, hn⟩ : ∃ n, l.length = n := ⟨_, rfl⟩
  induction n using Nat.strongRecOn generalizing l with
  | ind n ih =>
    by_cases h : l.length = 0
    · rw [List.eq_nil_of_length_eq_zero h]; exact Nat.le_refl _
    · rw [chunks_cons l h, List.length_cons]
      have := ih (l.drop 200).length (by rw [List.length_drop]; omega) _ rfl
      rw [List.length_drop] at this
      omega
end Go.Proofs.Ytdkpnoinccdaiaa.Pool
