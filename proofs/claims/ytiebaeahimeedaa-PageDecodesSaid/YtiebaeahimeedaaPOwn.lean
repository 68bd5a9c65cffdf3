/-
  Rows of pairs, of texts and of numbers that a reader gathers: one more in each.
-/
import Derived.Test.YtiebaeahimeedaaPSuper
namespace Go.Proofs.Ytiebaeahimeedaa.Page
open Go.RowKit Gen

abbrev flat (l : List (Bs × Bs)) : List Value := l.flatMap fun x => [strV x.1, strV x.2]
/-- Pairs in a row of the call's own. -/
def OwnP (w : World) (B : Nat) (v : Value) (l : List (Bs × Bs)) : Prop := w.ownsRow B 44 2 v l.length (flat l)
theorem flat_get : ∀ (l : List (Bs × Bs)) (j : Nat) (h : j < l.length), (flat l)[j * 2]? = some (strV l[j].1) ∧ (flat l)[j * 2 + 1]? = some (strV l[j].2)
  | [], _, h => by simp at h
  | _ :: _, 0, _ => ⟨rfl, rfl⟩
  | _ :: l, j + 1, h => by
    have := flat_get l j (by simpa using h)
    rw [show (j + 1) * 2 = j * 2 + 2 by omega]
    exact this
theorem flat_len2 : ∀ (l : List (Bs × Bs)), (flat l).length = l.length * 2
  | [] => rfl
  | x :: l => by
    have := flat_len2 l
    simp only [flat, List.flatMap_cons, List.length_append, List.length_cons, List.length_nil] at this ⊢
    omega
theorem OwnP.row {w : World} {B : Nat} {v : Value} {l : List (Bs × Bs)} (h : OwnP w B v l) : ∃ A c, v = .slice A l.length c ∧ PRow w A l ∧ ∀ a, A = some a → B ≤ a.block := by
  have h0 := h
  obtain ⟨hl, ⟨rfl, hn⟩ | ⟨g, cap, cur, rfl, hg, hh, hnc, hcm, _, ht⟩⟩ := h
  · exact ⟨none, 0, by rw [hn], (fun hne => absurd (List.eq_nil_of_length_eq_zero hn) hne), fun a h => by cases h⟩
  · refine ⟨some ⟨g, 0, none⟩, cap, rfl, fun _ => ⟨g, 0, rfl, ?_, fun j hj => ?_⟩, fun a h => by cases h; exact hg⟩
    · exact (Array.getElem?_eq_some_iff.1 hh).1
    · have hget : ∀ i u, (flat l)[i]? = some u → w.cell? ⟨g, i, none⟩ = some u := fun i u hu => by
        rw [cell_of_row w g i cur _ _ hh, ← Array.getElem?_toList]
        have : i < (flat l).length := (List.getElem?_eq_some_iff.1 hu).1
        rw [flat_len2] at this
        rw [← hu, ← ht, List.getElem?_take_of_lt this]
      obtain ⟨h1, h2⟩ := flat_get l j hj
      exact ⟨by rw [Nat.zero_add]; exact hget _ _ h1, by rw [Nat.zero_add]; exact hget _ _ h2⟩
theorem OwnP.nil (w : World) (B : Nat) : OwnP w B (.slice none 0 0) [] := ⟨rfl, .inl ⟨rfl, rfl⟩⟩
theorem OwnP.grown {w w' : World} {B rb : Nat} {v : Value} {l : List (Bs × Bs)} (h : OwnP w B v l) (g : w.grownBy w' (some rb)) (hb : rb < B) : OwnP w' B v l := by
  obtain ⟨hl, h | ⟨k, cap, cur, hv, hg, hh, h4, h5, h6, h7⟩⟩ := h
  · exact ⟨hl, .inl h⟩
  · exact ⟨hl, .inr ⟨k, cap, cur, hv, hg, by rw [g.block k (Array.getElem?_eq_some_iff.1 hh).1 (by simp; omega)]; exact hh, h4, h5, h6, h7⟩⟩
theorem own_grown {w w' : World} {e : TypeId} {α : Type} {enc : α → Value} {B rb : Nat} {v : Value} {l : List α} (h : OwnG w e enc B v l) (g : w.grownBy w' (some rb)) (hb : rb < B) : OwnG w' e enc B v l := by
  obtain ⟨hl, h | ⟨k, cap, cur, hv, hg, hh, h4, h5, h6, h7⟩⟩ := h
  · exact ⟨hl, .inl h⟩
  · exact ⟨hl, .inr ⟨k, cap, cur, hv, hg, by rw [g.block k (Array.getElem?_eq_some_iff.1 hh).1 (by simp; omega)]; exact hh, h4, h5, h6, h7⟩⟩
theorem pair_info : (Try.prog.info? 44).map (fun i => (i.zero, i.size, i.bytes)) = some (some (.agg #[.string ⟨#[]⟩, .string ⟨#[]⟩]), 2, 32) := by kernel_rfl
theorem info_parts' {t : TypeId} {z : Value} {n b : Nat} (h : (Try.prog.info? t).map (fun i => (i.zero, i.size, i.bytes)) = some (some z, n, b)) : ∃ i, Try.prog.info? t = some i ∧ i.zero = some z ∧ i.size = n ∧ i.bytes = b := by
  obtain ⟨i, hi, hzz⟩ := Option.map_eq_some_iff.1 h
  simp only [Prod.mk.injEq] at hzz
  exact ⟨i, hi, hzz.1, hzz.2.1, hzz.2.2⟩
/-- One pair more. -/
theorem append_pair (W : World) (B : Nat) (v : Value) (l : List (Bs × Bs)) (h : OwnP W B v l) (x y : Bs) (X Y : ByteArray) (hX : strB x = X) (hY : strB y = Y) (hn : l.length ≤ 1000000) (hB : B ≤ W.heap.size) :
    ∃ v' W', (Builtin.append_ #[23, 23] 23 #[v, .slice (some ⟨W.heap.size, 0, none⟩) 1 1]).run Try.prog (W.alloc (.cells #[.string X, .string Y] 44)) = .ok v' W' ∧ OwnP W' B v' (l ++ [(x, y)]) ∧ W.grownBy W' v.ownBlock ∧ (∀ k, v.ownBlock = some k → B ≤ k) := by
  obtain ⟨i0, hi, hz0, hz1, hz2⟩ := info_parts' pair_info
  subst hX hY
  have h0 := h
  have hnew := heap_alloc_last W (.cells #[strV x, strV y] 44)
  have hg0 : W.grownBy (W.alloc (.cells #[strV x, strV y] 44)) v.ownBlock := World.grownBy_alloc W _ _
  obtain ⟨v', W', h1, h2, h3, _, _⟩ := run_append_own_at (P := Try.prog) (W.alloc (.cells #[strV x, strV y] 44)) B 23 23 44 i0 _ 2 32 Try.underlying23 hi hz0 hz1 hz2 rfl (by decide) v _ _ (World.ownsRow.alloc h _) ⟨W.heap.size, 0, none⟩ 1 1
    [strV x, strV y] rfl (fun j u hu => by
      have e : (⟨W.heap.size, 0, none⟩ : Addr).add j = ⟨W.heap.size, j, none⟩ := by unfold Addr.add; split <;> simp_all
      rw [e, cell_of_row _ _ j _ _ _ hnew]
      simpa using hu) (fun u hu => by
        simp only [List.mem_cons, List.not_mem_nil, or_false] at hu
        rcases hu with rfl | rfl <;> rfl) (by simp only [maxLen]; omega) (by omega) (by simp; omega)
  refine ⟨v', W', h1, ?_, hg0.trans h3, fun k hk => (World.ownsRow.lt h0 k hk).1⟩
  unfold OwnP
  rw [List.length_append]
  simpa [flat] using h2
theorem ints_elem : Elem Try.prog 25 3 numV :=
  ⟨Try.underlying25, ⟨_, _, 8, rfl, rfl, rfl, rfl, rfl, by omega⟩, fun _ => rfl⟩
/-- Old blocks and the reader's: what a call may have changed since w. -/
theorem grown_own {w W W' : World} {rb : Nat} {row : Option Nat} (h : w.grownBy W (some rb)) (k : W.grownBy W' row) (hr : ∀ j, row = some j → w.heap.size ≤ j) : w.grownBy W' (some rb) := ⟨k.os.trans h.os, k.tape.trans h.tape, k.output.trans h.output, Nat.le_trans h.size k.size, fun j hj hne => (k.block j (Nat.lt_of_lt_of_le hj h.size) (fun e => by have := hr j e.symm; omega)).trans (h.block j hj hne)⟩
theorem At.grownRow {w w' : World} {b : Nat} {C : Array Value} {row : Option Nat} (h : At w b C) (g : w.grownBy w' row) (hne : some b ≠ row) : At w' b C :=
  ⟨Nat.lt_of_lt_of_le h.1 g.size, fun j => (World.frozen?_of_block (a := ⟨b, j, none⟩) (g.block b h.1 hne)).trans (h.2.1 j), fun j v hv => (World.cell?_of_block (a := ⟨b, j, none⟩) (g.block b h.1 hne)).trans (h.2.2 j v hv)⟩
theorem Rd.grownRow {w w' : World} {rb : Nat} {u : Bs} {row : Option Nat} (h : Rd w rb u) (g : w.grownBy w' row) (hr : ∀ k, row = some k → rb < k) : Rd w' rb u := by
  have hlt := h.lt
  have hne : ∀ k, k ≤ rb → some k ≠ row := fun k hk e => by have := hr k e.symm; omega
  obtain ⟨A, n, c, h1, h2, h3, h4⟩ := h
  exact ⟨A, n, c, (World.cell?_of_block (a := ⟨rb, 0, none⟩) (g.block rb hlt (hne _ (Nat.le_refl _)))).trans h1, (World.frozen?_of_block (a := ⟨rb, 0, none⟩) (g.block rb hlt (hne _ (Nat.le_refl _)))).trans h2,
    ⟨h3.len, h3.cap, h3.max, h3.nil, row_grown h3.row g (fun hn a e => hne _ (Nat.le_of_lt (h4 a e hn)))⟩, h4⟩
end Go.Proofs.Ytiebaeahimeedaa.Page
