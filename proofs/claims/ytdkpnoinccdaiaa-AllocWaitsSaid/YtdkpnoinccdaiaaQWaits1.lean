/-
  AllocWaits: what is seen; plain facts; memory between two rounds.
-/
import Derived.Test.YtdkpnoinccdaiaaQStaysWalk
import Derived.Deep.WholeRow
import Derived.Deep.OwnRows
namespace Go.Proofs.Ytdkpnoinccdaiaa.Pool
open Go.RowKit Gen

/-- Which pages have been seen. -/
structure SeenAt (w : World) (b : Nat) (S : Nat → Bool) : Prop where
  lt : b < w.heap.size
  free : ∀ j, w.frozen? ⟨b, j, none⟩ = false
  cell : ∀ k, k < 501 → w.cell? ⟨b, k, none⟩ = some (.bool (S k))
theorem SeenAt.below {w w' : World} {b : Nat} {S : Nat → Bool} (h : SeenAt w b S) (hb : Below w.heap.size w w') : SeenAt w' b S :=
  ⟨Nat.lt_of_lt_of_le h.lt hb.size, fun j => (hb.frozen (p := ⟨b, j, none⟩) h.lt).trans (h.free j), fun k hk => (hb.cell (p := ⟨b, k, none⟩) h.lt).trans (h.cell k hk)⟩
def upd (S : Nat → Bool) (k : Nat) : Nat → Bool := fun j => if j = k then true else S j
theorem SeenAt.set {w : World} {b k : Nat} {S : Nat → Bool} (h : SeenAt w b S) (hk : k < 501) : SeenAt (w.setCell ⟨b, k, none⟩ (.bool true)) b (upd S k) :=
  ⟨by simpa using h.lt, fun j => by rw [World.frozen?_setCell]; exact h.free j, fun j hj => by
    unfold upd
    by_cases e : j = k
    · subst e; rw [if_pos rfl]; exact World.cell?_setCell_same _ _ _ (h.cell j hj)
    · rw [if_neg e, World.cell?_setCell_other _ _ _ _ (by intro h; injection h with _ h _; exact e h.symm)]; exact h.cell j hj⟩
theorem SeenAt.other {w : World} {b b' i : Nat} {v : Value} {S : Nat → Bool} (h : SeenAt w b S) (hne : b' ≠ b) : SeenAt (w.setCell ⟨b', i, none⟩ v) b S :=
  ⟨by simpa using h.lt, fun j => by rw [World.frozen?_setCell]; exact h.free j, fun k hk => by
    rw [World.cell?_setCell_other _ _ _ _ (by intro h; injection h; contradiction)]; exact h.cell k hk⟩
theorem SeenAt.set3 {w : World} {b b' : Nat} {v0 v1 v2 : Value} {S : Nat → Bool} (h : SeenAt w b S) (hne : b' ≠ b) : SeenAt (set3 w b' v0 v1 v2) b S := ((h.other hne).other hne).other hne
theorem made_get (z : Value) (n i : Nat) (h : i < n) : (madeCells #[z] n)[i]? = some z := by
  rw [← Array.getElem?_toList, toList_madeCells_one]
  simp [h]
theorem seen_made (w : World) : SeenAt (w.alloc (.cells (madeCells #[.bool false] 501) 4)) w.heap.size (fun _ => false) := by
  have h : At (w.alloc (.cells (madeCells #[.bool false] 501) 4)) w.heap.size (madeCells #[.bool false] 501) := At.of_block (heap_alloc_new w _)
  exact ⟨h.1, h.2.1, fun k hk => h.2.2 k _ (made_get _ _ _ hk)⟩
theorem bool_info : (Try.prog.info? 4).map (fun i => (i.zero, i.size, i.bytes)) = some (some (.bool false), 1, 1) := by kernel_rfl
theorem make_seen (w : World) : (Instr.makeSlice 41 (.int .i64 501) (.int .i64 501)).run Try.prog w = .ok (.slice (some ⟨w.heap.size, 0, none⟩) 501 501) (w.alloc (.cells (madeCells #[.bool false] 501) 4)) :=
  run_make_row' (P := Try.prog) 41 4 (.bool false) 1 Try.underlying41 bool_info rfl .i64 .i64 501 (by omega) (by omega) w
/-- What has been seen is neither free, nor in limbo, nor above. -/
def Seen (S : Nat → Bool) (c : Po) : Prop := ∀ k : Nat, S k = true → (k : Int) ∉ c.free ∧ (k : Int) < c.high ∧ (k : Int) ∉ c.limbo
theorem rise_len : ∀ (l : List Int) (lo hi : Int), lo ≤ hi → Rise l → (∀ x ∈ l, lo ≤ x ∧ x < hi) → (l.length : Int) ≤ hi - lo
  | [], lo, hi, h, _, _ => by simp; omega
  | x :: l, lo, hi, h, hr, hx => by
    have h1 := hx x (List.mem_cons_self ..)
    have hr2 := List.pairwise_cons.1 hr
    have := rise_len l (x + 1) hi (by omega) hr2.2 (fun y hy => ⟨by have := hr2.1 y hy; omega, (hx y (List.mem_cons_of_mem _ hy)).2⟩)
    simp only [List.length_cons, Int.natCast_add, Int.cast_ofNat_Int]
    omega
theorem ok_len {c : Po} {most : Int} (h : PoolOk c most) (h5 : most ≤ 500) : c.free.length ≤ 498 ∧ c.limbo.length ≤ 498 := by
  have h1 := h.low
  have h2 := h.top
  have h3 := rise_len c.free 2 c.high h1 h.free h.f
  have h4 := rise_len c.limbo 2 c.high h1 h.limbo h.l
  omega
/-- The next page. -/
theorem take_step {c : Po} {most : Int} {S : Nat → Bool} (h : PoolOk c most) (hs : Seen S c) (he : (takeP c most).2.2 = 0) :
    ∃ k : Nat, (takeP c most).2.1 = (k : Int) ∧ 2 ≤ k ∧ (k : Int) < most ∧ S k = false ∧ (k : Int) ∉ c.limbo ∧ Seen (upd S k) (takeP c most).1 ∧ (takeP c most).1.limbo = c.limbo ∧
      (c.free ≠ [] → (takeP c most).1.free.length + 1 = c.free.length ∧ ∀ x ∈ c.free, x = (k : Int) ∨ x ∈ (takeP c most).1.free) := by
  unfold takeP at *
  rcases hfr : c.free with _ | ⟨x, fs⟩
  · rw [hfr] at he
    simp only at he ⊢
    by_cases hm : most ≤ c.high
    · rw [if_pos hm] at he; simp at he
    · rw [if_neg hm]
      have h1 := h.low
      obtain ⟨k, hk⟩ : ∃ k : Nat, c.high = (k : Int) := ⟨c.high.toNat, by omega⟩
      refine ⟨k, hk, by omega, by omega, ?_, fun hl => by have := (h.l _ hl).2; omega, fun j hj => ?_, by first | trivial | rfl, fun hne => absurd rfl hne⟩
      · rcases hS : S k with _ | _
        · rfl
        · have := (hs k hS).2.1; omega
      · unfold upd at hj
        by_cases e : j = k
        · subst e; exact ⟨by simp, by show (j : Int) < c.high + 1; omega, fun hl => by have := (h.l _ hl).2; omega⟩
        · rw [if_neg e] at hj
          have := hs j hj
          exact ⟨by simp, by show (j : Int) < c.high + 1; omega, this.2.2⟩
  · simp only
    have hx := h.f x (by rw [hfr]; exact List.mem_cons_self ..)
    have hr := h.free
    unfold Rise at hr
    rw [hfr, List.pairwise_cons] at hr
    have ht := h.top
    obtain ⟨k, rfl⟩ : ∃ k : Nat, x = (k : Int) := ⟨x.toNat, by omega⟩
    refine ⟨k, rfl, by omega, by omega, ?_, fun hl => h.apart _ hl (by rw [hfr]; exact List.mem_cons_self ..), fun j hj => ?_, by first | trivial | rfl, fun _ => ⟨by first | trivial | rfl, fun y hy => List.mem_cons.1 hy⟩⟩
    · rcases hS : S k with _ | _
      · rfl
      · exact absurd (by rw [hfr]; exact List.mem_cons_self ..) (hs k hS).1
    · unfold upd at hj
      by_cases e : j = k
      · subst e
        exact ⟨fun hm => by have := hr.1 _ hm; omega, hx.2, fun hl => h.apart _ hl (by rw [hfr]; exact List.mem_cons_self ..)⟩
      · rw [if_neg e] at hj
        have := hs j hj
        exact ⟨fun hm => this.1 (by rw [hfr]; exact List.mem_cons_of_mem _ hm), this.2.1, this.2.2⟩
theorem take_out {c : Po} {most : Int} (he : (takeP c most).2.2 ≠ 0) : c.free = [] := by
  unfold takeP at he
  rcases hfr : c.free with _ | ⟨x, fs⟩
  · rfl
  · rw [hfr] at he; simp at he
/-- Between two rounds. -/
structure WI (w0 wr : World) (sB bq : Nat) (most : Int) (c : Po) (ac : La) (S : Nat → Bool) : Prop where
  q : At wr bq (poC c ac)
  pa : PoAt wr c ac
  f1 : c.free ≠ [] → ∀ x, ac.A1 = some x → x.block ≠ bq ∧ x.block ≠ sB
  f2 : c.limbo ≠ [] → ∀ x, ac.A2 = some x → x.block ≠ bq ∧ x.block ≠ sB
  s : SeenAt wr sB S
  b : Below w0.heap.size w0 wr
  ok : PoolOk c most
  seen : Seen S c
  z : w0.heap.size ≤ bq ∧ w0.heap.size ≤ sB ∧ bq ≠ sB
theorem WI.below {w0 wr w' : World} {sB bq : Nat} {most : Int} {c : Po} {ac : La} {S : Nat → Bool} (h : WI w0 wr sB bq most c ac S) (hb : Below wr.heap.size wr w') : WI w0 w' sB bq most c ac S :=
  ⟨h.q.below hb h.q.1, h.pa.below hb, h.f1, h.f2, h.s.below hb, h.b.trans (hb.mono h.b.size), h.ok, h.seen, h.z⟩
/-- A page has been taken: it is seen; the pool is what is left. -/
theorem WI.next {w0 wr w1 W1 : World} {sB bq : Nat} {most : Int} {c q : Po} {ac a4 : La} {S : Nat → Bool} (h : WI w0 wr sB bq most c ac S) (hb : Below wr.heap.size wr w1) (hp : PoAt w1 q a4) (hfr : Fresh wr.heap.size a4) (bl1 : Below w1.heap.size w1 W1) (at1 : At W1 w1.heap.size (poC q a4)) {k : Nat} (hk : k < 501)
    (hok : PoolOk q most) (hseen : Seen (upd S k) q) :
    ((∀ j, W1.frozen? ⟨sB, j, none⟩ = false) ∧ W1.cell? ⟨sB, k, none⟩ = some (.bool (S k))) ∧
    (let W2 := W1.setCell ⟨sB, k, none⟩ (.bool true)
     ((W2.cell? ⟨w1.heap.size, 0, none⟩ = some (.int .i64 q.high) ∧ W2.cell? ⟨w1.heap.size, 1, none⟩ = some (.slice a4.A1 q.free.length a4.c1) ∧ W2.cell? ⟨w1.heap.size, 2, none⟩ = some (.slice a4.A2 q.limbo.length a4.c2)) ∧
     (W2.cell? ⟨bq, 0, none⟩ = some (.int .i64 c.high) ∧ W2.cell? ⟨bq, 1, none⟩ = some (.slice ac.A1 c.free.length ac.c1) ∧ W2.cell? ⟨bq, 2, none⟩ = some (.slice ac.A2 c.limbo.length ac.c2)) ∧ (∀ j, W2.frozen? ⟨bq, j, none⟩ = false)) ∧
     WI w0 (set3 W2 bq (.int .i64 q.high) (.slice a4.A1 q.free.length a4.c1) (.slice a4.A2 q.limbo.length a4.c2)) sB bq most q a4 (upd S k)) := by
  have hh : Below wr.heap.size wr W1 := hb.trans (bl1.mono hb.size)
  have h1 := h.below hh
  have s1 := h.s.lt
  have q1 := h.q.1
  have hs2 := h1.s.set hk
  have hne1 : sB ≠ w1.heap.size := by have := hb.size; omega
  have a2 := at1.set_other (i := k) (v := .bool true) hne1
  have q2 := h1.q.set_other (i := k) (v := .bool true) h.z.2.2.symm
  refine ⟨⟨h1.s.free, h1.s.cell k hk⟩, ⟨po_cells a2, po_cells q2, q2.2.1⟩, ?_⟩
  have hp1 := hp.below bl1
  have r1 : ∀ x, a4.A1 = some x → x.block ≠ bq ∧ x.block ≠ sB := fun x e => by have := hfr.1 x e; omega
  have r2 : ∀ x, a4.A2 = some x → x.block ≠ bq ∧ x.block ≠ sB := fun x e => by have := hfr.2 x e; omega
  have n1 := nat_grown hp1.f (grown_set W1 sB k (.bool true)) (fun _ x e e2 => (r1 x e).2 (Option.some.inj e2))
  have n2 := nat_grown hp1.l (grown_set W1 sB k (.bool true)) (fun _ x e e2 => (r2 x e).2 (Option.some.inj e2))
  refine ⟨set3_at q2 rfl _ _ _, ⟨nat_set3 n1 (fun x e => (r1 x e).1) _ _ _, nat_set3 n2 (fun x e => (r2 x e).1) _ _ _⟩, fun _ => r1, fun _ => r2, hs2.set3 h.z.2.2, set3_below (h1.b.setCell (p := ⟨sB, k, none⟩) h.z.2.1 _) h.z.1 _ _ _, hok, hseen, h.z⟩
end Go.Proofs.Ytdkpnoinccdaiaa.Pool
