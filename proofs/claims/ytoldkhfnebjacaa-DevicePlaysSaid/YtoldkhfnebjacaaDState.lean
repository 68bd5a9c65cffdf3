/-
  What a device holds, as plain data, and how it lies in memory; what changes, and what does not.
-/
import Derived.Test.YtoldkhfnebjacaaDMap
import Derived.Deep.QuietTactic
import Derived.BigQuiet
namespace Go.Proofs.Ytoldkhfnebjacaa.Disk
open Go.RowKit Go.Maps

/-- Only blocks of S, and new ones, are not what they were. -/
structure Mod (S : List Nat) (w w' : World) : Prop where
  os : w'.os = w.os
  tape : w'.tape = w.tape
  output : w'.output = w.output
  size : w.heap.size ≤ w'.heap.size
  block : ∀ k, k < w.heap.size → k ∉ S → w'.heap[k]? = w.heap[k]?
theorem Mod.refl (S : List Nat) (w : World) : Mod S w w := ⟨rfl, rfl, rfl, Nat.le_refl _, fun _ _ _ => rfl⟩
theorem Mod.trans {S : List Nat} {a b c : World} (h : Mod S a b) (k : Mod S b c) : Mod S a c :=
  ⟨k.os.trans h.os, k.tape.trans h.tape, k.output.trans h.output, Nat.le_trans h.size k.size, fun i hi hn => (k.block i (Nat.lt_of_lt_of_le hi h.size) hn).trans (h.block i hi hn)⟩
theorem Mod.mono {S T : List Nat} {w w' : World} (h : Mod S w w') (hs : ∀ x ∈ S, x ∈ T) : Mod T w w' := ⟨h.os, h.tape, h.output, h.size, fun k hk hn => h.block k hk (fun e => hn (hs k e))⟩
theorem Mod.grown {S : List Nat} {a w w' : World} {row : Option Nat} (h : Mod S a w) (hg : w.grownBy w' row) (hr : ∀ k, row = some k → k ∈ S ∨ a.heap.size ≤ k) : Mod S a w' :=
  ⟨hg.os.trans h.os, hg.tape.trans h.tape, hg.output.trans h.output, Nat.le_trans h.size hg.size, fun i hi hn => (hg.block i (Nat.lt_of_lt_of_le hi h.size) (fun e => by
    rcases hr i e.symm with h1 | h1
    · exact hn h1
    · omega)).trans (h.block i hi hn)⟩
theorem Mod.alloc {S : List Nat} {a w : World} (h : Mod S a w) (o : Obj) : Mod S a (w.alloc o) := h.grown (World.grownBy_alloc w o none) (fun k e => by cases e)
theorem Mod.setCell {S : List Nat} {a w : World} (h : Mod S a w) (p : Addr) (u : Value) (hp : p.block ∈ S ∨ a.heap.size ≤ p.block) : Mod S a (w.setCell p u) :=
  ⟨h.os, h.tape, h.output, by simpa using h.size, fun i hi hn => by
    have hne : i ≠ p.block := fun e => by
      subst e
      rcases hp with h1 | h1
      · exact hn h1
      · omega
    rw [Below.heap_setCell _ _ _ _ hne]
    exact h.block i hi hn⟩
theorem Mod.drew {S : List Nat} {a w : World} (h : Mod S a w) : Mod S a w.drew := ⟨h.os, h.tape, h.output, h.size, h.block⟩
theorem Mod.drewN {S : List Nat} {a w : World} (h : Mod S a w) (n : Nat) : Mod S a (w.drewN n) := ⟨h.os, h.tape, h.output, h.size, h.block⟩
theorem Mod.below {S : List Nat} {w w' : World} {B : Nat} (h : Mod S w w') (hB : B ≤ w.heap.size) (hS : ∀ k ∈ S, B ≤ k) : Below B w w' :=
  ⟨h.os, h.tape, h.output, h.size, fun k hk => h.block k (Nat.lt_of_lt_of_le hk hB) (fun e => by have := hS k e; omega)⟩
theorem Mod.of_below {w w' : World} (S : List Nat) (h : Below w.heap.size w w') : Mod S w w' := ⟨h.os, h.tape, h.output, h.size, fun k hk _ => h.block k hk⟩
theorem Mod.cell {S : List Nat} {w w' : World} (h : Mod S w w') {p : Addr} (hp : p.block < w.heap.size) (hn : p.block ∉ S) : w'.cell? p = w.cell? p := World.cell?_of_block (w := w) (h.block p.block hp hn)

structure St where
  n : Nat
  L : Int → Option Bs
  C : Int → Option Bs
  off : Bool
  fused : Bool
  fuse : Int
abbrev devC (s : St) (bl bc : Nat) : Array Value := #[.int .i64 (s.n : Int), .map (some bl), .map (some bc), .bool s.off, .bool s.fused, .int .i64 s.fuse]
/-- A device lies in block sb, its maps in bl and bc. -/
structure Dev (w : World) (sb bl bc : Nat) (s : St) : Prop where
  box : w.heap[sb]? = some (.cells (devC s bl bc) 60 (0, 0))
  last : SMap w bl s.n s.L
  cache : SMap w bc s.n s.C
  ne : bl ≠ bc
  nz : ∀ x, s.L x ≠ some zeros
  nle : s.n ≤ 4096
  f0 : 0 ≤ s.fuse
  f1 : s.fuse ≤ 9223372036854775807
theorem Dev.lt {w : World} {sb bl bc : Nat} {s : St} (h : Dev w sb bl bc s) : sb < w.heap.size := (Array.getElem?_eq_some_iff.1 h.box).1
theorem Dev.sbl {w : World} {sb bl bc : Nat} {s : St} (h : Dev w sb bl bc s) : sb ≠ bl := fun e => by
  obtain ⟨es, c, hb⟩ := h.last.isMap
  have := h.box
  rw [e, hb] at this; cases this
theorem Dev.sbc {w : World} {sb bl bc : Nat} {s : St} (h : Dev w sb bl bc s) : sb ≠ bc := fun e => by
  obtain ⟨es, c, hb⟩ := h.cache.isMap
  have := h.box
  rw [e, hb] at this; cases this
theorem Dev.cells {w : World} {sb bl bc : Nat} {s : St} (h : Dev w sb bl bc s) : w.cell? ⟨sb, 0, none⟩ = some (.int .i64 (s.n : Int)) ∧ w.cell? ⟨sb, 1, none⟩ = some (.map (some bl)) ∧ w.cell? ⟨sb, 2, none⟩ = some (.map (some bc)) ∧
    w.cell? ⟨sb, 3, none⟩ = some (.bool s.off) ∧ w.cell? ⟨sb, 4, none⟩ = some (.bool s.fused) ∧ w.cell? ⟨sb, 5, none⟩ = some (.int .i64 s.fuse) := by
  have hc := fun j => cell_of_row w sb j _ _ _ h.box
  exact ⟨hc 0, hc 1, hc 2, hc 3, hc 4, hc 5⟩
theorem Dev.free {w : World} {sb bl bc : Nat} {s : St} (h : Dev w sb bl bc s) (j : Nat) : w.frozen? ⟨sb, j, none⟩ = false := frozen_of_row _ _ _ _ _ h.box
/-- It stays what it is while other blocks change. -/
theorem Dev.kept {w w' : World} {sb bl bc : Nat} {s : St} (h : Dev w sb bl bc s) {S : List Nat} (m : Mod S w w') (h1 : sb ∉ S) (h2 : bl ∉ S) (h3 : bc ∉ S) : Dev w' sb bl bc s :=
  ⟨(m.block _ h.lt h1).trans h.box, h.last.of_block (m.block _ h.last.lt h2), h.cache.of_block (m.block _ h.cache.lt h3), h.ne, h.nz, h.nle, h.f0, h.f1⟩
theorem Dev.below {w w' : World} {sb bl bc : Nat} {s : St} (h : Dev w sb bl bc s) (b : Below w.heap.size w w') : Dev w' sb bl bc s := h.kept (Mod.of_below [] b) (by simp) (by simp) (by simp)
/-- One of its own cells is written. -/
theorem heap_setCell_box {w : World} {b : Nat} {cs : Array Value} {t : TypeId} (h : w.heap[b]? = some (.cells cs t (0, 0))) (i : Nat) (v : Value) : (w.setCell ⟨b, i, none⟩ v).heap[b]? = some (.cells (cs.setIfInBounds i v) t (0, 0)) := by
  rw [heap_setCell_same w b i cs t v h]

/-! ### what calls do to it, as plain data -/
def St.has (s : St) (n : Int) : Bool := decide (0 ≤ n) && decide (n < (s.n : Int))
def St.actE (s : St) : Int := if s.fused && s.fuse == 0 then 40 else 0
def St.act (s : St) : St := if s.fused then (if s.fuse = 0 then { s with off := true, fused := false } else { s with fuse := s.fuse - 1 }) else s
def St.lay (s : St) (n : Int) (l : Bs) : St := { s with L := upd s.L n (if l = zeros then none else some l) }
def St.awE (s : St) : Int := if s.off then 40 else 0
/-- What a sector holds. -/
def St.get (s : St) (n : Int) : Bs := (s.C n).getD ((s.L n).getD zeros)
def pad (l : Bs) : Bs := l ++ List.replicate (1024 - l.length) 0
theorem pad_len {l : Bs} (h : l.length ≤ 1024) : (pad l).length = 1024 := by simp [pad]; omega
theorem actE_or (s : St) : s.actE = 0 ∨ s.actE = 40 := by unfold St.actE; split <;> simp
end Go.Proofs.Ytoldkhfnebjacaa.Disk
