/-
  The contract of package coin's Sum: the sum of all, told as a whole.
-/
import Derived.Test.YtobpbbldgbgcdaaAArith
import Derived.Deep.RegionWith
import Derived.OwnWalk
import Derived.Laws.OwnMore
namespace Go.Proofs.Ytobpbbldgbgcdaa.Coin
open Go.RowKit

/-- A slice's address leads to these amounts. -/
def Row (w : World) (A : Option Addr) (zs : List Int) : Prop :=
  zs ≠ [] → ∃ b o, A = some ⟨b, o, none⟩ ∧ b < w.heap.size ∧ ∀ k, k < zs.length → w.cell? ⟨b, o + k, none⟩ = some (.int .i64 (zs.getD k 0))
theorem Row.below {w w' : World} {A : Option Addr} {zs : List Int} (h : Row w A zs) (hb : Below w.heap.size w w') : Row w' A zs := by
  intro hne
  obtain ⟨b, o, rfl, hlt, hc⟩ := h hne
  exact ⟨b, o, rfl, Nat.lt_of_lt_of_le hlt hb.size, fun k hk => (hb.cell hlt).trans (hc k hk)⟩

/-- All of them are amounts. -/
def Amounts (zs : List Int) : Prop := ∀ z ∈ zs, -9223372036854775808 ≤ z ∧ z ≤ 9223372036854775807

/-- The sum of the first ones. -/
def psum (zs : List Int) (k : Nat) : Int := (zs.take k).sum
theorem psum_succ (zs : List Int) (k : Nat) (h : k < zs.length) : psum zs (k + 1) = psum zs k + zs.getD k 0 := by
  unfold psum
  rw [List.take_succ_eq_append_getElem h, List.sum_append]
  simp [h]
theorem psum_all (zs : List Int) : psum zs zs.length = zs.sum := by unfold psum; rw [List.take_length]
theorem getD_amount {zs : List Int} (h : Amounts zs) (k : Nat) : -9223372036854775808 ≤ zs.getD k 0 ∧ zs.getD k 0 ≤ 9223372036854775807 := by
  by_cases hk : k < zs.length
  · simp only [List.getD_eq_getElem?_getD, List.getElem?_eq_getElem hk, Option.getD_some]
    exact h _ (List.getElem_mem hk)
  · simp [List.getD_eq_getElem?_getD, List.getElem?_eq_none (Nat.le_of_not_lt hk)]
theorem psum_bd {zs : List Int} (h : Amounts zs) : ∀ k : Nat, k ≤ zs.length → -(9223372036854775808 * (k : Int)) ≤ psum zs k ∧ psum zs k ≤ 9223372036854775808 * (k : Int)
  | 0, _ => by simp [psum]
  | k + 1, hk => by
    have ih := psum_bd h k (by omega)
    have hz := getD_amount h k
    rw [psum_succ zs k (by omega)]
    omega

theorem two_set (W : World) (g : Nat) (a b c d : Value) (t : TypeId) (h : W.heap[g]? = some (.cells #[a, b] t (0, 0))) :
    ((W.setCell ⟨g, 0, none⟩ c).setCell ⟨g, 1, none⟩ d).heap[g]? = some (.cells #[c, d] t (0, 0)) := by
  simp [World.setCell, Array.getElem?_modify, h]

set_option maxHeartbeats 1000000 in
theorem sum_any (A : Option Addr) (n c : Nat) (zs : List Int) (w : World) (hz : zs.length = n) (hn : n ≤ 1000000000000) (hrow : Row w A zs) (hin : Amounts zs) :
    Calls Try.prog 25 #[.slice A n c] w fun e w' => e = .returned (.tuple #[.int .i64 (val zs.sum), .int .i64 (err zs.sum)]) ∧ Below w.heap.size w w' := by
  have HZ := Lib.hid hz
  have HR := Lib.hid hrow
  have HI := Lib.hid hin
  clear hz hrow hin
  go_enter Try.func25, Try.ntmps25
  go_wp2
  go_loopw [9] (fun i wr => ∃ k : Nat, k ≤ n ∧ i = .int .i64 k ∧ wr.heap[w.heap.size]? = some (.cells #[.int .u64 (lo (psum zs k)), .int .u64 (hi (psum zs k))] 71 (0, 0)) ∧ Below w.heap.size w wr) (fun i _ => n - (intOf i).toNat)
  case atStart =>
    refine ⟨0, Nat.zero_le _, rfl, ?_, (Below.refl _ _).alloc (Nat.le_refl _) _⟩
    rw [heap_alloc_new]; rfl
  case round =>
    obtain ⟨k, hk, rfl, hB, hb⟩ := hrel
    have hlt0 : w.heap.size < wr.heap.size := by
      rcases Nat.lt_or_ge w.heap.size wr.heap.size with h' | h'
      · exact h'
      · rw [Array.getElem?_eq_none h'] at hB; cases hB
    by_cases hlt : k < n
    · obtain ⟨b, o, rfl, hbw, hc⟩ := HR.out (by intro e; have := HZ.out; rw [e] at this; simp at this; omega)
      have hcell : wr.cell? ⟨b, o + k, none⟩ = some (.int .i64 (zs.getD k 0)) := (hb.cell hbw).trans (hc k (by have := HZ.out; omega))
      obtain ⟨z0, z1⟩ := getD_amount HI.out k
      have HS := Lib.hid (psum_succ zs k (by have := HZ.out; omega))
      generalize hz : zs.getD k 0 = z at *
      generalize hp : psum zs k = p at *
      have HB := Lib.hid hB
      have c0 : wr.cell? ⟨w.heap.size, 0, none⟩ = some (.int .u64 (lo p)) := cell_of_row wr w.heap.size 0 _ _ _ hB
      have c1 : wr.cell? ⟨w.heap.size, 1, none⟩ = some (.int .u64 (hi p)) := cell_of_row wr w.heap.size 1 _ _ _ hB
      have f0 : ∀ i, wr.frozen? ⟨w.heap.size, i, none⟩ = false := fun i => by simp [World.frozen?, hB]
      clear hB hc hz hp
      have HB2 := Lib.hid hb
      clear hb
      have d0 : ∀ o1 : Obj, (wr.alloc o1).cell? ⟨w.heap.size, 0, none⟩ = some (.int .u64 (lo p)) := fun o1 => (World.cell?_alloc_lt _ _ _ hlt0).trans c0
      have d1 : ∀ o1 : Obj, (wr.alloc o1).cell? ⟨w.heap.size, 1, none⟩ = some (.int .u64 (hi p)) := fun o1 => (World.cell?_alloc_lt _ _ _ hlt0).trans c1
      have e0 : ∀ o1 o2 o3 o4 : Obj, ((((wr.alloc o1).alloc o2).alloc o3).alloc o4).cell? ⟨w.heap.size, 0, none⟩ = some (.int .u64 (lo p)) := fun o1 o2 o3 o4 => by
        rw [World.cell?_alloc_lt _ _ _ (by first | omega | (simp; omega)), World.cell?_alloc_lt _ _ _ (by first | omega | (simp; omega)), World.cell?_alloc_lt _ _ _ (by first | omega | (simp; omega))]; exact d0 o1
      have e1 : ∀ o1 o2 o3 o4 : Obj, ((((wr.alloc o1).alloc o2).alloc o3).alloc o4).cell? ⟨w.heap.size, 1, none⟩ = some (.int .u64 (hi p)) := fun o1 o2 o3 o4 => by
        rw [World.cell?_alloc_lt _ _ _ (by first | omega | (simp; omega)), World.cell?_alloc_lt _ _ _ (by first | omega | (simp; omega)), World.cell?_alloc_lt _ _ _ (by first | omega | (simp; omega))]; exact d1 o1
      have g0 : ∀ (o1 o2 o3 o4 : Obj) (i : Nat), ((((wr.alloc o1).alloc o2).alloc o3).alloc o4).frozen? ⟨w.heap.size, i, none⟩ = false := fun o1 o2 o3 o4 i => by
        rw [World.frozen?_alloc_past _ _ _ (by first | omega | (simp; omega)), World.frozen?_alloc_past _ _ _ (by first | omega | (simp; omega)), World.frozen?_alloc_past _ _ _ (by first | omega | (simp; omega)), World.frozen?_alloc_past _ _ _ (by first | omega | (simp; omega))]; exact f0 i
      have s1 : ∀ (v : Value) (o1 o2 o3 o4 : Obj), (((((wr.setCell ⟨w.heap.size, 0, none⟩ v).alloc o1).alloc o2).alloc o3).alloc o4).cell? ⟨w.heap.size, 1, none⟩ = some (.int .u64 (hi p)) := fun v o1 o2 o3 o4 => by
        rw [World.cell?_alloc_lt _ _ _ (by first | omega | (simp; omega)), World.cell?_alloc_lt _ _ _ (by first | omega | (simp; omega)), World.cell?_alloc_lt _ _ _ (by first | omega | (simp; omega)), World.cell?_alloc_lt _ _ _ (by first | omega | (simp; omega)), World.cell?_setCell_other _ _ _ _ (by simp)]; exact c1
      have s2 : ∀ (v : Value) (o1 o2 o3 o4 : Obj) (i : Nat), (((((wr.setCell ⟨w.heap.size, 0, none⟩ v).alloc o1).alloc o2).alloc o3).alloc o4).frozen? ⟨w.heap.size, i, none⟩ = false := fun v o1 o2 o3 o4 i => by
        rw [World.frozen?_alloc_past _ _ _ (by first | omega | (simp; omega)), World.frozen?_alloc_past _ _ _ (by first | omega | (simp; omega)), World.frozen?_alloc_past _ _ _ (by first | omega | (simp; omega)), World.frozen?_alloc_past _ _ _ (by first | omega | (simp; omega))]; simp [f0]
      go_wp2
      go_region_with (first
        | (go_at_call 48; refine (widen_any z _ z0 z1).mono ?_; rintro e w' ⟨rfl, o1, rfl⟩)
        | (go_at_call 47; refine (plus_any p z _).mono ?_; rintro e w' ⟨rfl, o2, o3, o4, rfl⟩))
      all_goals
        go_wp2
        go_roundw
        case rel =>
          refine ⟨k + 1, by omega, by go_num, ?_, ?_⟩
          · rw [HS.out]
            refine two_set _ _ (.int .u64 (lo p)) (.int .u64 (hi p)) _ _ _ ?_
            rw [Below.heap_alloc _ _ _ (by first | omega | (simp; omega)), Below.heap_alloc _ _ _ (by first | omega | (simp; omega)), Below.heap_alloc _ _ _ (by first | omega | (simp; omega)), Below.heap_alloc _ _ _ (by omega)]
            exact HB.out
          · refine Below.drew ?_
            refine Below.setCell (p := ⟨w.heap.size, 1, none⟩) ?_ (Nat.le_refl _) _
            refine Below.setCell (p := ⟨w.heap.size, 0, none⟩) ?_ (Nat.le_refl _) _
            exact (((HB2.out.alloc (by omega) _).alloc (by first | omega | (simp; omega)) _).alloc (by first | omega | (simp; omega)) _).alloc (by first | omega | (simp; omega)) _
        case measure => simp [intOf]; omega
    · have hkn : k = zs.length := by have := HZ.out; omega
      have hbd := psum_bd HI.out k (by omega)
      have HE := Lib.hid (psum_all zs)
      rw [← hkn] at HE
      generalize hp : psum zs k = p at *
      have c0 : wr.cell? ⟨w.heap.size, 0, none⟩ = some (.int .u64 (lo p)) := cell_of_row wr w.heap.size 0 _ _ _ hB
      have c1 : wr.cell? ⟨w.heap.size, 1, none⟩ = some (.int .u64 (hi p)) := cell_of_row wr w.heap.size 1 _ _ _ hB
      have b0 : -170141183460469231731687303715884105728 ≤ p := by omega
      have b1 : p < 170141183460469231731687303715884105728 := by omega
      clear hB hbd hp hkn
      go_wp2_with (go_at_call 49; refine (narrow_any p _ b0 b1).mono ?_; rintro e w' ⟨rfl, hb'⟩)
      go_ret2
      rw [HE.out]
      exact ⟨rfl, hb.trans (hb'.mono hb.size)⟩
end Go.Proofs.Ytobpbbldgbgcdaa.Coin
