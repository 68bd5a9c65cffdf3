/-
  Contracts of alloc's joined and place; slices of numbers as elements of a list.
-/
import Derived.Test.YtdkpnoinccdaiaaQBase
import Derived.Deep.RegionLaw
namespace Go.Proofs.Ytdkpnoinccdaiaa.Pool
open Go.RowKit Gen

theorem elem_is : Try.prog.underlying 23 = some (.slice (Try.prog.elem 23)) := by kernel_rfl
theorem size_is (w : World) : (sizeOf (Try.prog.elem 23)).run Try.prog w = .ok 1 w := by kernel_rfl
theorem add_zero (a : Addr) : a.add 0 = a := by
  unfold Addr.add
  split <;> simp_all
theorem head_run (A : Option Addr) (n c k : Nat) (h : k ≤ c) (W : World) : (Instr.slice 23 (.slice A n c) none (some (.int .i64 k)) none).run Try.prog W = .ok (.slice A k c) W := by
  rw [run_slice_h W 23 A n c elem_is .i64 (k : Int) (by omega) (by omega), size_is]
  unfold sliced
  rcases A with _ | a
  · simp [Result.andThen]
  · simp [Result.andThen, add_zero]
theorem tail_run (A : Option Addr) (n c k : Nat) (h : k ≤ n) (W : World) : (Instr.slice 23 (.slice A n c) (some (.int .i64 k)) none none).run Try.prog W = .ok (.slice (if c = k then A else A.map (·.add k)) (n - k) (c - k)) W := by
  rw [run_slice_l W 23 A n c elem_is .i64 (k : Int) (by omega) (by omega), size_is]
  unfold sliced
  simp [Result.andThen]
/-- A list, as a slice in a cell: where it lies, how much room it has, its numbers. -/
abbrev Part := Option Addr × Nat × List Int
abbrev encS (x : Part) : Value := .slice x.1 x.2.2.length x.2.1
def PartsIn (w : World) (xs : List Part) : Prop := ∀ x ∈ xs, NAt w x.1 x.2.2.length x.2.1 x.2.2
theorem PartsIn.below {w w' : World} {xs : List Part} (h : PartsIn w xs) (hb : Below w.heap.size w w') : PartsIn w' xs := fun x hx => (h x hx).below hb
def allOf (xs : List Part) : List Int := xs.flatMap (·.2.2)
theorem allOf_append (xs ys : List Part) : allOf (xs ++ ys) = allOf xs ++ allOf ys := List.flatMap_append
theorem allOf_snoc {xs : List Part} {k : Nat} (h : k < xs.length) : allOf (xs.take (k + 1)) = allOf (xs.take k) ++ xs[k].2.2 := by
  rw [allOf, List.take_succ_eq_append_getElem h, List.flatMap_append]; simp [allOf]
theorem allOf_take_le (xs : List Part) (k : Nat) : (allOf (xs.take k)).length ≤ (allOf xs).length := by
  have : allOf xs = allOf (xs.take k) ++ allOf (xs.drop k) := by rw [allOf, allOf, allOf, ← List.flatMap_append, List.take_append_drop]
  rw [this, List.length_append]; omega
/-- A list of the call's own is handed back. -/
def Owns (l : List Int) (w : World) (e : Ending) (w' : World) : Prop := ∃ v, e = .returned v ∧ OwnI w' w.heap.size v l ∧ Below w.heap.size w w'
set_option maxRecDepth 100000 in
theorem joined_any (A : Option Addr) (n c : Nat) (xs : List Part) (w : World) (hl : xs.length = n) (hn : n ≤ 1000000) (hR : RowG w encS A xs) (hP : PartsIn w xs) (hb : (allOf xs).length ≤ 1000000000) :
    Calls Try.prog 28 #[.slice A n c] w (Owns (allOf xs) w) := by
  have HR := Lib.hid hR
  have HL := Lib.hid hl
  have HP := Lib.hid hP
  have HT := Lib.hid (allOf_take_le xs)
  have HB := Lib.hid hb
  clear hR hl hP hb
  go_enter Try.func28, Try.ntmps28
  go_wp2_with fail
  go_loopw [3, 8] (fun v i wr => ∃ k : Nat, i = .int .i64 k ∧ k ≤ n ∧ OwnI wr w.heap.size v (allOf (xs.take k)) ∧ Below w.heap.size w wr ∧ w.heap.size ≤ wr.heap.size) (fun _ i _ => n - (intOf i).toNat)
  case atStart => exact ⟨0, rfl, Nat.zero_le _, OwnG.nil _ _ _ _, Below.refl _ _, Nat.le_refl _⟩
  case round =>
    obtain ⟨k, rfl, hk, ho, hb, hB⟩ := hrel
    by_cases hlt : k < n
    · have hkl : k < xs.length := by have := HL.out; omega
      obtain ⟨b, off, rfl, hlb, hc⟩ := HR.out (by intro e; subst e; simp at hkl)
      have hck := hc k hkl
      rw [← hb.cell (p := ⟨b, off + k, none⟩) hlb] at hck
      have hin := HP.out _ (List.getElem_mem hkl)
      have hle := HT.out (k + 1)
      rw [allOf_snoc hkl, List.length_append] at hle
      have hrow := RowG.below hin.row hb
      obtain ⟨v', W', hrun, ho', hg, _⟩ := append_row ints_elem wr w.heap.size _ _ ho xs[k].1 xs[k].2.2.length xs[k].2.1 xs[k].2.2 rfl hin.nil hrow (by have := HB.out; omega) hB
      have hb' := below_grown hb ho hg hB
      have hB' := Nat.le_trans hB hg.size
      rw [← allOf_snoc hkl] at ho'
      have hck2 : wr.cell? ⟨b, off + k, none⟩ = some (.slice xs[k].1 xs[k].2.2.length xs[k].2.1) := hck
      have R1 := Lib.hid hrun
      clear hck hrun
      generalize hx1 : xs[k].1 = x1 at hck2 R1
      generalize hx2 : xs[k].2.2.length = x2 at hck2 R1
      generalize hx3 : xs[k].2.1 = x3 at hck2 R1
      have HO' := Lib.hid ho'
      have HB' := Lib.hid hb'
      clear hx1 hx2 hx3 ho' hb' hg ho hb hc hin hle hrow
      go_wp2_with (at_builtin; (refine wpList_append_eq rfl (.tmp 12) (.tmp 13) _ rfl rfl rfl R1.out ?_; clear R1))
      go_roundw
      case rel => exact ⟨k + 1, by go_num, by omega, HO'.out, HB'.out, hB'⟩
      case measure => simp [intOf]; omega
    · rw [List.take_of_length_le (by have := HL.out; omega)] at ho
      have HO := Lib.hid ho
      have HBB := Lib.hid hb
      clear ho hb
      go_wp2_with fail
      go_ret
      exact ⟨_, rfl, HO.out, HBB.out⟩
/-- joined, of one list that a call hands to it. -/
theorem join1 (x : Part) (w : World) (h : NAt w x.1 x.2.2.length x.2.1 x.2.2) (hn : x.2.2.length ≤ 1000000) :
    Calls Try.prog 28 #[.slice (some ⟨w.heap.size, 0, none⟩) 1 1] (w.alloc (.cells #[encS x] 23)) fun e w' => ∃ v, e = .returned v ∧ OwnI w' w.heap.size v x.2.2 ∧ Below w.heap.size w w' := by
  have hb := below_box w (.cells #[encS x] 23)
  refine (joined_any (some ⟨w.heap.size, 0, none⟩) 1 1 [x] _ rfl (by omega) (fun _ => ⟨w.heap.size, 0, rfl, by simp, fun k hk => ?_⟩) (fun y hy => ?_) (by simp [allOf]; omega)).mono ?_
  · obtain rfl : k = 0 := by simp at hk; omega
    simp
  · rw [List.mem_singleton.1 hy]; exact h.below hb
  · rintro e w' ⟨v, rfl, ho, hb'⟩
    rw [show allOf [x] = x.2.2 by simp [allOf]] at ho
    refine ⟨v, rfl, ⟨ho.1, ?_⟩, hb.trans (hb'.mono hb.size)⟩
    rcases ho.2 with h | ⟨g, cap, cur, e, hg, rest⟩
    · exact .inl h
    · exact .inr ⟨g, cap, cur, e, by simp at hg; omega, rest⟩
theorem own_base {w : World} {e : TypeId} {α : Type} {enc : α → Value} {B B' : Nat} {v : Value} {l : List α} (h : OwnG w e enc B v l) (hb : B' ≤ B) : OwnG w e enc B' v l := by
  refine ⟨h.1, ?_⟩
  rcases h.2 with hn | ⟨g, cap, cur, hv, hbg, rest⟩
  · exact .inl hn
  · exact .inr ⟨g, cap, cur, hv, Nat.le_trans hb hbg, rest⟩
/-- place's own closure. -/
theorem place1_any (b : Nat) (p x : Int) (w : World) (h : w.cell? ⟨b, 0, none⟩ = some (.int .i64 p)) : Calls Try.prog 53 #[.int .i64 x, .pointer (some ⟨b, 0, none⟩)] w fun e w' => e = .returned (.bool (decide (p ≤ x))) ∧ w = w' := by
  go_enter Try.func53, Try.ntmps53
  go_wp2_with fail
  go_ret
  exact ⟨rfl, rfl⟩
theorem place_any (A : Option Addr) (n c : Nat) (l : List Int) (p : Int) (w : World) (h : NAt w A n c l) : Calls Try.prog 45 #[.slice A n c, .int .i64 p] w fun e w' => e = .returned (.int .i64 (plc p l : Int)) ∧ Below w.heap.size w w' := by
  have hb := below_box w (.cells #[.int .i64 p] 3)
  have cF := indexFunc_any 53 #[.pointer (some ⟨w.heap.size, 0, none⟩)] (fun x => decide (p ≤ x)) (Go.Proofs.enters_of Try.func53 (by kernel_rfl) rfl) A n c l _ (h.below hb) (fun W x hW =>
    (place1_any w.heap.size p x W ((hW.cell (p := ⟨w.heap.size, 0, none⟩) (by simp)).trans (by simp))).mono (by rintro e w' ⟨rfl, rfl⟩; exact ⟨rfl, hW⟩))
  have HB := Lib.hid hb
  have HL := Lib.hid h.len
  clear h hb
  go_enter Try.func45, Try.ntmps45
  go_wp2_with fail
  refine cF.mono ?_
  rintro e w' ⟨k, rfl, hk, hb'⟩
  have HB' := Lib.hid (HB.out.trans (hb'.mono HB.out.size))
  clear cF hb'
  rcases hk with ⟨rfl, hk⟩ | ⟨j, rfl, hj, hk, hi⟩
  · have e : (plc p l : Int) = (n : Int) := by
      rw [plc_at p l n (by have := HL.out; omega) (fun j hj _ => by have := hk _ (List.getElem_mem hj); simp at this; omega) (fun h => by have := HL.out; omega)]
    have HE := Lib.hid e
    clear hk e
    go_wp2_with fail
    go_ret
    exact ⟨by rw [HE.out]; rfl, HB'.out⟩
  · have e : (plc p l : Int) = (j : Int) := by
      rw [plc_at p l j (by omega) (fun i h hij => by have := hi i h hij; simp at this; omega) (fun _ => by simpa using hk)]
    have d : ¬ (j : Int) < 0 := by omega
    have HE := Lib.hid e
    clear hk e hi
    go_wp2_with fail
    go_ret
    exact ⟨by rw [HE.out]; rfl, HB'.out⟩
end Go.Proofs.Ytdkpnoinccdaiaa.Pool
