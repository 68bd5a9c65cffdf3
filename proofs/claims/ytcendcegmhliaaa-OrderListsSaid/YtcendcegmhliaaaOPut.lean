/-
  Contracts of numbered, Put.
-/
import Derived.Test.YtcendcegmhliaaaOConcat
import Derived.Test.YtcendcegmhliaaaOIndex
import Derived.Test.YtcendcegmhliaaaOSide
import Derived.Deep.RegionWith
namespace Go.Proofs.Ytcendcegmhliaaa.Ord
open Go.RowKit Go.Sort _root_.Go.Proofs.Ytcendcegmhliaaa.Gnd

theorem ent_numbered : Enters Try.prog 54 := enters_of Try.func54 (by kernel_rfl) rfl
theorem ent_put : Enters Try.prog 34 := enters_of Try.func34 (by kernel_rfl) rfl
def numB (m : Int) (x : Or) : Bool := x.num == m
def moreB (m : Int) (x : Or) : Bool := decide (m < x.num)
set_option maxRecDepth 100000 in
theorem num1_any (x : Or) (m : Int) (nb : Nat) (w : World) (hm : w.cell? ⟨nb, 0, none⟩ = some (.int .u64 m)) : Calls Try.prog 54 #[.agg (encA x).toArray, .pointer (some ⟨nb, 0, none⟩)] w (fun e w' => e = .returned (.bool (numB m x)) ∧ Below w.heap.size w w') := by
  have b1 := below_box w (.cells (encA x).toArray 25)
  have a1 := at_new w (encA x).toArray 25
  have hm' := (b1.cell (p := ⟨nb, 0, none⟩) (block_lt_of_cell hm)).trans hm
  obtain ⟨W1, hW1⟩ : ∃ W1, w.alloc (.cells (encA x).toArray 25) = W1 := ⟨_, rfl⟩
  rw [hW1] at b1 a1 hm'
  have k0 : W1.cell? ⟨w.heap.size, 0, none⟩ = some (.int .u64 x.num) := a1.2.2 0 _ rfl
  have hs : numB m x = (x.num == m) := rfl
  have HW := Lib.hid hW1
  have HS := Lib.hid hs
  have B1 := Lib.hid b1
  generalize numB m x = r at *
  generalize x.num = y at *
  generalize (encA x).toArray = C at *
  clear hW1 hs b1 a1 hm
  go_enter Try.func54, Try.ntmps54
  go_wp2_with ((with_reducible refine wpList_box_eq rfl 25 (.tmp 0) rfl C ?_ ?_); (next => rfl); rw [HW.out])
  go_ret
  exact ⟨by rw [HS.out]; rfl, B1.out⟩
set_option maxRecDepth 100000 in
theorem put1_any (x : Or) (m : Int) (nb : Nat) (w : World) (hm : w.cell? ⟨nb, 0, none⟩ = some (.int .u64 m)) : Calls Try.prog 34 #[.agg (encA x).toArray, .pointer (some ⟨nb, 0, none⟩)] w (fun e w' => e = .returned (.bool (moreB m x)) ∧ Below w.heap.size w w') := by
  have b1 := below_box w (.cells (encA x).toArray 25)
  have a1 := at_new w (encA x).toArray 25
  have hm' := (b1.cell (p := ⟨nb, 0, none⟩) (block_lt_of_cell hm)).trans hm
  obtain ⟨W1, hW1⟩ : ∃ W1, w.alloc (.cells (encA x).toArray 25) = W1 := ⟨_, rfl⟩
  rw [hW1] at b1 a1 hm'
  have k0 : W1.cell? ⟨w.heap.size, 0, none⟩ = some (.int .u64 x.num) := a1.2.2 0 _ rfl
  have hs : moreB m x = decide (m < x.num) := rfl
  have HW := Lib.hid hW1
  have HS := Lib.hid hs
  have B1 := Lib.hid b1
  generalize moreB m x = r at *
  generalize x.num = y at *
  generalize (encA x).toArray = C at *
  clear hW1 hs b1 a1 hm
  go_enter Try.func34, Try.ntmps34
  go_wp2_with ((with_reducible refine wpList_box_eq rfl 25 (.tmp 0) rfl C ?_ ?_); (next => rfl); rw [HW.out])
  go_ret
  exact ⟨by rw [HS.out]; simp, B1.out⟩
set_option maxRecDepth 100000 in
theorem numbered_any {A : Option Addr} {n c : Nat} {l : List Or} {w : World} (h : AAt w A n c l) (hn : n ≤ 100000) (m : Int) : Calls Try.prog 32 #[.slice A n c, .int .u64 m] w (fun e w' => e = .returned (.int .i64 (idxA (numB m) l)) ∧ Below w.heap.size w w') := by
  have b1 := below_box w (.cells #[.int .u64 m] 23)
  have k1 : (w.alloc (.cells #[.int .u64 m] 23)).cell? ⟨w.heap.size, 0, none⟩ = some (.int .u64 m) := by simp
  have h1 := h.below b1
  obtain ⟨W1, hW1⟩ : ∃ W1, w.alloc (.cells #[.int .u64 m] 23) = W1 := ⟨_, rfl⟩
  rw [hW1] at b1 k1 h1
  have cI := index_any h1 (by omega) 54 #[.pointer (some ⟨w.heap.size, 0, none⟩)] (numB m) ent_numbered (fun W hW x => num1_any x m w.heap.size W ((hW.cell (p := ⟨w.heap.size, 0, none⟩) (block_lt_of_cell k1)).trans k1))
  have B1 := Lib.hid b1
  generalize idxA (numB m) l = r at *
  clear h h1 b1 k1
  go_enter Try.func32, Try.ntmps32
  go_wp2_with (go_at_call 33; refine cI.mono ?_; rintro e w2 ⟨rfl, b2⟩)
  go_ret
  exact ⟨rfl, B1.out.trans (b2.mono B1.out.size)⟩
/-- Where an order goes. -/
def insAt (l : List Or) (m : Int) : Nat := match l.findIdx? (moreB m) with
  | some i => i
  | none => l.length
theorem insAt_le (l : List Or) (m : Int) : insAt l m ≤ l.length := by
  unfold insAt
  rcases h : l.findIdx? (moreB m) with _ | i
  · exact Nat.le_refl _
  · exact Nat.le_of_lt (List.findIdx?_eq_some_iff_getElem.1 h).1
theorem ins_idx (l : List Or) (m : Int) : (idxA (moreB m) l = -1 ∧ insAt l m = l.length) ∨ idxA (moreB m) l = (insAt l m : Int) := by
  unfold idxA insAt
  rcases h : l.findIdx? (moreB m) with _ | i
  · exact .inl ⟨rfl, rfl⟩
  · exact .inr rfl
def insO (l : List Or) (o : Or) : List Or := l.take (insAt l o.num) ++ [o] ++ l.drop (insAt l o.num)
def badP (l : List Or) (o : Or) : Bool := !fitO o || decide (200 ≤ l.length) || l.any (numB o.num)
def putO (l : List Or) (o : Or) : List Or × Int := if badP l o then ([], 130) else (insO l o, 0)
theorem idx_neg (p : Or → Bool) (l : List Or) : (idxA p l = -1 ∧ l.any p = false) ∨ ∃ k : Nat, idxA p l = k ∧ l.any p = true := by
  rcases idx_cases p l with ⟨h, g⟩ | ⟨k, hk, h, g, _⟩
  · refine .inl ⟨h, ?_⟩
    rw [List.any_eq_false]
    intro x hx
    obtain ⟨j, hj, rfl⟩ := List.getElem_of_mem hx
    rw [g j hj]; simp
  · exact .inr ⟨k, h, List.any_eq_true.2 ⟨l[k], List.getElem_mem hk, g⟩⟩
/-- Orders, and whether all went well, are handed back. -/
def AcsE (l : List Or) (er : Int) (w : World) (e : Ending) (w' : World) : Prop := ∃ v, e = .returned (.tuple #[v, .int .i64 er]) ∧ OwnA w' w.heap.size v l ∧ Below w.heap.size w w'
end Go.Proofs.Ytcendcegmhliaaa.Ord
