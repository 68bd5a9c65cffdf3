/-
  Contract of slices.SortStableFunc at accounts, by order.
-/
import Derived.Test.YtobpbbldgbgcdaaADelete
namespace Go.Proofs.Ytobpbbldgbgcdaa.Acc
open Go.Shelf Go.RowKit Go.Lib Go.Sort

/-- No later one stands ahead of an earlier one. -/
def SortedA (l : List Ac) : Prop := l.Pairwise (fun x y => aheadA y x = false)
theorem flatK_get (l : List Ac) (j : Nat) (hj : j < l.length * 4) : some (flatK encA 4 l.toArray)[j]! = (flatA l)[j]? := by
  have hq : j / 4 < l.length := by omega
  rw [get_flatK encA 4 l.toArray j (by simpa using hj)]
  have h := flatA_get l (j / 4) hq (j % 4) (Nat.mod_lt _ (by omega))
  rw [show j / 4 * 4 + j % 4 = j by omega] at h
  rw [h]
  have e : l.toArray[j / 4]! = l[j / 4] := by simp [hq]
  rw [e]
  have hl : j % 4 < (encA l[j / 4]).length := by rw [encA_len]; exact Nat.mod_lt _ (by omega)
  rw [List.getElem!_eq_getElem?_getD, List.getElem?_eq_getElem hl]
  rfl
theorem own_holds {w : World} {B g n cap : Nat} {l : List Ac} (h : OwnA w B (.slice (some ⟨g, 0, none⟩) n cap) l) : HoldsK encA 4 w g 0 l.toArray := fun j hj => by
  have hj : j < l.length * 4 := by simpa using hj
  obtain ⟨_, rfl⟩ := own_cap h
  refine ⟨?_, own_frozen h _⟩
  rw [Nat.zero_add, World.ownsRow.cellAt h j hj]
  exact (flatK_get l j hj).symm
theorem own_put {w : World} {B g n cap : Nat} {l : List Ac} (h : OwnA w B (.slice (some ⟨g, 0, none⟩) n cap) l) (m : Nat) (d : Array Ac) (os : Array Obj) (hd : d.size = l.length) :
    OwnA (sortWorldK encA 4 w g 0 m d os) B (.slice (some ⟨g, 0, none⟩) n cap) d.toList ∧ ∀ C, C ≤ g → C ≤ w.heap.size → RowKit.Below C w (sortWorldK encA 4 w g 0 m d os) := by
  have H0 := own_holds h
  obtain ⟨_, hnl⟩ := own_cap h
  obtain ⟨hl, ⟨h', _⟩ | ⟨g', cap', cur, h', hg, hh, hnc, hcm, hcs, ht⟩⟩ := h
  · simp at h'
  · simp only [Value.slice.injEq, Option.some.injEq, Addr.mk.injEq, and_true] at h'
    obtain ⟨rfl, _, rfl⟩ := h'
    have hlt : g < w.heap.size := (Array.getElem?_eq_some_iff.1 hh).1
    have e1 : (sortWorldK encA 4 w g 0 m d os).heap[g]? = some (.cells (putCells id 0 (flatK encA 4 d) cur) 35 (0, 0)) := by
      unfold sortWorldK putRowK putRow mapBlock
      rw [heap_grow_old _ _ (by simpa using hlt)]
      simp [Array.getElem?_modify, hh, onCells]
    refine ⟨⟨flatA_len _, .inr ⟨g, cap, _, by rw [hnl]; simp [hd], hg, e1, by simpa [hd] using hnc, hcm, by simpa [putCells] using hcs, ?_⟩⟩, fun C hC hC2 => ⟨rfl, rfl, rfl, ?_, fun k hk => ?_⟩⟩
    · apply List.ext_getElem?
      intro j
      by_cases hj : j < d.toList.length * 4
      · have hjl : j < l.length * 4 := by rw [← hd]; simpa using hj
        rw [List.getElem?_take_of_lt hj, Array.getElem?_toList]
        have hjc : j < cur.size := by rw [hcs]; have : l.length * 4 ≤ cap * 4 := Nat.mul_le_mul_right 4 hnc; omega
        have := flatK_get d.toList j hj
        simp only [Array.toArray_toList] at this
        rw [← this]
        have hs : j < d.size * 4 := by simpa using hj
        simp [putCells, hjc, hs]
      · rw [List.getElem?_eq_none (by rw [List.length_take]; omega), List.getElem?_eq_none (by rw [flatA_len]; omega)]
    · unfold sortWorldK
      rw [size_grow, size_putRowK]
      exact Nat.le_add_right _ _
    · unfold sortWorldK putRowK putRow mapBlock
      rw [heap_grow_old _ _ (by simp; omega)]
      have hne : ¬ g = k := by omega
      simp [Array.getElem?_modify, hne]
theorem ltOf_ord (x y : Ac) : ltOf ordA x y = aheadA x y := by
  unfold ltOf
  rw [Bool.eq_iff_iff, decide_eq_true_eq]
  exact ordA_neg
theorem sorted_list {d : Array Ac} {n : Nat} (hn : d.size = n) (h : SortedIn (ltOf ordA) 0 n d) : SortedA d.toList := by
  unfold SortedA
  rw [List.pairwise_iff_getElem]
  intro i j hi hj hij
  have := h i j (Nat.zero_le _) hij (by rw [← hn]; simpa using hj)
  rw [ltOf_ord] at this
  have hi' : i < d.size := by simpa using hi
  have hj' : j < d.size := by simpa using hj
  simpa [hi', hj'] using this
theorem ent_order : Enters Try.prog 27 := enters_of Try.func27 (by kernel_rfl) rfl
set_option maxRecDepth 100000 in
set_option maxHeartbeats 2000000 in
theorem sort_any {B : Nat} {v : Value} {l : List Ac} {w : World} (h : OwnA w B v l) (hne : l ≠ []) (hn : l.length ≤ 1000000) (hB : B ≤ w.heap.size) :
    Calls Try.prog 59 #[v, .func (.func 27) #[] #[]] w (fun e w' => e = .returned (.tuple #[]) ∧ ∃ l', OwnA w' B v l' ∧ l'.Perm l ∧ SortedA l' ∧ RowKit.Below B w w') := by
  obtain ⟨g, cap, rfl, hg1, hg2⟩ := h.some hne
  have R : RowK encA 4 w g 0 l.toArray := ⟨encA_len, encA_one, own_holds h, hg2⟩
  have hcmp : CmpLays Try.prog 27 #[] encA 4 ordA g 0 l.toArray.size w := fun m os dk _ x y => by
    have := order_any x y (sortWorldK encA 4 w g 0 m dk os)
    simpa using this
  have cS := stable_any sortAt encA ordA 27 #[] g 0 cap l.toArray w ent_order hcmp R (by rw [show ltOf ordA = aheadA from funext (fun x => funext (fun y => ltOf_ord x y))]; exact swoA) l.length (by simp) (by omega) (by omega) w (SWK.start (own_holds h))
  have FIN := Lib.hid (show ∀ d' W, SWK encA 4 w g 0 d' W → PermIn 0 l.length l.toArray d' → SortedIn (ltOf ordA) 0 l.length d' → ∃ l', OwnA W B (.slice (some ⟨g, 0, none⟩) l.length cap) l' ∧ l'.Perm l ∧ SortedA l' ∧ RowKit.Below B w W from fun d' W hW hp hs => by
    obtain ⟨m, os, rfl⟩ := hW
    have hd : d'.size = l.length := by rw [hp.1]; simp
    obtain ⟨o1, o2⟩ := own_put h m d' os hd
    refine ⟨d'.toList, o1, ?_, sorted_list hd hs, o2 B hg1 hB⟩
    have := hp.2.2
    rw [Array.toList_extract, Array.toList_extract] at this
    simpa [List.take_of_length_le, hd] using this)
  obtain ⟨n, hln⟩ : ∃ n, l.length = n := ⟨_, rfl⟩
  rw [hln] at cS FIN hn ⊢
  clear h hne hB hg1 hg2 R hcmp hln
  go_enter Try.func59, Try.ntmps59
  go_wp2_with (go_at_call 71; refine cS.mono ?_; rintro e w2 ⟨rfl, d', S1, hp, hs⟩)
  go_end0
  exact ⟨rfl, FIN.out d' _ S1 hp hs⟩
end Go.Proofs.Ytobpbbldgbgcdaa.Acc
