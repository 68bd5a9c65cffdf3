/-
  Contract of slices.SortStableFunc at orders, by any closure that tells a side's order; it is stable.
-/
import Derived.Test.YtcendcegmhliaaaOIndex
namespace Go.Proofs.Ytcendcegmhliaaa.Ord
open Go.Shelf Go.RowKit Go.Lib Go.Sort _root_.Go.Proofs.Ytcendcegmhliaaa.Gnd

/-- An order, and where it stood. -/
abbrev OrN := Or × Nat
def encN (p : OrN) : List Value := encA p.1
def ltN (b : Bool) (x y : OrN) : Bool := aheadO b x.1 y.1 || (!aheadO b y.1 x.1 && decide (x.2 < y.2))
theorem swoN (b : Bool) : SWO (ltN b) where
  irrefl x := by unfold ltN; rw [(swoO b).irrefl]; simp
  trans x y z h k := by
    unfold ltN aheadO at *
    cases b <;> simp only [Bool.false_eq_true, if_true, if_false, Bool.or_eq_true, Bool.and_eq_true, Bool.not_eq_true', Bool.or_eq_false_iff, Bool.and_eq_false_iff, decide_eq_true_eq, decide_eq_false_iff_not] at * <;> omega
  ntrans x y z h k := by
    unfold ltN aheadO at *
    cases b <;> simp only [Bool.false_eq_true, if_true, if_false, Bool.or_eq_false_iff, Bool.and_eq_false_iff, Bool.not_eq_false', Bool.or_eq_true, Bool.and_eq_true, decide_eq_true_eq, decide_eq_false_iff_not] at * <;> omega
theorem ltN_tri {b : Bool} {x y : OrN} (h : ltN b x y = false) (hn : x.2 ≠ y.2) : ltN b y x = true := by
  unfold ltN aheadO at *
  cases b <;> simp only [Bool.false_eq_true, if_true, if_false, Bool.or_eq_false_iff, Bool.and_eq_false_iff, Bool.not_eq_false', Bool.or_eq_true, Bool.and_eq_true, Bool.not_eq_true', decide_eq_true_eq, decide_eq_false_iff_not] at * <;> omega
theorem link (b : Bool) (x y : OrN) (h : x.2 < y.2) : ltN b y x = ltOf (fun p q => ordO b p.1 q.1) y x := by
  unfold ltN ltOf
  rw [decide_eq_false (show ¬ y.2 < x.2 by omega), Bool.and_false, Bool.or_false, Bool.eq_iff_iff, decide_eq_true_eq]
  exact ordO_neg.symm
/-- Sorted, and what is told to be equal stands as it stood. -/
def Stab (b : Bool) (l l' : List Or) : Prop := ∃ e : List OrN, e.map (·.1) = l' ∧ e.Perm l.zipIdx ∧ e.Pairwise (fun x y => ltN b y x = false)
theorem zip_fst (l : List Or) : l.zipIdx.map (·.1) = l := by
  have : ∀ (l : List Or) n, (l.zipIdx n).map (·.1) = l := by
    intro l
    induction l with
    | nil => intro n; rfl
    | cons x l ih => intro n; rw [List.zipIdx_cons, List.map_cons, ih]
  exact this l 0
theorem Stab.perm {b : Bool} {l l' : List Or} (h : Stab b l l') : l'.Perm l := by
  obtain ⟨e, rfl, hp, _⟩ := h
  have := hp.map (·.1)
  rwa [zip_fst] at this
theorem Stab.sorted {b : Bool} {l l' : List Or} (h : Stab b l l') : l'.Pairwise (fun x y => aheadO b y x = false) := by
  obtain ⟨e, rfl, _, hs⟩ := h
  rw [List.pairwise_map]
  exact hs.imp (fun {x y} h => by unfold ltN at h; rw [Bool.or_eq_false_iff] at h; exact h.1)
theorem zip_nodup (l : List Or) : (l.zipIdx.map (·.2)).Nodup := by
  have : ∀ (l : List Or) n, (l.zipIdx n).map (·.2) = List.range' n l.length := by
    intro l
    induction l with
    | nil => intro n; rfl
    | cons x l ih => intro n; rw [List.zipIdx_cons, List.map_cons, ih, List.length_cons, List.range'_succ]
  rw [this]
  exact List.nodup_range'
/-- Lists of the same, in the same strict order, are the same. -/
theorem sorted_unique {b : Bool} : ∀ {e f : List OrN}, e.Perm f → (e.map (·.2)).Nodup → e.Pairwise (fun x y => ltN b y x = false) → f.Pairwise (fun x y => ltN b y x = false) → e = f
  | [], f, h, _, _, _ => (List.nil_perm.1 h).symm
  | x :: e, [], h, _, _, _ => absurd h.length_eq (by simp)
  | x :: e, y :: f, h, hn, he, hf => by
    obtain ⟨hx, he'⟩ := List.pairwise_cons.1 he
    obtain ⟨hy, hf'⟩ := List.pairwise_cons.1 hf
    rw [List.map_cons, List.nodup_cons] at hn
    have hxy : x = y := by
      rcases List.mem_cons.1 (h.mem_iff.1 (List.mem_cons_self ..)) with g | g
      · exact g
      · rcases List.mem_cons.1 (h.mem_iff.2 (List.mem_cons_self (a := y) (l := f))) with g' | g'
        · exact g'.symm
        · have h1 := hy x g
          have h2 := hx y g'
          have hne : y.2 ≠ x.2 := fun q => hn.1 (by rw [← q]; exact List.mem_map_of_mem g')
          rw [ltN_tri h2 hne] at h1
          cases h1
    subst hxy
    rw [sorted_unique ((List.perm_cons x).1 h) hn.2 he' hf']
theorem Stab.unique {b : Bool} {l l1 l2 : List Or} (h1 : Stab b l l1) (h2 : Stab b l l2) : l1 = l2 := by
  obtain ⟨e, rfl, hp, hs⟩ := h1
  obtain ⟨f, rfl, gp, gs⟩ := h2
  have hn : (e.map (·.2)).Nodup := (hp.map (·.2)).nodup_iff.2 (zip_nodup l)
  rw [sorted_unique (hp.trans gp.symm) hn hs gs]
theorem flat_fst (d : Array OrN) : flatK encN 6 d = flatK encA 6 (d.map (·.1)) := by
  unfold flatK
  rw [Array.size_map]
  apply Array.ext'
  simp only [Array.toList_map]
  refine List.map_congr_left (fun t ht => ?_)
  have ht : t < d.size * 6 := by simpa using ht
  have hq : t / 6 < d.size := by omega
  simp [encN, hq]
theorem world_fst (w : World) (g m : Nat) (d : Array OrN) (os : Array Obj) : sortWorldK encN 6 w g 0 m d os = sortWorldK encA 6 w g 0 m (d.map (·.1)) os := by
  unfold sortWorldK putRowK
  rw [flat_fst]
theorem zip_size (l : List Or) : l.zipIdx.toArray.size = l.length := by simp
theorem zip_arr (l : List Or) : l.zipIdx.toArray.map (·.1) = l.toArray := by
  rw [List.map_toArray, zip_fst]
theorem own_holdsN {w : World} {B g n cap : Nat} {l : List Or} (h : OwnA w B (.slice (some ⟨g, 0, none⟩) n cap) l) : HoldsK encN 6 w g 0 l.zipIdx.toArray := by
  unfold HoldsK
  rw [flat_fst, zip_arr]
  exact own_holds h
theorem zip_inc (l : List Or) : RkInc (fun p : OrN => p.2) 0 l.length l.zipIdx.toArray := fun x y _ hxy hy => by
  have e : ∀ k, k < l.length → (l.zipIdx.toArray[k]!).2 = k := fun k hk => by
    simp [hk]
  show (l.zipIdx.toArray[x]!).2 < (l.zipIdx.toArray[y]!).2
  rw [e x (by omega), e y hy]
  exact hxy
set_option maxRecDepth 100000 in
set_option maxHeartbeats 2000000 in
theorem sort_any {B : Nat} {v : Value} {l : List Or} {w : World} (h : OwnA w B v l) (hn : l.length ≤ 1000000) (hB : B ≤ w.heap.size) (hv : ∃ gb c, v = .slice (some ⟨gb, 0, none⟩) l.length c) (buy : Bool) (g : FuncId) (cb : Array Value) (hen : Enters Try.prog g)
    (hcmp : ∀ W, RowKit.Below B w W → ∀ x y, Calls Try.prog g (#[.agg (encA x).toArray, .agg (encA y).toArray] ++ cb) W fun e W' => e = .returned (.int .i64 (ordO buy x y)) ∧ ∃ q os, W' = grow (W.drewN q) os) :
    Calls Try.prog 56 #[v, .func (.func g) #[] cb] w (fun e w' => e = .returned (.tuple #[]) ∧ ∃ l', OwnA w' B v l' ∧ Stab buy l l' ∧ RowKit.Below B w w') := by
  obtain ⟨gb, c, rfl⟩ := hv
  have hbl : B ≤ gb ∧ gb < w.heap.size := by
    obtain ⟨A, c', e, _, hb⟩ := h.at
    injection e with e1 e2 e3
    exact hb _ e1.symm
  have R : RowK encN 6 w gb 0 l.zipIdx.toArray := ⟨fun x => encA_len x.1, fun x => encA_one x.1, own_holdsN h, hbl.2⟩
  have hC : CmpLays Try.prog g cb encN 6 (fun p q => ordO buy p.1 q.1) gb 0 l.zipIdx.toArray.size w := fun m os dk hd x y => by
    have hdk : (dk.map (·.1)).size = l.length := by rw [Array.size_map, hd, zip_size]
    have hw := (own_put h m (dk.map (·.1)) os hdk).2 B hbl.1 hB
    rw [world_fst, show encN x = encA x.1 from rfl, show encN y = encA y.1 from rfl]
    generalize sortWorldK encA 6 w gb 0 m (dk.map (·.1)) os = W at *
    exact hcmp W hw x.1 y.1
  have cS := stable_any sortAt encN (fun p q => ordO buy p.1 q.1) (ltN buy) (fun p => p.2) (link buy) g cb gb 0 c l.zipIdx.toArray w hen hC R (swoN buy) l.length (zip_size l) (by omega) (by omega) w (SWK.start (own_holdsN h)) (zip_inc l)
  have FIN := Lib.hid (show ∀ d' W, SWK encN 6 w gb 0 d' W → PermIn 0 l.length l.zipIdx.toArray d' → SortedIn (ltN buy) 0 l.length d' → ∃ l', OwnA W B (.slice (some ⟨gb, 0, none⟩) l.length c) l' ∧ Stab buy l l' ∧ RowKit.Below B w W from fun d' W hW hp hs => by
    obtain ⟨m, os, rfl⟩ := hW
    have hd : d'.size = l.length := by rw [hp.1, zip_size]
    obtain ⟨o1, o2⟩ := own_put h m (d'.map (·.1)) os (by rw [Array.size_map]; exact hd)
    rw [world_fst]
    refine ⟨_, o1, ⟨d'.toList, by simp, ?_, ?_⟩, o2 B hbl.1 hB⟩
    · have := hp.2.2
      rw [Array.toList_extract, Array.toList_extract] at this
      simpa [List.take_of_length_le, hd] using this
    · rw [List.pairwise_iff_getElem]
      intro i j hi hj hij
      have hi' : i < d'.size := by simpa using hi
      have hj' : j < d'.size := by simpa using hj
      have := hs i j (Nat.zero_le _) hij (by rw [← hd]; exact hj')
      simpa [hi', hj'] using this)
  obtain ⟨n, hln⟩ : ∃ n, l.length = n := ⟨_, rfl⟩
  rw [hln] at cS FIN hn ⊢
  unfold Enters at hen
  clear h hB R hcmp hC hln hbl
  go_enter Try.func56, Try.ntmps56
  go_wp2_with (go_at_call 62; refine cS.mono ?_; rintro e w2 ⟨rfl, d', S1, hp, hs⟩)
  go_end0
  exact ⟨rfl, FIN.out d' _ S1 hp hs⟩
end Go.Proofs.Ytcendcegmhliaaa.Ord
