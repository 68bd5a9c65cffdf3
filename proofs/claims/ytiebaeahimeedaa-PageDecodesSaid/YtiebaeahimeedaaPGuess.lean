/-
  Contracts of the document's own get, piece and guess, and the plain facts of the page that bytes may be.
-/
import Derived.Test.YtiebaeahimeedaaPTornRow
import Derived.Test.YtiebaeahimeedaaPLeafR
import Derived.Test.YtiebaeahimeedaaPRefG
namespace Go.Proofs.Ytiebaeahimeedaa.Page
open Go.RowKit Gen

/-- The number of so many bytes, from a place on; 0 beyond. -/
def gGet (l : Bs) (i : Nat) : Nat → Nat
  | 0 => 0
  | k + 1 => gGet l i k * 256 + ((l[i + k]?).getD 0).toNat
theorem gGet_lt (l : Bs) (i : Nat) : ∀ k, gGet l i k < 256 ^ k
  | 0 => by simp [gGet]
  | k + 1 => by
    have h1 := gGet_lt l i k
    have h2 := ((l[i + k]?).getD 0).toNat_lt
    rw [gGet, Nat.pow_succ]
    omega
set_option maxRecDepth 100000 in
theorem get_any (A : Option Addr) (n c i k : Nat) (l : Bs) (w : World) (h : BytesAt w A n c l) (hi : i ≤ 1000000) (hk : k ≤ 8) (hn : n ≤ 1000000) : Calls Try.prog 42 #[.slice A n c, .int .i64 (i : Int), .int .i64 (k : Int)] w fun e w' => e = .returned (.int .u64 (gGet l i k : Int)) ∧ w = w' := by
  have HH := Lib.hid h
  clear h
  go_enter Try.func42, Try.ntmps42
  go_wp2_with fail
  go_loop [7, 8] (fun v x => ∃ j : Nat, x = .int .i64 (j : Int) ∧ j ≤ k ∧ v = .int .u64 (gGet l i j : Int)) (fun _ x => k - (intOf x).toNat)
  case atStart => exact ⟨0, rfl, Nat.zero_le _, rfl⟩
  case round =>
    obtain ⟨j, rfl, hj, rfl⟩ := hrel
    by_cases hlt : j < k
    · have hb : gGet l i j < 72057594037927936 := Nat.lt_of_lt_of_le (gGet_lt l i j) (show 256 ^ j ≤ 256 ^ 7 from Nat.pow_le_pow_right (by omega) (by omega))
      have t1 : (j : Int) < (k : Int) := by omega
      by_cases hin : i + j < n
      · have hx : (l[i + j]?).getD 0 = l[i + j]'(by rw [HH.out.len]; exact hin) := by rw [List.getElem?_eq_getElem (by rw [HH.out.len]; exact hin)]; rfl
        obtain ⟨b, off, rfl, -, hc⟩ := HH.out.row (by intro e; have := HH.out.len; rw [e] at this; simp at this; omega)
        have h1 := hc (i + j) (by rw [HH.out.len]; exact hin)
        have HG := Lib.hid (show gGet l i (j + 1) = gGet l i j * 256 + (l[i + j]'(by rw [HH.out.len]; exact hin)).toNat by rw [gGet, hx])
        generalize l[i + j]'(by rw [HH.out.len]; exact hin) = x at h1 HG
        have hx2 := x.toNat_lt
        have t2 : (i : Int) + (j : Int) < (n : Int) := by omega
        have t3 : (0 : Int) ≤ (i : Int) + (j : Int) := by omega
        have t4 : ((i : Int) + (j : Int)).toNat = i + j := by omega
        generalize gGet l i j = m at *
        clear hc hx
        go_wp2_with fail
        go_round
        case rel => exact ⟨j + 1, by go_num, hlt, by rw [HG.out]; congr 1⟩
        case measure => simp [intOf]; omega
      · have HG := Lib.hid (show gGet l i (j + 1) = gGet l i j * 256 by rw [gGet, List.getElem?_eq_none (by rw [HH.out.len]; omega)]; simp)
        have t2 : ¬ (i : Int) + (j : Int) < (n : Int) := by omega
        have d2 : decide ((i : Int) + (j : Int) < (n : Int)) = false := by simp; omega
        generalize gGet l i j = m at *
        go_wp2_with fail
        go_round
        case rel => exact ⟨j + 1, by go_num, hlt, by rw [HG.out]; congr 1⟩
        case measure => simp [intOf]; omega
    · obtain rfl : j = k := by omega
      go_wp2_with fail
      go_ret
      exact ⟨rfl, rfl⟩
/-- The text at a place; none, where there is none. -/
def gPiece (l : Bs) (i : Nat) : Bs := if l.length < i + 1 + gGet l i 1 then [] else (l.drop (i + 1)).take (gGet l i 1)
theorem mid_runB (A : Option Addr) (n c k m : Nat) (h : k ≤ m) (h2 : m ≤ c) (W : World) : (Instr.slice 30 (.slice A n c) (some (.int .i64 k)) (some (.int .i64 m)) none).run Try.prog W = .ok (.slice (if c = k then A else A.map (·.add k)) (m - k) (c - k)) W := by
  rw [run_slice_lh W 30 A n c elem_bs .i64 .i64 (k : Int) (m : Int) (by omega) (by omega) (by omega), size_bs]
  unfold sliced
  simp [Result.andThen]
set_option maxRecDepth 100000 in
theorem piece_any (A : Option Addr) (n c i : Nat) (l : Bs) (w : World) (h : BytesAt w A n c l) (hi : i ≤ 100000) (hn : n ≤ 1000000) : Calls Try.prog 67 #[.slice A n c, .int .i64 (i : Int)] w fun e w' => e = .returned (strV (gPiece l i)) ∧ w = w' := by
  have HH := Lib.hid h
  have cG : Calls Try.prog 42 #[.slice A n c, .int .i64 (i : Int), .int .i64 1] w _ := get_any A n c i 1 l w h (by omega) (by omega) hn
  have hm := gGet_lt l i 1
  have HP := Lib.hid (show gPiece l i = if l.length < i + 1 + gGet l i 1 then [] else (l.drop (i + 1)).take (gGet l i 1) from rfl)
  generalize gGet l i 1 = m at *
  generalize gPiece l i = R at *
  by_cases hlt : n < i + 1 + m
  · have HR : Hid (strV R = .string (strB [])) := Lib.hid (by rw [HP.out, if_pos (by rw [HH.out.len]; exact hlt)])
    have d1 : decide ((n : Int) < (i : Int) + 1 + (m : Int)) = true := by simp; omega
    clear h
    go_enter Try.func67, Try.ntmps67
    go_wp2_with fail
    refine cG.mono ?_
    rintro e w' ⟨rfl, rfl⟩
    clear cG
    go_wp2_with fail
    go_ret
    exact ⟨by rw [HR.out]; rfl, rfl⟩
  · have d1 : decide ((n : Int) < (i : Int) + 1 + (m : Int)) = false := by simp; omega
    have e1 : (l.drop (i + 1)).take m = (l.take (i + 1 + m)).drop (i + 1) := by rw [List.drop_take]; congr 1; omega
    have HR : Hid (strV R = .string (strB ((l.take (i + 1 + m)).drop (i + 1)))) := Lib.hid (by rw [HP.out, if_neg (by rw [HH.out.len]; exact hlt), e1])
    have hcap := h.cap
    have q1 : ∀ W, (Instr.slice 30 (.slice A n c) (some (.int .i64 ((i : Int) + 1))) (some (.int .i64 ((i : Int) + 1 + (m : Int)))) none).run Try.prog W = .ok (.slice (if c = i + 1 then A else A.map (·.add (i + 1))) (i + 1 + m - (i + 1)) (c - (i + 1))) W := fun W => mid_runB A n c (i + 1) (i + 1 + m) (by omega) (by omega) W
    have y := (h.head (k := i + 1 + m) (by omega)).tail (k := i + 1)
    rw [show i + 1 + m - (i + 1) = m by omega] at q1 y
    generalize (if c = i + 1 then A else A.map (·.add (i + 1))) = A2 at q1 y
    generalize c - (i + 1) = d at q1 y
    have q2 := conv_run d y.len y.row
    generalize strB ((l.take (i + 1 + m)).drop (i + 1)) = T at HR q2
    clear h y e1
    go_enter Try.func67, Try.ntmps67
    go_wp2_with fail
    refine cG.mono ?_
    rintro e w' ⟨rfl, rfl⟩
    clear cG
    go_wp2_with fail
    go_ret
    exact ⟨by rw [HR.out]; rfl, rfl⟩
end Go.Proofs.Ytiebaeahimeedaa.Page
namespace Go.Proofs.Ytiebaeahimeedaa.Page
open Go.RowKit Gen

theorem gGet_eq (l : Bs) (i : Nat) : ∀ k, i + k ≤ l.length → gGet l i k = ofBe ((l.drop i).take k)
  | 0, _ => by simp [gGet, ofBe]
  | k + 1, h => by
    rw [gGet, gGet_eq l i k (by omega), List.take_succ_eq_append_getElem (show k < (l.drop i).length by rw [List.length_drop]; omega), ofBe_snoc, List.getElem?_eq_getElem (by omega), Option.getD_some, List.getElem_drop]
theorem gGet_at (pre m r : Bs) (k : Nat) (hk : m.length = k) : gGet (pre ++ (m ++ r)) pre.length k = ofBe m := by
  rw [gGet_eq _ _ _ (by simp; omega), List.drop_left, List.take_left' hk]
theorem gGet_be (pre : Bs) (k n : Nat) (r : Bs) (h : n < 256 ^ k) : gGet (pre ++ (be k n ++ r)) pre.length k = n := by
  rw [gGet_at _ _ _ _ (be_len k n), ofBe_be k n h]
theorem gGet_num (pre : Bs) (x : Int) (r : Bs) (h0 : 0 ≤ x) (h1 : x < 65536) : gGet (pre ++ (num2 x ++ r)) pre.length 2 = x.toNat := by
  rw [num2, gGet_be _ 2 _ _ (by omega)]
theorem gPiece_txt (pre s r : Bs) (h : s.length < 256) : gPiece (pre ++ (txt s ++ r)) pre.length = s := by
  have e1 : gGet (pre ++ (txt s ++ r)) pre.length 1 = s.length := by rw [txt, List.append_assoc, gGet_be _ 1 _ _ (by omega)]
  rw [gPiece, e1, if_neg (by simp only [List.length_append, txt_len]; omega), txt, show pre ++ (be 1 s.length ++ s ++ r) = (pre ++ be 1 s.length) ++ (s ++ r) by simp,
    show pre.length + 1 = (pre ++ be 1 s.length).length by rw [List.length_append, be_len], List.drop_left, List.take_left]
def gPairs (l : Bs) : Nat → Nat → List (Bs × Bs)
  | 0, _ => []
  | r + 1, i => (gPiece l i, gPiece l (i + 1 + (gPiece l i).length)) :: gPairs l r (i + 2 + (gPiece l i).length + (gPiece l (i + 1 + (gPiece l i).length)).length)
def gKids (l : Bs) : Nat → Nat → List (Bs × Int)
  | 0, _ => []
  | r + 1, i => (gPiece l i, (gGet l (i + 1 + (gPiece l i).length) 2 : Int)) :: gKids l r (i + 3 + (gPiece l i).length)
def gInts (l : Bs) : Nat → Nat → List Int
  | 0, _ => []
  | r + 1, i => (gGet l i 2 : Int) :: gInts l r (i + 2)
theorem gPairs_len (l : Bs) : ∀ r i, (gPairs l r i).length = r
  | 0, _ => rfl
  | r + 1, i => by rw [gPairs, List.length_cons, gPairs_len l r]
theorem gKids_len (l : Bs) : ∀ r i, (gKids l r i).length = r
  | 0, _ => rfl
  | r + 1, i => by rw [gKids, List.length_cons, gKids_len l r]
theorem gInts_len (l : Bs) : ∀ r i, (gInts l r i).length = r
  | 0, _ => rfl
  | r + 1, i => by rw [gInts, List.length_cons, gInts_len l r]
theorem gPiece_len (l : Bs) (i : Nat) : (gPiece l i).length ≤ 255 := by
  have := gGet_lt l i 1
  unfold gPiece
  split
  · simp
  · rw [List.length_take]; omega
theorem gPairs_body : ∀ (l : List (Bs × Bs)) (pre r : Bs), (∀ x ∈ l, x.1.length < 256 ∧ x.2.length < 256) → gPairs (pre ++ ((l.flatMap fun x => txt x.1 ++ txt x.2) ++ r)) l.length pre.length = l
  | [], _, _, _ => rfl
  | x :: l, pre, r, h => by
    have h1 := h x (List.mem_cons_self ..)
    have ih := gPairs_body l (pre ++ txt x.1 ++ txt x.2) r (fun y hy => h y (List.mem_cons_of_mem _ hy))
    rw [List.flatMap_cons, List.length_cons, gPairs]
    generalize (l.flatMap fun x => txt x.1 ++ txt x.2) = F at *
    have e0 : pre ++ (txt x.1 ++ txt x.2 ++ F ++ r) = pre ++ (txt x.1 ++ (txt x.2 ++ (F ++ r))) := by simp
    have e1 := gPiece_txt pre x.1 (txt x.2 ++ (F ++ r)) h1.1
    have e2 := gPiece_txt (pre ++ txt x.1) x.2 (F ++ r) h1.2
    rw [List.append_assoc, List.length_append, txt_len, ← Nat.add_assoc] at e2
    rw [List.append_assoc, List.append_assoc, List.length_append, List.length_append, txt_len, txt_len, show pre.length + (1 + x.1.length) + (1 + x.2.length) = pre.length + 2 + x.1.length + x.2.length by omega] at ih
    rw [e0, e1, e2, ih]
theorem gKids_body : ∀ (l : List (Bs × Int)) (pre r : Bs), (∀ x ∈ l, x.1.length < 256 ∧ 0 ≤ x.2 ∧ x.2 < 65536) → gKids (pre ++ ((l.flatMap fun x => txt x.1 ++ num2 x.2) ++ r)) l.length pre.length = l
  | [], _, _, _ => rfl
  | x :: l, pre, r, h => by
    have h1 := h x (List.mem_cons_self ..)
    have ih := gKids_body l (pre ++ txt x.1 ++ num2 x.2) r (fun y hy => h y (List.mem_cons_of_mem _ hy))
    rw [List.flatMap_cons, List.length_cons, gKids]
    generalize (l.flatMap fun x => txt x.1 ++ num2 x.2) = F at *
    have e0 : pre ++ (txt x.1 ++ num2 x.2 ++ F ++ r) = pre ++ (txt x.1 ++ (num2 x.2 ++ (F ++ r))) := by simp
    have e1 := gPiece_txt pre x.1 (num2 x.2 ++ (F ++ r)) h1.1
    have e2 := gGet_num (pre ++ txt x.1) x.2 (F ++ r) h1.2.1 h1.2.2
    rw [List.append_assoc, List.length_append, txt_len, ← Nat.add_assoc] at e2
    rw [List.append_assoc, List.append_assoc, List.length_append, List.length_append, txt_len, num2_len, show pre.length + (1 + x.1.length) + 2 = pre.length + 3 + x.1.length by omega] at ih
    rw [e0, e1, e2, ih, Int.toNat_of_nonneg h1.2.1]
theorem gInts_body : ∀ (l : List Int) (pre r : Bs), (∀ x ∈ l, 0 ≤ x ∧ x < 65536) → gInts (pre ++ ((l.flatMap num2) ++ r)) l.length pre.length = l
  | [], _, _, _ => rfl
  | x :: l, pre, r, h => by
    have h1 := h x (List.mem_cons_self ..)
    have ih := gInts_body l (pre ++ num2 x) r (fun y hy => h y (List.mem_cons_of_mem _ hy))
    rw [List.flatMap_cons, List.length_cons, gInts]
    generalize l.flatMap num2 = F at *
    have e0 : pre ++ (num2 x ++ F ++ r) = pre ++ (num2 x ++ (F ++ r)) := by simp
    have e2 := gGet_num pre x (F ++ r) h1.1 h1.2
    rw [List.append_assoc, List.length_append, num2_len] at ih
    rw [e0, e2, ih, Int.toNat_of_nonneg h1.1]
/-- The page that it may be. -/
noncomputable def gGuess (k : Int) (l : Bs) : Pg :=
  if k = 1 then { kind := 1, pairs := gPairs l (min (gGet l 0 2) 7) 2 }
  else if k = 2 then { kind := 2, keys := (gKids l (min (gGet l 0 2) 13) 4).map (·.1), kids := (gGet l 2 2 : Int) :: (gKids l (min (gGet l 0 2) 13) 4).map (·.2) }
  else if k = 3 then { kind := 3, pages := gInts l (min (gGet l 0 2) 201) 2, next := (gGet l (2 + 2 * min (gGet l 0 2) 201) 2 : Int) }
  else if k = 4 then { kind := 4, root := (gGet l 0 2 : Int), depth := (gGet l 2 2 : Int), count := (gGet l 4 4 : Int), high := (gGet l 8 2 : Int), next := (gGet l 10 2 : Int) }
  else { kind := k }
theorem guess_leaf {p : Pg} (g : LeafOk p) (r : Bs) : gGuess 1 (bodyLeaf p ++ r) = { kind := 1, pairs := p.pairs } := by
  have := g.len.2
  have e1 := gGet_num [] p.pairs.length ((p.pairs.flatMap fun x => txt x.1 ++ txt x.2) ++ r) (by omega) (by omega)
  have e2 := gPairs_body p.pairs (num2 p.pairs.length) r (fun x hx => ⟨by have := (g.all x.1 (List.mem_map_of_mem hx)).2; omega, by have := g.vals x hx; omega⟩)
  rw [List.nil_append, List.length_nil, Int.toNat_natCast] at e1
  rw [num2_len] at e2
  rw [gGuess, if_pos rfl, bodyLeaf, List.append_assoc, e1, Nat.min_eq_left (by omega), e2]
theorem guess_branch {p : Pg} (g : BranchOk p) (r : Bs) : gGuess 2 (bodyBranch p ++ r) = { kind := 2, keys := p.keys, kids := p.kids } := by
  have := g.len.2
  have hk := g.kids
  rcases hd : p.kids with _ | ⟨z, ds⟩
  · rw [hd] at hk; simp at hk
  have hz := place16 (g.places z (by rw [hd]; exact List.mem_cons_self ..))
  have hlen : ds.length = p.keys.length := by rw [hd] at hk; simpa using hk
  have hF := gKids_body (p.keys.zip ds) (num2 p.keys.length ++ num2 z) r (fun x hx => ⟨by have := (g.all x.1 (List.of_mem_zip hx).1).2; omega, place16 (g.places x.2 (by rw [hd]; exact List.mem_cons_of_mem _ (List.of_mem_zip hx).2))⟩)
  have e1 := gGet_num [] p.keys.length (num2 z ++ (((p.keys.zip ds).flatMap fun x => txt x.1 ++ num2 x.2) ++ r)) (by omega) (by omega)
  have e2 := gGet_num (num2 p.keys.length) z (((p.keys.zip ds).flatMap fun x => txt x.1 ++ num2 x.2) ++ r) hz.1 hz.2
  rw [List.nil_append, List.length_nil, Int.toNat_natCast] at e1
  rw [num2_len] at e2
  rw [List.append_assoc, List.length_append, num2_len, num2_len, show (p.keys.zip ds).length = p.keys.length by rw [List.length_zip]; omega] at hF
  rw [gGuess, if_neg (by omega), if_pos rfl, bodyBranch, hd, List.headD_cons, List.tail_cons, List.append_assoc, List.append_assoc, e1, e2, Nat.min_eq_left (by omega), hF, List.map_fst_zip (by omega), List.map_snd_zip (by omega), Int.toNat_of_nonneg hz.1]
theorem flat2_len : ∀ l : List Int, (l.flatMap num2).length = 2 * l.length
  | [] => rfl
  | x :: l => by rw [List.flatMap_cons, List.length_append, num2_len, flat2_len l, List.length_cons]; omega
theorem guess_free {p : Pg} (g : FreeOk p) (r : Bs) : gGuess 3 (bodyFree p ++ r) = { kind := 3, pages := p.pages, next := p.next } := by
  have := g.len
  have hx : 0 ≤ p.next ∧ p.next < 65536 := by rcases g.next with h | h; omega; exact place16 h
  have e1 := gGet_num [] p.pages.length ((p.pages.flatMap num2) ++ (num2 p.next ++ r)) (by omega) (by omega)
  have e2 := gInts_body p.pages (num2 p.pages.length) (num2 p.next ++ r) (fun x hx => place16 (g.all x hx))
  have e3 := gGet_num (num2 p.pages.length ++ p.pages.flatMap num2) p.next r hx.1 hx.2
  rw [List.nil_append, List.length_nil, Int.toNat_natCast] at e1
  rw [num2_len] at e2
  rw [List.append_assoc, List.length_append, num2_len, flat2_len] at e3
  rw [gGuess, if_neg (by omega), if_neg (by omega), if_pos rfl, bodyFree, List.append_assoc, List.append_assoc, e1, Nat.min_eq_left (by omega), e2, e3, Int.toNat_of_nonneg hx.1]
theorem guess_super {p : Pg} (g : SuperOk p) (r : Bs) : gGuess 4 (bodySuper p ++ r) = { kind := 4, root := p.root, depth := p.depth, count := p.count, high := p.high, next := p.next } := by
  have hr : 0 ≤ p.root ∧ p.root < 65536 := by rcases g.root with h | h; omega; exact place16 h
  have hx : 0 ≤ p.next ∧ p.next < 65536 := by rcases g.next with h | h; omega; exact place16 h
  have hd := g.depth
  have hc := g.count
  have hh := g.high
  have e1 := gGet_num [] p.root (num2 p.depth ++ (be 4 p.count.toNat ++ (num2 p.high ++ (num2 p.next ++ r)))) hr.1 hr.2
  have e2 := gGet_num (num2 p.root) p.depth (be 4 p.count.toNat ++ (num2 p.high ++ (num2 p.next ++ r))) (by omega) (by omega)
  have e3 := gGet_be (num2 p.root ++ num2 p.depth) 4 p.count.toNat (num2 p.high ++ (num2 p.next ++ r)) (by omega)
  have e4 := gGet_num (num2 p.root ++ num2 p.depth ++ be 4 p.count.toNat) p.high (num2 p.next ++ r) (by omega) (by omega)
  have e5 := gGet_num (num2 p.root ++ num2 p.depth ++ be 4 p.count.toNat ++ num2 p.high) p.next r hx.1 hx.2
  rw [List.nil_append, List.length_nil] at e1
  simp only [List.append_assoc, List.length_append, num2_len, be_len, Nat.reduceAdd] at e2 e3 e4 e5
  rw [gGuess, if_neg (by omega), if_neg (by omega), if_neg (by omega), if_pos rfl, bodySuper]
  simp only [List.append_assoc]
  rw [e1, e2, e3, e4, e5, Int.toNat_of_nonneg hr.1, Int.toNat_of_nonneg (show 0 ≤ p.depth by omega), Int.toNat_of_nonneg hc.1, Int.toNat_of_nonneg (show 0 ≤ p.high by omega), Int.toNat_of_nonneg hx.1]
/-- A page's own bytes are guessed as it, but for its Epoch. -/
theorem guess_back {p : Pg} (h : Fine p) (r : Bs) : gGuess p.kind (bodyOf p ++ r) = { p with epoch := 0 } := by
  unfold bodyOf
  rcases h with ⟨hk, g, a1, a2, a3, a4, b1, b2, b3, b4, b5⟩ | ⟨hk, g, a1, a2, a3, b1, b2, b3, b4, b5⟩ | ⟨hk, g, a1, a2, a3, b1, b2, b3, b4, b5⟩ | ⟨hk, g, a1, a2, a3, a4⟩
  · rw [if_pos hk, hk, guess_leaf g r]
    exact pg_ext rfl (List.eq_nil_of_length_eq_zero a1).symm (List.eq_nil_of_length_eq_zero a2).symm (List.eq_nil_of_length_eq_zero a3).symm rfl a4.symm rfl b2.symm b3.symm b4.symm b5.symm
  · rw [if_neg (by omega), if_pos hk, hk, guess_branch g r]
    exact pg_ext (List.eq_nil_of_length_eq_zero a1).symm rfl rfl (List.eq_nil_of_length_eq_zero a2).symm rfl a3.symm rfl b2.symm b3.symm b4.symm b5.symm
  · rw [if_neg (by omega), if_neg (by omega), if_pos hk, hk, guess_free g r]
    exact pg_ext (List.eq_nil_of_length_eq_zero a1).symm (List.eq_nil_of_length_eq_zero a2).symm (List.eq_nil_of_length_eq_zero a3).symm rfl rfl rfl rfl b2.symm b3.symm b4.symm b5.symm
  · rw [if_neg (by omega), if_neg (by omega), if_neg (by omega), hk, guess_super g r]
    exact pg_ext (List.eq_nil_of_length_eq_zero a1).symm (List.eq_nil_of_length_eq_zero a2).symm (List.eq_nil_of_length_eq_zero a3).symm (List.eq_nil_of_length_eq_zero a4).symm rfl rfl rfl rfl rfl rfl rfl
/-- What the document's own Decode takes bytes for. -/
noncomputable def gDec (s : Int) (l : Bs) : Pg := if s = 0 ∨ s = 1 then { gGuess (gGet l 8 1 : Int) (l.drop 11) with epoch := gGet l 0 8 } else gGuess (gGet l 0 1 : Int) (l.drop 3)
theorem dec_back {s : Int} {p : Pg} {l : Bs} (h : Enc s p l) (hep : p.epoch < 18446744073709551616) : gDec s l = p := by
  obtain ⟨hf, h⟩ := h
  have hk : 0 ≤ p.kind ∧ p.kind ≤ 4 := by rcases hf with ⟨h, _⟩ | ⟨h, _⟩ | ⟨h, _⟩ | ⟨h, _⟩ <;> omega
  rcases h with ⟨_, hs, rfl⟩ | ⟨hk4, hs, rfl⟩
  · unfold doubledBs
    generalize zeros 8 ++ (padTo 496 (pageBs s p) ++ (zeros 8 ++ be 8 p.epoch)) = R
    rw [padTo, pageBs]
    generalize List.replicate (496 - (be 1 p.kind.toNat ++ (num2 s ++ bodyOf p)).length) (0 : UInt8) = Z
    have e1 := gGet_be [] 8 p.epoch (be 1 p.kind.toNat ++ (num2 s ++ bodyOf p) ++ Z ++ R) (by omega)
    have e2 := gGet_be (be 8 p.epoch) 1 p.kind.toNat (num2 s ++ bodyOf p ++ Z ++ R) (by omega)
    rw [List.nil_append, List.length_nil] at e1
    rw [be_len] at e2
    have e3 : be 8 p.epoch ++ (be 1 p.kind.toNat ++ (num2 s ++ bodyOf p ++ Z ++ R)) = be 8 p.epoch ++ (be 1 p.kind.toNat ++ (num2 s ++ bodyOf p) ++ Z ++ R) := by simp
    rw [e3] at e2
    have e4 : (be 8 p.epoch ++ (be 1 p.kind.toNat ++ (num2 s ++ bodyOf p) ++ Z ++ R)).drop 11 = bodyOf p ++ (Z ++ R) := by
      rw [show be 8 p.epoch ++ (be 1 p.kind.toNat ++ (num2 s ++ bodyOf p) ++ Z ++ R) = (be 8 p.epoch ++ be 1 p.kind.toNat ++ num2 s) ++ (bodyOf p ++ (Z ++ R)) by simp]
      exact List.drop_left' (by simp [be_len, num2_len])
    simp only [List.append_assoc] at e1 e2 e4 ⊢
    rw [gDec, if_pos hs, e1, e2, e4, Int.toNat_of_nonneg hk.1, guess_back hf]
  · have hs2 : ¬ (s = 0 ∨ s = 1) := by unfold Place at hs; omega
    unfold summedBs
    rw [padTo, pageBs]
    generalize be 8 (Crc.more 0 _) = R
    generalize List.replicate (1016 - (be 1 p.kind.toNat ++ (num2 s ++ bodyOf p)).length) (0 : UInt8) = Z
    have e2 := gGet_be [] 1 p.kind.toNat (num2 s ++ bodyOf p ++ Z ++ R) (by omega)
    rw [List.nil_append, List.length_nil] at e2
    have e3 : be 1 p.kind.toNat ++ (num2 s ++ bodyOf p ++ Z ++ R) = be 1 p.kind.toNat ++ (num2 s ++ bodyOf p) ++ Z ++ R := by simp
    rw [e3] at e2
    have e4 : (be 1 p.kind.toNat ++ (num2 s ++ bodyOf p) ++ Z ++ R).drop 3 = bodyOf p ++ (Z ++ R) := by
      rw [show be 1 p.kind.toNat ++ (num2 s ++ bodyOf p) ++ Z ++ R = (be 1 p.kind.toNat ++ num2 s) ++ (bodyOf p ++ (Z ++ R)) by simp]
      exact List.drop_left' (by simp [be_len, num2_len])
    have e : p.epoch = 0 := by
      rcases hf with ⟨_, _, _, _, _, _, e, _⟩ | ⟨_, _, _, _, _, e, _⟩ | ⟨_, _, _, _, _, e, _⟩ | ⟨h, _⟩
      · exact e
      · exact e
      · exact e
      · exact absurd h hk4
    rw [gDec, if_neg hs2, e2, e4, Int.toNat_of_nonneg hk.1, guess_back hf]
    exact pg_ext rfl rfl rfl rfl rfl rfl e.symm rfl rfl rfl rfl
theorem gDec_epoch (s : Int) (l : Bs) : (gDec s l).epoch < 18446744073709551616 := by
  have h8 := gGet_lt l 0 8
  have hz : ∀ k m, (gGuess k m).epoch = 0 := fun k m => by unfold gGuess; repeat' split
                                                           all_goals rfl
  unfold gDec
  split
  · exact h8
  · rw [hz]; omega
/-- What is read has such an Epoch. -/
theorem isDec_back {s : Int} {p : Pg} {l : Bs} (h : IsDec s l p) : gDec s l = p := by
  refine dec_back h.2 ?_
  have h1 := h.1
  obtain ⟨hf, ⟨hk, hs, rfl⟩ | ⟨hk, hs, rfl⟩⟩ := h.2
  · rw [rRead, if_pos hs, rWide] at h1
    split at h1
    · rename_i h8
      simp only [Option.bind_some] at h1
      generalize hq : rPage _ = q at h1
      rcases q with _ | y
      · cases h1
      · simp only [Option.map_some, Option.some.injEq] at h1
        rw [← h1]
        have := ofBe_lt ((doubledBs p.epoch (pageBs s p)).take 8)
        rw [List.length_take, Nat.min_eq_left h8] at this
        exact this
    · cases h1
  · rcases hf with ⟨_, _, _, _, _, _, e, _⟩ | ⟨_, _, _, _, _, e, _⟩ | ⟨_, _, _, _, _, e, _⟩ | ⟨h, _⟩
    · rw [e]; omega
    · rw [e]; omega
    · rw [e]; omega
    · exact absurd h hk
theorem gGuess_ok (k : Nat) (hk : k ≤ 255) (l : Bs) : PgOk (gGuess k l) := by
  have h2 : ∀ i, I64 (gGet l i 2 : Int) := fun i => by have := gGet_lt l i 2; unfold I64; omega
  have h4 : ∀ i, I64 (gGet l i 4 : Int) := fun i => by have := gGet_lt l i 4; unfold I64; omega
  have z : I64 0 := by unfold I64; omega
  have e : (0 : Nat) < 18446744073709551616 := by omega
  have n0 : ([] : List Int).length ≤ 9223372036854775807 := Nat.zero_le _
  have n1 : ([] : List Bs).length ≤ 9223372036854775807 := Nat.zero_le _
  have n2 : ([] : List (Bs × Bs)).length ≤ 9223372036854775807 := Nat.zero_le _
  have m1 := Nat.min_le_right (gGet l 0 2) 7
  have m2 := Nat.min_le_right (gGet l 0 2) 13
  have m3 := Nat.min_le_right (gGet l 0 2) 201
  have k0 : ∀ x : Int, 0 ≤ x → x ≤ 255 → I64 x := fun x h1 h2 => by unfold I64; omega
  unfold gGuess
  split
  · exact ⟨k0 1 (by omega) (by omega), by rw [gPairs_len]; omega, n1, n0, n0, z, e, z, z, z, z⟩
  split
  · exact ⟨k0 2 (by omega) (by omega), n2, by rw [List.length_map, gKids_len]; omega, by rw [List.length_cons, List.length_map, gKids_len]; omega, n0, z, e, z, z, z, z⟩
  split
  · exact ⟨k0 3 (by omega) (by omega), n2, n1, n0, by rw [gInts_len]; omega, h2 _, e, z, z, z, z⟩
  split
  · exact ⟨k0 4 (by omega) (by omega), n2, n1, n0, n0, h2 _, e, h2 _, h2 _, h4 _, h2 _⟩
  · exact ⟨k0 (k : Int) (by omega) (by omega), n2, n1, n0, n0, z, e, z, z, z, z⟩
end Go.Proofs.Ytiebaeahimeedaa.Page
namespace Go.Proofs.Ytiebaeahimeedaa.Page
open Go.RowKit Gen

/-- What guess hands back. -/
def Guesses (p : Pg) (w : World) (e : Ending) (w' : World) : Prop := ∃ a, e = .returned (pgV p a) ∧ PgRows w' p a ∧ New a w.heap.size ∧ Below w.heap.size w w'
/-- Between two rounds of guess's leaf. -/
structure GL (w : World) (ps : List (Bs × Bs)) (sv : Value) (wr : World) : Prop where
  at_ : At wr (w.heap.size + 1) (leafC sv)
  zero : At wr w.heap.size (pC 0)
  own : OwnP wr (w.heap.size + 2) sv ps
  below : Below w.heap.size w wr
  size : w.heap.size + 2 ≤ wr.heap.size
theorem gl_more {w w2 : World} {ps : List (Bs × Bs)} {x y : Bs} {sv : Value} (h : GL w ps sv w2) (hk : ps.length ≤ 1000) (X Y : ByteArray) (hX : strB x = X) (hY : strB y = Y) :
    ∃ v' W', (Builtin.append_ #[23, 23] 23 #[sv, .slice (some ⟨w2.heap.size, 0, none⟩) 1 1]).run Try.prog (w2.alloc (.cells #[.string X, .string Y] 44)) = .ok v' W' ∧
      W'.cell? ⟨w.heap.size + 1, 1, none⟩ = some sv ∧ W'.frozen? ⟨w.heap.size + 1, 1, none⟩ = false ∧ GL w (ps ++ [(x, y)]) v' (W'.setCell ⟨w.heap.size + 1, 1, none⟩ v') := by
  obtain ⟨v', W', hrun, ho', hg', hown⟩ := append_pair w2 (w.heap.size + 2) sv ps h.own x y X Y hX hY (by omega) h.size
  have hne : ∀ b, b < w.heap.size + 2 → some b ≠ sv.ownBlock := fun b hb e => by have := hown b e.symm; omega
  have ha' := h.at_.grownRow hg' (hne _ (by omega))
  have hz' := h.zero.grownRow hg' (hne _ (by omega))
  have hb' : Below w.heap.size w W' := h.below.grown hg' h.below.size (fun j hj => by have := hown j hj; omega)
  exact ⟨v', W', hrun, ha'.2.2 1 _ rfl, ha'.2.1 1, ⟨ha'.set 1 v' (by simp), hz'.set_other (by omega), OwnP.grown ho' (grown_set _ _ _ _) (by omega), hb'.setCell (p := ⟨w.heap.size + 1, 1, none⟩) (Nat.le_succ _) v', by have := hg'.size; have := h.size; simp; omega⟩⟩
set_option maxRecDepth 100000 in
set_option maxHeartbeats 8000000 in
theorem guess1 (A : Option Addr) (n c : Nat) (l : Bs) (w : World) (h : BytesAt w A n c l) (hn : n ≤ 2000) : Calls Try.prog 41 #[.int .i64 1, .slice A n c] w (Guesses { kind := 1, pairs := gPairs l (min (gGet l 0 2) 7) 2 } w) := by
  obtain ⟨hat, har⟩ := made_two w 1
  have b0 : Below w.heap.size w ((w.alloc (.cells (pC 0) 28)).alloc (.cells (pC 1) 28)) := ((Below.refl _ _).alloc (Nat.le_refl _) _).alloc (by simp) _
  have ST : Hid (GL w [] (.slice none 0 0) ((w.alloc (.cells (pC 0) 28)).alloc (.cells (pC 1) 28))) := Lib.hid ⟨hat, har, OwnP.nil _ _, b0, by simp⟩
  have cG : Calls Try.prog 42 #[.slice A n c, .int .i64 0, .int .i64 2] ((w.alloc (.cells (pC 0) 28)).alloc (.cells (pC 1) 28)) _ := get_any A n c 0 2 l _ (h.below b0) (by omega) (by omega) (by omega)
  have HH := Lib.hid h
  have hm := gGet_lt l 0 2
  generalize gGet l 0 2 = m at *
  clear h hat har b0
  unfold pC pgC at *
  go_enter Try.func41, Try.ntmps41
  go_wp2_with fail
  refine cG.mono ?_
  rintro e w1 ⟨rfl, rfl⟩
  clear cG
  go_wp2_with fail
  obtain ⟨R, hR⟩ : ∃ R, min m 7 = R := ⟨_, rfl⟩
  have HRM := Lib.hid hR
  rw [hR]
  clear hR
  obtain ⟨T, hT⟩ : ∃ T, gPairs l R 2 = T := ⟨_, rfl⟩
  have HT := Lib.hid hT
  rw [hT]
  clear hT
  go_loopw [7, 8] (fun y x wr => ∃ (k q : Nat) (ps : List (Bs × Bs)) (sv : Value), x = .int .i64 (k : Int) ∧ y = .int .i64 (q : Int) ∧ k ≤ R ∧ q ≤ 2 + 600 * k ∧ GL w ps sv wr ∧ Hid (ps ++ gPairs l (R - k) q = T) ∧ ps.length = k) (fun _ x _ => R - (intOf x).toNat)
  case atStart => exact ⟨0, 2, [], _, rfl, rfl, Nat.zero_le _, by omega, ST.out, Lib.hid (by rw [Nat.sub_zero, HT.out, List.nil_append]), rfl⟩
  case round =>
    obtain ⟨k, q, ps, sv, rfl, rfl, hk, hq, hst, hL, hpl⟩ := hrel
    have HL := Lib.hid hL.out
    clear hL
    by_cases hlt : k < R
    · have hR7 : R ≤ 7 := by have := HRM.out; omega
      have hRm : R ≤ m := by have := HRM.out; omega
      have t1 : (k : Int) < (m : Int) := by omega
      have t2 : (k : Int) ≤ 6 := by omega
      have hx := gPiece_len l q
      have hy := gPiece_len l (q + 1 + (gPiece l q).length)
      have cP := piece_any A n c q l wr (HH.out.below hst.below) (by omega) (by omega)
      have cQ := piece_any A n c (q + 1 + (gPiece l q).length) l wr (HH.out.below hst.below) (by omega) (by omega)
      rw [show ((q + 1 + (gPiece l q).length : Nat) : Int) = (q : Int) + 1 + ((gPiece l q).length : Int) by omega] at cQ
      have HN : Hid (ps ++ [(gPiece l q, gPiece l (q + 1 + (gPiece l q).length))] ++ gPairs l (R - (k + 1)) (q + 2 + (gPiece l q).length + (gPiece l (q + 1 + (gPiece l q).length)).length) = T) := Lib.hid (by
        have h := HL.out
        rw [show R - k = (R - (k + 1)) + 1 by omega, gPairs] at h
        rw [← h]; simp)
      generalize gPiece l (q + 1 + (gPiece l q).length) = y at *
      generalize gPiece l q = x at *
      have hX0 := strB_size x
      have hY0 := strB_size y
      obtain ⟨X, hX⟩ : ∃ X, strB x = X := ⟨_, rfl⟩
      obtain ⟨Y, hY⟩ : ∃ Y, strB y = Y := ⟨_, rfl⟩
      rw [show strV x = .string X by rw [← hX]] at cP
      rw [show strV y = .string Y by rw [← hY]] at cQ
      rw [hX] at hX0
      rw [hY] at hY0
      have c1 : wr.cell? ⟨w.heap.size + 1, 1, none⟩ = some sv := hst.at_.2.2 1 _ rfl
      obtain ⟨v', W', hrun, hc, hf, hst2⟩ := gl_more hst (by omega) X Y hX hY
      obtain ⟨A', c', rfl, -, -⟩ := hst2.own.row
      obtain ⟨m', hm'⟩ : ∃ m', (ps ++ [(x, y)]).length = m' := ⟨_, rfl⟩
      rw [hm'] at hrun hst2
      have Q := Lib.hid hrun
      have HN2 := Lib.hid hst2
      have HPL : Hid ((ps ++ [(x, y)]).length = k + 1) := Lib.hid (by rw [List.length_append, hpl]; rfl)
      clear hrun hst2 hm' hX hY hst hpl HL
      go_wp2_with (first
        | (go_at_call 67; (with_reducible refine cP.mono ?_); rintro e w' ⟨rfl, rfl⟩)
        | (go_at_call 67; (with_reducible refine cQ.mono ?_); rintro e w' ⟨rfl, rfl⟩)
        | (at_builtin; (refine wpList_append_eq rfl (.tmp 50) (.tmp 54) _ rfl rfl rfl Q.out ?_; clear Q)))
      go_roundw
      case rel => exact ⟨k + 1, q + 2 + x.length + y.length, _, _, by go_num, by congr 1, by omega, by omega, HN2.out, HN, HPL.out⟩
      case measure => simp [intOf]; omega
    · have hkR : k = R := by omega
      have HT2 : Hid (ps = T) := Lib.hid (by have h := HL.out; rw [hkR, Nat.sub_self, gPairs, List.append_nil] at h; exact h)
      have HL := HT2
      have hex : ¬ (k : Int) < (m : Int) ∨ (k : Int) < (m : Int) ∧ ¬ (k : Int) ≤ 6 := by
        have := HRM.out
        omega
      have HEX := Lib.hid hex
      clear hex
      clear HT2 hpl
      obtain ⟨B, d, rfl, hrow, hge⟩ := hst.own.row
      have c0 := hst.at_.2.2 0 _ rfl
      have c1 := hst.at_.2.2 1 _ rfl
      have c2 := hst.at_.2.2 2 _ rfl
      have c3 := hst.at_.2.2 3 _ rfl
      have c4 := hst.at_.2.2 4 _ rfl
      have c5 := hst.at_.2.2 5 _ rfl
      have c6 := hst.at_.2.2 6 _ rfl
      have c7 := hst.at_.2.2 7 _ rfl
      have c8 := hst.at_.2.2 8 _ rfl
      have c9 := hst.at_.2.2 9 _ rfl
      have c10 := hst.at_.2.2 10 _ rfl
      have r0 : wr.cell? ⟨w.heap.size, 0, none⟩ = some (.int .i64 0) := hst.zero.2.2 0 _ rfl
      have r1 : wr.cell? ⟨w.heap.size, 1, none⟩ = some (.slice none 0 0) := hst.zero.2.2 1 _ rfl
      have r2 : wr.cell? ⟨w.heap.size, 2, none⟩ = some (.slice none 0 0) := hst.zero.2.2 2 _ rfl
      have r3 : wr.cell? ⟨w.heap.size, 3, none⟩ = some (.slice none 0 0) := hst.zero.2.2 3 _ rfl
      have r4 : wr.cell? ⟨w.heap.size, 4, none⟩ = some (.slice none 0 0) := hst.zero.2.2 4 _ rfl
      have r5 : wr.cell? ⟨w.heap.size, 5, none⟩ = some (.int .i64 0) := hst.zero.2.2 5 _ rfl
      have r6 : wr.cell? ⟨w.heap.size, 6, none⟩ = some (.int .u64 0) := hst.zero.2.2 6 _ rfl
      have r7 : wr.cell? ⟨w.heap.size, 7, none⟩ = some (.int .i64 0) := hst.zero.2.2 7 _ rfl
      have r8 : wr.cell? ⟨w.heap.size, 8, none⟩ = some (.int .i64 0) := hst.zero.2.2 8 _ rfl
      have r9 : wr.cell? ⟨w.heap.size, 9, none⟩ = some (.int .i64 0) := hst.zero.2.2 9 _ rfl
      have r10 : wr.cell? ⟨w.heap.size, 10, none⟩ = some (.int .i64 0) := hst.zero.2.2 10 _ rfl
      have fz : ∀ j, wr.frozen? ⟨w.heap.size, j, none⟩ = false := hst.zero.2.1
      have AW := set11_at hst.zero (.int .i64 1) (.slice B ps.length d) (.slice none 0 0) (.slice none 0 0) (.slice none 0 0) (.int .i64 0) (.int .u64 0) (.int .i64 0) (.int .i64 0) (.int .i64 0) (.int .i64 0)
      have g := set11_only wr w.heap.size (.int .i64 1) (.slice B ps.length d) (.slice none 0 0) (.slice none 0 0) (.slice none 0 0) (.int .i64 0) (.int .u64 0) (.int .i64 0) (.int .i64 0) (.int .i64 0) (.int .i64 0)
      have BW : Below w.heap.size w (set11 wr w.heap.size (.int .i64 1) (.slice B ps.length d) (.slice none 0 0) (.slice none 0 0) (.slice none 0 0) (.int .i64 0) (.int .u64 0) (.int .i64 0) (.int .i64 0) (.int .i64 0) (.int .i64 0)) := hst.below.grown g hst.below.size (fun j hj => by injection hj with hj; omega)
      have OW : PRow (set11 wr w.heap.size (.int .i64 1) (.slice B ps.length d) (.slice none 0 0) (.slice none 0 0) (.slice none 0 0) (.int .i64 0) (.int .u64 0) (.int .i64 0) (.int .i64 0) (.int .i64 0) (.int .i64 0)) B ps := by
        intro hne
        obtain ⟨b, off, e, hlt, hc⟩ := hrow hne
        have hb := hge _ e
        simp only at hb
        have hne2 : some b ≠ some w.heap.size := by simp; omega
        refine ⟨b, off, e, Nat.lt_of_lt_of_le hlt g.size, fun j hj => ⟨?_, ?_⟩⟩
        · rw [World.cell?_of_block (w := wr) (a := ⟨b, off + j * 2, none⟩) (g.block b hlt hne2)]; exact (hc j hj).1
        · rw [World.cell?_of_block (w := wr) (a := ⟨b, off + j * 2 + 1, none⟩) (g.block b hlt hne2)]; exact (hc j hj).2
      have HAW := Lib.hid AW
      have HBW := Lib.hid BW
      have HOW := Lib.hid OW
      have HNW := Lib.hid (show New { A1 := B, c1 := d } w.heap.size from ⟨fun x e => by have := hge x e; omega, fun x e => (by cases e), fun x e => (by cases e), fun x e => (by cases e)⟩)
      clear AW BW OW hst hrow hge g
      generalize hpl : ps.length = pl at *
      rcases HEX.out with e1 | ⟨e1, e2⟩
      all_goals
        clear HEX
        go_wp2_with fail
        change bodyPost _ _ _ _ _ (set11 wr w.heap.size (.int .i64 1) (.slice B pl d) (.slice none 0 0) (.slice none 0 0) (.slice none 0 0) (.int .i64 0) (.int .u64 0) (.int .i64 0) (.int .i64 0) (.int .i64 0) (.int .i64 0))
        generalize set11 wr w.heap.size (.int .i64 1) (.slice B pl d) (.slice none 0 0) (.slice none 0 0) (.slice none 0 0) (.int .i64 0) (.int .u64 0) (.int .i64 0) (.int .i64 0) (.int .i64 0) (.int .i64 0) = W at *
        clear c0 r0 c1 r1 c2 r2 c3 r3 c4 r4 c5 r5 c6 r6 c7 r7 c8 r8 c9 r9 c10 r10 fz
        have c0 := HAW.out.2.2 0 _ rfl
        have c1 := HAW.out.2.2 1 _ rfl
        have c2 := HAW.out.2.2 2 _ rfl
        have c3 := HAW.out.2.2 3 _ rfl
        have c4 := HAW.out.2.2 4 _ rfl
        have c5 := HAW.out.2.2 5 _ rfl
        have c6 := HAW.out.2.2 6 _ rfl
        have c7 := HAW.out.2.2 7 _ rfl
        have c8 := HAW.out.2.2 8 _ rfl
        have c9 := HAW.out.2.2 9 _ rfl
        have c10 := HAW.out.2.2 10 _ rfl
        refine bodyPost_ret (v := .agg #[.int .i64 1, .slice B pl d, .slice none 0 0, .slice none 0 0, .slice none 0 0, .int .i64 0, .int .u64 0, .int .i64 0, .int .i64 0, .int .i64 0, .int .i64 0]) (by simp [results, Try.results41, go_sem, *]) rfl ?_
        rw [HRM.out, HT.out, ← HL.out]
        subst hpl
        exact ⟨{ A1 := B, c1 := d }, rfl, ⟨HOW.out, fun h => absurd rfl h, fun h => absurd rfl h, fun h => absurd rfl h⟩, HNW.out, HBW.out⟩
end Go.Proofs.Ytiebaeahimeedaa.Page
namespace Go.Proofs.Ytiebaeahimeedaa.Page
open Go.RowKit Gen

/-- Between two steps of guess. -/
structure GF (w : World) (C : Array Value) (wr : World) : Prop where
  at_ : At wr (w.heap.size + 1) C
  zero : At wr w.heap.size (pC 0)
  below : Below w.heap.size w wr
  size : w.heap.size + 2 ≤ wr.heap.size
theorem GF.drew {w wr : World} {C : Array Value} (h : GF w C wr) : GF w C wr.drew :=
  ⟨h.at_.below (Below.refl _ _).drew h.at_.1, h.zero.below (Below.refl _ _).drew h.zero.1, h.below.drew, h.size⟩
theorem GF.set {w wr : World} {C : Array Value} (h : GF w C wr) (i : Nat) (v : Value) (hi : i < C.size) : GF w (C.setIfInBounds i v) (wr.setCell ⟨w.heap.size + 1, i, none⟩ v) :=
  ⟨h.at_.set i v hi, h.zero.set_other (by omega), h.below.setCell (p := ⟨w.heap.size + 1, i, none⟩) (Nat.le_succ _) v, by have := h.size; simp; omega⟩
theorem GF.row {w wr W : World} {C : Array Value} {row : Option Nat} (h : GF w C wr) (g : wr.grownBy W row) (hr : ∀ k, row = some k → w.heap.size + 2 ≤ k) : GF w C W :=
  ⟨h.at_.grownRow g (fun e => by have := hr _ e.symm; omega), h.zero.grownRow g (fun e => by have := hr _ e.symm; omega), h.below.grown g h.below.size (fun j hj => by have := hr j hj; omega), Nat.le_trans h.size g.size⟩
theorem gf_more {α : Type} {t e : TypeId} {enc : α → Value} (E : Elem Try.prog t e enc) {w w2 : World} {C : Array Value} {sv : Value} {l : List α} (h : GF w C w2) (ho : OwnG w2 e enc (w.heap.size + 2) sv l) (i : Nat) (hi : C[i]? = some sv) (x : α) (X : Value) (hX : X = enc x) (hn : l.length ≤ 1000000) :
    ∃ v' W', (Builtin.append_ #[t, t] t #[sv, .slice (some ⟨w2.heap.size, 0, none⟩) 1 1]).run Try.prog (w2.alloc (.cells #[X] e)) = .ok v' W' ∧ W'.cell? ⟨w.heap.size + 1, i, none⟩ = some sv ∧ W'.frozen? ⟨w.heap.size + 1, i, none⟩ = false ∧
      GF w (C.setIfInBounds i v') (W'.setCell ⟨w.heap.size + 1, i, none⟩ v') ∧ OwnG (W'.setCell ⟨w.heap.size + 1, i, none⟩ v') e enc (w.heap.size + 2) v' (l ++ [x]) ∧ w2.grownBy W' sv.ownBlock := by
  obtain ⟨v', W', hrun, K, G, hown, _⟩ := append_one E w2 (w.heap.size + 2) sv l ho x X hX hn h.size
  have h2 := h.row G hown
  exact ⟨v', W', hrun, h2.at_.2.2 i _ hi, h2.at_.2.1 i, h2.set i v' (Array.getElem?_eq_some_iff.1 hi).1, own_grown K (grown_set W' (w.heap.size + 1) i v') (by omega), G⟩
set_option maxRecDepth 100000 in
set_option maxHeartbeats 8000000 in
theorem guess3 (A : Option Addr) (n c : Nat) (l : Bs) (w : World) (h : BytesAt w A n c l) (hn : n ≤ 2000) : Calls Try.prog 41 #[.int .i64 3, .slice A n c] w (Guesses (gGuess 3 l) w) := by
  obtain ⟨hat, har⟩ := made_two w 3
  have b0 : Below w.heap.size w ((w.alloc (.cells (pC 0) 28)).alloc (.cells (pC 3) 28)) := ((Below.refl _ _).alloc (Nat.le_refl _) _).alloc (by simp) _
  have ST : Hid (GF w (pC 3) ((w.alloc (.cells (pC 0) 28)).alloc (.cells (pC 3) 28))) := Lib.hid ⟨hat, har, b0, by simp⟩
  have cG : Calls Try.prog 42 #[.slice A n c, .int .i64 0, .int .i64 2] ((w.alloc (.cells (pC 0) 28)).alloc (.cells (pC 3) 28)) _ := get_any A n c 0 2 l _ (h.below b0) (by omega) (by omega) (by omega)
  have HH := Lib.hid h
  have hm := gGet_lt l 0 2
  clear h hat har b0

  have HGU := Lib.hid (show gGuess 3 l = { kind := 3, pages := gInts l (min (gGet l 0 2) 201) 2, next := (gGet l (2 + 2 * min (gGet l 0 2) 201) 2 : Int) } from by rw [gGuess, if_neg (by omega), if_neg (by omega), if_pos rfl])
  generalize gGuess 3 l = PG at *
  generalize gGet l 0 2 = m at *
  unfold pC pgC at *
  go_enter Try.func41, Try.ntmps41
  go_wp2_with fail
  refine cG.mono ?_
  rintro e w1 ⟨rfl, rfl⟩
  clear cG
  go_wp2_with fail
  obtain ⟨R, hR⟩ : ∃ R, min m 201 = R := ⟨_, rfl⟩
  have HRM := Lib.hid hR
  rw [hR] at HGU
  clear hR
  obtain ⟨T, hT⟩ : ∃ T, gInts l R 2 = T := ⟨_, rfl⟩
  have HT := Lib.hid hT
  rw [hT] at HGU
  clear hT
  go_loopw [7, 13] (fun y x wr => ∃ (k : Nat) (ps : List Int) (sv : Value), x = .int .i64 (k : Int) ∧ y = .int .i64 ((2 + 2 * k : Nat) : Int) ∧ k ≤ R ∧ GF w (freeC sv 0) wr ∧ OwnG wr 3 numV (w.heap.size + 2) sv ps ∧ Hid (ps ++ gInts l (R - k) (2 + 2 * k) = T) ∧ ps.length = k) (fun _ x _ => R - (intOf x).toNat)
  case atStart => exact ⟨0, [], _, rfl, rfl, Nat.zero_le _, ST.out, OwnG.nil _ _ _ _, Lib.hid (by rw [Nat.sub_zero, HT.out, List.nil_append]), rfl⟩
  case round =>
    obtain ⟨k, ps, sv, rfl, rfl, hk, hst, ho, hL, hpl⟩ := hrel
    have HL := Lib.hid hL.out
    clear hL
    have hR7 : R ≤ 201 := by have := HRM.out; omega
    by_cases hlt : k < R
    · have hRm : R ≤ m := by have := HRM.out; omega
      have t1 : (k : Int) < (m : Int) := by omega
      have t2 : (k : Int) ≤ 200 := by omega
      have hx := gGet_lt l (2 + 2 * k) 2
      have hdr := hst.drew
      have cP : Calls Try.prog 42 #[.slice A n c, .int .i64 ((2 + 2 * k : Nat) : Int), .int .i64 2] wr.drew _ := get_any A n c (2 + 2 * k) 2 l wr.drew (HH.out.below hdr.below) (by omega) (by omega) (by omega)
      have HN : Hid (ps ++ [(gGet l (2 + 2 * k) 2 : Int)] ++ gInts l (R - (k + 1)) (2 + 2 * (k + 1)) = T) := Lib.hid (by
        have h := HL.out
        rw [show R - k = (R - (k + 1)) + 1 by omega, gInts] at h
        rw [← h]; simp [Nat.mul_add, Nat.add_assoc])
      generalize gGet l (2 + 2 * k) 2 = x at *
      have hw : IntKind.i64.wrap (x : Int) = x := IntWalk.i64_in _ (by omega)
      obtain ⟨v', W', hrun, hc, hf, hst2, ho2, -⟩ := gf_more ints_elem hdr (OwnG.kept ho (Below.refl _ _).drew) 4 rfl (x : Int) (.int .i64 (x : Int)) rfl (by omega)
      obtain ⟨A', c', rfl, -, -⟩ := OwnG.own_row ho2
      obtain ⟨m', hm'⟩ : ∃ m', (ps ++ [(x : Int)]).length = m' := ⟨_, rfl⟩
      rw [hm'] at hrun hst2 ho2
      have Q := Lib.hid hrun
      have HN2 := Lib.hid (show GF w (freeC (.slice A' m' c') 0) _ from hst2)
      have HO2 := Lib.hid ho2
      have HFZ := Lib.hid hf
      have HPL : Hid ((ps ++ [(x : Int)]).length = k + 1) := Lib.hid (by rw [List.length_append, hpl]; rfl)
      have S0 : wr.drew.cell? ⟨w.heap.size + 1, 4, none⟩ = some sv := hst.at_.2.2 4 _ rfl
      have S3 := Lib.hid ((hdr.at_.below (n := wr.drew.heap.size) ((Below.refl wr.drew.heap.size wr.drew).alloc (Nat.le_refl _) (.cells #[.int .i64 (x : Int)] 3)) hdr.at_.1).2.2 4 _ rfl)
      have S4 := Lib.hid hc
      obtain ⟨q, hq⟩ : ∃ q : Int, ((2 + 2 * k : Nat) : Int) = q := ⟨_, rfl⟩
      have HQK := Lib.hid (show q = 2 + 2 * (k : Int) by omega)
      have hq0 : 0 ≤ q := by omega
      have hq1 : q ≤ 1000 := by omega
      rw [hq] at cP ⊢
      clear hq hrun hst2 ho2 hf hc hm' hst ho hpl HL hdr hx
      go_wp2_with fail
      refine region_last (S := fun w' => w'.cell? ⟨w.heap.size + 1, 4, none⟩ = some sv) 9 (by kernel_rfl) rfl rfl rfl rfl (by kernel_rfl) (by kernel_rfl) ?_
      intro w3 hw3
      subst hw3
      have hSR := S0
      simp only [List.set_cons_zero, List.set_cons_succ]
      refine wpAnyH_take (i := 0) (v := ?_) rfl (by kernel_rfl) (by kernel_rfl) (by kernel_rfl) (fun _ _ _ h => h) (Or.inl ⟨by rfl, ?_⟩) hSR ?_
      rotate_left
      · (intro w' hSw; (try dsimp only at hSw); go_simp; (try with_reducible rfl))
      simp only [Act.put]
      refine wpAnyH_take (i := 1) (v := ?_) rfl (by kernel_rfl) (by kernel_rfl) (by kernel_rfl) (fun _ _ _ h => h) (Or.inl ⟨by rfl, ?_⟩) hSR ?_
      rotate_left
      · (intro w' hSw; (try dsimp only at hSw); go_simp; (try with_reducible rfl))
      simp only [Act.put]
      refine wpAnyH_take (i := 2) (v := ?_) rfl (by kernel_rfl) (by kernel_rfl) (by kernel_rfl) (fun _ _ _ h => h) (Or.inl ⟨by rfl, ?_⟩) hSR ?_
      rotate_left
      · (intro w' hSw; (try dsimp only at hSw); go_simp; (try with_reducible rfl))
      simp only [Act.put]
      refine wpAnyH_take (i := 3) (v := ?_) rfl (by kernel_rfl) (by kernel_rfl) (by kernel_rfl) (fun _ _ _ h => h) (Or.inl ⟨by rfl, ?_⟩) hSR ?_
      rotate_left
      · (intro w' hSw; (try dsimp only at hSw); go_simp; (try with_reducible rfl))
      simp only [Act.put]
      refine wpAnyH_ready (rs := [4]) (by kernel_rfl) (by simp) (AllReadyH.cons rfl (fun K hK => ?_) AllReadyH.nil)
      go_simp
      refine cP.mono ?_
      rintro e w2 ⟨rfl, rfl⟩
      refine hK.out _ _ S0 (fun hSR => ?_)
      clear hK K cP
      refine wpAnyH_take (i := 5) (v := ?_) rfl (by kernel_rfl) (by kernel_rfl) (by kernel_rfl) (fun _ _ _ h => h) (Or.inl ⟨by rfl, ?_⟩) hSR ?_
      rotate_left
      · (intro w' hSw; (try dsimp only at hSw); go_simp; (try with_reducible rfl))
      simp only [Act.put]
      refine wpAnyH_ready (rs := [6]) (by kernel_rfl) (by simp) (AllReadyH.cons rfl (fun K hK => ?_) AllReadyH.nil)
      go_simp
      refine hK.out _ _ S3.out (fun hSR => ?_)
      clear hK K
      refine wpAnyH_ready (rs := [7]) (by kernel_rfl) (by simp) (AllReadyH.cons rfl (fun K hK => ?_) AllReadyH.nil)
      refine step_append2_eq (by rfl) (.tmp 115) (.tmp 120) _ _ (by rfl) (by rfl) (by rfl) Q.out ?_
      refine hK.out _ _ S4.out (fun hSR => ?_)
      clear hK K S0
      have hfz := HFZ.out
      simp only [Act.put]
      refine wpAnyH_take (i := 8) (v := ?_) rfl (by kernel_rfl) (by kernel_rfl) (by kernel_rfl) (fun _ _ _ h => h) (Or.inl ⟨by rfl, ?_⟩) hSR ?_
      rotate_left
      · (intro w' hSw; (try dsimp only at hSw); go_simp; (try with_reducible rfl))
      simp only [Act.put]
      refine wpAnyH_take (i := 9) (v := ?_) rfl (by kernel_rfl) (by kernel_rfl) (by kernel_rfl) (fun _ _ _ h => h) (Or.inl ⟨by rfl, ?_⟩) hSR ?_
      rotate_left
      · (intro w' hSw; (try dsimp only at hSw); go_simp; (try with_reducible rfl))
      simp only [Act.put]
      refine wpAnyH_done (by kernel_rfl) ?_ _
      show Oper.wp _ _ _ _ _ _
      unfold Oper.wp
      go_simp
      clear hSR hfz hw
      go_wp2_with fail
      go_roundw
      case rel => exact ⟨k + 1, _, _, by go_num, by congr 1; have := HQK.out; omega, by omega, HN2.out, HO2.out, HN, HPL.out⟩
      case measure => simp [intOf]; omega
    · have hkR : k = R := by omega
      have HT2 : Hid (ps = T) := Lib.hid (by have h := HL.out; rw [hkR, Nat.sub_self, gInts, List.append_nil] at h; exact h)
      have hex : ¬ (k : Int) < (m : Int) ∨ (k : Int) < (m : Int) ∧ ¬ (k : Int) ≤ 200 := by
        have := HRM.out
        omega
      have HEX := Lib.hid hex
      have cP : Calls Try.prog 42 #[.slice A n c, .int .i64 ((2 + 2 * k : Nat) : Int), .int .i64 2] wr _ := get_any A n c (2 + 2 * k) 2 l wr (HH.out.below hst.below) (by omega) (by omega) (by omega)
      have hx := gGet_lt l (2 + 2 * k) 2
      rw [← hkR] at HGU
      generalize gGet l (2 + 2 * k) 2 = x at *
      have hw : IntKind.i64.wrap (x : Int) = x := IntWalk.i64_in _ (by omega)
      obtain ⟨q, hq⟩ : ∃ q : Int, ((2 + 2 * k : Nat) : Int) = q := ⟨_, rfl⟩
      rw [hq] at cP ⊢
      clear hq hex HL hpl hx hkR
      obtain ⟨B, d, rfl, hrow, hge⟩ := OwnG.own_row ho
      have x5 : wr.cell? ⟨w.heap.size + 1, 5, none⟩ = some (.int .i64 0) := hst.at_.2.2 5 _ rfl
      have xf := hst.at_.2.1 5
      have hst5 : GF w (freeC (.slice B ps.length d) (x : Int)) (wr.setCell ⟨w.heap.size + 1, 5, none⟩ (.int .i64 (x : Int))) := hst.set 5 (.int .i64 (x : Int)) (by simp)
      have ho5 := own_grown ho (grown_set wr (w.heap.size + 1) 5 (.int .i64 (x : Int))) (by omega)
      have HNW := Lib.hid (show New { A4 := B, c4 := d } w.heap.size from ⟨fun x e => (by cases e), fun x e => (by cases e), fun x e => (by cases e), fun x e => by have := hge x e; omega⟩)
      clear hst ho hrow hge HRM ST
      have c0 : (wr.setCell ⟨w.heap.size + 1, 5, none⟩ (.int .i64 (x : Int))).cell? ⟨w.heap.size + 1, 0, none⟩ = some (.int .i64 3) := hst5.at_.2.2 0 _ rfl
      have c1 : (wr.setCell ⟨w.heap.size + 1, 5, none⟩ (.int .i64 (x : Int))).cell? ⟨w.heap.size + 1, 1, none⟩ = some (.slice none 0 0) := hst5.at_.2.2 1 _ rfl
      have c2 : (wr.setCell ⟨w.heap.size + 1, 5, none⟩ (.int .i64 (x : Int))).cell? ⟨w.heap.size + 1, 2, none⟩ = some (.slice none 0 0) := hst5.at_.2.2 2 _ rfl
      have c3 : (wr.setCell ⟨w.heap.size + 1, 5, none⟩ (.int .i64 (x : Int))).cell? ⟨w.heap.size + 1, 3, none⟩ = some (.slice none 0 0) := hst5.at_.2.2 3 _ rfl
      have c4 : (wr.setCell ⟨w.heap.size + 1, 5, none⟩ (.int .i64 (x : Int))).cell? ⟨w.heap.size + 1, 4, none⟩ = some (.slice B ps.length d) := hst5.at_.2.2 4 _ rfl
      have c5 : (wr.setCell ⟨w.heap.size + 1, 5, none⟩ (.int .i64 (x : Int))).cell? ⟨w.heap.size + 1, 5, none⟩ = some (.int .i64 (x : Int)) := hst5.at_.2.2 5 _ rfl
      have c6 : (wr.setCell ⟨w.heap.size + 1, 5, none⟩ (.int .i64 (x : Int))).cell? ⟨w.heap.size + 1, 6, none⟩ = some (.int .u64 0) := hst5.at_.2.2 6 _ rfl
      have c7 : (wr.setCell ⟨w.heap.size + 1, 5, none⟩ (.int .i64 (x : Int))).cell? ⟨w.heap.size + 1, 7, none⟩ = some (.int .i64 0) := hst5.at_.2.2 7 _ rfl
      have c8 : (wr.setCell ⟨w.heap.size + 1, 5, none⟩ (.int .i64 (x : Int))).cell? ⟨w.heap.size + 1, 8, none⟩ = some (.int .i64 0) := hst5.at_.2.2 8 _ rfl
      have c9 : (wr.setCell ⟨w.heap.size + 1, 5, none⟩ (.int .i64 (x : Int))).cell? ⟨w.heap.size + 1, 9, none⟩ = some (.int .i64 0) := hst5.at_.2.2 9 _ rfl
      have c10 : (wr.setCell ⟨w.heap.size + 1, 5, none⟩ (.int .i64 (x : Int))).cell? ⟨w.heap.size + 1, 10, none⟩ = some (.int .i64 0) := hst5.at_.2.2 10 _ rfl
      have r0 : (wr.setCell ⟨w.heap.size + 1, 5, none⟩ (.int .i64 (x : Int))).cell? ⟨w.heap.size, 0, none⟩ = some (.int .i64 0) := hst5.zero.2.2 0 _ rfl
      have r1 : (wr.setCell ⟨w.heap.size + 1, 5, none⟩ (.int .i64 (x : Int))).cell? ⟨w.heap.size, 1, none⟩ = some (.slice none 0 0) := hst5.zero.2.2 1 _ rfl
      have r2 : (wr.setCell ⟨w.heap.size + 1, 5, none⟩ (.int .i64 (x : Int))).cell? ⟨w.heap.size, 2, none⟩ = some (.slice none 0 0) := hst5.zero.2.2 2 _ rfl
      have r3 : (wr.setCell ⟨w.heap.size + 1, 5, none⟩ (.int .i64 (x : Int))).cell? ⟨w.heap.size, 3, none⟩ = some (.slice none 0 0) := hst5.zero.2.2 3 _ rfl
      have r4 : (wr.setCell ⟨w.heap.size + 1, 5, none⟩ (.int .i64 (x : Int))).cell? ⟨w.heap.size, 4, none⟩ = some (.slice none 0 0) := hst5.zero.2.2 4 _ rfl
      have r5 : (wr.setCell ⟨w.heap.size + 1, 5, none⟩ (.int .i64 (x : Int))).cell? ⟨w.heap.size, 5, none⟩ = some (.int .i64 0) := hst5.zero.2.2 5 _ rfl
      have r6 : (wr.setCell ⟨w.heap.size + 1, 5, none⟩ (.int .i64 (x : Int))).cell? ⟨w.heap.size, 6, none⟩ = some (.int .u64 0) := hst5.zero.2.2 6 _ rfl
      have r7 : (wr.setCell ⟨w.heap.size + 1, 5, none⟩ (.int .i64 (x : Int))).cell? ⟨w.heap.size, 7, none⟩ = some (.int .i64 0) := hst5.zero.2.2 7 _ rfl
      have r8 : (wr.setCell ⟨w.heap.size + 1, 5, none⟩ (.int .i64 (x : Int))).cell? ⟨w.heap.size, 8, none⟩ = some (.int .i64 0) := hst5.zero.2.2 8 _ rfl
      have r9 : (wr.setCell ⟨w.heap.size + 1, 5, none⟩ (.int .i64 (x : Int))).cell? ⟨w.heap.size, 9, none⟩ = some (.int .i64 0) := hst5.zero.2.2 9 _ rfl
      have r10 : (wr.setCell ⟨w.heap.size + 1, 5, none⟩ (.int .i64 (x : Int))).cell? ⟨w.heap.size, 10, none⟩ = some (.int .i64 0) := hst5.zero.2.2 10 _ rfl
      have fz : ∀ j, (wr.setCell ⟨w.heap.size + 1, 5, none⟩ (.int .i64 (x : Int))).frozen? ⟨w.heap.size, j, none⟩ = false := hst5.zero.2.1
      have HAW := Lib.hid (set11_at hst5.zero (.int .i64 3) (.slice none 0 0) (.slice none 0 0) (.slice none 0 0) (.slice B ps.length d) (.int .i64 (x : Int)) (.int .u64 0) (.int .i64 0) (.int .i64 0) (.int .i64 0) (.int .i64 0))
      have g := set11_only (wr.setCell ⟨w.heap.size + 1, 5, none⟩ (.int .i64 (x : Int))) w.heap.size (.int .i64 3) (.slice none 0 0) (.slice none 0 0) (.slice none 0 0) (.slice B ps.length d) (.int .i64 (x : Int)) (.int .u64 0) (.int .i64 0) (.int .i64 0) (.int .i64 0) (.int .i64 0)
      have HBW : Hid (Below w.heap.size w (set11 (wr.setCell ⟨w.heap.size + 1, 5, none⟩ (.int .i64 (x : Int))) w.heap.size (.int .i64 3) (.slice none 0 0) (.slice none 0 0) (.slice none 0 0) (.slice B ps.length d) (.int .i64 (x : Int)) (.int .u64 0) (.int .i64 0) (.int .i64 0) (.int .i64 0) (.int .i64 0))) := Lib.hid (hst5.below.grown g hst5.below.size (fun j hj => by injection hj with hj; omega))
      have HOW : Hid (PgRows (set11 (wr.setCell ⟨w.heap.size + 1, 5, none⟩ (.int .i64 (x : Int))) w.heap.size (.int .i64 3) (.slice none 0 0) (.slice none 0 0) (.slice none 0 0) (.slice B ps.length d) (.int .i64 (x : Int)) (.int .u64 0) (.int .i64 0) (.int .i64 0) (.int .i64 0) (.int .i64 0)) { kind := 3, pages := ps, next := (x : Int) } { A4 := B, c4 := d }) := Lib.hid (⟨fun h => absurd rfl h, fun h => absurd rfl h, fun h => absurd rfl h, own_apart ho5 g (by omega)⟩)
      clear g
      clear hst5 ho5
      generalize hpl : ps.length = pl at *
      rcases HEX.out with e1 | ⟨e1, e2⟩
      all_goals
        clear HEX
        go_wp2_with fail
        refine cP.mono ?_
        rintro e w2 ⟨rfl, rfl⟩
        go_wp2_with fail
        change bodyPost _ _ _ _ _ (set11 (wr.setCell ⟨w.heap.size + 1, 5, none⟩ (.int .i64 (x : Int))) w.heap.size (.int .i64 3) (.slice none 0 0) (.slice none 0 0) (.slice none 0 0) (.slice B pl d) (.int .i64 (x : Int)) (.int .u64 0) (.int .i64 0) (.int .i64 0) (.int .i64 0) (.int .i64 0))
        generalize set11 (wr.setCell ⟨w.heap.size + 1, 5, none⟩ (.int .i64 (x : Int))) w.heap.size (.int .i64 3) (.slice none 0 0) (.slice none 0 0) (.slice none 0 0) (.slice B pl d) (.int .i64 (x : Int)) (.int .u64 0) (.int .i64 0) (.int .i64 0) (.int .i64 0) (.int .i64 0) = W at *
        clear c0 r0 c1 r1 c2 r2 c3 r3 c4 r4 c5 r5 c6 r6 c7 r7 c8 r8 c9 r9 c10 r10 fz
        have c0 := HAW.out.2.2 0 _ rfl
        have c1 := HAW.out.2.2 1 _ rfl
        have c2 := HAW.out.2.2 2 _ rfl
        have c3 := HAW.out.2.2 3 _ rfl
        have c4 := HAW.out.2.2 4 _ rfl
        have c5 := HAW.out.2.2 5 _ rfl
        have c6 := HAW.out.2.2 6 _ rfl
        have c7 := HAW.out.2.2 7 _ rfl
        have c8 := HAW.out.2.2 8 _ rfl
        have c9 := HAW.out.2.2 9 _ rfl
        have c10 := HAW.out.2.2 10 _ rfl
        refine bodyPost_ret (v := .agg #[.int .i64 3, .slice none 0 0, .slice none 0 0, .slice none 0 0, .slice B pl d, .int .i64 (x : Int), .int .u64 0, .int .i64 0, .int .i64 0, .int .i64 0, .int .i64 0]) (by simp [results, Try.results41, go_sem, *]) rfl ?_
        rw [HGU.out, ← HT2.out]
        subst hpl
        exact ⟨{ A4 := B, c4 := d }, rfl, HOW.out, HNW.out, HBW.out⟩
end Go.Proofs.Ytiebaeahimeedaa.Page
namespace Go.Proofs.Ytiebaeahimeedaa.Page
open Go.RowKit Gen

set_option maxRecDepth 100000 in
set_option maxHeartbeats 2000000 in
theorem guess2 (A : Option Addr) (n c : Nat) (l : Bs) (w : World) (h : BytesAt w A n c l) (hn : n ≤ 2000) : Calls Try.prog 41 #[.int .i64 2, .slice A n c] w (Guesses (gGuess 2 l) w) := by
  obtain ⟨hat, har⟩ := made_two w 2
  have b0 : Below w.heap.size w ((w.alloc (.cells (pC 0) 28)).alloc (.cells (pC 2) 28)) := ((Below.refl _ _).alloc (Nat.le_refl _) _).alloc (by simp) _
  have ST : Hid (GF w (pC 2) ((w.alloc (.cells (pC 0) 28)).alloc (.cells (pC 2) 28))) := Lib.hid ⟨hat, har, b0, by simp⟩
  have cG : Calls Try.prog 42 #[.slice A n c, .int .i64 0, .int .i64 2] ((w.alloc (.cells (pC 0) 28)).alloc (.cells (pC 2) 28)) _ := get_any A n c 0 2 l _ (h.below b0) (by omega) (by omega) (by omega)
  have HH := Lib.hid h
  have hm := gGet_lt l 0 2
  clear h hat har b0

  have HGU := Lib.hid (show gGuess 2 l = { kind := 2, keys := (gKids l (min (gGet l 0 2) 13) 4).map (·.1), kids := (gGet l 2 2 : Int) :: (gKids l (min (gGet l 0 2) 13) 4).map (·.2) } from by rw [gGuess, if_neg (by omega), if_pos rfl])
  have hz := gGet_lt l 2 2
  have HGZ := Lib.hid (show ∀ W, BytesAt W A n c l → Calls Try.prog 42 #[.slice A n c, .int .i64 2, .int .i64 2] W (fun e w' => e = .returned (.int .u64 (gGet l 2 2 : Int)) ∧ W = w') from fun W hW => get_any A n c 2 2 l W hW (by omega) (by omega) (by omega))
  generalize gGuess 2 l = PG at *
  generalize gGet l 0 2 = m at *
  generalize gGet l 2 2 = z at *
  unfold pC pgC at *
  go_enter Try.func41, Try.ntmps41
  go_wp2_with fail
  refine cG.mono ?_
  rintro e w1 ⟨rfl, rfl⟩
  clear cG
  obtain ⟨R, hR⟩ : ∃ R, min m 13 = R := ⟨_, rfl⟩
  have HRM := Lib.hid hR
  rw [hR] at HGU
  clear hR
  obtain ⟨T, hT⟩ : ∃ T, gKids l R 4 = T := ⟨_, rfl⟩
  have HT := Lib.hid hT
  rw [hT] at HGU
  clear hT
  obtain ⟨W1, hW1⟩ : ∃ W1, (w.alloc (.cells #[.int .i64 0, .slice none 0 0, .slice none 0 0, .slice none 0 0, .slice none 0 0, .int .i64 0, .int .u64 0, .int .i64 0, .int .i64 0, .int .i64 0, .int .i64 0] 28)).alloc (.cells #[.int .i64 2, .slice none 0 0, .slice none 0 0, .slice none 0 0, .slice none 0 0, .int .i64 0, .int .u64 0, .int .i64 0, .int .i64 0, .int .i64 0, .int .i64 0] 28) = W1 := ⟨_, rfl⟩
  have ST1 : GF w (branchC (.slice none 0 0) (.slice none 0 0)) W1 := by rw [← hW1]; exact ST.out
  have hdr := ST1.drew
  have cP := HGZ.out W1.drew (HH.out.below hdr.below)
  have hw : IntKind.i64.wrap (z : Int) = z := IntWalk.i64_in _ (by omega)
  obtain ⟨v', W', hrun, hc, hf, hst2, ho2, -⟩ := gf_more ints_elem hdr (OwnG.nil _ _ _ _) 3 rfl (z : Int) (.int .i64 (z : Int)) rfl (by simp)
  obtain ⟨A', c', rfl, -, -⟩ := OwnG.own_row ho2
  have Q := Lib.hid hrun
  have HST := Lib.hid (show GF w (branchC (.slice none 0 0) (.slice A' 1 c')) _ from hst2)
  have HO := Lib.hid ho2
  have HFZ := Lib.hid hf
  have S0 : W1.drew.cell? ⟨w.heap.size + 1, 3, none⟩ = some (.slice none 0 0) := ST1.at_.2.2 3 _ rfl
  have S3 := Lib.hid ((hdr.at_.below (n := W1.drew.heap.size) ((Below.refl W1.drew.heap.size W1.drew).alloc (Nat.le_refl _) (.cells #[.int .i64 (z : Int)] 3)) hdr.at_.1).2.2 3 _ rfl)
  have S4 := Lib.hid hc
  have c5 : W1.heap.size = W1.heap.size := rfl
  simp only [List.length_nil] at hW1 ⊢
  clear hrun hst2 ho2 hf hc hdr ST1 hz ST HGZ c5
  go_wp2_with fail
  (try clear hW1)
  refine region_last (S := fun w' => w'.cell? ⟨w.heap.size + 1, 3, none⟩ = some (.slice none 0 0)) 8 (by kernel_rfl) rfl rfl rfl rfl (by kernel_rfl) (by kernel_rfl) ?_
  intro w3 hw3
  subst hw3
  have hSR := S0
  simp only [List.set_cons_zero, List.set_cons_succ]
  refine wpAnyH_take (i := 0) (v := ?_) rfl (by kernel_rfl) (by kernel_rfl) (by kernel_rfl) (fun _ _ _ h => h) (Or.inl ⟨by rfl, ?_⟩) hSR ?_
  rotate_left
  · (intro w' hSw; (try dsimp only at hSw); go_simp; (try with_reducible rfl))
  simp only [Act.put]
  refine wpAnyH_take (i := 1) (v := ?_) rfl (by kernel_rfl) (by kernel_rfl) (by kernel_rfl) (fun _ _ _ h => h) (Or.inl ⟨by rfl, ?_⟩) hSR ?_
  rotate_left
  · (intro w' hSw; (try dsimp only at hSw); go_simp; (try with_reducible rfl))
  simp only [Act.put]
  refine wpAnyH_take (i := 2) (v := ?_) rfl (by kernel_rfl) (by kernel_rfl) (by kernel_rfl) (fun _ _ _ h => h) (Or.inl ⟨by rfl, ?_⟩) hSR ?_
  rotate_left
  · (intro w' hSw; (try dsimp only at hSw); go_simp; (try with_reducible rfl))
  simp only [Act.put]
  refine wpAnyH_ready (rs := [3]) (by kernel_rfl) (by simp) (AllReadyH.cons rfl (fun K hK => ?_) AllReadyH.nil)
  go_simp
  refine cP.mono ?_
  rintro e w2 ⟨rfl, rfl⟩
  refine hK.out _ _ S0 (fun hSR => ?_)
  clear hK K cP
  refine wpAnyH_take (i := 4) (v := ?_) rfl (by kernel_rfl) (by kernel_rfl) (by kernel_rfl) (fun _ _ _ h => h) (Or.inl ⟨by rfl, ?_⟩) hSR ?_
  rotate_left
  · (intro w' hSw; (try dsimp only at hSw); go_simp; (try with_reducible rfl))
  simp only [Act.put]
  refine wpAnyH_ready (rs := [5]) (by kernel_rfl) (by simp) (AllReadyH.cons rfl (fun K hK => ?_) AllReadyH.nil)
  go_simp
  refine hK.out _ _ S3.out (fun hSR => ?_)
  clear hK K
  refine wpAnyH_ready (rs := [6]) (by kernel_rfl) (by simp) (AllReadyH.cons rfl (fun K hK => ?_) AllReadyH.nil)
  refine step_append2_eq (by rfl) (.tmp 60) (.tmp 64) _ _ (by rfl) (by rfl) (by rfl) Q.out ?_
  refine hK.out _ _ S4.out (fun hSR => ?_)
  clear hK K S0
  have hfz := HFZ.out
  simp only [Act.put]
  refine wpAnyH_take (i := 7) (v := ?_) rfl (by kernel_rfl) (by kernel_rfl) (by kernel_rfl) (fun _ _ _ h => h) (Or.inl ⟨by rfl, ?_⟩) hSR ?_
  rotate_left
  · (intro w' hSw; (try dsimp only at hSw); go_simp; (try with_reducible rfl))
  simp only [Act.put]
  refine wpAnyH_take (i := 8) (v := ?_) rfl (by kernel_rfl) (by kernel_rfl) (by kernel_rfl) (fun _ _ _ h => h) (Or.inl ⟨by rfl, ?_⟩) hSR ?_
  rotate_left
  · (intro w' hSw; (try dsimp only at hSw); go_simp; (try with_reducible rfl))
  simp only [Act.put]
  refine wpAnyH_done (by kernel_rfl) ?_ _
  show Oper.wp _ _ _ _ _ _
  unfold Oper.wp
  go_simp
  clear hSR hfz hw
  have HNS : Hid (GF w (branchC (.slice none 0 0) (.slice A' 1 c')) (W'.setCell ⟨w.heap.size + 1, 3, none⟩ (.slice A' 1 c'))) := HST
  have HNO : Hid (OwnG (W'.setCell ⟨w.heap.size + 1, 3, none⟩ (.slice A' 1 c')) 3 numV (w.heap.size + 2) (.slice A' 1 c') [(z : Int)]) := HO
  clear HST HO Q S3 S4 HFZ
  go_wp2_with fail
  generalize W'.setCell ⟨w.heap.size + 1, 3, none⟩ (.slice A' 1 c') = W2 at *
  go_loopw [7, 11] (fun y x wr => ∃ (k q : Nat) (ks : List (Bs × Int)) (sk sd : Value), x = .int .i64 (k : Int) ∧ y = .int .i64 (q : Int) ∧ k ≤ R ∧ q ≤ 4 + 300 * k ∧ GF w (branchC sk sd) wr ∧ OwnG wr 9 strV (w.heap.size + 2) sk (ks.map (·.1)) ∧ OwnG wr 3 numV (w.heap.size + 2) sd ((z : Int) :: ks.map (·.2)) ∧ Hid (ks ++ gKids l (R - k) q = T) ∧ ks.length = k) (fun _ x _ => R - (intOf x).toNat)
  case atStart => exact ⟨0, 4, [], _, _, rfl, rfl, Nat.zero_le _, by omega, HNS.out, OwnG.nil _ _ _ _, HNO.out, Lib.hid (by rw [Nat.sub_zero, HT.out, List.nil_append]), rfl⟩
  case round =>
    obtain ⟨k, q, ks, sk, sd, rfl, rfl, hk, hq, hst, hok, hod, hL, hpl⟩ := hrel
    have HL := Lib.hid hL.out
    clear hL
    have hR7 : R ≤ 13 := by have := HRM.out; omega
    by_cases hlt : k < R
    · have hRm : R ≤ m := by have := HRM.out; omega
      have t1 : (k : Int) < (m : Int) := by omega
      have t2 : (k : Int) ≤ 12 := by omega
      have hx := gPiece_len l q
      have hy := gGet_lt l (q + 1 + (gPiece l q).length) 2
      have cPi := piece_any A n c q l wr (HH.out.below hst.below) (by omega) (by omega)
      have HGY := Lib.hid (show ∀ W, BytesAt W A n c l → Calls Try.prog 42 #[.slice A n c, .int .i64 ((q : Int) + 1 + ((gPiece l q).length : Int)), .int .i64 2] W (fun e w' => e = .returned (.int .u64 (gGet l (q + 1 + (gPiece l q).length) 2 : Int)) ∧ W = w') from fun W hW => by
        have := get_any A n c (q + 1 + (gPiece l q).length) 2 l W hW (by omega) (by omega) (by omega)
        rw [show ((q + 1 + (gPiece l q).length : Nat) : Int) = (q : Int) + 1 + ((gPiece l q).length : Int) by omega] at this
        exact this)
      have HN : Hid (ks ++ [(gPiece l q, (gGet l (q + 1 + (gPiece l q).length) 2 : Int))] ++ gKids l (R - (k + 1)) (q + 3 + (gPiece l q).length) = T) := Lib.hid (by
        have h := HL.out
        rw [show R - k = (R - (k + 1)) + 1 by omega, gKids] at h
        rw [← h]; simp)
      generalize gGet l (q + 1 + (gPiece l q).length) 2 = y at *
      generalize gPiece l q = x at *
      have hX0 := strB_size x
      obtain ⟨X, hX⟩ : ∃ X, strB x = X := ⟨_, rfl⟩
      rw [show strV x = .string X by rw [← hX]] at cPi
      rw [hX] at hX0
      have c2 : wr.cell? ⟨w.heap.size + 1, 2, none⟩ = some sk := hst.at_.2.2 2 _ rfl
      obtain ⟨v1, W3, hrun1, hc1, hf1, hst1, ho1, hg1⟩ := gf_more strs_elem hst hok 2 rfl x (.string X) (by rw [← hX]) (by rw [List.length_map]; omega)
      have hod1 := own_grown (own_kept hod hg1 (fun j hj => own_ne hod hok (by decide) hj)) (grown_set W3 (w.heap.size + 1) 2 v1) (by omega)
      obtain ⟨A1, c1, rfl, -, -⟩ := OwnG.own_row ho1
      obtain ⟨m1, hm1⟩ : ∃ m1, (ks.map (·.1) ++ [x]).length = m1 := ⟨_, rfl⟩
      rw [hm1] at hrun1 hst1 ho1 hod1
      have QA := Lib.hid hrun1
      have hst1' : GF w (branchC (.slice A1 m1 c1) sd) (W3.setCell ⟨w.heap.size + 1, 2, none⟩ (.slice A1 m1 c1)) := hst1
      obtain ⟨W4, hW4⟩ : ∃ W4, W3.setCell ⟨w.heap.size + 1, 2, none⟩ (.slice A1 m1 c1) = W4 := ⟨_, rfl⟩
      rw [hW4] at hst1' ho1 hod1
      have hdr := hst1'.drew
      have cP := HGY.out W4.drew (HH.out.below hdr.below)
      have hw : IntKind.i64.wrap (y : Int) = y := IntWalk.i64_in _ (by omega)
      have hw1 : IntKind.i64.wrap ((q : Int) + 1) = (q : Int) + 1 := IntWalk.i64_in _ (by omega)
      have hw2 : IntKind.i64.wrap ((q : Int) + 1 + (x.length : Int)) = (q : Int) + 1 + (x.length : Int) := IntWalk.i64_in _ (by omega)
      obtain ⟨v', W', hrun, hc, hf, hst2, ho2, hg2⟩ := gf_more ints_elem hdr (OwnG.kept hod1 (Below.refl _ _).drew) 3 rfl (y : Int) (.int .i64 (y : Int)) rfl (by rw [List.length_cons, List.length_map]; omega)
      have hok2 := own_grown (own_kept (OwnG.kept ho1 (Below.refl W4.heap.size W4).drew) hg2 (fun j hj => own_ne (OwnG.kept ho1 (Below.refl W4.heap.size W4).drew) (OwnG.kept hod1 (Below.refl W4.heap.size W4).drew) (by decide) hj)) (grown_set W' (w.heap.size + 1) 3 v') (by omega)
      obtain ⟨A', c', rfl, -, -⟩ := OwnG.own_row ho2
      obtain ⟨m', hm'⟩ : ∃ m', (((z : Int) :: ks.map (·.2)) ++ [(y : Int)]).length = m' := ⟨_, rfl⟩
      rw [hm'] at hrun hst2 ho2 hok2
      have Q := Lib.hid hrun
      have HN2 := Lib.hid (show GF w (branchC (.slice A1 m1 c1) (.slice A' m' c')) _ from hst2)
      have HO2 : Hid (OwnG _ 3 numV (w.heap.size + 2) (.slice A' m' c') ((z : Int) :: (ks ++ [(x, (y : Int))]).map (·.2))) := Lib.hid (by simpa using ho2)
      have HK2 : Hid (OwnG _ 9 strV (w.heap.size + 2) (.slice A1 m1 c1) ((ks ++ [(x, (y : Int))]).map (·.1))) := Lib.hid (by simpa using hok2)
      have HFZ := Lib.hid hf
      have HPL : Hid ((ks ++ [(x, (y : Int))]).length = k + 1) := Lib.hid (by rw [List.length_append, hpl]; rfl)
      have S0 : W4.drew.cell? ⟨w.heap.size + 1, 3, none⟩ = some sd := hst1'.at_.2.2 3 _ rfl
      have S3 := Lib.hid ((hdr.at_.below (n := W4.drew.heap.size) ((Below.refl W4.drew.heap.size W4.drew).alloc (Nat.le_refl _) (.cells #[.int .i64 (y : Int)] 3)) hdr.at_.1).2.2 3 _ rfl)
      have S4 := Lib.hid hc
      have HQ2 : Hid (q + 3 + x.length ≤ 4 + 300 * (k + 1)) := Lib.hid (by omega)
      clear hrun hst2 ho2 hok2 hf hc hm' hst hok hod hpl HL hdr hy hX hst1 hst1' ho1 hod1 hg1 hg2 hm1 hrun1 HGY
      go_wp2_with (first
        | (go_at_call 67; (with_reducible refine cPi.mono ?_); rintro e w' ⟨rfl, rfl⟩)
        | (at_builtin; (refine wpList_append_eq rfl (.tmp 80) (.tmp 82) _ rfl rfl rfl QA.out ?_; clear QA)))
      clear hW4 hc1 hf1 c2
      refine region_last (S := fun w' => w'.cell? ⟨w.heap.size + 1, 3, none⟩ = some sd) 13 (by kernel_rfl) rfl rfl rfl rfl (by kernel_rfl) (by kernel_rfl) ?_
      intro w3 hw3
      subst hw3
      have hSR := S0
      simp only [List.set_cons_zero, List.set_cons_succ]
      refine wpAnyH_take (i := 0) (v := ?_) rfl (by kernel_rfl) (by kernel_rfl) (by kernel_rfl) (fun _ _ _ h => h) (Or.inl ⟨by rfl, ?_⟩) hSR ?_
      rotate_left
      · (intro w' hSw; (try dsimp only at hSw); go_simp; (try with_reducible rfl))
      simp only [Act.put]
      refine wpAnyH_take (i := 1) (v := ?_) rfl (by kernel_rfl) (by kernel_rfl) (by kernel_rfl) (fun _ _ _ h => h) (Or.inl ⟨by rfl, ?_⟩) hSR ?_
      rotate_left
      · (intro w' hSw; (try dsimp only at hSw); go_simp; (try with_reducible rfl))
      simp only [Act.put]
      refine wpAnyH_take (i := 2) (v := ?_) rfl (by kernel_rfl) (by kernel_rfl) (by kernel_rfl) (fun _ _ _ h => h) (Or.inl ⟨by rfl, ?_⟩) hSR ?_
      rotate_left
      · (intro w' hSw; (try dsimp only at hSw); go_simp; (try with_reducible rfl))
      simp only [Act.put]
      refine wpAnyH_take (i := 3) (v := ?_) rfl (by kernel_rfl) (by kernel_rfl) (by kernel_rfl) (fun _ _ _ h => h) (Or.inl ⟨by rfl, ?_⟩) hSR ?_
      rotate_left
      · (intro w' hSw; (try dsimp only at hSw); go_simp; (try with_reducible rfl))
      simp only [Act.put]
      refine wpAnyH_take (i := 4) (v := ?_) rfl (by kernel_rfl) (by kernel_rfl) (by kernel_rfl) (fun _ _ _ h => h) (Or.inl ⟨by rfl, ?_⟩) hSR ?_
      rotate_left
      · (intro w' hSw; (try dsimp only at hSw); go_simp; (try with_reducible rfl))
      simp only [Act.put]
      refine wpAnyH_take (i := 5) (v := ?_) rfl (by kernel_rfl) (by kernel_rfl) (by kernel_rfl) (fun _ _ _ h => h) (Or.inl ⟨by rfl, ?_⟩) hSR ?_
      rotate_left
      · (intro w' hSw; (try dsimp only at hSw); go_simp; (try with_reducible rfl))
      simp only [Act.put]
      refine wpAnyH_take (i := 6) (v := ?_) rfl (by kernel_rfl) (by kernel_rfl) (by kernel_rfl) (fun _ _ _ h => h) (Or.inl ⟨by rfl, ?_⟩) hSR ?_
      rotate_left
      · (intro w' hSw; (try dsimp only at hSw); go_simp; (try with_reducible rfl))
      simp only [Act.put]
      refine wpAnyH_take (i := 7) (v := ?_) rfl (by kernel_rfl) (by kernel_rfl) (by kernel_rfl) (fun _ _ _ h => h) (Or.inl ⟨by rfl, ?_⟩) hSR ?_
      rotate_left
      · (intro w' hSw; (try dsimp only at hSw); go_simp; (try with_reducible rfl))
      simp only [Act.put]
      refine wpAnyH_ready (rs := [8]) (by kernel_rfl) (by simp) (AllReadyH.cons rfl (fun K hK => ?_) AllReadyH.nil)
      go_simp
      refine cP.mono ?_
      rintro e w2 ⟨rfl, rfl⟩
      refine hK.out _ _ S0 (fun hSR => ?_)
      clear hK K cP
      refine wpAnyH_take (i := 9) (v := ?_) rfl (by kernel_rfl) (by kernel_rfl) (by kernel_rfl) (fun _ _ _ h => h) (Or.inl ⟨by rfl, ?_⟩) hSR ?_
      rotate_left
      · (intro w' hSw; (try dsimp only at hSw); go_simp; (try with_reducible rfl))
      simp only [Act.put]
      refine wpAnyH_ready (rs := [10]) (by kernel_rfl) (by simp) (AllReadyH.cons rfl (fun K hK => ?_) AllReadyH.nil)
      go_simp
      refine hK.out _ _ S3.out (fun hSR => ?_)
      clear hK K
      refine wpAnyH_ready (rs := [11]) (by kernel_rfl) (by simp) (AllReadyH.cons rfl (fun K hK => ?_) AllReadyH.nil)
      refine step_append2_eq (by rfl) (.tmp 86) (.tmp 95) _ _ (by rfl) (by rfl) (by rfl) Q.out ?_
      refine hK.out _ _ S4.out (fun hSR => ?_)
      clear hK K S0
      have hfz := HFZ.out
      simp only [Act.put]
      refine wpAnyH_take (i := 12) (v := ?_) rfl (by kernel_rfl) (by kernel_rfl) (by kernel_rfl) (fun _ _ _ h => h) (Or.inl ⟨by rfl, ?_⟩) hSR ?_
      rotate_left
      · (intro w' hSw; (try dsimp only at hSw); go_simp; (try with_reducible rfl))
      simp only [Act.put]
      refine wpAnyH_take (i := 13) (v := ?_) rfl (by kernel_rfl) (by kernel_rfl) (by kernel_rfl) (fun _ _ _ h => h) (Or.inl ⟨by rfl, ?_⟩) hSR ?_
      rotate_left
      · (intro w' hSw; (try dsimp only at hSw); go_simp; (try with_reducible rfl))
      simp only [Act.put]
      refine wpAnyH_done (by kernel_rfl) ?_ _
      show Oper.wp _ _ _ _ _ _
      unfold Oper.wp
      go_simp
      clear hSR hfz hw hw1 hw2
      go_wp2_with fail
      go_roundw
      case rel => exact ⟨k + 1, q + 3 + x.length, _, _, _, by go_num, by congr 1, by omega, HQ2.out, HN2.out, HK2.out, HO2.out, HN, HPL.out⟩
      case measure => simp [intOf]; omega
    · have hkR : k = R := by omega
      have HT2 : Hid (ks = T) := Lib.hid (by have h := HL.out; rw [hkR, Nat.sub_self, gKids, List.append_nil] at h; exact h)
      have hex : ¬ (k : Int) < (m : Int) ∨ (k : Int) < (m : Int) ∧ ¬ (k : Int) ≤ 12 := by
        have := HRM.out
        omega
      have HEX := Lib.hid hex
      clear hex HL hpl hkR
      obtain ⟨B1, d1, rfl, -, hge1⟩ := OwnG.own_row hok
      obtain ⟨B2, d2, rfl, -, hge2⟩ := OwnG.own_row hod
      have HNW := Lib.hid (show New { A2 := B1, c2 := d1, A3 := B2, c3 := d2 } w.heap.size from ⟨fun x e => (by cases e), fun x e => by have := hge1 x e; omega, fun x e => by have := hge2 x e; omega, fun x e => (by cases e)⟩)
      clear hge1 hge2
      clear HRM
      have c0 : wr.cell? ⟨w.heap.size + 1, 0, none⟩ = some (.int .i64 2) := hst.at_.2.2 0 _ rfl
      have c1 : wr.cell? ⟨w.heap.size + 1, 1, none⟩ = some (.slice none 0 0) := hst.at_.2.2 1 _ rfl
      have c2 : wr.cell? ⟨w.heap.size + 1, 2, none⟩ = some (.slice B1 (ks.map (·.1)).length d1) := hst.at_.2.2 2 _ rfl
      have c3 : wr.cell? ⟨w.heap.size + 1, 3, none⟩ = some (.slice B2 ((z : Int) :: ks.map (·.2)).length d2) := hst.at_.2.2 3 _ rfl
      have c4 : wr.cell? ⟨w.heap.size + 1, 4, none⟩ = some (.slice none 0 0) := hst.at_.2.2 4 _ rfl
      have c5 : wr.cell? ⟨w.heap.size + 1, 5, none⟩ = some (.int .i64 0) := hst.at_.2.2 5 _ rfl
      have c6 : wr.cell? ⟨w.heap.size + 1, 6, none⟩ = some (.int .u64 0) := hst.at_.2.2 6 _ rfl
      have c7 : wr.cell? ⟨w.heap.size + 1, 7, none⟩ = some (.int .i64 0) := hst.at_.2.2 7 _ rfl
      have c8 : wr.cell? ⟨w.heap.size + 1, 8, none⟩ = some (.int .i64 0) := hst.at_.2.2 8 _ rfl
      have c9 : wr.cell? ⟨w.heap.size + 1, 9, none⟩ = some (.int .i64 0) := hst.at_.2.2 9 _ rfl
      have c10 : wr.cell? ⟨w.heap.size + 1, 10, none⟩ = some (.int .i64 0) := hst.at_.2.2 10 _ rfl
      have r0 : wr.cell? ⟨w.heap.size, 0, none⟩ = some (.int .i64 0) := hst.zero.2.2 0 _ rfl
      have r1 : wr.cell? ⟨w.heap.size, 1, none⟩ = some (.slice none 0 0) := hst.zero.2.2 1 _ rfl
      have r2 : wr.cell? ⟨w.heap.size, 2, none⟩ = some (.slice none 0 0) := hst.zero.2.2 2 _ rfl
      have r3 : wr.cell? ⟨w.heap.size, 3, none⟩ = some (.slice none 0 0) := hst.zero.2.2 3 _ rfl
      have r4 : wr.cell? ⟨w.heap.size, 4, none⟩ = some (.slice none 0 0) := hst.zero.2.2 4 _ rfl
      have r5 : wr.cell? ⟨w.heap.size, 5, none⟩ = some (.int .i64 0) := hst.zero.2.2 5 _ rfl
      have r6 : wr.cell? ⟨w.heap.size, 6, none⟩ = some (.int .u64 0) := hst.zero.2.2 6 _ rfl
      have r7 : wr.cell? ⟨w.heap.size, 7, none⟩ = some (.int .i64 0) := hst.zero.2.2 7 _ rfl
      have r8 : wr.cell? ⟨w.heap.size, 8, none⟩ = some (.int .i64 0) := hst.zero.2.2 8 _ rfl
      have r9 : wr.cell? ⟨w.heap.size, 9, none⟩ = some (.int .i64 0) := hst.zero.2.2 9 _ rfl
      have r10 : wr.cell? ⟨w.heap.size, 10, none⟩ = some (.int .i64 0) := hst.zero.2.2 10 _ rfl
      have fz : ∀ j, wr.frozen? ⟨w.heap.size, j, none⟩ = false := hst.zero.2.1
      have HAW := Lib.hid (set11_at hst.zero (.int .i64 2) (.slice none 0 0) (.slice B1 (ks.map (·.1)).length d1) (.slice B2 ((z : Int) :: ks.map (·.2)).length d2) (.slice none 0 0) (.int .i64 0) (.int .u64 0) (.int .i64 0) (.int .i64 0) (.int .i64 0) (.int .i64 0))
      have g := set11_only wr w.heap.size (.int .i64 2) (.slice none 0 0) (.slice B1 (ks.map (·.1)).length d1) (.slice B2 ((z : Int) :: ks.map (·.2)).length d2) (.slice none 0 0) (.int .i64 0) (.int .u64 0) (.int .i64 0) (.int .i64 0) (.int .i64 0) (.int .i64 0)
      have HBW : Hid (Below w.heap.size w (set11 wr w.heap.size (.int .i64 2) (.slice none 0 0) (.slice B1 (ks.map (·.1)).length d1) (.slice B2 ((z : Int) :: ks.map (·.2)).length d2) (.slice none 0 0) (.int .i64 0) (.int .u64 0) (.int .i64 0) (.int .i64 0) (.int .i64 0) (.int .i64 0))) := Lib.hid (hst.below.grown g hst.below.size (fun j hj => by injection hj with hj; omega))
      have HOW : Hid (PgRows (set11 wr w.heap.size (.int .i64 2) (.slice none 0 0) (.slice B1 (ks.map (·.1)).length d1) (.slice B2 ((z : Int) :: ks.map (·.2)).length d2) (.slice none 0 0) (.int .i64 0) (.int .u64 0) (.int .i64 0) (.int .i64 0) (.int .i64 0) (.int .i64 0)) { kind := 2, keys := ks.map (·.1), kids := (z : Int) :: ks.map (·.2) } { A2 := B1, c2 := d1, A3 := B2, c3 := d2 }) := Lib.hid (⟨fun h => absurd rfl h, own_apart hok g (by omega), own_apart hod g (by omega), fun h => absurd rfl h⟩)
      clear g
      clear hst hok hod
      generalize hpk : (ks.map (·.1)).length = pk at *
      generalize hpd : ((z : Int) :: ks.map (·.2)).length = pd at *
      rcases HEX.out with e1 | ⟨e1, e2⟩
      all_goals
        clear HEX
        go_wp2_with fail
        change bodyPost _ _ _ _ _ (set11 wr w.heap.size (.int .i64 2) (.slice none 0 0) (.slice B1 pk d1) (.slice B2 pd d2) (.slice none 0 0) (.int .i64 0) (.int .u64 0) (.int .i64 0) (.int .i64 0) (.int .i64 0) (.int .i64 0))
        generalize set11 wr w.heap.size (.int .i64 2) (.slice none 0 0) (.slice B1 pk d1) (.slice B2 pd d2) (.slice none 0 0) (.int .i64 0) (.int .u64 0) (.int .i64 0) (.int .i64 0) (.int .i64 0) (.int .i64 0) = W at *
        clear c0 r0 c1 r1 c2 r2 c3 r3 c4 r4 c5 r5 c6 r6 c7 r7 c8 r8 c9 r9 c10 r10 fz
        have c0 := HAW.out.2.2 0 _ rfl
        have c1 := HAW.out.2.2 1 _ rfl
        have c2 := HAW.out.2.2 2 _ rfl
        have c3 := HAW.out.2.2 3 _ rfl
        have c4 := HAW.out.2.2 4 _ rfl
        have c5 := HAW.out.2.2 5 _ rfl
        have c6 := HAW.out.2.2 6 _ rfl
        have c7 := HAW.out.2.2 7 _ rfl
        have c8 := HAW.out.2.2 8 _ rfl
        have c9 := HAW.out.2.2 9 _ rfl
        have c10 := HAW.out.2.2 10 _ rfl
        refine bodyPost_ret (v := .agg #[.int .i64 2, .slice none 0 0, .slice B1 pk d1, .slice B2 pd d2, .slice none 0 0, .int .i64 0, .int .u64 0, .int .i64 0, .int .i64 0, .int .i64 0, .int .i64 0]) (by simp [results, Try.results41, go_sem, *]) rfl ?_
        rw [HGU.out, ← HT2.out]
        subst hpk hpd
        exact ⟨{ A2 := B1, c2 := d1, A3 := B2, c3 := d2 }, rfl, HOW.out, HNW.out, HBW.out⟩
end Go.Proofs.Ytiebaeahimeedaa.Page
namespace Go.Proofs.Ytiebaeahimeedaa.Page
open Go.RowKit Gen

set_option maxRecDepth 100000 in
set_option maxHeartbeats 2000000 in
theorem guess4 (A : Option Addr) (n c : Nat) (l : Bs) (w : World) (h : BytesAt w A n c l) (hn : n ≤ 2000) : Calls Try.prog 41 #[.int .i64 4, .slice A n c] w (Guesses (gGuess 4 l) w) := by
  obtain ⟨hat, har⟩ := made_two w 4
  have b0 : Below w.heap.size w ((w.alloc (.cells (pC 0) 28)).alloc (.cells (pC 4) 28)) := ((Below.refl _ _).alloc (Nat.le_refl _) _).alloc (by simp) _
  have ST : Hid (GF w (pC 4) ((w.alloc (.cells (pC 0) 28)).alloc (.cells (pC 4) 28))) := Lib.hid ⟨hat, har, b0, by simp⟩
  have cG : Calls Try.prog 42 #[.slice A n c, .int .i64 0, .int .i64 2] ((w.alloc (.cells (pC 0) 28)).alloc (.cells (pC 4) 28)) _ := get_any A n c 0 2 l _ (h.below b0) (by omega) (by omega) (by omega)
  have HH := Lib.hid h
  have hm := gGet_lt l 0 2
  clear h hat har b0

  have HGU := Lib.hid (show gGuess 4 l = { kind := 4, root := (gGet l 0 2 : Int), depth := (gGet l 2 2 : Int), count := (gGet l 4 4 : Int), high := (gGet l 8 2 : Int), next := (gGet l 10 2 : Int) } from by rw [gGuess, if_neg (by omega), if_neg (by omega), if_neg (by omega), if_pos rfl])
  have hv1 := gGet_lt l 0 2
  have G1 := Lib.hid (show ∀ W, BytesAt W A n c l → Calls Try.prog 42 #[.slice A n c, .int .i64 0, .int .i64 2] W (fun e w' => e = .returned (.int .u64 (gGet l 0 2 : Int)) ∧ W = w') from fun W hW => get_any A n c 0 2 l W hW (by omega) (by omega) (by omega))
  have hv2 := gGet_lt l 2 2
  have G2 := Lib.hid (show ∀ W, BytesAt W A n c l → Calls Try.prog 42 #[.slice A n c, .int .i64 2, .int .i64 2] W (fun e w' => e = .returned (.int .u64 (gGet l 2 2 : Int)) ∧ W = w') from fun W hW => get_any A n c 2 2 l W hW (by omega) (by omega) (by omega))
  have hv3 := gGet_lt l 4 4
  have G3 := Lib.hid (show ∀ W, BytesAt W A n c l → Calls Try.prog 42 #[.slice A n c, .int .i64 4, .int .i64 4] W (fun e w' => e = .returned (.int .u64 (gGet l 4 4 : Int)) ∧ W = w') from fun W hW => get_any A n c 4 4 l W hW (by omega) (by omega) (by omega))
  have hv4 := gGet_lt l 8 2
  have G4 := Lib.hid (show ∀ W, BytesAt W A n c l → Calls Try.prog 42 #[.slice A n c, .int .i64 8, .int .i64 2] W (fun e w' => e = .returned (.int .u64 (gGet l 8 2 : Int)) ∧ W = w') from fun W hW => get_any A n c 8 2 l W hW (by omega) (by omega) (by omega))
  have hv5 := gGet_lt l 10 2
  have G5 := Lib.hid (show ∀ W, BytesAt W A n c l → Calls Try.prog 42 #[.slice A n c, .int .i64 10, .int .i64 2] W (fun e w' => e = .returned (.int .u64 (gGet l 10 2 : Int)) ∧ W = w') from fun W hW => get_any A n c 10 2 l W hW (by omega) (by omega) (by omega))
  obtain ⟨v1, hq1⟩ : ∃ v, gGet l 0 2 = v := ⟨_, rfl⟩
  rw [hq1] at G1 HGU hv1 cG
  clear hq1
  obtain ⟨v2, hq2⟩ : ∃ v, gGet l 2 2 = v := ⟨_, rfl⟩
  rw [hq2] at G2 HGU hv2
  clear hq2
  obtain ⟨v3, hq3⟩ : ∃ v, gGet l 4 4 = v := ⟨_, rfl⟩
  rw [hq3] at G3 HGU hv3
  clear hq3
  obtain ⟨v4, hq4⟩ : ∃ v, gGet l 8 2 = v := ⟨_, rfl⟩
  rw [hq4] at G4 HGU hv4
  clear hq4
  obtain ⟨v5, hq5⟩ : ∃ v, gGet l 10 2 = v := ⟨_, rfl⟩
  rw [hq5] at G5 HGU hv5
  clear hq5
  clear hm
  generalize gGuess 4 l = PG at *
  unfold pC pgC at *
  have hwa : IntKind.i64.wrap (v1 : Int) = v1 := IntWalk.i64_in _ (by omega)
  go_enter Try.func41, Try.ntmps41
  go_wp2_with fail
  refine cG.mono ?_
  rintro e w1 ⟨rfl, rfl⟩
  clear cG
  obtain ⟨W1, hW1⟩ : ∃ W1, (w.alloc (.cells #[.int .i64 0, .slice none 0 0, .slice none 0 0, .slice none 0 0, .slice none 0 0, .int .i64 0, .int .u64 0, .int .i64 0, .int .i64 0, .int .i64 0, .int .i64 0] 28)).alloc (.cells #[.int .i64 4, .slice none 0 0, .slice none 0 0, .slice none 0 0, .slice none 0 0, .int .i64 0, .int .u64 0, .int .i64 0, .int .i64 0, .int .i64 0, .int .i64 0] 28) = W1 := ⟨_, rfl⟩
  have hST : GF w #[.int .i64 4, .slice none 0 0, .slice none 0 0, .slice none 0 0, .slice none 0 0, .int .i64 0, .int .u64 0, .int .i64 0, .int .i64 0, .int .i64 0, .int .i64 0] W1 := by rw [← hW1]; exact ST.out
  (try simp only [List.length_nil] at hW1 ⊢)
  clear ST
  have cG := G1.out W1 (HH.out.below hST.below)
  go_wp2_with fail
  clear hW1 hwa
  refine cG.mono ?_
  rintro e w1 ⟨rfl, rfl⟩
  clear cG
  have hw : IntKind.i64.wrap (v1 : Int) = v1 := IntWalk.i64_in _ (by omega)
  have x0 : W1.cell? ⟨w.heap.size + 1, 7, none⟩ = some (.int .i64 0) := hST.at_.2.2 7 _ rfl
  have f0 := hST.at_.2.1 7
  obtain ⟨W2, hWW⟩ : ∃ W', W1.setCell ⟨w.heap.size + 1, 7, none⟩ (.int .i64 (v1 : Int)) = W' := ⟨_, rfl⟩
  have hST2 : GF w #[.int .i64 4, .slice none 0 0, .slice none 0 0, .slice none 0 0, .slice none 0 0, .int .i64 0, .int .u64 0, .int .i64 (v1 : Int), .int .i64 0, .int .i64 0, .int .i64 0] W2 := by rw [← hWW]; exact hST.set 7 (.int .i64 (v1 : Int)) (by simp)
  have cG := G2.out W2 (HH.out.below hST2.below)
  go_wp2_with fail
  clear hw hWW x0 f0
  refine cG.mono ?_
  rintro e w1 ⟨rfl, rfl⟩
  clear cG
  have hw : IntKind.i64.wrap (v2 : Int) = v2 := IntWalk.i64_in _ (by omega)
  have x0 : W2.cell? ⟨w.heap.size + 1, 8, none⟩ = some (.int .i64 0) := hST2.at_.2.2 8 _ rfl
  have f0 := hST2.at_.2.1 8
  obtain ⟨W3, hWW⟩ : ∃ W', W2.setCell ⟨w.heap.size + 1, 8, none⟩ (.int .i64 (v2 : Int)) = W' := ⟨_, rfl⟩
  have hST3 : GF w #[.int .i64 4, .slice none 0 0, .slice none 0 0, .slice none 0 0, .slice none 0 0, .int .i64 0, .int .u64 0, .int .i64 (v1 : Int), .int .i64 (v2 : Int), .int .i64 0, .int .i64 0] W3 := by rw [← hWW]; exact hST2.set 8 (.int .i64 (v2 : Int)) (by simp)
  have cG := G3.out W3 (HH.out.below hST3.below)
  go_wp2_with fail
  clear hw hWW x0 f0
  refine cG.mono ?_
  rintro e w1 ⟨rfl, rfl⟩
  clear cG
  have hw : IntKind.i64.wrap (v3 : Int) = v3 := IntWalk.i64_in _ (by omega)
  have x0 : W3.cell? ⟨w.heap.size + 1, 9, none⟩ = some (.int .i64 0) := hST3.at_.2.2 9 _ rfl
  have f0 := hST3.at_.2.1 9
  obtain ⟨W4, hWW⟩ : ∃ W', W3.setCell ⟨w.heap.size + 1, 9, none⟩ (.int .i64 (v3 : Int)) = W' := ⟨_, rfl⟩
  have hST4 : GF w #[.int .i64 4, .slice none 0 0, .slice none 0 0, .slice none 0 0, .slice none 0 0, .int .i64 0, .int .u64 0, .int .i64 (v1 : Int), .int .i64 (v2 : Int), .int .i64 (v3 : Int), .int .i64 0] W4 := by rw [← hWW]; exact hST3.set 9 (.int .i64 (v3 : Int)) (by simp)
  have cG := G4.out W4 (HH.out.below hST4.below)
  go_wp2_with fail
  clear hw hWW x0 f0
  refine cG.mono ?_
  rintro e w1 ⟨rfl, rfl⟩
  clear cG
  have hw : IntKind.i64.wrap (v4 : Int) = v4 := IntWalk.i64_in _ (by omega)
  have x0 : W4.cell? ⟨w.heap.size + 1, 10, none⟩ = some (.int .i64 0) := hST4.at_.2.2 10 _ rfl
  have f0 := hST4.at_.2.1 10
  obtain ⟨W5, hWW⟩ : ∃ W', W4.setCell ⟨w.heap.size + 1, 10, none⟩ (.int .i64 (v4 : Int)) = W' := ⟨_, rfl⟩
  have hST5 : GF w #[.int .i64 4, .slice none 0 0, .slice none 0 0, .slice none 0 0, .slice none 0 0, .int .i64 0, .int .u64 0, .int .i64 (v1 : Int), .int .i64 (v2 : Int), .int .i64 (v3 : Int), .int .i64 (v4 : Int)] W5 := by rw [← hWW]; exact hST4.set 10 (.int .i64 (v4 : Int)) (by simp)
  have cG := G5.out W5 (HH.out.below hST5.below)
  go_wp2_with fail
  clear hw hWW x0 f0
  refine cG.mono ?_
  rintro e w1 ⟨rfl, rfl⟩
  clear cG
  have hw : IntKind.i64.wrap (v5 : Int) = v5 := IntWalk.i64_in _ (by omega)
  have x0 : W5.cell? ⟨w.heap.size + 1, 5, none⟩ = some (.int .i64 0) := hST5.at_.2.2 5 _ rfl
  have f0 := hST5.at_.2.1 5
  obtain ⟨W6, hWW⟩ : ∃ W', W5.setCell ⟨w.heap.size + 1, 5, none⟩ (.int .i64 (v5 : Int)) = W' := ⟨_, rfl⟩
  have hST6 : GF w #[.int .i64 4, .slice none 0 0, .slice none 0 0, .slice none 0 0, .slice none 0 0, .int .i64 (v5 : Int), .int .u64 0, .int .i64 (v1 : Int), .int .i64 (v2 : Int), .int .i64 (v3 : Int), .int .i64 (v4 : Int)] W6 := by rw [← hWW]; exact hST5.set 5 (.int .i64 (v5 : Int)) (by simp)
  have HNW := Lib.hid (show New {} w.heap.size from ⟨fun x e => (by cases e), fun x e => (by cases e), fun x e => (by cases e), fun x e => (by cases e)⟩)
  have c0 : W6.cell? ⟨w.heap.size + 1, 0, none⟩ = some (.int .i64 4) := hST6.at_.2.2 0 _ rfl
  have c1 : W6.cell? ⟨w.heap.size + 1, 1, none⟩ = some (.slice none 0 0) := hST6.at_.2.2 1 _ rfl
  have c2 : W6.cell? ⟨w.heap.size + 1, 2, none⟩ = some (.slice none 0 0) := hST6.at_.2.2 2 _ rfl
  have c3 : W6.cell? ⟨w.heap.size + 1, 3, none⟩ = some (.slice none 0 0) := hST6.at_.2.2 3 _ rfl
  have c4 : W6.cell? ⟨w.heap.size + 1, 4, none⟩ = some (.slice none 0 0) := hST6.at_.2.2 4 _ rfl
  have c5 : W6.cell? ⟨w.heap.size + 1, 5, none⟩ = some (.int .i64 (v5 : Int)) := hST6.at_.2.2 5 _ rfl
  have c6 : W6.cell? ⟨w.heap.size + 1, 6, none⟩ = some (.int .u64 0) := hST6.at_.2.2 6 _ rfl
  have c7 : W6.cell? ⟨w.heap.size + 1, 7, none⟩ = some (.int .i64 (v1 : Int)) := hST6.at_.2.2 7 _ rfl
  have c8 : W6.cell? ⟨w.heap.size + 1, 8, none⟩ = some (.int .i64 (v2 : Int)) := hST6.at_.2.2 8 _ rfl
  have c9 : W6.cell? ⟨w.heap.size + 1, 9, none⟩ = some (.int .i64 (v3 : Int)) := hST6.at_.2.2 9 _ rfl
  have c10 : W6.cell? ⟨w.heap.size + 1, 10, none⟩ = some (.int .i64 (v4 : Int)) := hST6.at_.2.2 10 _ rfl
  have r0 : W6.cell? ⟨w.heap.size, 0, none⟩ = some (.int .i64 0) := hST6.zero.2.2 0 _ rfl
  have r1 : W6.cell? ⟨w.heap.size, 1, none⟩ = some (.slice none 0 0) := hST6.zero.2.2 1 _ rfl
  have r2 : W6.cell? ⟨w.heap.size, 2, none⟩ = some (.slice none 0 0) := hST6.zero.2.2 2 _ rfl
  have r3 : W6.cell? ⟨w.heap.size, 3, none⟩ = some (.slice none 0 0) := hST6.zero.2.2 3 _ rfl
  have r4 : W6.cell? ⟨w.heap.size, 4, none⟩ = some (.slice none 0 0) := hST6.zero.2.2 4 _ rfl
  have r5 : W6.cell? ⟨w.heap.size, 5, none⟩ = some (.int .i64 0) := hST6.zero.2.2 5 _ rfl
  have r6 : W6.cell? ⟨w.heap.size, 6, none⟩ = some (.int .u64 0) := hST6.zero.2.2 6 _ rfl
  have r7 : W6.cell? ⟨w.heap.size, 7, none⟩ = some (.int .i64 0) := hST6.zero.2.2 7 _ rfl
  have r8 : W6.cell? ⟨w.heap.size, 8, none⟩ = some (.int .i64 0) := hST6.zero.2.2 8 _ rfl
  have r9 : W6.cell? ⟨w.heap.size, 9, none⟩ = some (.int .i64 0) := hST6.zero.2.2 9 _ rfl
  have r10 : W6.cell? ⟨w.heap.size, 10, none⟩ = some (.int .i64 0) := hST6.zero.2.2 10 _ rfl
  have fz : ∀ j, W6.frozen? ⟨w.heap.size, j, none⟩ = false := hST6.zero.2.1
  have HAW := Lib.hid (set11_at hST6.zero (.int .i64 4) (.slice none 0 0) (.slice none 0 0) (.slice none 0 0) (.slice none 0 0) (.int .i64 (v5 : Int)) (.int .u64 0) (.int .i64 (v1 : Int)) (.int .i64 (v2 : Int)) (.int .i64 (v3 : Int)) (.int .i64 (v4 : Int)))
  have g := set11_only W6 w.heap.size (.int .i64 4) (.slice none 0 0) (.slice none 0 0) (.slice none 0 0) (.slice none 0 0) (.int .i64 (v5 : Int)) (.int .u64 0) (.int .i64 (v1 : Int)) (.int .i64 (v2 : Int)) (.int .i64 (v3 : Int)) (.int .i64 (v4 : Int))
  have HBW : Hid (Below w.heap.size w (set11 W6 w.heap.size (.int .i64 4) (.slice none 0 0) (.slice none 0 0) (.slice none 0 0) (.slice none 0 0) (.int .i64 (v5 : Int)) (.int .u64 0) (.int .i64 (v1 : Int)) (.int .i64 (v2 : Int)) (.int .i64 (v3 : Int)) (.int .i64 (v4 : Int)))) := Lib.hid (hST6.below.grown g hST6.below.size (fun j hj => by injection hj with hj; omega))
  have HOW : Hid (PgRows (set11 W6 w.heap.size (.int .i64 4) (.slice none 0 0) (.slice none 0 0) (.slice none 0 0) (.slice none 0 0) (.int .i64 (v5 : Int)) (.int .u64 0) (.int .i64 (v1 : Int)) (.int .i64 (v2 : Int)) (.int .i64 (v3 : Int)) (.int .i64 (v4 : Int))) { kind := 4, root := (v1 : Int), depth := (v2 : Int), count := (v3 : Int), high := (v4 : Int), next := (v5 : Int) } {}) := Lib.hid (rows_none _ _ _ rfl rfl rfl rfl)
  clear g
  clear hST hST2 hST3 hST4 hST5 hST6
  go_wp2_with fail
  clear hw hWW x0 f0
  change bodyPost _ _ _ _ _ (set11 W6 w.heap.size (.int .i64 4) (.slice none 0 0) (.slice none 0 0) (.slice none 0 0) (.slice none 0 0) (.int .i64 (v5 : Int)) (.int .u64 0) (.int .i64 (v1 : Int)) (.int .i64 (v2 : Int)) (.int .i64 (v3 : Int)) (.int .i64 (v4 : Int)))
  generalize set11 W6 w.heap.size (.int .i64 4) (.slice none 0 0) (.slice none 0 0) (.slice none 0 0) (.slice none 0 0) (.int .i64 (v5 : Int)) (.int .u64 0) (.int .i64 (v1 : Int)) (.int .i64 (v2 : Int)) (.int .i64 (v3 : Int)) (.int .i64 (v4 : Int)) = W at *
  clear c0 r0 c1 r1 c2 r2 c3 r3 c4 r4 c5 r5 c6 r6 c7 r7 c8 r8 c9 r9 c10 r10 fz
  have c0 := HAW.out.2.2 0 _ rfl
  have c1 := HAW.out.2.2 1 _ rfl
  have c2 := HAW.out.2.2 2 _ rfl
  have c3 := HAW.out.2.2 3 _ rfl
  have c4 := HAW.out.2.2 4 _ rfl
  have c5 := HAW.out.2.2 5 _ rfl
  have c6 := HAW.out.2.2 6 _ rfl
  have c7 := HAW.out.2.2 7 _ rfl
  have c8 := HAW.out.2.2 8 _ rfl
  have c9 := HAW.out.2.2 9 _ rfl
  have c10 := HAW.out.2.2 10 _ rfl
  refine bodyPost_ret (v := .agg #[.int .i64 4, .slice none 0 0, .slice none 0 0, .slice none 0 0, .slice none 0 0, .int .i64 (v5 : Int), .int .u64 0, .int .i64 (v1 : Int), .int .i64 (v2 : Int), .int .i64 (v3 : Int), .int .i64 (v4 : Int)]) (by simp [results, Try.results41, go_sem, *]) rfl ?_
  rw [HGU.out]
  exact ⟨{}, rfl, HOW.out, HNW.out, HBW.out⟩
set_option maxRecDepth 100000 in
set_option maxHeartbeats 2000000 in
theorem guess0 (k : Int) (hk1 : k ≠ 1) (hk2 : k ≠ 2) (hk3 : k ≠ 3) (hk4 : k ≠ 4) (A : Option Addr) (n c : Nat) (l : Bs) (w : World) (h : BytesAt w A n c l) (hn : n ≤ 2000) : Calls Try.prog 41 #[.int .i64 k, .slice A n c] w (Guesses (gGuess k l) w) := by
  obtain ⟨hat, har⟩ := made_two w k
  have b0 : Below w.heap.size w ((w.alloc (.cells (pC 0) 28)).alloc (.cells (pC k) 28)) := ((Below.refl _ _).alloc (Nat.le_refl _) _).alloc (by simp) _
  have ST : Hid (GF w (pC k) ((w.alloc (.cells (pC 0) 28)).alloc (.cells (pC k) 28))) := Lib.hid ⟨hat, har, b0, by simp⟩
  have cG : Calls Try.prog 42 #[.slice A n c, .int .i64 0, .int .i64 2] ((w.alloc (.cells (pC 0) 28)).alloc (.cells (pC k) 28)) _ := get_any A n c 0 2 l _ (h.below b0) (by omega) (by omega) (by omega)
  have HH := Lib.hid h
  have hm := gGet_lt l 0 2
  clear h hat har b0

  have HGU := Lib.hid (show gGuess k l = { kind := k } from by rw [gGuess, if_neg hk1, if_neg hk2, if_neg hk3, if_neg hk4])
  generalize gGuess k l = PG at *
  generalize gGet l 0 2 = m at *
  have e1 : (k == 1) = false := beq_eq_false_iff_ne.2 hk1
  have e2 : (k == 2) = false := beq_eq_false_iff_ne.2 hk2
  have e3 : (k == 3) = false := beq_eq_false_iff_ne.2 hk3
  have e4 : (k == 4) = false := beq_eq_false_iff_ne.2 hk4
  have hwa : IntKind.i64.wrap (m : Int) = m := IntWalk.i64_in _ (by omega)
  clear hk1 hk2 hk3 hk4
  unfold pC pgC at *
  go_enter Try.func41, Try.ntmps41
  go_wp2_with fail
  refine cG.mono ?_
  rintro e w1 ⟨rfl, rfl⟩
  clear cG
  obtain ⟨W1, hW1⟩ : ∃ W1, (w.alloc (.cells #[.int .i64 0, .slice none 0 0, .slice none 0 0, .slice none 0 0, .slice none 0 0, .int .i64 0, .int .u64 0, .int .i64 0, .int .i64 0, .int .i64 0, .int .i64 0] 28)).alloc (.cells #[.int .i64 k, .slice none 0 0, .slice none 0 0, .slice none 0 0, .slice none 0 0, .int .i64 0, .int .u64 0, .int .i64 0, .int .i64 0, .int .i64 0, .int .i64 0] 28) = W1 := ⟨_, rfl⟩
  have hST : GF w #[.int .i64 k, .slice none 0 0, .slice none 0 0, .slice none 0 0, .slice none 0 0, .int .i64 0, .int .u64 0, .int .i64 0, .int .i64 0, .int .i64 0, .int .i64 0] W1 := by rw [← hW1]; exact ST.out
  (try simp only [List.length_nil] at hW1 ⊢)
  clear ST
  have HNW := Lib.hid (show New {} w.heap.size from ⟨fun x e => (by cases e), fun x e => (by cases e), fun x e => (by cases e), fun x e => (by cases e)⟩)
  have c0 : W1.cell? ⟨w.heap.size + 1, 0, none⟩ = some (.int .i64 k) := hST.at_.2.2 0 _ rfl
  have c1 : W1.cell? ⟨w.heap.size + 1, 1, none⟩ = some (.slice none 0 0) := hST.at_.2.2 1 _ rfl
  have c2 : W1.cell? ⟨w.heap.size + 1, 2, none⟩ = some (.slice none 0 0) := hST.at_.2.2 2 _ rfl
  have c3 : W1.cell? ⟨w.heap.size + 1, 3, none⟩ = some (.slice none 0 0) := hST.at_.2.2 3 _ rfl
  have c4 : W1.cell? ⟨w.heap.size + 1, 4, none⟩ = some (.slice none 0 0) := hST.at_.2.2 4 _ rfl
  have c5 : W1.cell? ⟨w.heap.size + 1, 5, none⟩ = some (.int .i64 0) := hST.at_.2.2 5 _ rfl
  have c6 : W1.cell? ⟨w.heap.size + 1, 6, none⟩ = some (.int .u64 0) := hST.at_.2.2 6 _ rfl
  have c7 : W1.cell? ⟨w.heap.size + 1, 7, none⟩ = some (.int .i64 0) := hST.at_.2.2 7 _ rfl
  have c8 : W1.cell? ⟨w.heap.size + 1, 8, none⟩ = some (.int .i64 0) := hST.at_.2.2 8 _ rfl
  have c9 : W1.cell? ⟨w.heap.size + 1, 9, none⟩ = some (.int .i64 0) := hST.at_.2.2 9 _ rfl
  have c10 : W1.cell? ⟨w.heap.size + 1, 10, none⟩ = some (.int .i64 0) := hST.at_.2.2 10 _ rfl
  have r0 : W1.cell? ⟨w.heap.size, 0, none⟩ = some (.int .i64 0) := hST.zero.2.2 0 _ rfl
  have r1 : W1.cell? ⟨w.heap.size, 1, none⟩ = some (.slice none 0 0) := hST.zero.2.2 1 _ rfl
  have r2 : W1.cell? ⟨w.heap.size, 2, none⟩ = some (.slice none 0 0) := hST.zero.2.2 2 _ rfl
  have r3 : W1.cell? ⟨w.heap.size, 3, none⟩ = some (.slice none 0 0) := hST.zero.2.2 3 _ rfl
  have r4 : W1.cell? ⟨w.heap.size, 4, none⟩ = some (.slice none 0 0) := hST.zero.2.2 4 _ rfl
  have r5 : W1.cell? ⟨w.heap.size, 5, none⟩ = some (.int .i64 0) := hST.zero.2.2 5 _ rfl
  have r6 : W1.cell? ⟨w.heap.size, 6, none⟩ = some (.int .u64 0) := hST.zero.2.2 6 _ rfl
  have r7 : W1.cell? ⟨w.heap.size, 7, none⟩ = some (.int .i64 0) := hST.zero.2.2 7 _ rfl
  have r8 : W1.cell? ⟨w.heap.size, 8, none⟩ = some (.int .i64 0) := hST.zero.2.2 8 _ rfl
  have r9 : W1.cell? ⟨w.heap.size, 9, none⟩ = some (.int .i64 0) := hST.zero.2.2 9 _ rfl
  have r10 : W1.cell? ⟨w.heap.size, 10, none⟩ = some (.int .i64 0) := hST.zero.2.2 10 _ rfl
  have fz : ∀ j, W1.frozen? ⟨w.heap.size, j, none⟩ = false := hST.zero.2.1
  have HAW := Lib.hid (set11_at hST.zero (.int .i64 k) (.slice none 0 0) (.slice none 0 0) (.slice none 0 0) (.slice none 0 0) (.int .i64 0) (.int .u64 0) (.int .i64 0) (.int .i64 0) (.int .i64 0) (.int .i64 0))
  have g := set11_only W1 w.heap.size (.int .i64 k) (.slice none 0 0) (.slice none 0 0) (.slice none 0 0) (.slice none 0 0) (.int .i64 0) (.int .u64 0) (.int .i64 0) (.int .i64 0) (.int .i64 0) (.int .i64 0)
  have HBW : Hid (Below w.heap.size w (set11 W1 w.heap.size (.int .i64 k) (.slice none 0 0) (.slice none 0 0) (.slice none 0 0) (.slice none 0 0) (.int .i64 0) (.int .u64 0) (.int .i64 0) (.int .i64 0) (.int .i64 0) (.int .i64 0))) := Lib.hid (hST.below.grown g hST.below.size (fun j hj => by injection hj with hj; omega))
  have HOW : Hid (PgRows (set11 W1 w.heap.size (.int .i64 k) (.slice none 0 0) (.slice none 0 0) (.slice none 0 0) (.slice none 0 0) (.int .i64 0) (.int .u64 0) (.int .i64 0) (.int .i64 0) (.int .i64 0) (.int .i64 0)) { kind := k } {}) := Lib.hid (rows_none _ _ _ rfl rfl rfl rfl)
  clear g
  clear hST
  go_wp2_with fail
  clear hW1
  change bodyPost _ _ _ _ _ (set11 W1 w.heap.size (.int .i64 k) (.slice none 0 0) (.slice none 0 0) (.slice none 0 0) (.slice none 0 0) (.int .i64 0) (.int .u64 0) (.int .i64 0) (.int .i64 0) (.int .i64 0) (.int .i64 0))
  generalize set11 W1 w.heap.size (.int .i64 k) (.slice none 0 0) (.slice none 0 0) (.slice none 0 0) (.slice none 0 0) (.int .i64 0) (.int .u64 0) (.int .i64 0) (.int .i64 0) (.int .i64 0) (.int .i64 0) = W at *
  clear c0 r0 c1 r1 c2 r2 c3 r3 c4 r4 c5 r5 c6 r6 c7 r7 c8 r8 c9 r9 c10 r10 fz
  have c0 := HAW.out.2.2 0 _ rfl
  have c1 := HAW.out.2.2 1 _ rfl
  have c2 := HAW.out.2.2 2 _ rfl
  have c3 := HAW.out.2.2 3 _ rfl
  have c4 := HAW.out.2.2 4 _ rfl
  have c5 := HAW.out.2.2 5 _ rfl
  have c6 := HAW.out.2.2 6 _ rfl
  have c7 := HAW.out.2.2 7 _ rfl
  have c8 := HAW.out.2.2 8 _ rfl
  have c9 := HAW.out.2.2 9 _ rfl
  have c10 := HAW.out.2.2 10 _ rfl
  refine bodyPost_ret (v := .agg #[.int .i64 k, .slice none 0 0, .slice none 0 0, .slice none 0 0, .slice none 0 0, .int .i64 0, .int .u64 0, .int .i64 0, .int .i64 0, .int .i64 0, .int .i64 0]) (by simp [results, Try.results41, go_sem, *]) rfl ?_
  rw [HGU.out]
  exact ⟨{}, rfl, HOW.out, HNW.out, HBW.out⟩
theorem guess_any (k : Nat) (A : Option Addr) (n c : Nat) (l : Bs) (w : World) (h : BytesAt w A n c l) (hn : n ≤ 2000) : Calls Try.prog 41 #[.int .i64 (k : Int), .slice A n c] w (Guesses (gGuess (k : Int) l) w) := by
  by_cases h1 : k = 1
  · subst h1
    have := guess1 A n c l w h hn
    rw [show ({ kind := 1, pairs := gPairs l (min (gGet l 0 2) 7) 2 } : Pg) = gGuess 1 l by rw [gGuess, if_pos rfl]] at this
    exact this
  by_cases h2 : k = 2
  · subst h2; exact guess2 A n c l w h hn
  by_cases h3 : k = 3
  · subst h3; exact guess3 A n c l w h hn
  by_cases h4 : k = 4
  · subst h4; exact guess4 A n c l w h hn
  exact guess0 k (by omega) (by omega) (by omega) (by omega) A n c l w h hn
end Go.Proofs.Ytiebaeahimeedaa.Page
