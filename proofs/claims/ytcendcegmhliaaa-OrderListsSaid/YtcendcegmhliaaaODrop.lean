/-
  Contract of Drop.
-/
import Derived.Test.YtcendcegmhliaaaOPut2
namespace Go.Proofs.Ytcendcegmhliaaa.Ord
open Go.RowKit Go.Sort _root_.Go.Proofs.Ytcendcegmhliaaa.Gnd

theorem below_put {B b : Nat} (h : B ≤ b) : ∀ (vs : List Value) (o : Nat) (w : World), Below B w (w.setCells b o vs)
  | [], _, w => Below.refl B w
  | v :: r, o, w => (Below.setCell (Below.refl B w) (p := ⟨b, o, none⟩) h v).trans (below_put h r (o + 1) _)
/-- An account is written over another one's cells. -/
theorem put_ac {w : World} {b : Nat} {C : Array Value} (h : At w b C) (hC : C.size = 6) (x : Or) {B : Nat} (hB : B ≤ b) : ∃ w', (Instr.storeAt 25 (.pointer (some ⟨b, 0, none⟩)) (.agg (encA x).toArray)).run Try.prog w = .ok () w' ∧ At w' b (encA x).toArray ∧ Below B w w' :=
  ⟨_, store_at h (by rw [hC]; simp [encA]) (by simpa [encA] using size_or) (by simp [encA, Value.oneCell']), at_over h (by rw [hC]; simp [encA]) (by
    have : C.toList.length = 6 := by simpa using hC
    simp [encA, List.drop_eq_nil_of_le, this]), below_put hB _ _ _⟩
theorem var_ac {w : World} {b : Nat} {x : Or} (h : At w b (encA x).toArray) : (loadVar 25 ⟨b, 0, none⟩).run Try.prog w = .ok (.agg (encA x).toArray) w :=
  var_at (o := 0) h Try.underlying25 rfl (by simpa [encA] using size_or) (by simp)
theorem exec_load {P : Program} {ev : Operand → Value} {o : Oper} {t : TypeId} {x : Operand} {p v : Value} {w : World} (ho : o.op = .load t x) (hx : ev x = p) (hrun : (Instr.loadAt t p).run P w = .ok v w) : (execOp ev o).run P w = .ok (.value v) w := by
  simp [execOp, ho, hx, hrun, Result.andThen]
theorem heap_past (b : Nat) : ∀ (vs : List Value) (o : Nat) (w : World) (k : Nat), k ≠ b → (w.setCells b o vs).heap[k]? = w.heap[k]?
  | [], _, _, _, _ => rfl
  | v :: r, o, w, k, h => by
    rw [World.setCells, heap_past b r (o + 1) _ k h, Below.heap_setCell _ _ _ _ h]
theorem OwnA.past {w : World} {B b : Nat} {v : Value} {l : List Or} (h : OwnA w B v l) (hb : b < B) (o : Nat) (vs : List Value) : OwnA (w.setCells b o vs) B v l := by
  obtain ⟨hl, h | ⟨g, cap, cur, hv, hg, hh, h4⟩⟩ := h
  · exact ⟨hl, .inl h⟩
  · exact ⟨hl, .inr ⟨g, cap, cur, hv, hg, by rw [heap_past b vs o w g (by omega)]; exact hh, h4⟩⟩
theorem put_or2 {w : World} {b : Nat} {C : Array Value} (h : At w b C) (hC : C.size = 6) (x : Or) {B : Nat} (hB : B ≤ b) : (Instr.storeAt 25 (.pointer (some ⟨b, 0, none⟩)) (.agg (encA x).toArray)).run Try.prog w = .ok () (w.setCells b 0 (encA x)) ∧ At (w.setCells b 0 (encA x)) b (encA x).toArray ∧ Below B w (w.setCells b 0 (encA x)) :=
  ⟨store_at h (by rw [hC]; simp [encA]) (by simpa [encA] using size_or) (by simp [encA, Value.oneCell']), at_over h (by rw [hC]; simp [encA]) (by
    have : C.toList.length = 6 := by simpa using hC
    simp [encA, List.drop_eq_nil_of_le, this]), below_put hB _ _ _⟩
def zeroO : Or := ⟨0, [], [], false, 0, 0⟩
theorem zero_cells : (encA zeroO).toArray = #[.int .u64 0, .string ⟨#[]⟩, .string ⟨#[]⟩, .bool false, .int .i64 0, .int .i64 0] := rfl
theorem results_tct {fn : Func} {tmps : Array Value} {a b s : Nat} {t : TypeId} {x : Addr} {v : Value} {w : World} (hr : fn.results = #[.tmp b, .cell a t, .tmp s]) (ha : tmps.getD a undef = .pointer (some x)) (h : (loadVar t x).run Try.prog w = .ok v w) : (results fn tmps).run Try.prog w = .ok (.tuple #[tmps.getD b undef, v, tmps.getD s undef]) w := by
  have ha' : tmps[a]?.getD undef = .pointer (some x) := by simpa using ha
  simp [results, hr, ha', asAddr, h]
def dropO (l : List Or) (m : Int) : List Or × Or × Int := match l.findIdx? (numB m) with
  | some i => (l.take i ++ l.drop (i + 1), l[i]!, 0)
  | none => ([], zeroO, 130)
theorem drop_none {l : List Or} {m : Int} (h : idxA (numB m) l = -1) : dropO l m = ([], zeroO, 130) := by
  unfold idxA at h
  unfold dropO
  rcases e : l.findIdx? (numB m) with _ | i
  · rfl
  · rw [e] at h
    simp only at h
    omega
theorem drop_some {l : List Or} {m : Int} {k : Nat} (hk : k < l.length) (h : idxA (numB m) l = (k : Int)) : dropO l m = (l.take k ++ l.drop (k + 1), l[k], 0) := by
  unfold idxA at h
  unfold dropO
  rcases e : l.findIdx? (numB m) with _ | i
  · rw [e] at h
    simp only at h
    omega
  · rw [e] at h
    simp only at h
    obtain rfl : i = k := by omega
    simp [hk]
def DropE (r : List Or × Or × Int) (w : World) (e : Ending) (w' : World) : Prop := ∃ v, e = .returned (.tuple #[v, .agg (encA r.2.1).toArray, .int .i64 r.2.2]) ∧ OwnA w' w.heap.size v r.1 ∧ Below w.heap.size w w'
theorem parts2 {W : World} {A : Option Addr} {n c k : Nat} {l : List Or} (h : AAt W A n c l) (hk : k < n) (hn : n ≤ 1000) :
    Calls Try.prog 35 #[.slice (some ⟨W.heap.size, 0, none⟩) 2 2] (W.alloc (.cells #[.slice A k c, .slice (sub 6 A c (k + 1)) (n - (k + 1)) (c - (k + 1))] 33))
      (fun e w' => ∃ v, e = .returned v ∧ OwnA w' W.heap.size v (l.take k ++ l.drop (k + 1)) ∧ Below W.heap.size W w') := by
  have b2 := below_box W (.cells #[.slice A k c, .slice (sub 6 A c (k + 1)) (n - (k + 1)) (c - (k + 1))] 33)
  have a2 := at_new W #[.slice A k c, .slice (sub 6 A c (k + 1)) (n - (k + 1)) (c - (k + 1))] 33
  have h2 := h.below b2
  obtain ⟨W2, hW2⟩ : ∃ W2, W.alloc (.cells #[.slice A k c, .slice (sub 6 A c (k + 1)) (n - (k + 1)) (c - (k + 1))] 33) = W2 := ⟨_, rfl⟩
  rw [hW2] at b2 a2 h2 ⊢
  have hl := h.len
  have hc := h.cap
  have hnil := h.nil
  have c3 := concat_any (A := some ⟨W.heap.size, 0, none⟩) (N := 2) (C := 2) [⟨A, k, c, l.take k⟩, ⟨sub 6 A c (k + 1), n - (k + 1), c - (k + 1), l.drop (k + 1)⟩] W2 rfl (by omega)
    (fun _ => ⟨W.heap.size, 0, rfl, a2.1, fun j hj => by
      have hj : j < 2 := hj
      rcases (show j = 0 ∨ j = 1 by omega) with rfl | rfl
      · exact a2.2.2 0 _ rfl
      · exact a2.2.2 1 _ rfl⟩)
    (fun p hp => by
      simp only [List.mem_cons, List.not_mem_nil, or_false] at hp
      rcases hp with rfl | rfl
      · exact ⟨by simp only [List.length_take]; omega, hnil, row_take h2.row k⟩
      · exact ⟨by simp only [List.length_drop]; omega, fun h => by have := hnil (sub_none h); simp only; omega, row_drop h2.row (by omega) (k + 1)⟩)
    (by simp [sizes]; omega)
  refine c3.mono ?_
  rintro e w' ⟨v', rfl, o, b⟩
  refine ⟨v', rfl, ?_, b2.trans (b.mono b2.size)⟩
  have := o.down b2.size
  simpa using this
set_option maxRecDepth 100000 in
set_option maxHeartbeats 2000000 in
theorem drop_any {A : Option Addr} {n c : Nat} {l : List Or} {w : World} (h : AAt w A n c l) (hn : n ≤ 1000) (m : Int) : Calls Try.prog 20 #[.slice A n c, .int .u64 m] w (DropE (dropO l m) w) := by
  have b1 := below_box w (.cells (encA zeroO).toArray 25)
  have a1 := at_new w (encA zeroO).toArray 25
  have h1 := h.below b1
  obtain ⟨W1, hW1⟩ : ∃ W1, w.alloc (.cells (encA zeroO).toArray 25) = W1 := ⟨_, rfl⟩
  rw [hW1] at b1 a1 h1
  rw [zero_cells] at hW1
  have cN := numbered_any h1 (by omega) m
  have B1 := Lib.hid b1
  have SZ := Lib.hid (show w.heap.size < W1.heap.size from a1.1)
  rcases idx_cases (numB m) l with ⟨e1, _⟩ | ⟨k, hk, e1, _, _⟩
  · rw [drop_none e1]
    rw [e1] at cN
    have PUT := Lib.hid (show ∀ W, Below W1.heap.size W1 W → ∃ W', (Instr.storeAt 25 (.pointer (some ⟨w.heap.size, 0, none⟩)) (.agg #[.int .u64 0, .string ⟨#[]⟩, .string ⟨#[]⟩, .bool false, .int .i64 0, .int .i64 0])).run Try.prog W = .ok () W' ∧ (loadVar 25 ⟨w.heap.size, 0, none⟩).run Try.prog W' = .ok (.agg (encA zeroO).toArray) W' ∧ Below w.heap.size w W' from fun W hb => by
      obtain ⟨W', h1, h2, h3⟩ := put_ac (a1.below hb a1.1) rfl zeroO (Nat.le_refl w.heap.size)
      exact ⟨W', h1, var_ac h2, (b1.trans (hb.mono b1.size)).trans h3⟩)
    clear h h1 a1 b1 e1
    go_enter Try.func20, Try.ntmps20
    go_wp2_with (first
      | (go_at_call 32; refine cN.mono ?_; rintro e w2 ⟨rfl, b2⟩; obtain ⟨W', r1, r2, r3⟩ := PUT.out w2 b2; have R1 := Lib.hid r1; have R2 := Lib.hid r2; clear r1 r2 b2 PUT cN)
      | ((with_reducible refine wpList_store_eq rfl 25 (.tmp 5) (.tmp 13) rfl _ _ ?_ ?_ R1.out ?_); (next => rfl); (next => rfl)))
    (try simp only [Exit.inBlock, Exit.then])
    refine bodyPost_ret (results_tct rfl rfl R2.out) rfl ?_
    exact ⟨_, rfl, OwnA.nil _ _, r3⟩
  · rw [drop_some hk e1]
    rw [e1] at cN
    have hkn : k < n := by rw [← h.len]; exact hk
    have LOAD := Lib.hid (show ∃ b off, A = some ⟨b, off, none⟩ ∧ ∀ W, Below w.heap.size w W → (Instr.loadAt 25 (.pointer (some ⟨b, off + k * 6, none⟩))).run Try.prog W = .ok (.agg (encA l[k]).toArray) W from by
      obtain ⟨b, off, rfl, hb, hc⟩ := h.row (by intro e; rw [e] at hk; simp at hk)
      exact ⟨b, off, rfl, fun W hW => load_ac (range_below (hc k hk) hW hb)⟩)
    obtain ⟨b, off, rfl, LD⟩ := LOAD.out
    generalize l[k] = x at *
    have PUT := Lib.hid (show ∀ W, Below W1.heap.size W1 W → (Instr.storeAt 25 (.pointer (some ⟨w.heap.size, 0, none⟩)) (.agg (encA x).toArray)).run Try.prog W = .ok () (W.setCells w.heap.size 0 (encA x)) ∧ (loadVar 25 ⟨w.heap.size, 0, none⟩).run Try.prog (W.setCells w.heap.size 0 (encA x)) = .ok (.agg (encA x).toArray) (W.setCells w.heap.size 0 (encA x)) ∧ Below w.heap.size w (W.setCells w.heap.size 0 (encA x)) from fun W hb => by
      obtain ⟨h1, h2, h3⟩ := put_or2 (a1.below hb a1.1) rfl x (Nat.le_refl w.heap.size)
      exact ⟨h1, var_ac h2, (b1.trans (hb.mono b1.size)).trans h3⟩)
    obtain ⟨q, hq⟩ : ∃ q, k + 1 = q := ⟨_, rfl⟩
    have hwr : IntKind.i64.wrap ((k : Int) + 1) = (q : Int) := by rw [IntWalk.i64_in _ (by omega)]; omega
    have s1 := fun W => acs_head (some ⟨b, off, none⟩) n c k (Nat.le_trans (Nat.le_of_lt hkn) h.cap) W
    have s2 := fun W => acs_tail (some ⟨b, off, none⟩) n c q (by omega) W
    have t1 : (k : Int) < (n : Int) := by omega
    have t2 : (0 : Int) ≤ (k : Int) := by omega
    have CC := Lib.hid (show ∀ W, Below W1.heap.size W1 W → _ from fun W hb => parts2 (h1.below hb) hkn hn)
    rw [hq] at CC
    rw [hq]
    have HC := Lib.hid (show (encA x).toArray = (encA x).toArray from rfl)
    obtain ⟨C, hC⟩ : ∃ C, (encA x).toArray = C := ⟨_, rfl⟩
    rw [hC] at PUT LD
    have HCC := Lib.hid hC
    have t3 : ¬ (k : Int) < 0 := by omega
    clear h h1 a1 b1 e1 hkn hk LOAD hC HC hq
    go_enter Try.func20, Try.ntmps20
    go_wp2_with (first
      | (go_at_call 32; refine cN.mono ?_; rintro e w2 ⟨rfl, b2⟩; have BW := Lib.hid b2; clear b2 cN))
    have QD : Below w2.heap.size w2 w2.drew := (Below.refl _ _).drew
    have cK := CC.out w2.drew (BW.out.trans (QD.mono BW.out.size))
    rw [show w2.drew.heap.size = w2.heap.size from rfl] at cK
    have Q1 : Below w2.heap.size w2 (w2.drew.alloc (.cells #[.slice (some ⟨b, off, none⟩) k c, .slice (sub 6 (some ⟨b, off, none⟩) c q) (n - q) (c - q)] 33)) := QD.alloc QD.size _
    have SS := Lib.hid (show ∀ W, Below w2.heap.size w2 W → (Instr.loadAt 25 (.pointer (some ⟨b, off + k * 6, none⟩))).run Try.prog W = .ok (.agg C) W from fun W hW => LD W (B1.out.trans ((BW.out.trans (hW.mono BW.out.size)).mono B1.out.size)))
    clear CC
    refine wp_region_held (S := fun V => (Instr.loadAt 25 (.pointer (some ⟨b, off + k * 6, none⟩))).run Try.prog V = .ok (.agg C) V) (by kernel_rfl) ?_
    change wpAnyH _ _ _ _ _ _ _ _ w2.drew
    have hSR := SS.out w2.drew QD
    refine wpAnyH_take (i := 0) (v := ?_) rfl (by kernel_rfl) (by kernel_rfl) (by kernel_rfl) (fun _ _ _ h => h) (Or.inl ⟨by rfl, ?_⟩) hSR ?_
    rotate_left
    · (intro w' hSw; (try dsimp only at hSw); go_simp; (try with_reducible rfl))
    (try simp only [List.getElem_toArray]); (try simp only [List.getElem_cons_succ]); (try simp only [List.getElem_cons_zero]); (try simp only [Act.put]); (try simp only [List.setIfInBounds_toArray]); (try simp only [List.set_cons_succ]); (try simp only [List.set_cons_zero])
    refine wpAnyH_take (i := 1) (v := ?_) rfl (by kernel_rfl) (by kernel_rfl) (by kernel_rfl) (fun _ _ _ h => h) (Or.inl ⟨by rfl, ?_⟩) hSR ?_
    rotate_left
    · (intro w' hSw; (try dsimp only at hSw); go_simp; (try with_reducible rfl))
    (try simp only [List.getElem_toArray]); (try simp only [List.getElem_cons_succ]); (try simp only [List.getElem_cons_zero]); (try simp only [Act.put]); (try simp only [List.setIfInBounds_toArray]); (try simp only [List.set_cons_succ]); (try simp only [List.set_cons_zero])
    refine wpAnyH_take (i := 2) (v := ?_) rfl (by kernel_rfl) (by kernel_rfl) (by kernel_rfl) (fun _ _ _ h => h) (Or.inl ⟨by rfl, ?_⟩) hSR ?_
    rotate_left
    · (intro w' hSw; (try dsimp only at hSw); go_simp; (try with_reducible rfl))
    (try simp only [List.getElem_toArray]); (try simp only [List.getElem_cons_succ]); (try simp only [List.getElem_cons_zero]); (try simp only [Act.put]); (try simp only [List.setIfInBounds_toArray]); (try simp only [List.set_cons_succ]); (try simp only [List.set_cons_zero])
    refine wpAnyH_take (i := 3) (v := ?_) rfl (by kernel_rfl) (by kernel_rfl) (by kernel_rfl) (fun _ _ _ h => h) (Or.inl ⟨by rfl, ?_⟩) hSR ?_
    rotate_left
    · (intro w' hSw; (try dsimp only at hSw); go_simp; (try with_reducible rfl))
    (try simp only [List.getElem_toArray]); (try simp only [List.getElem_cons_succ]); (try simp only [List.getElem_cons_zero]); (try simp only [Act.put]); (try simp only [List.setIfInBounds_toArray]); (try simp only [List.set_cons_succ]); (try simp only [List.set_cons_zero])
    refine wpAnyH_take (i := 4) (v := ?_) rfl (by kernel_rfl) (by kernel_rfl) (by kernel_rfl) (fun _ _ _ h => h) (Or.inl ⟨by rfl, ?_⟩) hSR ?_
    rotate_left
    · (intro w' hSw; (try dsimp only at hSw); go_simp; (try with_reducible rfl))
    (try simp only [List.getElem_toArray]); (try simp only [List.getElem_cons_succ]); (try simp only [List.getElem_cons_zero]); (try simp only [Act.put]); (try simp only [List.setIfInBounds_toArray]); (try simp only [List.set_cons_succ]); (try simp only [List.set_cons_zero])
    refine wpAnyH_take (i := 5) (v := ?_) rfl (by kernel_rfl) (by kernel_rfl) (by kernel_rfl) (fun _ _ _ h => h) (Or.inl ⟨by rfl, ?_⟩) hSR ?_
    rotate_left
    · (intro w' hSw; (try dsimp only at hSw); go_simp; (try with_reducible rfl))
    (try simp only [List.getElem_toArray]); (try simp only [List.getElem_cons_succ]); (try simp only [List.getElem_cons_zero]); (try simp only [Act.put]); (try simp only [List.setIfInBounds_toArray]); (try simp only [List.set_cons_succ]); (try simp only [List.set_cons_zero])
    refine wpAnyH_take (i := 6) (v := ?_) rfl (by kernel_rfl) (by kernel_rfl) (by kernel_rfl) (fun _ _ _ h => h) (Or.inl ⟨by rfl, ?_⟩) hSR ?_
    rotate_left
    · (intro w' hSw; (try dsimp only at hSw); go_simp; (try with_reducible rfl))
    (try simp only [List.getElem_toArray]); (try simp only [List.getElem_cons_succ]); (try simp only [List.getElem_cons_zero]); (try simp only [Act.put]); (try simp only [List.setIfInBounds_toArray]); (try simp only [List.set_cons_succ]); (try simp only [List.set_cons_zero])
    refine wpAnyH_take (i := 9) (v := ?_) rfl (by kernel_rfl) (by kernel_rfl) (by kernel_rfl) (fun _ _ _ h => h) (Or.inl ⟨by rfl, ?_⟩) hSR ?_
    rotate_left
    · (intro w' hSw; (try dsimp only at hSw); go_simp; (try with_reducible rfl))
    (try simp only [List.getElem_toArray]); (try simp only [List.getElem_cons_succ]); (try simp only [List.getElem_cons_zero]); (try simp only [Act.put]); (try simp only [List.setIfInBounds_toArray]); (try simp only [List.set_cons_succ]); (try simp only [List.set_cons_zero])
    refine wpAnyH_take (i := 10) (v := ?_) rfl (by kernel_rfl) (by kernel_rfl) (by kernel_rfl) (fun _ _ _ h => h) (Or.inl ⟨by rfl, ?_⟩) hSR ?_
    rotate_left
    · (intro w' hSw; (try dsimp only at hSw); go_simp; (try with_reducible rfl))
    (try simp only [List.getElem_toArray]); (try simp only [List.getElem_cons_succ]); (try simp only [List.getElem_cons_zero]); (try simp only [Act.put]); (try simp only [List.setIfInBounds_toArray]); (try simp only [List.set_cons_succ]); (try simp only [List.set_cons_zero])
    refine wpAnyH_take (i := 11) (v := ?_) rfl (by kernel_rfl) (by kernel_rfl) (by kernel_rfl) (fun _ _ _ h => h) (Or.inl ⟨by rfl, ?_⟩) hSR ?_
    rotate_left
    · (intro w' hSw; (try dsimp only at hSw); go_simp; (try with_reducible rfl))
    (try simp only [List.getElem_toArray]); (try simp only [List.getElem_cons_succ]); (try simp only [List.getElem_cons_zero]); (try simp only [Act.put]); (try simp only [List.setIfInBounds_toArray]); (try simp only [List.set_cons_succ]); (try simp only [List.set_cons_zero])
    refine wpAnyH_take (i := 12) (v := .agg C) rfl (by kernel_rfl) (by kernel_rfl) (by kernel_rfl) (fun _ _ _ h => h) (Or.inl ⟨by rfl, ?_⟩) hSR ?_
    · intro w' hSw
      refine exec_load (p := .pointer (some ⟨b, off + k * 6, none⟩)) (t := 25) (x := .tmp 25) ?_ ?_ hSw
      · rfl
      · rfl
    (try simp only [List.getElem_toArray]); (try simp only [List.getElem_cons_succ]); (try simp only [List.getElem_cons_zero]); (try simp only [Act.put]); (try simp only [List.setIfInBounds_toArray]); (try simp only [List.set_cons_succ]); (try simp only [List.set_cons_zero])
    refine wpAnyH_ready (rs := [7]) (by kernel_rfl) (by simp) (AllReadyH.cons rfl (fun K hK => ?_) AllReadyH.nil)
    go_simp
    refine hK.out _ _ (SS.out _ Q1) (fun hSR => ?_)
    clear hK K
    (try simp only [List.getElem_toArray]); (try simp only [List.getElem_cons_succ]); (try simp only [List.getElem_cons_zero]); (try simp only [Act.put]); (try simp only [List.setIfInBounds_toArray]); (try simp only [List.set_cons_succ]); (try simp only [List.set_cons_zero])
    refine wpAnyH_ready (rs := [8]) (by kernel_rfl) (by simp) (AllReadyH.cons rfl (fun K hK => ?_) AllReadyH.nil)
    go_simp
    refine cK.mono ?_
    rintro e w5 ⟨v5, rfl, o5, b5⟩
    have Q5 := QD.trans (b5.mono QD.size)
    refine hK.out _ _ (SS.out w5 Q5) (fun hSR => ?_)
    clear hK K
    (try simp only [List.getElem_toArray]); (try simp only [List.getElem_cons_succ]); (try simp only [List.getElem_cons_zero]); (try simp only [Act.put]); (try simp only [List.setIfInBounds_toArray]); (try simp only [List.set_cons_succ]); (try simp only [List.set_cons_zero])
    refine wpAnyH_take (i := 13) (v := ?_) rfl (by kernel_rfl) (by kernel_rfl) (by kernel_rfl) (fun _ _ _ h => h) (Or.inl ⟨by rfl, ?_⟩) hSR ?_
    rotate_left
    · (intro w' hSw; (try dsimp only at hSw); go_simp; (try with_reducible rfl))
    (try simp only [List.getElem_toArray]); (try simp only [List.getElem_cons_succ]); (try simp only [List.getElem_cons_zero]); (try simp only [Act.put]); (try simp only [List.setIfInBounds_toArray]); (try simp only [List.set_cons_succ]); (try simp only [List.set_cons_zero])
    obtain ⟨r1, r2, r3⟩ := PUT.out w5 (BW.out.trans (Q5.mono BW.out.size))
    refine wpAnyH_ready (rs := [14]) (by kernel_rfl) (by simp) (AllReadyH.cons rfl (fun K hK => ?_) AllReadyH.nil)
    refine step_store_eq (by rfl) 25 (.tmp 5) (.tmp 26) (by rfl) (by rfl) (by rfl) r1 ?_
    refine hK.out _ _ (LD _ r3) (fun hSR => ?_)
    clear hK K
    (try simp only [List.getElem_toArray]); (try simp only [List.getElem_cons_succ]); (try simp only [List.getElem_cons_zero]); (try simp only [Act.put]); (try simp only [List.setIfInBounds_toArray]); (try simp only [List.set_cons_succ]); (try simp only [List.set_cons_zero])
    refine wpAnyH_take (i := 15) (v := ?_) rfl (by kernel_rfl) (by kernel_rfl) (by kernel_rfl) (fun _ _ _ h => h) (Or.inl ⟨by rfl, ?_⟩) hSR ?_
    rotate_left
    · (intro w' hSw; (try dsimp only at hSw); go_simp; (try with_reducible rfl))
    (try simp only [List.getElem_toArray]); (try simp only [List.getElem_cons_succ]); (try simp only [List.getElem_cons_zero]); (try simp only [Act.put]); (try simp only [List.setIfInBounds_toArray]); (try simp only [List.set_cons_succ]); (try simp only [List.set_cons_zero])
    refine wpAnyH_done (by kernel_rfl) ?_ _
    have R2 := Lib.hid r2
    have R3 := Lib.hid r3
    have O5 := Lib.hid (o5.past (b := w.heap.size) (by have := SZ.out; have := BW.out.size; have := QD.size; omega) 0 (encA x))
    clear hSR r1 r2 r3
    go_wp2_with fail
    (try simp only [Exit.inBlock, Exit.then])
    refine bodyPost_ret (results_tct rfl rfl R2.out) rfl ?_
    have hC := HCC.out
    subst hC
    exact ⟨v5, rfl, O5.out.down (show w.heap.size ≤ w2.heap.size by have := SZ.out; have := BW.out.size; omega), R3.out⟩
end Go.Proofs.Ytcendcegmhliaaa.Ord
