/-
  Contracts of place and of Find.
-/
import Derived.Test.YtobpbbldgbgcdaaAFind
namespace Go.Proofs.Ytobpbbldgbgcdaa.Acc
open Go.RowKit Go.Sort

theorem ent_place1 : Enters Try.prog 62 := enters_of Try.func62 (by kernel_rfl) rfl
/-- Where an owner's account is. -/
def posA (o : Own) (l : List Ac) : Int := idxA (fun x => decide (x.own = o)) l
set_option maxRecDepth 100000 in
theorem place_any {A : Option Addr} {n c : Nat} {l : List Ac} {w : World} (h : AAt w A n c l) (hn : n ≤ 1000000000000) (o : Own) : Calls Try.prog 46 #[.slice A n c, .agg (encO o)] w (fun e w' => e = .returned (.int .i64 (posA o l)) ∧ Below w.heap.size w w') := by
  have b1 := below_box w (.cells (encO o) 56)
  have a1 := at_new w (encO o) 56
  have h1 := h.below b1
  obtain ⟨W1, hW1⟩ : ∃ W1, w.alloc (.cells (encO o) 56) = W1 := ⟨_, rfl⟩
  rw [hW1] at b1 a1 h1
  have cI := index_any h1 hn 62 #[.pointer (some ⟨w.heap.size, 0, none⟩)] (fun x => decide (x.own = o)) ent_place1 (fun W hb x => place1_any x o w.heap.size W (a1.below hb a1.1))
  have B1 := Lib.hid b1
  have HW := Lib.hid hW1
  unfold posA
  generalize idxA (fun x => decide (x.own = o)) l = r at *
  unfold encO strV at *
  generalize strB o.1 = X at *
  generalize strB o.2 = Y at *
  clear h h1 a1 b1 hW1
  go_enter Try.func46, Try.ntmps46
  go_wp2_with (first
    | ((with_reducible refine wpList_box_eq rfl 56 (.tmp 1) rfl #[.string X, .string Y] ?_ ?_); (next => rfl); rw [HW.out])
    | (go_at_call 61; refine cI.mono ?_; rintro e w2 ⟨rfl, b2⟩))
  go_ret
  exact ⟨rfl, B1.out.trans (b2.mono B1.out.size)⟩
/-- Someone's account. -/
def findA (l : List Ac) (o : Own) : Ac := match l.find? (fun x => decide (x.own = o)) with
  | some x => x
  | none => ⟨o.1, o.2, 0, 0⟩
theorem pos_find (o : Own) (l : List Ac) : (posA o l = -1 ∧ findA l o = ⟨o.1, o.2, 0, 0⟩ ∧ l.find? (fun x => decide (x.own = o)) = none) ∨ ∃ k : Nat, ∃ hk : k < l.length, posA o l = (k : Int) ∧ findA l o = l[k] ∧ l[k].own = o ∧ l.find? (fun x => decide (x.own = o)) = some l[k] := by
  unfold posA idxA findA
  generalize hf : l.findIdx? (fun x => decide (x.own = o)) = e
  rcases e with _ | k
  · refine .inl ⟨rfl, ?_⟩
    have : l.find? (fun x => decide (x.own = o)) = none := by
      rw [List.findIdx?_eq_none_iff] at hf
      rw [List.find?_eq_none]
      intro x hx; simpa using hf x hx
    rw [this]
    exact ⟨rfl, rfl⟩
  · obtain ⟨hk, h1, h2⟩ := List.findIdx?_eq_some_iff_getElem.1 hf
    have : l.find? (fun x => decide (x.own = o)) = some l[k] := by
      rw [List.find?_eq_some_iff_getElem]
      exact ⟨h1, k, hk, rfl, fun j hj => by simpa using h2 j hj⟩
    refine .inr ⟨k, hk, rfl, ?_, by simpa using h1, this⟩
    rw [this]
def zeroA : Array Value := #[.string ⟨#[]⟩, .string ⟨#[]⟩, .int .i64 0, .int .i64 0]
theorem below_put {B b : Nat} (h : B ≤ b) : ∀ (vs : List Value) (o : Nat) (w : World), Below B w (w.setCells b o vs)
  | [], _, w => Below.refl B w
  | v :: r, o, w => (Below.setCell (Below.refl B w) (p := ⟨b, o, none⟩) h v).trans (below_put h r (o + 1) _)
/-- An account is written over another one's cells. -/
theorem put_ac {w : World} {b : Nat} {C : Array Value} (h : At w b C) (hC : C.size = 4) (x : Ac) {B : Nat} (hB : B ≤ b) : ∃ w', (Instr.storeAt 35 (.pointer (some ⟨b, 0, none⟩)) (.agg (encA x).toArray)).run Try.prog w = .ok () w' ∧ At w' b (encA x).toArray ∧ Below B w w' :=
  ⟨_, store_at h (by rw [hC]; simp [encA]) (by simpa [encA] using size_ac) (by simp [encA, Value.oneCell']), at_over h (by rw [hC]; simp [encA]) (by
    have : C.toList.length = 4 := by simpa using hC
    simp [encA, List.drop_eq_nil_of_le, this]), below_put hB _ _ _⟩
theorem var_ac {w : World} {b : Nat} {x : Ac} (h : At w b (encA x).toArray) : (loadVar 35 ⟨b, 0, none⟩).run Try.prog w = .ok (.agg (encA x).toArray) w :=
  var_at (o := 0) h Try.underlying35 rfl (by simpa [encA] using size_ac) (by simp)
set_option maxRecDepth 100000 in
set_option maxHeartbeats 2000000 in
theorem find_any {A : Option Addr} {n c : Nat} {l : List Ac} {w : World} (h : AAt w A n c l) (hn : n ≤ 1000000000000) (who asset : Bs) : Calls Try.prog 23 #[.slice A n c, strV who, strV asset] w (fun e w' => e = .returned (.agg (encA (findA l (who, asset))).toArray) ∧ Below w.heap.size w w') := by
  have b1 := below_box w (.cells zeroA 35)
  have a1 := at_new w zeroA 35
  have h1 := h.below b1
  have SZ : (w.alloc (.cells zeroA 35)).heap.size = w.heap.size + 1 := by simp
  unfold zeroA at *
  obtain ⟨W1, hW1⟩ : ∃ W1, w.alloc (.cells #[.string ⟨#[]⟩, .string ⟨#[]⟩, .int .i64 0, .int .i64 0] 35) = W1 := ⟨_, rfl⟩
  rw [hW1] at b1 a1 h1 SZ
  have cP := place_any h1 hn (who, asset)
  have PUT := Lib.hid (show ∀ W2, Below W1.heap.size W1 W2 → ∀ x : Ac, ∃ w', (Instr.storeAt 35 (.pointer (some ⟨w.heap.size, 0, none⟩)) (.agg (encA x).toArray)).run Try.prog W2 = .ok () w' ∧ (loadVar 35 ⟨w.heap.size, 0, none⟩).run Try.prog w' = .ok (.agg (encA x).toArray) w' ∧ Below w.heap.size w w' from fun W2 hb x => by
    obtain ⟨w', r, a, b⟩ := put_ac (a1.below hb a1.1) rfl x (Nat.le_refl w.heap.size)
    exact ⟨w', r, var_ac a, (b1.trans (hb.mono b1.size)).trans b⟩)
  rcases pos_find (who, asset) l with ⟨e1, e2, _⟩ | ⟨k, hk, e1, e2, e3, e4⟩
  · rw [e1] at cP
    rw [e2]
    have PN := Lib.hid (PUT.out · · ⟨who, asset, 0, 0⟩)
    clear PUT
    unfold encA encO strV at *
    dsimp only at *
    generalize strB who = X at *
    generalize strB asset = Y at *
    clear h h1 a1 b1 e1 e2
    go_enter Try.func23, Try.ntmps23
    go_wp2_with (first
      | (go_at_call 46; refine cP.mono ?_; rintro e w2 ⟨rfl, b2⟩; obtain ⟨w3, R3, L3, B3⟩ := PN.out w2 b2; have R := Lib.hid R3; have L := Lib.hid L3; have B := Lib.hid B3; clear R3 L3 B3 b2 PN)
      | ((with_reducible refine wpList_store_eq rfl 35 (.tmp 6) (.tmp 21) rfl _ _ ?_ ?_ R.out ?_); (next => rfl); (next => rfl)))
    (try simp only [Exit.inBlock, Exit.then])
    refine bodyPost_ret (results_c rfl rfl L.out) rfl ?_
    exact ⟨rfl, B.out⟩
  · rw [e1] at cP
    rw [e2]
    obtain ⟨b, off, rfl, hbl, hc⟩ := h1.row (by intro e; rw [e] at hk; simp at hk)
    have LD := Lib.hid (fun W2 (hb : Below W1.heap.size W1 W2) => load_ac (range_below (hc k hk) hb hbl))
    have hkn : k < n := by rw [← h.len]; exact hk
    have t1 : (k : Int) < (n : Int) := by omega
    have t2 : (0 : Int) ≤ (k : Int) := by omega
    have PN := Lib.hid (PUT.out · · l[k])
    clear PUT
    obtain ⟨C, hC⟩ : ∃ C, (encA l[k]).toArray = C := ⟨_, rfl⟩
    rw [hC] at PN LD ⊢
    unfold encO strV at *
    dsimp only at *
    generalize strB who = X at *
    generalize strB asset = Y at *
    clear h h1 a1 b1 e1 e2 e3 e4 hC hc hk
    go_enter Try.func23, Try.ntmps23
    go_wp2_with (first
      | (go_at_call 46; refine cP.mono ?_; rintro e w2 ⟨rfl, b2⟩; obtain ⟨w3, R3, L3, B3⟩ := PN.out w2 b2; have R := Lib.hid R3; have L := Lib.hid L3; have B := Lib.hid B3; have LO := Lib.hid (LD.out w2 b2); clear R3 L3 B3 b2 PN LD)
      | ((with_reducible refine wpList_load_eq rfl 35 (.tmp 17) rfl _ ?_ LO.out ?_); (next => rfl))
      | ((with_reducible refine wpList_store_eq rfl 35 (.tmp 6) (.tmp 18) rfl _ _ ?_ ?_ R.out ?_); (next => rfl); (next => rfl)))
    (try simp only [Exit.inBlock, Exit.then])
    refine bodyPost_ret (results_c rfl rfl L.out) rfl ?_
    exact ⟨rfl, B.out⟩
end Go.Proofs.Ytobpbbldgbgcdaa.Acc
