/-
  Contract of slices.DeleteFunc at accounts of balance 0.
-/
import Derived.Test.YtobpbbldgbgcdaaADel
namespace Go.Proofs.Ytobpbbldgbgcdaa.Acc
open Go.RowKit Go.Sort

def keepB (x : Ac) : Bool := !zeroB x
/-- So far: i are kept of the first j. -/
structure DelR (l D : List Ac) (i j : Nat) : Prop where
  lo : i < j
  hi : j ≤ l.length
  len : D.length = l.length
  done : D.take i = (l.take j).filter keepB
  rest : ∀ m, j ≤ m → D[m]? = l[m]?
theorem DelR.skip {l D : List Ac} {i j : Nat} (h : DelR l D i j) (hj : j < l.length) (hz : keepB l[j] = false) : DelR l D i (j + 1) :=
  ⟨Nat.lt_succ_of_lt h.lo, hj, h.len, by
    rw [List.take_succ_eq_append_getElem hj, List.filter_append, h.done]
    simp [hz], fun m hm => h.rest m (by omega)⟩
theorem DelR.put {l D : List Ac} {i j : Nat} (h : DelR l D i j) (hj : j < l.length) (hz : keepB l[j] = true) : DelR l (D.set i l[j]) (i + 1) (j + 1) := by
  have hi : i < D.length := by have := h.lo; have := h.len; omega
  refine ⟨Nat.succ_lt_succ h.lo, hj, by rw [List.length_set]; exact h.len, ?_, fun m hm => ?_⟩
  · rw [List.take_succ_eq_append_getElem hj, List.filter_append, ← h.done, List.take_succ_eq_append_getElem (by rw [List.length_set]; exact hi), List.take_set_of_le (Nat.le_refl _)]
    simp [hz]
  · rw [List.getElem?_set_ne (by have := h.lo; omega)]
    exact h.rest m (by omega)
theorem DelR.fin {l D : List Ac} {i : Nat} (h : DelR l D i l.length) : D.take i = l.filter keepB := by rw [h.done, List.take_of_length_le (Nat.le_refl _)]
theorem DelR.start {l : List Ac} {k : Nat} (hk : k < l.length) (hb : ∀ j (hj : j < l.length), j < k → zeroB l[j] = false) (hz : zeroB l[k] = true) : DelR l l k (k + 1) :=
  ⟨Nat.lt_succ_self k, hk, rfl, by
    rw [List.take_succ_eq_append_getElem hk, List.filter_append]
    rw [List.filter_eq_self.2 (fun x hx => by
      obtain ⟨j, hj, rfl⟩ := List.getElem_of_mem hx
      rw [List.length_take] at hj
      rw [List.getElem_take]
      unfold keepB
      rw [hb j (by omega) (by omega)]; rfl)]
    simp [keepB, hz], fun _ _ => rfl⟩
theorem idx_cases (p : Ac → Bool) (l : List Ac) : (idxA p l = -1 ∧ ∀ j (hj : j < l.length), p l[j] = false) ∨ ∃ k : Nat, ∃ hk : k < l.length, idxA p l = (k : Int) ∧ p l[k] = true ∧ ∀ j (hj : j < l.length), j < k → p l[j] = false := by
  unfold idxA
  generalize hf : l.findIdx? p = e
  rcases e with _ | k
  · exact .inl ⟨rfl, fun j hj => by simpa using List.findIdx?_eq_none_iff.1 hf l[j] (List.getElem_mem hj)⟩
  · obtain ⟨hk, h1, h2⟩ := List.findIdx?_eq_some_iff_getElem.1 hf
    exact .inr ⟨k, hk, rfl, h1, fun j hj hjk => by simpa using h2 j hjk⟩
set_option maxRecDepth 100000 in
set_option maxHeartbeats 2000000 in
theorem delete_any {B : Nat} {v : Value} {l : List Ac} {w : World} (h : OwnA w B v l) (hn : l.length ≤ 1000000) (hB : B ≤ w.heap.size) :
    Calls Try.prog 37 #[v, .func (.func 38) #[] #[]] w (fun e w' => ∃ v', e = .returned v' ∧ OwnA w' B v' (l.filter keepB) ∧ Below B w w') := by
  obtain ⟨A, c, rfl, ha, _⟩ := h.at
  have cI := index_any ha (by omega) 38 #[] zeroB ent_post2 (fun W _ x => zero_any x W)
  have HO := Lib.hid h
  have HBB := Lib.hid hB
  rcases idx_cases zeroB l with ⟨e1, e2⟩ | ⟨k, hk, e1, e2, e3⟩
  · rw [e1] at cI
    have E := Lib.hid (show l.filter keepB = l from List.filter_eq_self.2 (fun x hx => by
      obtain ⟨j, hj, rfl⟩ := List.getElem_of_mem hx
      unfold keepB; rw [e2 j hj]; rfl))
    clear e1 e2 h ha hB
    go_enter Try.func37, Try.ntmps37
    go_wp2_with (go_at_call 61; refine cI.mono ?_; rintro e w2 ⟨rfl, b2⟩)
    go_ret
    rw [E.out]
    exact ⟨_, rfl, HO.out.below b2, b2.mono HBB.out⟩
  · obtain ⟨g, cap, e, hg1, hg2⟩ := h.some (by intro e; rw [e] at hk; simp at hk)
    injection e with e4 _ e5
    subst e4 e5
    rw [e1] at cI
    have HG := Lib.hid hg1
    have ST := Lib.hid (DelR.start hk e3 e2)
    have hkz : (k : Int) ≠ -1 := by omega
    have hq : ((k : Int) == -1) = false := beq_eq_false_iff_ne.2 hkz
    have hwk : IntKind.i64.wrap ((k : Int) + 1) = (k : Int) + 1 := IntWalk.i64_in _ (by omega)
    have t0 : k < l.length := hk
    obtain ⟨n, hln⟩ : ∃ n, l.length = n := ⟨_, rfl⟩
    have HLN := Lib.hid hln
    rw [hln] at cI t0 hn ⊢
    clear e1 e2 e3 h ha hB hk hg1 hg2 hkz hln
    go_enter Try.func37, Try.ntmps37
    go_wp2_with (go_at_call 61; refine cI.mono ?_; rintro e w2 ⟨rfl, b2⟩)
    have S0 := Lib.hid (And.intro (b2.mono HBB.out) (HO.out.below b2))
    have SZ := Lib.hid b2.size
    clear b2 cI hq hwk
    go_loopw [5, 6] (fun u x wr => ∃ i j : Nat, u = .int .i64 (i : Int) ∧ x = .int .i64 (j : Int) ∧ j ≤ n ∧ i < j ∧ Hid (∃ D, DelR l D i j ∧ OwnA wr B (.slice (Option.some ⟨g, 0, Option.none⟩) l.length c) D ∧ Below B w wr ∧ B ≤ wr.heap.size)) (fun _ x _ => n - (intOf x).toNat)
    case atStart => exact ⟨k, k + 1, rfl, by go_num, by omega, by omega, Lib.hid ⟨l, ST.out, S0.out.2, S0.out.1, Nat.le_trans HBB.out SZ.out⟩⟩
    case round =>
      obtain ⟨i, j, rfl, rfl, hj, hij, HD⟩ := hrel
      obtain ⟨D, R, HOd, HBd, hsz⟩ := HD.out
      by_cases hlt : j < n
      · have hjl : j < l.length := by rw [HLN.out]; exact hlt
        have hjD : j < D.length := by rw [R.len]; exact hjl
        have hiD : i < D.length := by omega
        have hwr : IntKind.i64.wrap ((j : Int) + 1) = (j : Int) + 1 := IntWalk.i64_in _ (by omega)
        have hwi : IntKind.i64.wrap ((i : Int) + 1) = (i : Int) + 1 := IntWalk.i64_in _ (by omega)
        have t1 : (j : Int) < (n : Int) := by omega
        have t2 : (0 : Int) ≤ (j : Int) := by omega
        have t3 : (i : Int) < (n : Int) := by omega
        have t4 : (0 : Int) ≤ (i : Int) := by omega
        have hDj : D[j] = l[j] := by
          have := R.rest j (Nat.le_refl _)
          rw [List.getElem?_eq_getElem hjD, List.getElem?_eq_getElem hjl] at this
          exact Option.some.inj this
        obtain ⟨A', c', e, haD, _⟩ := HOd.at
        obtain ⟨b, off, e', hbl, hc⟩ := haD.row (by intro e; rw [e] at hjD; simp at hjD)
        injection e with e4 e5 e9
        clear e5 e9
        rw [← e4] at e'
        injection e' with e6
        injection e6 with e7 e8 _
        subst e7 e8
        have hr := hc j hjD
        rw [hDj, Nat.zero_add] at hr
        have L := Lib.hid (load_ac hr)
        have P1 := Lib.hid (put_new wr l[j])
        have b2 := below_box wr (.cells (encA l[j]).toArray 35)
        have a2 := at_new wr (encA l[j]).toArray 35
        obtain ⟨W2, hW2⟩ : ∃ W2, wr.alloc (.cells (encA l[j]).toArray 35) = W2 := ⟨_, rfl⟩
        rw [hW2] at P1 b2 a2
        have L7 := Lib.hid (show ∀ W, Below W2.heap.size W2 W → (Instr.loadAt 35 (.pointer (Option.some ⟨wr.heap.size, 0, Option.none⟩))).run Try.prog W = .ok (.agg (encA l[j]).toArray) W from fun W hb => load_at (o := 0) (a2.below hb a2.1) Try.underlying35 rfl (by simpa [encA] using size_ac) (by simp))
        have cF := Lib.hid (zero_any l[j] W2)
        have B2 := Lib.hid (HBd.trans (b2.mono hsz))
        have O2 := Lib.hid (HOd.below b2)
        have S2 := Lib.hid (Nat.le_trans hsz b2.size)
        have L7a := Lib.hid (L7.out W2 (Below.refl _ _))
        have RR := Lib.hid R
        by_cases hz : zeroB l[j] = true
        · have NX := Lib.hid (R.skip hjl (by unfold keepB; rw [hz]; rfl))
          rw [hz] at cF
          generalize encA l[j] = C at *
          clear e4 hz R HOd HBd hsz haD hbl hc hr b2 a2 hW2 hDj HD
          go_wp2_with (first
            | ((with_reducible refine wpList_load_eq rfl 35 (.tmp 24) rfl _ ?_ L.out ?_); (next => rfl))
            | ((with_reducible refine wpList_load_eq rfl 35 (.tmp 7) rfl _ ?_ L7a.out ?_); (next => rfl))
            | ((with_reducible refine wpList_store_eq rfl 35 (.tmp 7) (.tmp 25) rfl _ _ ?_ ?_ P1.out ?_); (next => rfl); (next => rfl)))
          refine cF.out.mono ?_
          rintro e w3 ⟨rfl, b3⟩
          have NB := Lib.hid (show ∃ D, DelR l D i (j + 1) ∧ OwnA w3 B (.slice (Option.some ⟨g, 0, Option.none⟩) l.length c) D ∧ Below B w w3 ∧ B ≤ w3.heap.size from ⟨D, NX.out, O2.out.below b3, B2.out.trans (b3.mono S2.out), Nat.le_trans S2.out b3.size⟩)
          clear b3 cF L7 L7a P1 L
          go_wp2_with fail
          go_roundw
          case rel => exact ⟨i, j + 1, rfl, by go_num, by omega, by omega, NB⟩
          case measure => simp [intOf]; omega
        · have hz' : zeroB l[j] = false := by simpa using hz
          have NX := Lib.hid (R.put hjl (by unfold keepB; rw [hz']; rfl))
          have ST2 := Lib.hid (fun (W : World) (h : OwnA W B (.slice (Option.some ⟨g, 0, Option.none⟩) l.length c) D) => show _ ∧ _ from ⟨h.there i hiD l[j], h.set i hiD l[j]⟩)
          rw [hz'] at cF
          obtain ⟨D', hD'⟩ : ∃ D', D.set i l[j] = D' := ⟨_, rfl⟩
          rw [hD'] at NX ST2
          generalize encA l[j] = C at *
          clear e4 hz hz' R HOd HBd hsz haD hbl hc hr b2 a2 hW2 hDj HD hD'
          go_wp2_with (first
            | ((with_reducible refine wpList_load_eq rfl 35 (.tmp 24) rfl _ ?_ L.out ?_); (next => rfl))
            | ((with_reducible refine wpList_load_eq rfl 35 (.tmp 7) rfl _ ?_ L7a.out ?_); (next => rfl))
            | ((with_reducible refine wpList_store_eq rfl 35 (.tmp 7) (.tmp 25) rfl _ _ ?_ ?_ P1.out ?_); (next => rfl); (next => rfl)))
          refine cF.out.mono ?_
          rintro e w3 ⟨rfl, b3⟩
          have L8 := Lib.hid (L7.out w3 b3)
          obtain ⟨s1, s2⟩ := ST2.out w3 (O2.out.below b3)
          have S1 := Lib.hid s1
          have hb4 := below_put HG.out C (i * 4) w3
          have NB := Lib.hid (show ∃ D, DelR l D (i + 1) (j + 1) ∧ OwnA (w3.setCells g (i * 4) C) B (.slice (Option.some ⟨g, 0, Option.none⟩) l.length c) D ∧ Below B w (w3.setCells g (i * 4) C) ∧ B ≤ (w3.setCells g (i * 4) C).heap.size from ⟨D', NX.out, s2, (B2.out.trans (b3.mono S2.out)).trans hb4, Nat.le_trans (Nat.le_trans S2.out b3.size) hb4.size⟩)
          clear b3 cF L7 L7a P1 L s1 s2 hb4 ST2
          generalize w3.setCells g (i * 4) C = W4 at *
          go_wp2_with (first
            | ((with_reducible refine wpList_load_eq rfl 35 (.tmp 7) rfl _ ?_ L8.out ?_); (next => rfl))
            | ((with_reducible refine wpList_store_eq rfl 35 (.tmp 33) (.tmp 32) rfl _ _ ?_ ?_ S1.out ?_); (next => rfl); (next => rfl)))
          go_roundw
          case rel => exact ⟨i + 1, j + 1, by go_num, by go_num, by omega, by omega, NB⟩
          case measure => simp [intOf]; omega
      · obtain rfl : j = n := by omega
        have RF := Lib.hid (show D.take i = l.filter keepB by have := HLN.out; exact DelR.fin (this ▸ R))
        have t3 : (i : Int) < (j : Int) := by omega
        have t4 : (0 : Int) ≤ (i : Int) := by omega
        obtain ⟨hcap, hnl⟩ := own_cap HOd
        have hiD : i < D.length := by have := R.len; have := HLN.out; omega
        have hjD : D.length = j := by rw [R.len]; exact HLN.out
        obtain ⟨zs, hrun⟩ := run_clear_acs 0 wr g (i * 4) (j - i) (c - i) (by omega) (fun m hm => own_cells HOd _ (by omega)) (fun m _ => own_frozen HOd _)
        have RC := Lib.hid hrun
        have hb4 := below_put HG.out zs (i * 4) wr
        have FIN := Lib.hid (show OwnA (wr.setCells g (i * 4) zs) B (.slice (Option.some ⟨g, 0, Option.none⟩) i c) (l.filter keepB) ∧ Below B w (wr.setCells g (i * 4) zs) from ⟨by rw [← RF.out]; exact cut_own HOd i (Nat.le_of_lt hiD) zs, HBd.trans hb4⟩)
        have t5 : i < c := by omega
        have t6 : ¬ c = i := by omega
        have t7 : ¬ i = c := by omega
        have t8 : (i : Int) ≤ (c : Int) := by omega
        have t9 : ¬ c - i = 0 := by omega
        clear HD hlt R HOd HBd hsz hb4 hrun hcap hnl hiD hjD RF
        generalize wr.setCells g (i * 4) zs = W4 at *
        go_wp2_with ((with_reducible refine wpList_clear_eq rfl 23 (.tmp 38) rfl _ ?_ RC.out ?_); (next => rfl))
        go_ret
        exact ⟨_, rfl, FIN.out⟩
end Go.Proofs.Ytobpbbldgbgcdaa.Acc
