/-
  Contract of Check.
-/
import Derived.Test.YtobpbbldgbgcdaaAPlace
import Derived.Shelf.SlSortCmp.QuietGrown
namespace Go.Proofs.Ytobpbbldgbgcdaa.Acc
open Go.RowKit Go.Sort

theorem below_grow (w : World) (q : Nat) (os : Array Obj) : Below w.heap.size w (grow (w.drewN q) os) := ⟨rfl, rfl, rfl, by simp, fun k hk => heap_grow_old _ _ (by simpa using hk)⟩
theorem order_below (x y : Ac) (w : World) : Calls Try.prog 27 #[.agg (encA x).toArray, .agg (encA y).toArray] w (fun e w' => e = .returned (.int .i64 (ordA x y)) ∧ Below w.heap.size w w') :=
  (order_any x y w).mono fun e w' h => ⟨h.1, by obtain ⟨q, os, rfl⟩ := h.2; exact below_grow w q os⟩
/-- The account at k may be, by itself and behind the one ahead of it. -/
def okAt (l : List Ac) (k : Nat) : Prop := mayA l[k]! = true ∧ (0 < k → ordA l[k - 1]! l[k]! < 0)
def FitTo (l : List Ac) (n : Nat) : Prop := ∀ j, j < n → okAt l j
def FitA (l : List Ac) : Prop := FitTo l l.length
open Classical in
noncomputable def checkA (l : List Ac) : Int := if FitA l then 0 else 110
theorem fit_next {l : List Ac} {k : Nat} (h : FitTo l k) (hk : okAt l k) : FitTo l (k + 1) := fun j hj => by
  by_cases e : j = k
  · subst e; exact hk
  · exact h j (by omega)
theorem check_no {l : List Ac} {k : Nat} (hk : k < l.length) (h : ¬ okAt l k) : checkA l = 110 := by
  unfold checkA; rw [if_neg (fun f => h (f k hk))]
theorem check_yes {l : List Ac} (h : FitTo l l.length) : checkA l = 0 := by
  unfold checkA; rw [if_pos (show FitA l from h)]
theorem put_new (W : World) (x : Ac) : (Instr.storeAt 35 (.pointer (some ⟨W.heap.size, 0, none⟩)) (.agg (encA x).toArray)).run Try.prog (W.alloc (.cells #[.string ⟨#[]⟩, .string ⟨#[]⟩, .int .i64 0, .int .i64 0] 35)) = .ok () (W.alloc (.cells (encA x).toArray 35)) :=
  run_storeAt_new W 35 #[.string ⟨#[]⟩, .string ⟨#[]⟩, .int .i64 0, .int .i64 0] (encA x).toArray (by simpa [encA] using size_ac) rfl (by simp [encA, Value.oneCell'])
theorem four {w : World} {b o : Nat} {x : Ac} (h : w.rangeAt b o (encA x)) : w.cell? ⟨b, o, none⟩ = some (strV x.who) ∧ w.cell? ⟨b, o + 1, none⟩ = some (strV x.asset) ∧ w.cell? ⟨b, o + 2, none⟩ = some (.int .i64 x.bal) ∧ w.cell? ⟨b, o + 3, none⟩ = some (.int .i64 x.held) := ⟨h 0 _ rfl, h 1 _ rfl, h 2 _ rfl, h 3 _ rfl⟩
set_option maxRecDepth 100000 in
set_option maxHeartbeats 2000000 in
theorem check_any {A : Option Addr} {n c : Nat} {l : List Ac} {w : World} (h : AAt w A n c l) (hn : n ≤ 1000000000) (hs : ∀ x ∈ l, x.who.length ≤ 200000000000000 ∧ x.asset.length ≤ 200000000000000) : Calls Try.prog 12 #[.slice A n c] w (fun e w' => e = .returned (.int .i64 (checkA l)) ∧ Below w.heap.size w w') := by
  have HL := Lib.hid h.len
  have HR := Lib.hid h.row
  have HS := Lib.hid hs
  have CY := Lib.hid (@check_yes l)
  have CN := Lib.hid (fun k => @check_no l k)
  generalize checkA l = res at *
  clear h hs
  go_enter Try.func12, Try.ntmps12
  go_wp2_with fail
  go_loopw [7] (fun i wr => ∃ k : Nat, i = .int .i64 (k : Int) ∧ k ≤ n ∧ Hid (Below w.heap.size w wr ∧ FitTo l k)) (fun i _ => n - (intOf i).toNat)
  case atStart => exact ⟨0, rfl, Nat.zero_le _, Lib.hid ⟨Below.refl _ _, fun j h => absurd h (Nat.not_lt_zero _)⟩⟩
  case round =>
    obtain ⟨k, rfl, hk, HB⟩ := hrel
    by_cases hlt : k < n
    · have hkl : k < l.length := by rw [HL.out]; exact hlt
      have hwr : IntKind.i64.wrap ((k : Int) + 1) = (k : Int) + 1 := IntWalk.i64_in _ (by omega)
      have t1 : (k : Int) < (n : Int) := by omega
      have t2 : (0 : Int) ≤ (k : Int) := by omega
      obtain ⟨b, off, rfl, hbl, hc⟩ := HR.out (by intro e; rw [e] at hkl; simp at hkl)
      have L := Lib.hid (load_ac (range_below (hc k hkl) HB.out.1 hbl))
      have hm := HS.out l[k] (List.getElem_mem hkl)
      have cM : Hid (∀ W, Calls Try.prog 26 #[.agg (encA l[k]).toArray] W (fun e w' => e = .returned (.bool (mayA l[k])) ∧ ∃ q os, w' = grow (W.drewN q) os)) := Lib.hid (fun W => may_any l[k] W hm.1 hm.2)
      have P1 := Lib.hid (put_new wr l[k])
      have b2 := below_box wr (.cells (encA l[k]).toArray 35)
      have a2 := at_new wr (encA l[k]).toArray 35
      have e1 : l[k]! = l[k] := getElem!_pos l k hkl
      obtain ⟨W2, hW2⟩ : ∃ W2, wr.alloc (.cells (encA l[k]).toArray 35) = W2 := ⟨_, rfl⟩
      rw [hW2] at P1 b2 a2
      have BW := Lib.hid (HB.out.1.trans (b2.mono HB.out.1.size))
      have lk0 : ∀ (q : Nat) (os : Array Obj), (grow (W2.drewN q) os).cell? ⟨wr.heap.size, 0, none⟩ = some (strV l[k].who) := fun q os => (a2.below (below_grow W2 q os) a2.1).2.2 0 _ rfl
      have lk1 : ∀ (q : Nat) (os : Array Obj), (grow (W2.drewN q) os).cell? ⟨wr.heap.size, 1, none⟩ = some (strV l[k].asset) := fun q os => (a2.below (below_grow W2 q os) a2.1).2.2 1 _ rfl
      have lk2 : ∀ (q : Nat) (os : Array Obj), (grow (W2.drewN q) os).cell? ⟨wr.heap.size, 2, none⟩ = some (.int .i64 l[k].bal) := fun q os => (a2.below (below_grow W2 q os) a2.1).2.2 2 _ rfl
      have lk3 : ∀ (q : Nat) (os : Array Obj), (grow (W2.drewN q) os).cell? ⟨wr.heap.size, 3, none⟩ = some (.int .i64 l[k].held) := fun q os => (a2.below (below_grow W2 q os) a2.1).2.2 3 _ rfl
      have hmix : Try.prog.follows .mixedOrders = true := by kernel_rfl
      have hbl2 := Nat.lt_of_lt_of_le hbl HB.out.1.size
      by_cases hmay : mayA l[k] = true
      · simp only [hmay] at cM
        rcases k with _ | j
        · have NX := Lib.hid (fit_next HB.out.2 ⟨by rw [e1]; exact hmay, fun h => absurd h (Nat.lt_irrefl 0)⟩)
          clear hmay HB e1 hbl hc b2 a2 hW2 hm
          unfold encA at *
          generalize strV l[0].who = v1 at *
          generalize strV l[0].asset = v2 at *
          generalize Value.int .i64 l[0].bal = v3 at *
          generalize Value.int .i64 l[0].held = v4 at *
          go_wp2_with (first
            | ((with_reducible refine wpList_load_eq rfl 35 (.tmp 10) rfl _ ?_ L.out ?_); (next => rfl))
            | ((with_reducible refine wpList_store_eq rfl 35 (.tmp 4) (.tmp 11) rfl _ _ ?_ ?_ P1.out ?_); (next => rfl); (next => rfl)))
          refine wp_region_quiet_grown (by assumption) (by kernel_rfl) ?_
          iterate 17
            have hz : True := trivial
            clear hz
            refine wpQuiet_step ?_
            intro K hK
            have hz : True := trivial
            clear hz
            go_simp
            have hz : True := trivial
            clear hz
            first
              | (refine hK _ ?_; clear hK K)
              | (apply Exists.intro; refine ⟨fun _ => ?_, hK _ ?_⟩; (go_at_call 26); (with_reducible refine Calls.grown_of (cM.out _)); clear hK K)
              | (apply Exists.intro; refine ⟨fun _ => ?_, hK _ ?_⟩; (go_at_call 27); (with_reducible refine Calls.grown_of (cO.out _)); clear hK K)
          refine wpQuiet_nil ?_
          rintro _ ⟨⟨nq, osq⟩, rfl⟩
          go_wp2_with fail
          have NB := Lib.hid (And.intro (BW.out.trans ((below_grow W2 nq osq).mono BW.out.size)) NX.out)
          go_roundw
          case rel => exact ⟨0 + 1, by go_num, by omega, NB⟩
          case measure => simp [intOf]; omega
        · have hjl : j < l.length := by omega
          have e2 : l[j]! = l[j] := getElem!_pos l j hjl
          have cO := Lib.hid (fun W => order_any l[j] l[j + 1] W)
          have hr : ∀ (q : Nat) (os : Array Obj), (grow (W2.drewN q) os).rangeAt b (off + j * 4) (encA l[j]) := fun q os => range_below (hc j hjl) (HB.out.1.trans ((b2.trans ((below_grow W2 q os).mono b2.size)).mono HB.out.1.size)) hbl
          have lj0 : ∀ (q : Nat) (os : Array Obj), (grow (W2.drewN q) os).cell? ⟨b, off + j * 4, none⟩ = some (strV l[j].who) := fun q os => (four (hr q os)).1
          have lj1 : ∀ (q : Nat) (os : Array Obj), (grow (W2.drewN q) os).cell? ⟨b, off + j * 4 + 1, none⟩ = some (strV l[j].asset) := fun q os => (four (hr q os)).2.1
          have lj2 : ∀ (q : Nat) (os : Array Obj), (grow (W2.drewN q) os).cell? ⟨b, off + j * 4 + 2, none⟩ = some (.int .i64 l[j].bal) := fun q os => (four (hr q os)).2.2.1
          have lj3 : ∀ (q : Nat) (os : Array Obj), (grow (W2.drewN q) os).cell? ⟨b, off + j * 4 + 3, none⟩ = some (.int .i64 l[j].held) := fun q os => (four (hr q os)).2.2.2
          clear hr
          have u0 : ((j + 1 : Nat) : Int) = (j : Int) + 1 := by omega
          rw [u0] at *
          have u1 : (j : Int) < (n : Int) := by omega
          have u2 : (0 : Int) ≤ (j : Int) := by omega
          have u3 : (0 : Int) < (j : Int) + 1 := by omega
          have u4 : ((j : Int) + 1).toNat = j + 1 := by omega
          have hwp : IntKind.i64.wrap (j : Int) = (j : Int) := by rw [IntKind.wrap_i64]; omega
          by_cases hord : ordA l[j] l[j + 1] < 0
          · have NX := Lib.hid (fit_next HB.out.2 ⟨by rw [e1]; exact hmay, fun _ => by rw [Nat.add_sub_cancel, e1, e2]; exact hord⟩)
            have d1 : ¬ 0 ≤ ordA l[j] l[j + 1] := by omega
            generalize ordA l[j] l[j + 1] = oo at *
            clear hmay HB e1 e2 hbl hc b2 a2 hW2 hm u0
            unfold encA at *
            generalize strV l[j + 1].who = v1 at *
            generalize strV l[j + 1].asset = v2 at *
            generalize Value.int .i64 l[j + 1].bal = v3 at *
            generalize Value.int .i64 l[j + 1].held = v4 at *
            generalize strV l[j].who = v5 at *
            generalize strV l[j].asset = v6 at *
            generalize Value.int .i64 l[j].bal = v7 at *
            generalize Value.int .i64 l[j].held = v8 at *
            go_wp2_with (first
              | ((with_reducible refine wpList_load_eq rfl 35 (.tmp 10) rfl _ ?_ L.out ?_); (next => rfl))
              | ((with_reducible refine wpList_store_eq rfl 35 (.tmp 4) (.tmp 11) rfl _ _ ?_ ?_ P1.out ?_); (next => rfl); (next => rfl)))
            refine wp_region_quiet_grown (by assumption) (by kernel_rfl) ?_
            iterate 17
              have hz : True := trivial
              clear hz
              refine wpQuiet_step ?_
              intro K hK
              have hz : True := trivial
              clear hz
              go_simp
              have hz : True := trivial
              clear hz
              first
                | (refine hK _ ?_; clear hK K)
                | (apply Exists.intro; refine ⟨fun _ => ?_, hK _ ?_⟩; (go_at_call 26); (with_reducible refine Calls.grown_of (cM.out _)); clear hK K)
                | (apply Exists.intro; refine ⟨fun _ => ?_, hK _ ?_⟩; (go_at_call 27); (with_reducible refine Calls.grown_of (cO.out _)); clear hK K)
            refine wpQuiet_nil ?_
            rintro _ ⟨⟨nq, osq⟩, rfl⟩
            go_wp2_with fail
            have NB := Lib.hid (And.intro (BW.out.trans ((below_grow W2 nq osq).mono BW.out.size)) NX.out)
            go_roundw
            case rel => exact ⟨j + 1 + 1, by go_num, by omega, NB⟩
            case measure => simp [intOf]; omega
          · have NO := Lib.hid (CN.out (j + 1) hkl (fun ok => hord (by have := ok.2 (by omega); rw [Nat.add_sub_cancel, e1, e2] at this; exact this)))
            have d1 : 0 ≤ ordA l[j] l[j + 1] := by omega
            generalize ordA l[j] l[j + 1] = oo at *
            clear hmay HB e1 e2 hbl hc b2 a2 hW2 hm u0
            unfold encA at *
            generalize strV l[j + 1].who = v1 at *
            generalize strV l[j + 1].asset = v2 at *
            generalize Value.int .i64 l[j + 1].bal = v3 at *
            generalize Value.int .i64 l[j + 1].held = v4 at *
            generalize strV l[j].who = v5 at *
            generalize strV l[j].asset = v6 at *
            generalize Value.int .i64 l[j].bal = v7 at *
            generalize Value.int .i64 l[j].held = v8 at *
            go_wp2_with (first
              | ((with_reducible refine wpList_load_eq rfl 35 (.tmp 10) rfl _ ?_ L.out ?_); (next => rfl))
              | ((with_reducible refine wpList_store_eq rfl 35 (.tmp 4) (.tmp 11) rfl _ _ ?_ ?_ P1.out ?_); (next => rfl); (next => rfl)))
            refine wp_region_quiet_grown (by assumption) (by kernel_rfl) ?_
            iterate 17
              have hz : True := trivial
              clear hz
              refine wpQuiet_step ?_
              intro K hK
              have hz : True := trivial
              clear hz
              go_simp
              have hz : True := trivial
              clear hz
              first
                | (refine hK _ ?_; clear hK K)
                | (apply Exists.intro; refine ⟨fun _ => ?_, hK _ ?_⟩; (go_at_call 26); (with_reducible refine Calls.grown_of (cM.out _)); clear hK K)
                | (apply Exists.intro; refine ⟨fun _ => ?_, hK _ ?_⟩; (go_at_call 27); (with_reducible refine Calls.grown_of (cO.out _)); clear hK K)
            refine wpQuiet_nil ?_
            rintro _ ⟨⟨nq, osq⟩, rfl⟩
            go_wp2_with fail
            go_ret
            exact ⟨by rw [NO.out]; rfl, BW.out.trans ((below_grow W2 nq osq).mono BW.out.size)⟩
      · have NO := Lib.hid (CN.out k hkl (fun ok => hmay (by rw [← e1]; exact ok.1)))
        simp only [hmay] at cM
        clear hmay HB e1 hbl hc b2 a2 hW2 hm
        unfold encA at *
        generalize strV l[k].who = v1 at *
        generalize strV l[k].asset = v2 at *
        generalize Value.int .i64 l[k].bal = v3 at *
        generalize Value.int .i64 l[k].held = v4 at *
        go_wp2_with (first
          | ((with_reducible refine wpList_load_eq rfl 35 (.tmp 10) rfl _ ?_ L.out ?_); (next => rfl))
          | ((with_reducible refine wpList_store_eq rfl 35 (.tmp 4) (.tmp 11) rfl _ _ ?_ ?_ P1.out ?_); (next => rfl); (next => rfl)))
        refine wp_region_quiet_grown (by assumption) (by kernel_rfl) ?_
        iterate 17
          have hz : True := trivial
          clear hz
          refine wpQuiet_step ?_
          intro K hK
          have hz : True := trivial
          clear hz
          go_simp
          have hz : True := trivial
          clear hz
          first
            | (refine hK _ ?_; clear hK K)
            | (apply Exists.intro; refine ⟨fun _ => ?_, hK _ ?_⟩; (go_at_call 26); (with_reducible refine Calls.grown_of (cM.out _)); clear hK K)
            | (apply Exists.intro; refine ⟨fun _ => ?_, hK _ ?_⟩; (go_at_call 27); (with_reducible refine Calls.grown_of (cO.out _)); clear hK K)
        refine wpQuiet_nil ?_
        rintro _ ⟨⟨nq, osq⟩, rfl⟩
        go_wp2_with fail
        go_ret
        exact ⟨by rw [NO.out]; rfl, BW.out.trans ((below_grow W2 nq osq).mono BW.out.size)⟩
    · obtain rfl : k = n := by omega
      have FIN := Lib.hid (show res = 0 ∧ Below w.heap.size w wr from ⟨CY.out (by rw [HL.out]; exact HB.out.2), HB.out.1⟩)
      clear HB
      go_wp2_with fail
      go_ret
      exact ⟨by rw [FIN.out.1]; rfl, FIN.out.2⟩
end Go.Proofs.Ytobpbbldgbgcdaa.Acc
