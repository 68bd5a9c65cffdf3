/-
  The document's own Check.
-/
import Derived.Test.YtobpbbldgbgcdaaBRSums
namespace Go.Proofs.Ytobpbbldgbgcdaa.Acc
open Go.RowKit Go.Sort

theorem may_no {x : Ac} (h : ¬ mayA x = true) : namedB x.who x.asset = false ∨ x.bal = 0 ∨ (x.who = worldB ∧ x.held ≠ 0) ∨ (x.who ≠ worldB ∧ (¬ 0 ≤ x.held ∨ ¬ x.held ≤ x.bal)) := by
  by_cases h1 : namedB x.who x.asset = true
  rotate_left
  · exact .inl (by simpa using h1)
  by_cases h2 : x.bal = 0
  · exact .inr (.inl h2)
  by_cases h3 : x.who = worldB
  · by_cases h4 : x.held = 0
    · refine absurd (may_parts.2 ⟨h1, h2, by omega, ?_, fun _ => h4⟩) h
      unfold shortA
      rw [h3]; rfl
    · exact .inr (.inr (.inl ⟨h3, h4⟩))
  · by_cases h4 : 0 ≤ x.held
    · by_cases h5 : x.held ≤ x.bal
      · refine absurd (may_parts.2 ⟨h1, h2, h4, ?_, fun e => absurd e h3⟩) h
        unfold shortA
        rw [decide_eq_false (by omega : ¬ x.bal < x.held)]
        simp
      · exact .inr (.inr (.inr ⟨h3, .inr h5⟩))
    · exact .inr (.inr (.inr ⟨h3, .inl h4⟩))
set_option maxRecDepth 100000 in
set_option maxHeartbeats 8000000 in
theorem rCheck_any {A : Option Addr} {n c : Nat} {l : List Ac} {w : World} (h : AAt w A n c l) (hn : n ≤ 1000000000) (hs : ∀ x ∈ l, x.who.length ≤ 1000 ∧ x.asset.length ≤ 1000) : Calls Try.prog 13 #[.slice A n c] w (fun e w' => e = .returned (.int .i64 (checkA l)) ∧ Below w.heap.size w w') := by
  have HL := Lib.hid h.len
  have HR := Lib.hid h.row
  have HS := Lib.hid hs
  have CY := Lib.hid (@check_yes l)
  have CN := Lib.hid (fun k => @check_no l k)
  generalize checkA l = res at *
  clear h hs
  go_enter Try.func13, Try.ntmps13
  go_wp2_with fail
  go_loopw [3] (fun i wr => ∃ k : Nat, i = .int .i64 (k : Int) ∧ k ≤ n ∧ Hid (Below w.heap.size w wr ∧ FitTo l k)) (fun i _ => n - (intOf i).toNat)
  case atStart => exact ⟨0, rfl, Nat.zero_le _, Lib.hid ⟨Below.refl _ _, fun j h => absurd h (Nat.not_lt_zero _)⟩⟩
  case round =>
    obtain ⟨k, rfl, hk, HB⟩ := hrel
    by_cases hlt : k < n
    · have hkl : k < l.length := by rw [HL.out]; exact hlt
      have hwr : IntKind.i64.wrap ((k : Int) + 1) = (k : Int) + 1 := IntWalk.i64_in _ (by omega)
      have t1 : (k : Int) < (n : Int) := by omega
      have t2 : (0 : Int) ≤ (k : Int) := by omega
      obtain ⟨b, off, rfl, hbl, hc⟩ := HR.out (by intro e; rw [e] at hkl; simp at hkl)
      have e1 : l[k]! = l[k] := getElem!_pos l k hkl
      have KB := Lib.hid (fun m => show m + 1 = k → ∃ hm : m < l.length, l[k - 1]! = l[m] from fun e => ⟨by omega, by rw [show k - 1 = m by omega]; exact getElem!_pos l m (by omega)⟩)
      have CK := Lib.hid (show ¬ (mayA l[k] = true ∧ (0 < k → ordA l[k - 1]! l[k] < 0)) → res = 110 from fun h => CN.out k hkl (fun ok => h ⟨by rw [← e1]; exact ok.1, fun h0 => by rw [← e1]; exact ok.2 h0⟩))
      have NK := Lib.hid (show mayA l[k] = true → (0 < k → ordA l[k - 1]! l[k] < 0) → FitTo l (k + 1) from fun h1 h2 => fit_next HB.out.2 ⟨by rw [e1]; exact h1, fun h0 => by rw [e1]; exact h2 h0⟩)
      have hm := HS.out l[k] (List.getElem_mem hkl)
      have LR := Lib.hid (fun m (hm : m < l.length) W (hb : Below w.heap.size w W) => four (range_below (hc m hm) hb hbl))
      have L := Lib.hid (load_ac (range_below (hc k hkl) HB.out.1 hbl))
      obtain ⟨x, hx⟩ : ∃ x, l[k] = x := ⟨_, rfl⟩
      rw [hx] at CK NK hm L
      have cN := Lib.hid (fun W => rNames_any x.who x.asset W hm.1 hm.2)
      have P1 := Lib.hid (put_new wr x)
      have b2 := below_box wr (.cells (encA x).toArray 35)
      have a2 := at_new wr (encA x).toArray 35
      obtain ⟨W2, hW2⟩ : ∃ W2, wr.alloc (.cells (encA x).toArray 35) = W2 := ⟨_, rfl⟩
      rw [hW2] at P1 b2 a2
      have BW := Lib.hid (HB.out.1.trans (b2.mono HB.out.1.size))
      have c0 : W2.cell? ⟨wr.heap.size, 0, none⟩ = some (strV x.who) := a2.2.2 0 _ rfl
      have c1 : W2.cell? ⟨wr.heap.size, 1, none⟩ = some (strV x.asset) := a2.2.2 1 _ rfl
      have c2 : W2.cell? ⟨wr.heap.size, 2, none⟩ = some (.int .i64 x.bal) := a2.2.2 2 _ rfl
      have c3 : W2.cell? ⟨wr.heap.size, 3, none⟩ = some (.int .i64 x.held) := a2.2.2 3 _ rfl
      have hW : ((strB x.who).toList == [119, 111, 114, 108, 100]) = (x.who == worldB) := by rw [strB_list]; rfl
      have cB := Lib.hid (fun (y : Ac) W => rBefore_any y.own x.own W)
      have MP := Lib.hid (@may_parts x)
      have MN := Lib.hid (@may_no x)
      have RB := Lib.hid (show ∀ q, Below w.heap.size w (W2.drewN q) from fun q => BW.out.trans ((drewN_below W2 q).mono BW.out.size))
      have OA := Lib.hid (fun (y : Ac) => show ordA y x < 0 ↔ ahead y.own x.own = true from ordA_neg)
      obtain ⟨C, hC⟩ : ∃ C, (encA x).toArray = C := ⟨_, rfl⟩
      rw [hC] at L P1
      clear HB hc hbl b2 a2 hW2 hx hC e1 hm CN
      by_cases hmay : mayA x = true
      · obtain ⟨m1, m2, m3, m4, m5⟩ := MP.out.1 hmay
        rw [m1] at cN
        have hz : (x.bal == 0) = false := beq_eq_false_iff_ne.2 m2
        have hg : x.who = worldB ∧ x.held = 0 ∨ x.who ≠ worldB ∧ x.held ≤ x.bal := by
          by_cases e : x.who = worldB
          · exact .inl ⟨e, m5 e⟩
          · refine .inr ⟨e, ?_⟩
            unfold shortA at m4
            rcases Bool.and_eq_false_iff.1 m4 with h3 | h3
            · exact absurd (by simpa using h3) e
            · have := of_decide_eq_false h3
              omega
        have K0 := Lib.hid (show k = 0 → FitTo l (k + 1) from fun e => NK.out hmay (fun h => by omega))
        have K1 := Lib.hid (show ∀ m (e : m + 1 = k) (hm : m < l.length), ahead l[m].own x.own = true → FitTo l (k + 1) from fun m e hm ha => NK.out hmay (fun _ => by rw [(KB.out m e).2]; exact (OA.out _).2 ha))
        have K2 := Lib.hid (show ∀ m (e : m + 1 = k) (hm : m < l.length), ahead l[m].own x.own = false → res = 110 from fun m e hm ha => CK.out (fun h => by
          have := h.2 (by omega)
          rw [(KB.out m e).2, OA.out, ha] at this
          cases this))
        clear MP MN m1 m2 m4 m5 hmay NK CK KB OA
        rcases hg with ⟨g1, g2⟩ | ⟨g1, g2⟩
        all_goals
          (first | rw [beq_iff_eq.2 g1] at hW | rw [beq_eq_false_iff_ne.2 g1] at hW)
          (try rw [g2] at c3)
          clear g1
          by_cases hk0 : k = 0
          · have NB := Lib.hid (K0.out hk0)
            have u3 : ¬ (0 : Int) < (k : Int) := by omega
            have u3d : decide ((0 : Int) < (k : Int)) = false := decide_eq_false u3
            have u3n : ¬ 0 < k := by omega
            have u3e : decide (0 < k) = false := decide_eq_false u3n
            unfold Ac.own at cB
            generalize x.bal = xb at *
            generalize x.held = xh at *
            unfold strV at *
            generalize strB x.who = X at *
            generalize strB x.asset = Y at *
            clear K0 K1 K2 LR hk0 cB
            go_wp2_with (first
              | ((with_reducible refine wpList_load_eq rfl 35 (.tmp 15) rfl _ ?_ L.out ?_); (next => rfl))
              | ((with_reducible refine wpList_store_eq rfl 35 (.tmp 4) (.tmp 16) rfl _ _ ?_ ?_ P1.out ?_); (next => rfl); (next => rfl))
              | (go_at_call 28; refine (cN.out _).mono ?_; rintro e w' ⟨rfl, rfl⟩))
            go_quiet (fail)
            go_wp2_with fail
            go_roundw
            case rel => exact ⟨k + 1, by go_num, by omega, Lib.hid ⟨RB.out _, NB.out⟩⟩
            case measure => simp [intOf]; omega
          · obtain ⟨m, hm⟩ : ∃ m, m + 1 = k := ⟨k - 1, by omega⟩
            have hml : m < l.length := by omega
            have u3 : (0 : Int) < (k : Int) := by omega
            have u3d : decide ((0 : Int) < (k : Int)) = true := decide_eq_true u3
            have u3n : 0 < k := by omega
            have u3e : decide (0 < k) = true := decide_eq_true u3n
            have hw1 : IntKind.i64.wrap ((k : Int) - 1) = (m : Int) := by rw [IntKind.wrap_i64]; omega
            have u4 : (m : Int) < (n : Int) := by omega
            have u5 : (0 : Int) ≤ (m : Int) := by omega
            obtain ⟨d0, d1, _, _⟩ := LR.out m hml W2 BW.out
            have cB1 := Lib.hid (cB.out l[m])
            have K1 := Lib.hid (K1.out m hm hml)
            have K2 := Lib.hid (K2.out m hm hml)
            rcases ha : ahead l[m].own x.own with _ | _
            all_goals
              rw [ha] at cB1 K1 K2
              (first | (have K3 := Lib.hid (K2.out rfl)) | (have K4 := Lib.hid (K1.out rfl)))
              unfold Ac.own at cB1
              generalize x.bal = xb at *
              generalize x.held = xh at *
              unfold strV at *
              dsimp only at cB1
              generalize strB x.who = X at *
              generalize strB x.asset = Y at *
              generalize strB l[m].who = X1 at *
              generalize strB l[m].asset = Y1 at *
              clear K0 K1 K2 LR hk0 cB hm ha
              go_wp2_with (first
                | ((with_reducible refine wpList_load_eq rfl 35 (.tmp 15) rfl _ ?_ L.out ?_); (next => rfl))
                | ((with_reducible refine wpList_store_eq rfl 35 (.tmp 4) (.tmp 16) rfl _ _ ?_ ?_ P1.out ?_); (next => rfl); (next => rfl))
                | (go_at_call 28; refine (cN.out _).mono ?_; rintro e w' ⟨rfl, rfl⟩))
              go_quiet ((go_at_call 29; refine Calls.quiet_of_same (cB1.out _)))
              go_wp2_with fail
            · go_ret
              exact ⟨by rw [K3.out]; rfl, RB.out _⟩
            · go_roundw
              case rel => exact ⟨k + 1, by go_num, by omega, Lib.hid ⟨RB.out _, K4.out⟩⟩
              case measure => simp [intOf]; omega
      · have hno := MN.out hmay
        have NO := Lib.hid (CK.out (fun h => hmay h.1))
        clear MP MN hmay NK CK KB OA LR cB
        by_cases h1 : namedB x.who x.asset = false
        · rw [h1] at cN
          clear hno h1
          rcases hww : (x.who == worldB) with _ | _ <;> by_cases g : 0 ≤ x.held
          all_goals
            rw [hww] at hW
            generalize x.bal = xb at *
            generalize x.held = xh at *
            unfold strV at *
            generalize strB x.who = X at *
            generalize strB x.asset = Y at *
            clear hww
            go_wp2_with (first
              | ((with_reducible refine wpList_load_eq rfl 35 (.tmp 15) rfl _ ?_ L.out ?_); (next => rfl))
              | ((with_reducible refine wpList_store_eq rfl 35 (.tmp 4) (.tmp 16) rfl _ _ ?_ ?_ P1.out ?_); (next => rfl); (next => rfl))
              | (go_at_call 28; refine (cN.out _).mono ?_; rintro e w' ⟨rfl, rfl⟩))
            go_quiet (fail)
            go_wp2_with fail
            go_ret
            exact ⟨by rw [NO.out]; rfl, RB.out _⟩
        · have h1' : namedB x.who x.asset = true := by simpa using h1
          have hno' := hno.resolve_left h1
          rw [h1'] at cN
          clear hno h1 h1'
          rcases hww : (x.who == worldB) with _ | _
          · have hwn : x.who ≠ worldB := by simpa using hww
            have hno2 : x.bal = 0 ∨ (¬ 0 ≤ x.held ∨ ¬ x.held ≤ x.bal) := by
              rcases hno' with h | h | h
              · exact .inl h
              · exact absurd h.1 hwn
              · exact .inr h.2
            rw [hww] at hW
            clear hno' hww hwn
            generalize x.bal = xb at *
            generalize x.held = xh at *
            unfold strV at *
            generalize strB x.who = X at *
            generalize strB x.asset = Y at *
            by_cases g1 : 0 ≤ xh
            · by_cases g2 : xh ≤ xb
              · obtain rfl : xb = 0 := by omega
                clear hno2
                go_wp2_with (first
                  | ((with_reducible refine wpList_load_eq rfl 35 (.tmp 15) rfl _ ?_ L.out ?_); (next => rfl))
                  | ((with_reducible refine wpList_store_eq rfl 35 (.tmp 4) (.tmp 16) rfl _ _ ?_ ?_ P1.out ?_); (next => rfl); (next => rfl))
                  | (go_at_call 28; refine (cN.out _).mono ?_; rintro e w' ⟨rfl, rfl⟩))
                go_quiet (fail)
                go_wp2_with fail
                go_ret
                exact ⟨by rw [NO.out]; rfl, RB.out _⟩
              · clear hno2
                have g2d : decide (xh ≤ xb) = false := decide_eq_false g2
                have g2e : xb < xh := by omega
                go_wp2_with (first
                  | ((with_reducible refine wpList_load_eq rfl 35 (.tmp 15) rfl _ ?_ L.out ?_); (next => rfl))
                  | ((with_reducible refine wpList_store_eq rfl 35 (.tmp 4) (.tmp 16) rfl _ _ ?_ ?_ P1.out ?_); (next => rfl); (next => rfl))
                  | (go_at_call 28; refine (cN.out _).mono ?_; rintro e w' ⟨rfl, rfl⟩))
                go_quiet (fail)
                go_wp2_with fail
                go_ret
                exact ⟨by rw [NO.out]; rfl, RB.out _⟩
            · clear hno2
              go_wp2_with (first
                | ((with_reducible refine wpList_load_eq rfl 35 (.tmp 15) rfl _ ?_ L.out ?_); (next => rfl))
                | ((with_reducible refine wpList_store_eq rfl 35 (.tmp 4) (.tmp 16) rfl _ _ ?_ ?_ P1.out ?_); (next => rfl); (next => rfl))
                | (go_at_call 28; refine (cN.out _).mono ?_; rintro e w' ⟨rfl, rfl⟩))
              go_quiet (fail)
              go_wp2_with fail
              go_ret
              exact ⟨by rw [NO.out]; rfl, RB.out _⟩
          · have hwn : x.who = worldB := by simpa using hww
            have hno2 : x.bal = 0 ∨ x.held ≠ 0 := by
              rcases hno' with h | h | h
              · exact .inl h
              · exact .inr h.2
              · exact absurd hwn h.1
            rw [hww] at hW
            clear hno' hww hwn
            generalize x.bal = xb at *
            generalize x.held = xh at *
            unfold strV at *
            generalize strB x.who = X at *
            generalize strB x.asset = Y at *
            by_cases g1 : xh = 0
            · obtain rfl : xb = 0 := hno2.resolve_right (fun h => h g1)
              subst g1
              clear hno2
              go_wp2_with (first
                | ((with_reducible refine wpList_load_eq rfl 35 (.tmp 15) rfl _ ?_ L.out ?_); (next => rfl))
                | ((with_reducible refine wpList_store_eq rfl 35 (.tmp 4) (.tmp 16) rfl _ _ ?_ ?_ P1.out ?_); (next => rfl); (next => rfl))
                | (go_at_call 28; refine (cN.out _).mono ?_; rintro e w' ⟨rfl, rfl⟩))
              go_quiet (fail)
              go_wp2_with fail
              go_ret
              exact ⟨by rw [NO.out]; rfl, RB.out _⟩
            · have g2 : (xh == 0) = false := beq_eq_false_iff_ne.2 g1
              clear hno2 g1
              by_cases g : 0 ≤ xh
              all_goals
                go_wp2_with (first
                  | ((with_reducible refine wpList_load_eq rfl 35 (.tmp 15) rfl _ ?_ L.out ?_); (next => rfl))
                  | ((with_reducible refine wpList_store_eq rfl 35 (.tmp 4) (.tmp 16) rfl _ _ ?_ ?_ P1.out ?_); (next => rfl); (next => rfl))
                  | (go_at_call 28; refine (cN.out _).mono ?_; rintro e w' ⟨rfl, rfl⟩))
                go_quiet (fail)
                go_wp2_with fail
                go_ret
                exact ⟨by rw [NO.out]; rfl, RB.out _⟩
    · obtain rfl : k = n := by omega
      have R0 := Lib.hid (CY.out (by rw [HL.out]; exact HB.out.2))
      have B1 := Lib.hid HB.out.1
      clear HB
      go_wp2_with fail
      go_ret
      exact ⟨by rw [R0.out]; rfl, B1.out⟩
end Go.Proofs.Ytobpbbldgbgcdaa.Acc
