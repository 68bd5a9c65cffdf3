/-
  The document's own Market, Check, Need.
-/
import Derived.Test.YtcendcegmhliaaaONeed
import Derived.Test.YtcendcegmhliaaaARefName
namespace Go.Proofs.Ytcendcegmhliaaa.Ord
open Go.RowKit Go.Sort _root_.Go.Proofs.Ytcendcegmhliaaa.Gnd

theorem rasset_bs (s : Bs) (w : World) (hs : s.length ≤ 1000) : Calls Try.prog 27 #[strV s] w (fun e w' => e = .returned (.bool (assetB s)) ∧ w = w') := by
  have := Label.ref_asset (strB s) w (by rw [strB_size]; omega)
  rwa [strB_data] at this
theorem rwho_bs (s : Bs) (w : World) (hs : s.length ≤ 1000) : Calls Try.prog 31 #[strV s] w (fun e w' => e = .returned (.bool (Label.whoS s)) ∧ w = w') := by
  have := Label.ref_who (strB s) w (by rw [strB_size]; omega)
  rwa [strB_data] at this
/-- A text with a dash is no asset's name. -/
theorem asset_nodash {s : Bs} (h : assetB s = true) : ∀ k (hk : k < s.length), s[k] ≠ 45 := fun k hk e => by
  unfold assetB Label.madeB at h
  rw [Bool.and_eq_true] at h
  have := List.all_eq_true.1 h.2 s[k] (List.getElem_mem hk)
  rw [e] at this
  exact absurd this (by decide)
/-- At a dash, both names are told: then it is the first one. -/
theorem dash_first {s : Bs} {k : Nat} (hk : k < s.length) (h : s[k] = 45) (ha : assetB (s.take k) = true) : dash s = (k : Int) := by
  rcases dash_cases s with ⟨h1, _, _⟩ | ⟨i, h1, hi, _, _⟩
  · have := Go.Lib.indexByte_none (show Go.Lib.indexByte s 45 = -1 from h1) k
    rw [List.getElem?_eq_getElem hk, h] at this
    exact absurd rfl this
  · obtain ⟨g1, g2⟩ := Go.Lib.indexByte_some (show Go.Lib.indexByte s 45 = (i : Int) from h1)
    have hle : i ≤ k := Nat.le_of_not_lt (fun g => by
      have := g2 k g
      rw [List.getElem?_eq_getElem hk, h] at this
      exact this rfl)
    rcases Nat.eq_or_lt_of_le hle with e | g
    · rw [h1, e]
    · have h3 := asset_nodash ha i (by rw [List.length_take]; omega)
      rw [List.getElem_take] at h3
      rw [List.getElem?_eq_getElem hi] at g1
      exact absurd (Option.some.inj g1) h3
theorem ok_at {s : Bs} {k : Nat} (hk : k < s.length) (h : s[k] = 45) (ha : assetB (s.take k) = true) : cutA s = s.take k ∧ cutC s = s.drop (k + 1) := by
  have hd := dash_first hk h ha
  rcases dash_cases s with ⟨h1, _, _⟩ | ⟨i, h1, _, h3, h4⟩
  · omega
  · obtain rfl : i = k := by omega
    exact ⟨h3, h4⟩
theorem ok_no {s : Bs} (h : ∀ k (hk : k < s.length), s[k] = 45 → (assetB (s.take k) && assetB (s.drop (k + 1)) && !(s.take k == s.drop (k + 1))) = false) : okM s = false := by
  unfold okM
  rcases dash_cases s with ⟨_, _, h3⟩ | ⟨i, h1, hi, h3, h4⟩
  · rw [h3, show assetB [] = false from rfl, Bool.and_false, Bool.false_and]
  · rw [h3, h4]
    obtain ⟨g1, _⟩ := Go.Lib.indexByte_some (show Go.Lib.indexByte s 45 = (i : Int) from h1)
    rw [List.getElem?_eq_getElem hi] at g1
    exact h i hi (Option.some.inj g1)
theorem ok_yes {s : Bs} {k : Nat} (hk : k < s.length) (h : s[k] = 45) (ha : (assetB (s.take k) && assetB (s.drop (k + 1)) && !(s.take k == s.drop (k + 1))) = true) : okM s = true ∧ cutA s = s.take k ∧ cutC s = s.drop (k + 1) := by
  have h1 : assetB (s.take k) = true := by
    rw [Bool.and_eq_true, Bool.and_eq_true] at ha
    exact ha.1.1
  obtain ⟨e1, e2⟩ := ok_at hk h h1
  refine ⟨?_, e1, e2⟩
  unfold okM
  rw [e1, e2]; exact ha
theorem get_of {s : Bs} {X : ByteArray} (hX : strB s = X) (k : Nat) (hk : k < X.size) (h2 : k < s.length) : X[k]'hk = s[k]'h2 := by subst hX; rfl
set_option maxRecDepth 100000 in
set_option maxHeartbeats 4000000 in
theorem rmarket_any (s : Bs) (w : World) (hs : s.length ≤ 100) : Calls Try.prog 12 #[strV s] w (mktE s w) := by
  have hA := fun k W => rasset_bs (s.take k) W (by rw [List.length_take]; omega)
  have hC := fun k W => rasset_bs (s.drop k) W (by rw [List.length_drop]; omega)
  have hz := strB_size s
  have YES := Lib.hid (show okM s = true → ∀ q, mktE s w (.returned (.tuple #[strV (cutA s), strV (cutC s), .int .i64 0])) (w.drewN q) from fun h q => ⟨by rw [h]; rfl, q, rfl⟩)
  have NO := Lib.hid (show okM s = false → ∀ q, mktE s w (.returned (.tuple #[.string ⟨#[]⟩, .string ⟨#[]⟩, .int .i64 1])) (w.drewN q) from fun h q => ⟨by rw [h]; rfl, q, rfl⟩)
  obtain ⟨E, hE⟩ : ∃ E, mktE s w = E := ⟨_, rfl⟩
  rw [hE] at YES NO ⊢
  have EH := Lib.hid (fun i => ex_head s i)
  have ET := Lib.hid (fun i => ex_tail s i)
  have HZ := Lib.hid hz
  have HS := Lib.hid hs
  unfold strV at *
  obtain ⟨X, hX⟩ : ∃ X, strB s = X := ⟨_, rfl⟩
  have hz' : X.size = s.length := by rw [← hX]; exact hz
  rw [hX] at EH ET ⊢
  have GET := Lib.hid (get_of hX)
  have HZX := Lib.hid hz'
  clear hE hz HZ hz' hs hX
  go_enter Try.func12, Try.ntmps12
  go_wp2_with fail
  go_loopw [5] (fun i wr => ∃ k : Nat, i = .int .i64 (k : Int) ∧ k ≤ X.size ∧ Hid (∃ q, wr = w.drewN q) ∧ Hid (∀ j (hj : j < s.length), j < k → s[j] = 45 → (assetB (s.take j) && assetB (s.drop (j + 1)) && !(s.take j == s.drop (j + 1))) = false)) (fun i _ => X.size - (intOf i).toNat)
  case atStart => exact ⟨0, rfl, Nat.zero_le _, Lib.hid ⟨0, rfl⟩, Lib.hid (fun j _ h => absurd h (Nat.not_lt_zero _))⟩
  case round =>
    obtain ⟨k, rfl, hk, HQ, HP⟩ := hrel
    by_cases hlt : k < X.size
    · have hkl : k < s.length := by rw [← HZX.out]; exact hlt
      have hx100 : X.size ≤ 100 := by rw [HZX.out]; exact HS.out
      have hwr : IntKind.i64.wrap ((k : Int) + 1) = (k : Int) + 1 := IntWalk.i64_in _ (by omega)
      have t1 : (k : Int) < (X.size : Int) := by omega
      have t2 : (0 : Int) ≤ (k : Int) := by omega
      have hg : X[k] = s[k] := GET.out k hlt hkl
      have NX := Lib.hid (show (s[k] = 45 → (assetB (s.take k) && assetB (s.drop (k + 1)) && !(s.take k == s.drop (k + 1))) = false) → ∀ j (hj : j < s.length), j < k + 1 → s[j] = 45 → (assetB (s.take j) && assetB (s.drop (j + 1)) && !(s.take j == s.drop (j + 1))) = false from fun h j hj hjk => by
        by_cases q : j = k
        · subst q; exact h
        · exact HP.out j hj (by omega))
      obtain ⟨q, rfl⟩ := HQ.out
      by_cases h45 : s[k] = 45
      · have c1 : ((X[k].toNat : Int) != 45) = false := by rw [hg, h45]; decide
        have hAk := hA k
        have hCk := hC (k + 1)
        have OK := Lib.hid (fun h => ok_yes hkl h45 h)
        have hq : ((strB (s.take k)).toList == (strB (s.drop (k + 1))).toList) = (s.take k == s.drop (k + 1)) := by rw [strB_list, strB_list]
        have e1 := EH.out k
        have e2 := ET.out (k + 1)
        have c2 : (k : Int) ≤ (X.size : Int) := by omega
        have c3 : (0 : Int) ≤ (k : Int) + 1 := by omega
        have c4 : (k : Int) + 1 ≤ (X.size : Int) := by omega
        have YS := Lib.hid (show (assetB (s.take k) && assetB (s.drop (k + 1)) && !(s.take k == s.drop (k + 1))) = true → ∀ q, E (.returned (.tuple #[.string (strB (s.take k)), .string (strB (s.drop (k + 1))), .int .i64 0])) (w.drewN q) from fun h q => by
          obtain ⟨g1, g2, g3⟩ := OK.out h
          have := YES.out g1 q
          rw [g2, g3] at this
          exact this)
        have NX2 := Lib.hid (fun h => NX.out (fun _ => h))
        generalize strB (s.take k) = Y1 at *
        generalize strB (s.drop (k + 1)) = Y2 at *
        generalize assetB (s.take k) = ra at *
        generalize assetB (s.drop (k + 1)) = rb at *
        generalize (s.take k == s.drop (k + 1)) = re at *
        have hA1 := hAk (w.drewN q)
        have hC1 := hCk (w.drewN q)
        clear HP HQ NX hA hC EH ET hg hkl h45 OK YES NO hAk hCk GET
        rcases ra with _ | _
        · have NY := Lib.hid (NX2.out (by rfl))
          clear NX2 YS
          go_wp2_with (go_at_call 27; first | ((with_reducible refine hA1.mono ?_); rintro e w' ⟨rfl, rfl⟩) | ((with_reducible refine hC1.mono ?_); rintro e w' ⟨rfl, rfl⟩))
          go_quiet (fail)
          go_wp2_with fail
          go_roundw
          case rel => exact ⟨k + 1, by go_num, by omega, Lib.hid ⟨_, by first | rfl | exact World.drewN_drewN⟩, NY⟩
          case measure => simp [intOf]; omega
        rcases rb with _ | _
        · have NY := Lib.hid (NX2.out (by rfl))
          clear NX2 YS
          go_wp2_with (go_at_call 27; first | ((with_reducible refine hA1.mono ?_); rintro e w' ⟨rfl, rfl⟩) | ((with_reducible refine hC1.mono ?_); rintro e w' ⟨rfl, rfl⟩))
          go_quiet (fail)
          go_wp2_with fail
          go_roundw
          case rel => exact ⟨k + 1, by go_num, by omega, Lib.hid ⟨_, by first | rfl | exact World.drewN_drewN⟩, NY⟩
          case measure => simp [intOf]; omega
        rcases re with _ | _
        · have YT := Lib.hid (YS.out (by rfl))
          clear NX2 YS
          go_wp2_with (go_at_call 27; first | ((with_reducible refine hA1.mono ?_); rintro e w' ⟨rfl, rfl⟩) | ((with_reducible refine hC1.mono ?_); rintro e w' ⟨rfl, rfl⟩))
          go_quiet (fail)
          go_wp2_with fail
          go_quiet (fail)
          go_wp2_with fail
          (try go_ret3)
          refine (show E (.returned (.tuple #[.string Y1, .string Y2, .int .i64 0])) _ from ?_)
          simp only [World.drewN_drewN]
          exact YT.out _
        · have NY := Lib.hid (NX2.out (by rfl))
          clear NX2 YS
          go_wp2_with (go_at_call 27; first | ((with_reducible refine hA1.mono ?_); rintro e w' ⟨rfl, rfl⟩) | ((with_reducible refine hC1.mono ?_); rintro e w' ⟨rfl, rfl⟩))
          go_quiet (fail)
          go_wp2_with fail
          go_roundw
          case rel => exact ⟨k + 1, by go_num, by omega, Lib.hid ⟨_, by first | rfl | exact World.drewN_drewN⟩, NY⟩
          case measure => simp [intOf]; omega
      · have c1 : ((X[k].toNat : Int) != 45) = true := by
          rw [hg]; simp only [bne_iff_ne, ne_eq]
          intro h
          exact h45 (UInt8.toNat_inj.1 (by have : s[k].toNat = 45 := by omega
                                           rw [this]; rfl))
        have NY := Lib.hid (NX.out (fun h => absurd h h45))
        clear HP HQ NX hA hC EH ET hg hkl h45 GET
        go_wp2_with fail
        go_roundw
        case rel => exact ⟨k + 1, by go_num, by omega, Lib.hid ⟨q, rfl⟩, NY⟩
        case measure => simp [intOf]; omega
    · obtain rfl : k = X.size := by omega
      have hno := ok_no (s := s) (fun j hj h => HP.out j hj (by rw [HZX.out]; exact hj) h)
      obtain ⟨q, rfl⟩ := HQ.out
      have F := Lib.hid (NO.out hno q)
      clear HP HQ hno
      go_wp2_with fail
      (try go_ret3)
      exact F.out
end Go.Proofs.Ytcendcegmhliaaa.Ord
