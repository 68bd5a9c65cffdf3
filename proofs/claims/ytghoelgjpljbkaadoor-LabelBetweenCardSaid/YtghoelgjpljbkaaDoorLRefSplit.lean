/-
  The contracts of the reference's Same and Split.
-/
import Derived.Test.YtghoelgjpljbkaaDoorLRefKey
namespace Go.Proofs.YtghoelgjpljbkaaDoor.Label
open Go.RowKit Gen

theorem txt_eq {l l' : List ByteArray} : txt l = txt l' ↔ l = l' := by
  constructor
  · intro h
    have hi : Function.Injective (fun b : ByteArray => b.data.toList) := fun a b e => ByteArray.ext (Array.toList_inj.1 e)
    exact List.map_inj_right (fun a b e => hi e) |>.1 h
  · intro h; rw [h]

set_option maxHeartbeats 1000000 in
theorem same_any (A A' : Option Addr) (n n' c c' : Nat) (l l' : List ByteArray) (w : World) (hl : l.length = n) (hl' : l'.length = n') (hc : n ≤ 9223372036854775807) (hc' : n' ≤ 9223372036854775807) (hR : SRow w A l) (hR' : SRow w A' l') :
    Calls Tryd.prog 26 #[.slice A n c, .slice A' n' c'] w fun e w' => e = .returned (.bool (decide (txt l = txt l'))) ∧ Below w.heap.size w w' := by
  by_cases hn : n = n'
  · subst hn
    have hcell : ∀ k, k < n → ∃ b off b' off' , A = some ⟨b, off, none⟩ ∧ A' = some ⟨b', off', none⟩ := fun k hk => by
      obtain ⟨b, off, e, _⟩ := hR (by intro e; rw [e] at hl; simp at hl; omega)
      obtain ⟨b', off', e', _⟩ := hR' (by intro e; rw [e] at hl'; simp at hl'; omega)
      exact ⟨b, off, b', off', e, e'⟩
    by_cases hz : n = 0
    · subst hz
      obtain rfl := List.eq_nil_of_length_eq_zero hl
      obtain rfl := List.eq_nil_of_length_eq_zero hl'
      go_enter Tryd.func26, Tryd.ntmps26
      go_wp2
      go_loop [5] (fun i => i = .int .i64 0) (fun _ => 0)
      case atStart => rfl
      case round =>
        subst hrel
        go_wp2
        go_ret
        exact ⟨rfl, Below.refl _ _⟩
    · obtain ⟨b, off, b', off', rfl, rfl⟩ := hcell 0 (by omega)
      obtain ⟨b1, off1, e1, hb, hC⟩ := hR (by intro e; rw [e] at hl; simp at hl; omega)
      obtain ⟨b2, off2, e2, hb', hC'⟩ := hR' (by intro e; rw [e] at hl'; simp at hl'; omega)
      injection e1 with e1; injection e1 with e1 e3; subst e1 e3
      injection e2 with e2; injection e2 with e2 e3; subst e2 e3
      have HC := Lib.hid hC
      have HC' := Lib.hid hC'
      have HL := Lib.hid hl
      have HL' := Lib.hid hl'
      have hY : (∀ k (h : k < l.length) (h' : k < l'.length), l[k] = l'[k]) → decide (txt l = txt l') = true := fun h => by
        rw [decide_eq_true_eq, txt_eq]
        exact List.ext_getElem (by omega) h
      have hN : ∀ k (h : k < l.length) (h' : k < l'.length), l[k] ≠ l'[k] → decide (txt l = txt l') = false := fun k h h' hne => by
        rw [decide_eq_false_iff_not, txt_eq]
        intro e; subst e; exact hne rfl
      have HY := Lib.hid hY
      have HN := Lib.hid hN
      clear hC hC' hl hl' hY hN hR hR' hcell hz
      generalize decide (txt l = txt l') = r at *
      go_enter Tryd.func26, Tryd.ntmps26
      go_wp2
      go_loopw [5] (fun i wr => ∃ k : Nat, k ≤ n ∧ i = .int .i64 k ∧ Below w.heap.size w wr ∧ Hid (∀ j (h : j < l.length) (h' : j < l'.length), j < k → l[j] = l'[j])) (fun i _ => n - (intOf i).toNat)
      case atStart => exact ⟨0, by omega, rfl, Below.refl _ _, Lib.hid (fun j _ _ h => absurd h (Nat.not_lt_zero _))⟩
      case round =>
        obtain ⟨k, hk, rfl, hB, hA⟩ := hrel
        by_cases hlt : k < n
        · have hkl : k < l.length := by rw [HL.out]; exact hlt
          have hkl' : k < l'.length := by rw [HL'.out]; exact hlt
          have c1 : wr.cell? ⟨b, off + k, none⟩ = some (.string l[k]) := by rw [hB.cell (p := ⟨b, off + k, none⟩) hb]; exact HC.out k hkl
          have c2 : wr.cell? ⟨b', off' + k, none⟩ = some (.string l'[k]) := by rw [hB.cell (p := ⟨b', off' + k, none⟩) hb']; exact HC'.out k hkl'
          have hno := HN.out k hkl hkl'
          have hyes : l[k] = l'[k] → Hid (∀ j (h : j < l.length) (h' : j < l'.length), j < k + 1 → l[j] = l'[j]) := fun e => Lib.hid (fun j h h' hj => by
            by_cases q : j = k
            · subst q; exact e
            · exact hA.out j h h' (by omega))
          have HNO := Lib.hid hno
          have HYES := Lib.hid hyes
          clear hno hyes hA
          have i0 : (0 : Int) ≤ (k : Int) := by omega
          have i1 : (k : Int) < (n : Int) := by omega
          generalize l[k] = p at *
          generalize l'[k] = q at *
          by_cases hpq : p = q
          · subst hpq
            have hy := HYES.out rfl
            go_wp2
            go_quiet (fail)
            go_wp2
            go_roundw
            case rel => exact ⟨k + 1, by omega, by go_num, hB.trans ((below_drewN wr _).mono hB.size), hy⟩
            case measure => simp [intOf]; omega
          · have hf := HNO.out hpq
            have HF := Lib.hid hf
            have g1 : (p.toList == q.toList) = false := by
              rw [beq_eq_false_iff_ne]
              intro e; apply hpq
              rw [ByteArray.toList_eq, ByteArray.toList_eq] at e
              exact ByteArray.ext (Array.toList_inj.1 e)
            clear hf hpq
            go_wp2
            go_quiet (fail)
            go_wp2
            go_ret
            exact ⟨ret_bool HF.out.symm, hB.trans ((below_drewN wr _).mono hB.size)⟩
        · have hy := HY.out (fun j h h' => hA.out j h h' (by rw [HL.out] at h; omega))
          have HYY := Lib.hid hy
          clear hy
          go_wp2
          go_ret
          exact ⟨ret_bool HYY.out.symm, hB⟩
  · have hf : decide (txt l = txt l') = false := by
      rw [decide_eq_false_iff_not, txt_eq]
      intro e; subst e; omega
    have HF := Lib.hid hf
    have g1 : ((n : Int) != (n' : Int)) = true := by simp; omega
    clear hf
    go_enter Tryd.func26, Tryd.ntmps26
    go_wp2
    go_ret
    exact ⟨ret_bool HF.out.symm, Below.refl _ _⟩

theorem elemS : Elem Tryd.prog 31 9 Value.string := ⟨Tryd.underlying31, by
    obtain ⟨i, h1, h2, h3, h4⟩ := info_parts (show (Tryd.prog.info? 9).map (fun i => (i.zero, i.size, i.bytes)) = some (some (.string ByteArray.empty), 1, 16) by kernel_rfl)
    exact ⟨i, _, 16, h1, h2, h3, h4, rfl, by omega⟩, fun _ => rfl⟩

theorem join_snoc : ∀ (ws : List (List UInt8)) (p : List UInt8), ws ≠ [] → join (ws ++ [p]) = join ws ++ 124 :: p
  | [], _, h => absurd rfl h
  | w :: ws, p, _ => by simp only [List.cons_append, join]; rw [bars_snoc, List.append_assoc]
theorem join_last (ws : List (List UInt8)) (p : List UInt8) (c : UInt8) : join (ws ++ [p ++ [c]]) = join (ws ++ [p]) ++ [c] := by
  cases ws with
  | nil => simp [join, bars]
  | cons w ws => rw [join_snoc _ _ (by simp), join_snoc _ _ (by simp)]; simp
theorem join_inj {ws ws' : List (List UInt8)} (h : ws ≠ []) (h' : ws' ≠ []) (hb : ∀ p ∈ ws, ∀ c ∈ p, c ≠ 124) (hb' : ∀ p ∈ ws', ∀ c ∈ p, c ≠ 124) (e : join ws = join ws') : ws = ws' := by
  have x := split_of_join ws (ws.length + ws'.length) h (by omega) hb ⟨(join ws).toArray⟩ rfl
  have y := split_of_join ws' (ws.length + ws'.length) h' (by omega) hb' ⟨(join ws).toArray⟩ e
  rw [x] at y
  have := congrArg (List.map fun b : ByteArray => b.data.toList) y
  rwa [map_back, map_back] at this
theorem key_drop (sp : UInt8) (ps : List (List UInt8)) (h : ps ≠ []) : keyS sp ps = sp :: 124 :: join ps := by
  cases ps with
  | nil => exact absurd rfl h
  | cons p ps => simp [keyS, bars_cons, join]

theorem bars_geL : ∀ (ws : List (List UInt8)) (p : List UInt8), p ∈ ws → p.length ≤ (bars ws).length
  | w :: ws, p, h => by
    rw [bars_cons]
    simp only [List.length_cons, List.length_append]
    rcases List.mem_cons.1 h with rfl | h
    · omega
    · have := bars_geL ws p h; omega
theorem join_ge : ∀ (ws : List (List UInt8)) (p : List UInt8), p ∈ ws → p.length ≤ (join ws).length
  | w :: ws, p, h => by
    simp only [join, List.length_append]
    rcases List.mem_cons.1 h with rfl | h
    · omega
    · have := bars_geL ws p h; omega

/-- The reference's Split, so far. -/
def SplitAt (s : ByteArray) (k : Nat) (bs : List ByteArray) (l : List UInt8) : Prop :=
  join (txt bs ++ [l]) = (s.data.toList.take k).drop 2 ∧ (∀ p ∈ txt bs ++ [l], ∀ c ∈ p, c ≠ 124)
theorem take_at (s : ByteArray) (k : Nat) (h : k < s.size) (h2 : 2 ≤ k) : (s.data.toList.take (k + 1)).drop 2 = (s.data.toList.take k).drop 2 ++ [s[k]] := by
  rw [List.take_succ_eq_append_getElem (by simpa using h), List.drop_append_of_le_length (by rw [List.length_take]; have : s.data.toList.length = s.size := rfl; omega)]
  rfl
theorem SplitAt.bar {s : ByteArray} {k : Nat} {bs : List ByteArray} {l : List UInt8} (h : SplitAt s k bs l) (hk : k < s.size) (h2 : 2 ≤ k) (hc : s[k] = 124) : SplitAt s (k + 1) (bs ++ [⟨l.toArray⟩]) [] := by
  have e : txt (bs ++ [⟨l.toArray⟩]) = txt bs ++ [l] := by simp [txt]
  refine ⟨?_, fun p hp => ?_⟩
  · rw [take_at s k hk h2, e, join_snoc _ _ (by simp), h.1, hc]
  · rw [e] at hp
    rcases List.mem_append.1 hp with hp | hp
    · exact h.2 p hp
    · rw [List.mem_singleton.1 hp]; intro c hc; cases hc
theorem SplitAt.sign {s : ByteArray} {k : Nat} {bs : List ByteArray} {l : List UInt8} (h : SplitAt s k bs l) (hk : k < s.size) (h2 : 2 ≤ k) (hc : s[k] ≠ 124) : SplitAt s (k + 1) bs (l ++ [s[k]]) := by
  refine ⟨by rw [take_at s k hk h2, join_last, h.1], fun p hp => ?_⟩
  rcases List.mem_append.1 hp with hp | hp
  · exact h.2 p (List.mem_append_left _ hp)
  · rw [List.mem_singleton.1 hp]
    intro c hcm
    rcases List.mem_append.1 hcm with hcm | hcm
    · exact h.2 l (List.mem_append_right _ (List.mem_singleton.2 rfl)) c hcm
    · rw [List.mem_singleton.1 hcm]; exact hc
theorem SplitAt.start (s : ByteArray) : SplitAt s 2 [] [] := by
  refine ⟨?_, fun p hp => ?_⟩
  · show join ([] ++ [[]]) = _
    rw [List.drop_eq_nil_of_le (by rw [List.length_take]; omega)]; rfl
  · rw [List.mem_singleton.1 hp]; intro c hc; cases hc
/-- What the parts are, in the end. -/
theorem SplitAt.fin {s : ByteArray} {bs : List ByteArray} {l : List UInt8} (h : SplitAt s s.size bs l) (sp : UInt8) (ps : List (List UInt8)) (hk : keyOk sp ps = true) (he : s.data.toList = keyS sp ps) (hs : 0 < s.size) : s[0] = sp ∧ txt bs ++ [l] = ps := by
  obtain ⟨a1, a2, a3, a4⟩ := ok_parts hk
  have hne : ps ≠ [] := by intro e; rw [e] at a2; simp at a2
  have h1 := h.1
  rw [List.take_of_length_le (by simp), he, key_drop sp ps hne] at h1
  refine ⟨?_, join_inj (by simp) hne h.2 (fun p hp => part_nobar (a4 p hp)) h1⟩
  obtain ⟨⟨x⟩⟩ := s
  have he : x = keyS sp ps := he
  subst he
  rfl
theorem key_three {sp : UInt8} {ps : List (List UInt8)} (hk : keyOk sp ps = true) : 3 ≤ (keyS sp ps).length := by
  obtain ⟨a1, a2, a3, a4⟩ := ok_parts hk
  cases ps with
  | nil => simp at a2
  | cons p ps =>
    have := (part_len (a4 p (List.mem_cons_self ..))).1
    simp [keyS, bars_cons]; omega

set_option maxHeartbeats 2000000 in
theorem ref_split (s : ByteArray) (w : World) (hs : s.size ≤ 1000) :
    Calls Tryd.prog 25 #[.string s] w (SplitPost s.data.toList w) := by
  by_cases h3 : s.size < 3
  · have hno : ∀ sp ps, keyOk sp ps = true → s.data.toList ≠ keyS sp ps := fun sp ps hk he => by
      have := key_three hk
      rw [← he] at this
      have e : s.data.toList.length = s.size := rfl
      omega
    have HNO := Lib.hid hno
    clear hno
    go_enter Tryd.func25, Tryd.ntmps25
    go_wp2
    go_ret3
    exact ⟨Below.refl _ _, Or.inr ⟨HNO.out, rfl⟩⟩
  · go_enter Tryd.func25, Tryd.ntmps25
    go_wp2
    go_loopw [5, 6, 7] (fun v t i wr => ∃ (k : Nat) (bs : List ByteArray) (l : List UInt8), 2 ≤ k ∧ k ≤ s.size ∧ i = .int .i64 k ∧ t = .string ⟨l.toArray⟩ ∧ OwnG wr 9 Value.string w.heap.size v bs ∧ Below w.heap.size w wr ∧ bs.length ≤ k ∧ l.length ≤ k ∧ SplitAt s k bs l) (fun _ _ i _ => s.size - (intOf i).toNat)
    case atStart => exact ⟨2, [], [], by omega, by omega, rfl, rfl, OwnG.nil _ _ _ _, Below.refl _ _, by simp, by simp, SplitAt.start s⟩
    case round =>
      obtain ⟨k, bs, l, hk2, hk, rfl, rfl, hO, hB, hbl, hll, hA⟩ := hrel
      by_cases hlt : k < s.size
      · by_cases hc : s[k] = 124
        · have hA' := hA.bar hlt hk2 hc
          have g1 : ((s[k].toNat : Int) == 124) = true := by rw [hc]; rfl
          have HA' := Lib.hid hA'
          clear hA' hA hc
          have hbz := hB.size
          have hO1 := hO.kept ((Below.refl wr.heap.size wr).alloc (Nat.le_refl _) (.cells #[.string ⟨l.toArray⟩] 9))
          have hR1 : RowG (wr.alloc (.cells #[.string ⟨l.toArray⟩] 9)) Value.string (some ⟨wr.heap.size, 0, none⟩) [⟨l.toArray⟩] := fun _ => ⟨_, _, rfl, by simp, fun j hj => by
            obtain rfl : j = 0 := by simp at hj; omega
            simp [go_sem]⟩
          go_wp2_with (at_builtin; refine wpList_append_row elemS rfl _ _ rfl rfl w.heap.size _ bs (some ⟨wr.heap.size, 0, none⟩) 1 1 [⟨l.toArray⟩] rfl rfl hO1 rfl (fun h => by cases h) hR1 (by omega) (by simp; omega) ?_; intro v' w1 hO2 hg2 _)
          have hB2 := below_grown (hB.alloc hbz _) hO1 hg2 (by simp; omega)
          go_roundw
          case rel => exact ⟨k + 1, bs ++ [⟨l.toArray⟩], [], by omega, by omega, by go_num, rfl, hO2, hB2, by simp; omega, by simp, HA'.out⟩
          case measure => simp [intOf]; omega
        · have hA' := hA.sign hlt hk2 hc
          have g1 : ((s[k].toNat : Int) == 124) = false := by
            rw [beq_eq_false_iff_ne]
            intro e; apply hc; exact UInt8.toNat_inj.1 (by show s[k].toNat = 124; omega)
          have HA' := Lib.hid hA'
          have hE : s.extract k (k + 1) = ⟨#[s[k]]⟩ := by
            apply ByteArray.ext; apply Array.toList_inj.1
            rw [ext_data, List.take_succ_eq_append_getElem (by simpa using hlt), List.drop_append_of_le_length (by rw [List.length_take]; have : s.data.toList.length = s.size := rfl; omega), List.drop_eq_nil_of_le (by rw [List.length_take]; omega)]
            rfl
          have hcat : (⟨l.toArray⟩ : ByteArray) ++ s.extract k (k + 1) = ⟨(l ++ [s[k]]).toArray⟩ := by rw [hE]; exact cat_bytes l [_]
          have hez : (s.extract k (k + 1)).size ≤ 1 := by rw [hE]; exact Nat.le_refl 1
          have HC := Lib.hid hcat
          clear hA' hA hc hcat hE
          go_wp2
          go_roundw
          case rel => exact ⟨k + 1, bs, l ++ [s[k]], by omega, by omega, by go_num, congrArg Value.string HC.out, hO, hB, by omega, by simp; omega, HA'.out⟩
          case measure => simp [intOf]; omega
      · obtain rfl : k = s.size := by omega
        have hbz := hB.size
        have hO1 := hO.kept ((Below.refl wr.heap.size wr).alloc (Nat.le_refl _) (.cells #[.string ⟨l.toArray⟩] 9))
        have hR1 : RowG (wr.alloc (.cells #[.string ⟨l.toArray⟩] 9)) Value.string (some ⟨wr.heap.size, 0, none⟩) [⟨l.toArray⟩] := fun _ => ⟨_, _, rfl, by simp, fun j hj => by
          obtain rfl : j = 0 := by simp at hj; omega
          simp [go_sem]⟩
        have HF := Lib.hid (fun sp ps hk he => hA.fin sp ps hk he (by omega))
        have hj := hA.1
        rw [List.take_of_length_le (by simp)] at hj
        have hlens : ∀ p ∈ bs ++ [⟨l.toArray⟩], p.size ≤ 9223372036854775807 := fun p hp => by
          have e : txt (bs ++ [⟨l.toArray⟩]) = txt bs ++ [l] := by simp [txt]
          have h1 := join_ge (txt bs ++ [l]) p.data.toList (by rw [← e]; exact List.mem_map.2 ⟨p, hp, rfl⟩)
          rw [hj] at h1
          have e2 : s.data.toList.length = s.size := rfl
          rw [List.length_drop, e2] at h1
          have e3 : p.data.toList.length = p.size := rfl
          omega
        have HLens := Lib.hid hlens
        clear hlens hj hA
        go_wp2_with (at_builtin; refine wpList_append_row elemS rfl _ _ rfl rfl w.heap.size _ bs (some ⟨wr.heap.size, 0, none⟩) 1 1 [⟨l.toArray⟩] rfl rfl hO1 rfl (fun h => by cases h) hR1 (by omega) (by simp; omega) ?_; intro v' w1 hO2 hg2 _)
        have hB2 := below_grown (hB.alloc hbz _) hO1 hg2 (by simp; omega)
        obtain ⟨A, c, rfl, hA0, hnc, hcm, hRow⟩ := hO2.row
        have hbl2 : (bs ++ [(⟨l.toArray⟩ : ByteArray)]).length ≤ 1001 := by simp; omega
        have e : txt (bs ++ [(⟨l.toArray⟩ : ByteArray)]) = txt bs ++ [l] := by simp [txt]
        have HF' := HF.out
        rw [← e] at HF'
        have HF := Lib.hid HF'
        have HLens := HLens.out
        clear HF' e hO1 hR1 hg2 hO hA0
        generalize bs ++ [(⟨l.toArray⟩ : ByteArray)] = qs at *
        have HK := ref_key s[0] A qs.length c qs w1 rfl (by omega) HLens hRow
        clear HLens
        by_cases hq : keyOk s[0] (txt qs) = true ∧ keyS s[0] (txt qs) = s.data.toList
        · obtain ⟨q1, q2⟩ := hq
          have hr : kR s[0] (txt qs) = s.data.toList ∧ kE s[0] (txt qs) = 0 := by unfold kR kE; rw [q1]; exact ⟨q2, rfl⟩
          rw [hr.1, hr.2] at HK
          refine HK.mono ?_
          rintro e w2 ⟨rfl, b2⟩
          have HQ := Lib.hid q1
          have HQ2 := Lib.hid q2
          have g1 : (s.data.toList == s.toList) = true := by rw [ByteArray.toList_eq]; simp
          clear q1 q2 hr
          go_wp2
          go_ret3
          exact ⟨hB2.trans (b2.mono hB2.size), Or.inl ⟨s[0], A, c, qs, HQ.out, HQ2.out.symm, rfl, hnc, hRow.below b2⟩⟩
        · have hno : ∀ sp ps, keyOk sp ps = true → s.data.toList ≠ keyS sp ps := fun sp ps hk he => by
            obtain ⟨x1, x2⟩ := HF.out sp ps hk he
            apply hq
            rw [x1, x2]
            exact ⟨hk, he.symm⟩
          have HN := Lib.hid hno
          clear hno
          cases hk : keyOk s[0] (txt qs)
          · have hr : kE s[0] (txt qs) = 20 := by unfold kE; rw [hk]; rfl
            rw [hr] at HK
            refine HK.mono ?_
            rintro e w2 ⟨rfl, b2⟩
            clear hk hr hq
            go_wp2
            go_ret3
            exact ⟨hB2.trans (b2.mono hB2.size), Or.inr ⟨HN.out, rfl⟩⟩
          · have hr : kR s[0] (txt qs) = keyS s[0] (txt qs) ∧ kE s[0] (txt qs) = 0 := by unfold kR kE; rw [hk]; exact ⟨rfl, rfl⟩
            rw [hr.1, hr.2] at HK
            have hne : keyS s[0] (txt qs) ≠ s.data.toList := fun e => hq ⟨hk, e⟩
            have g1 : ((keyS s[0] (txt qs)) == s.toList) = false := by rw [ByteArray.toList_eq, beq_eq_false_iff_ne]; exact hne
            refine HK.mono ?_
            rintro e w2 ⟨rfl, b2⟩
            clear hk hr hq hne
            go_wp2
            go_ret3
            exact ⟨hB2.trans (b2.mono hB2.size), Or.inr ⟨HN.out, rfl⟩⟩
end Go.Proofs.YtghoelgjpljbkaaDoor.Label
