/-
  The walk of LabelBetween.
-/
import Derived.Test.YtghoelgjpljbkaaDoorLBackWalk
import Derived.Test.YtghoelgjpljbkaaDoorLOrder
import Derived.WalkLawsBesides
namespace Go.Proofs.YtghoelgjpljbkaaDoor.Label
open Go.RowKit Gen

theorem kE_cases (sp : UInt8) (ps : List (List UInt8)) : (keyOk sp ps = true ∧ kR sp ps = keyS sp ps ∧ kE sp ps = 0) ∨ (keyOk sp ps = false ∧ kE sp ps = 20) := by
  cases h : keyOk sp ps
  · exact Or.inr ⟨rfl, by unfold kE; rw [h]; rfl⟩
  · exact Or.inl ⟨rfl, by unfold kR; rw [h]; rfl, by unfold kE; rw [h]; rfl⟩
/-- A key with one part more. -/
theorem more_facts (sp : UInt8) (ps : List (List UInt8)) (m : List UInt8) :
    Op.bytesLess (keyS sp (ps ++ [m])) (keyS sp ps) = false ∧ (keyS sp (ps ++ [m]) == keyS sp ps) = false ∧ Op.bytesLess (keyS sp (ps ++ [m])) (keyS sp ps ++ [125]) = true ∧ Op.bytesLess (keyS sp (ps ++ [m])) (keyS sp ps ++ [124]) = false := by
  have e : keyS sp (ps ++ [m]) = keyS sp ps ++ 124 :: m := by unfold keyS; rw [bars_snoc]; rfl
  rw [e]
  refine ⟨?_, ?_, ?_, ?_⟩
  · have := less_pre (keyS sp ps) (124 :: m) []
    rw [List.append_nil] at this
    rw [this]; rfl
  · rw [beq_eq_false_iff_ne]; intro h
    have := congrArg List.length h
    simp at this
  · rw [less_pre]; simp [Op.bytesLess]
  · rw [less_pre]; simp [Op.bytesLess]
/-- A key of other parts. -/
theorem other_facts (sp : UInt8) (ps qs : List (List UInt8)) (h : keyOk sp ps = true) (h' : keyOk sp qs = true) :
    ((!(Op.bytesLess (keyS sp qs) (keyS sp ps ++ [124]) || (keyS sp qs == keyS sp ps ++ [124]))) && Op.bytesLess (keyS sp qs) (keyS sp ps ++ [125])) = (decide (qs.take ps.length = ps) && decide (ps.length < qs.length)) := by
  obtain ⟨_, _, _, a4⟩ := ok_parts h
  obtain ⟨_, _, _, b4⟩ := ok_parts h'
  rw [Bool.eq_iff_iff]
  constructor
  · intro hh
    have hb : (Op.bytesLess (keyS sp ps ++ [124]) (keyS sp qs) && Op.bytesLess (keyS sp qs) (keyS sp ps ++ [125])) = true := by
      rw [Bool.and_eq_true] at hh ⊢
      refine ⟨?_, hh.2⟩
      have h1 := hh.1
      simp only [Bool.not_eq_true', Bool.or_eq_false_iff] at h1
      exact less_total h1.1 (by simpa using h1.2)
    obtain ⟨r, hr, e⟩ := between _ _ hb
    have e' : bars qs = bars ps ++ 124 :: r := by
      unfold keyS at e
      simpa using e
    obtain ⟨ts, h1, h2⟩ := bars_split ps qs r a4 b4 e'
    rw [h1]
    have : 0 < ts.length := List.length_pos_iff.2 h2
    simp; omega
  · intro hh
    rw [Bool.and_eq_true, decide_eq_true_eq, decide_eq_true_eq] at hh
    obtain ⟨h1, h2⟩ := hh
    have e : qs = ps ++ qs.drop ps.length := by
      conv => lhs; rw [← List.take_append_drop ps.length qs, h1]
    have hd : qs.drop ps.length ≠ [] := by
      intro e0; have := congrArg List.length e0; simp at this; omega
    obtain ⟨d, ds, hds⟩ : ∃ d ds, qs.drop ps.length = d :: ds := by
      cases hx : qs.drop ps.length with
      | nil => exact absurd hx hd
      | cons d ds => exact ⟨d, ds, rfl⟩
    have hk : keyS sp qs = keyS sp ps ++ 124 :: (d ++ bars ds) := by
      rw [e, hds]; unfold keyS; simp [bars]
    have hdl : 1 ≤ d.length := (part_len (b4 d (by rw [e, hds]; simp))).1
    have hne : d ++ bars ds ≠ [] := by
      intro e0; have := congrArg List.length e0; rw [List.length_append, List.length_nil] at this; omega
    rw [hk]
    have := between_of (keyS sp ps) (d ++ bars ds) hne
    rw [this.2, Bool.and_true, Bool.not_eq_true', Bool.or_eq_false_iff]
    refine ⟨?_, ?_⟩
    · rw [less_pre]
      cases hx : d ++ bars ds with
      | nil => exact absurd hx hne
      | cons c r => simp [Op.bytesLess]
    · rw [beq_eq_false_iff_ne]
      intro e0
      have := congrArg List.length e0
      simp only [List.length_append, List.length_cons, List.length_nil] at this
      omega

theorem SRow.take {w : World} {A : Option Addr} {l : List ByteArray} (h : SRow w A l) (n : Nat) : SRow w A (l.take n) := fun hne => by
  obtain ⟨b, off, e, hlt, hc⟩ := h (by intro e; subst e; simp at hne)
  refine ⟨b, off, e, hlt, fun k hk => ?_⟩
  rw [List.length_take] at hk
  rw [hc k (by omega)]
  simp

set_option maxHeartbeats 4000000 in
set_option maxRecDepth 100000 in
/-- The keys of LabelBetween, whatever they are. -/
theorem between_walk (sp : UInt8) (A : Option Addr) (n c : Nat) (l : List ByteArray) (more : ByteArray) (A' : Option Addr) (n' c' : Nat) (l' : List ByteArray) (w : World) (hl : l.length = n) (hc : n ≤ 9223372036854775807) (hA : A = none → c = 0) (hz : ∀ p ∈ l, p.size ≤ 9223372036854775807) (hR : SRow w A l) (hm : more.size ≤ 9223372036854775807)
    (hl' : l'.length = n') (hc' : n' ≤ 9223372036854775807) (hcc' : n' ≤ c') (hz' : ∀ p ∈ l', p.size ≤ 9223372036854775807) (hR' : SRow w A' l') (hr : Ready w) :
    Calls Tryd.prog 8 #[.int .u8 (sp.toNat : Int), .slice A n c, .string more, .slice A' n' c'] w fun e w' => e = .returned (.bool true) ∧ Below w.heap.size w w' := by
  have HR := Lib.hid hr
  have HRow := Lib.hid hR
  have HRow' := Lib.hid hR'
  have HZ := Lib.hid hz
  have HZ' := Lib.hid hz'
  have HL := Lib.hid hl
  have HL' := Lib.hid hl'
  clear hr hR hz hl hR' hz' hl'
  by_cases h1 : 10 < n
  · go_enter Tryd.func8, Tryd.ntmps8
    go_wp2_with fail
    refine (awake_any _ HR.out).mono ?_
    rintro e w1 ⟨rfl, B1⟩
    go_wp2
    go_ret
    exact ⟨rfl, B1⟩
  by_cases h2 : 10 < n'
  · go_enter Tryd.func8, Tryd.ntmps8
    go_wp2_with fail
    refine (awake_any _ HR.out).mono ?_
    rintro e w1 ⟨rfl, B1⟩
    go_wp2
    go_ret
    exact ⟨rfl, B1⟩
  by_cases h3 : 100 < more.size
  · go_enter Tryd.func8, Tryd.ntmps8
    go_wp2_with fail
    refine (awake_any _ HR.out).mono ?_
    rintro e w1 ⟨rfl, B1⟩
    go_wp2
    go_ret
    exact ⟨rfl, B1⟩
  have g1 : decide (10 < (n : Int)) = false := by simp; omega
  have g2 : decide (10 < (n' : Int)) = false := by simp; omega
  have g3 : decide (100 < (more.size : Int)) = false := by simp; omega
  go_enter Tryd.func8, Tryd.ntmps8
  go_wp2_with fail
  refine (awake_any _ HR.out).mono ?_
  rintro e w1 ⟨rfl, B1⟩
  go_wp2_with fail
  refine (key_any sp A n c l _ HL.out (by omega) HZ.out (HRow.out.below B1)).mono ?_
  rintro e w2 ⟨rfl, c2⟩
  have B2 := B1.trans (c2.mono B1.size)
  clear B1 c2
  have hO2 : OwnG (w2.alloc (.cells #[] 9)) 9 Value.string w2.heap.size (.slice (some ⟨w2.heap.size, 0, none⟩) 0 0) ([] : List ByteArray) := World.ownsRow_made w2 #[] 0 (Nat.le_refl _) (Nat.zero_le _) rfl
  have hRA : RowG (w2.alloc (.cells #[] 9)) Value.string A l := RowG.below (HRow.out.below B2) ((Below.refl _ _).alloc (Nat.le_refl _) _)
  have hll := HL.out
  have hl10 : l.length ≤ 10 := by omega
  go_wp2_with (first
    | (at_builtin; refine wpList_append_row elemS rfl (.tmp 40) (.tmp 41) rfl rfl w2.heap.size _ [] A n c l rfl rfl hO2 hll hA hRA (by simp; omega) (by simp) ?_; intro v3 w3 hO3 hg3 _)
    | (at_builtin; refine wpList_append_row elemS rfl (.tmp 42) (.tmp 44) rfl rfl w2.heap.size _ ([] ++ l) (some ⟨w3.heap.size, 0, none⟩) 1 1 [more] rfl rfl (hO3.kept ((Below.refl w3.heap.size w3).alloc (Nat.le_refl _) (.cells #[.string more] 9))) rfl (fun h => by cases h) (fun _ => ⟨_, _, rfl, by simp, fun j hj => by
        obtain rfl : j = 0 := by simp at hj; omega
        simp [go_sem]⟩) (by simp; omega) (by have := hg3.size; simp at this; simp; omega) ?_; intro v4 w4 hO4 hg4 _))
  have hb23 : Below w2.heap.size w2 w3 := below_grown ((Below.refl _ _).alloc (Nat.le_refl _) _) hO2 hg3 (by simp)
  have hb24 : Below w2.heap.size w2 w4 := below_grown (hb23.alloc hb23.size _) (hO3.kept ((Below.refl w3.heap.size w3).alloc (Nat.le_refl _) (.cells #[.string more] 9))) hg4 (by have := hb23.size; simp; omega)
  have B4 := B2.trans (hb24.mono B2.size)
  obtain ⟨A4, c4, rfl, _, hn4, _, hR4⟩ := hO4.row
  clear hb23 hb24 hO2 hRA hO3 hg3 hO4 hg4 B2
  simp only [List.nil_append] at hn4 hR4 ⊢
  refine (key_any sp A4 (l ++ [more]).length c4 (l ++ [more]) _ rfl (by simp; omega) (fun p hp => by
    rcases List.mem_append.1 hp with hp | hp
    · exact HZ.out p hp
    · rw [List.mem_singleton.1 hp]; exact hm) hR4).mono ?_
  rintro e w5 ⟨rfl, c5⟩
  have B5 := B4.trans (c5.mono B4.size)
  clear B4 c5 hR4
  go_wp2_with fail
  refine (key_any sp A' n' c' l' _ HL'.out (by omega) HZ'.out (HRow'.out.below B5)).mono ?_
  rintro e w6 ⟨rfl, c6⟩
  have B6 := B5.trans (c6.mono B5.size)
  clear B5 c6
  have hT : txt (l ++ [more]) = txt l ++ [more.data.toList] := by simp [txt]
  have hcat : ∀ K : List UInt8, (⟨K.toArray⟩ : ByteArray) ++ ⟨#[124]⟩ = ⟨(K ++ [124]).toArray⟩ := fun K => cat_bytes K [124]
  have hend : ∀ (K : List UInt8) W, K.length ≤ 1000 → Calls Tryd.prog 20 #[.string ⟨K.toArray⟩] W fun e w' => e = .returned (.string ⟨(K ++ [125]).toArray⟩) ∧ W = w' := fun K W hK => by
    have h := end_any ⟨K.toArray⟩ W (by show K.toArray.size ≤ 1000; simpa using hK)
    rw [cat_bytes K [125]] at h
    exact h
  have HEND := Lib.hid hend
  have HCAT := Lib.hid hcat
  have HT := Lib.hid hT
  clear hend hcat hT hll
  rcases kE_cases sp (txt l) with ⟨o1, r1, e1⟩ | ⟨o1, e1⟩
  · have k1 := (key_len o1).2
    have hn1 : 1 ≤ n := by have := (ok_parts o1).2.1; rw [txt_len, HL.out] at this; exact this
    have hEND1 := HEND.out (keyS sp (txt l))
    have hcat1 := HCAT.out (keyS sp (txt l))
    have HEND1 := Lib.hid (fun W => hEND1 W (by omega))
    have hM := more_facts sp (txt l) more.data.toList
    rw [← HT.out] at hM
    have k2 : keyOk sp (txt (l ++ [more])) = true → (keyS sp (txt (l ++ [more]))).length ≤ 69 := fun h => (key_len h).2
    have H3 : Hid ((keyOk sp (txt l') = true ∧ kR sp (txt l') = keyS sp (txt l') ∧ kE sp (txt l') = 0 ∧ (keyS sp (txt l')).length ≤ 69 ∧ ((!(Op.bytesLess (keyS sp (txt l')) (keyS sp (txt l) ++ [124]) || (keyS sp (txt l') == keyS sp (txt l) ++ [124]))) && Op.bytesLess (keyS sp (txt l')) (keyS sp (txt l) ++ [125])) = (decide (txt (l'.take n) = txt l) && decide (n < n'))) ∨ kE sp (txt l') = 20) := Lib.hid (by
      rcases kE_cases sp (txt l') with ⟨o3, r3, e3⟩ | ⟨o3, e3⟩
      · have hO := other_facts sp (txt l) (txt l') o1 o3
        rw [txt_len, txt_len, HL.out, HL'.out] at hO
        have e : txt (l'.take n) = (txt l').take n := by simp [txt, List.map_take]
        rw [e]
        exact Or.inl ⟨o3, r3, e3, (key_len o3).2, hO⟩
      · exact Or.inr e3)
    rw [r1, e1]
    clear o1 r1 e1 hEND1
    generalize keyS sp (txt l) ++ [124] = K1b at *
    generalize keyS sp (txt l) ++ [125] = K1e at *
    generalize keyS sp (txt l) = K1 at *
    have hC := kE_cases sp (txt (l ++ [more]))
    have hif : (kE sp (txt (l ++ [more])) = 0 ∧ ∃ K2 : List UInt8, kR sp (txt (l ++ [more])) = K2 ∧ K2.length ≤ 69 ∧ Op.bytesLess K2 K1 = false ∧ (K2 == K1) = false ∧ Op.bytesLess K2 K1e = true ∧ Op.bytesLess K2 K1b = false) ∨ kE sp (txt (l ++ [more])) = 20 := by
      rcases hC with ⟨o2, r2, e2⟩ | ⟨o2, e2⟩
      · exact Or.inl ⟨e2, _, r2, k2 o2, hM⟩
      · exact Or.inr e2
    clear hC hM k2
    rcases hif with ⟨e2, K2, r2, q0, q1, q2, q3, q4⟩ | e2
    · rw [e2, r2]
      clear e2 r2
      rcases H3.out with ⟨o3, r3, e3, k3, hO⟩ | e3
      · rw [e3, r3]
        have HO := Lib.hid hO
        clear hO o3 r3 e3 H3
        generalize keyS sp (txt l') = K3 at *
        by_cases hlt : n' < n
        · go_wp2_with (go_at_call 20; refine (HEND1.out _).mono ?_; rintro e w' ⟨rfl, rfl⟩)
          go_ret
          exact ⟨rfl, B6⟩
        · obtain ⟨b', off', rfl, _⟩ := HRow'.out (by intro e; have := HL'.out; rw [e] at this; simp at this; omega)
          have g5 : decide (n' < n) = false := by simp; omega
          have i1 : (n : Int) ≤ (n' : Int) := by omega
          have i2 : (n' : Int) ≤ (c' : Int) := by omega
          have hD : decide (n < n') = true ∨ decide (n < n') = false := by cases decide (n < n') <;> simp
          have hcs : (Op.bytesLess K3 K1b = false ∧ (K3 == K1b) = false ∧ Op.bytesLess K3 K1e = true ∧ decide (txt (l'.take n) = txt l) = true ∧ decide (n < n') = true) ∨ (((Op.bytesLess K3 K1b = false ∧ (K3 == K1b) = false ∧ Op.bytesLess K3 K1e = false) ∨ Op.bytesLess K3 K1b = true ∨ (Op.bytesLess K3 K1b = false ∧ (K3 == K1b) = true)) ∧ (decide (txt (l'.take n) = txt l) = false ∨ (decide (txt (l'.take n) = txt l) = true ∧ decide (n < n') = false))) := by
            have hO := HO.out
            revert hO
            cases Op.bytesLess K3 K1b <;> cases (K3 == K1b) <;> cases Op.bytesLess K3 K1e <;> cases decide (txt (l'.take n) = txt l) <;> cases decide (n < n') <;> simp
          have hS : ∀ W, Below w.heap.size w W → Calls Tryd.prog 26 #[.slice (some ⟨b', off', none⟩) n c', .slice A n c] W fun e w' => e = .returned (.bool (decide (txt (l'.take n) = txt l))) ∧ Below W.heap.size W w' := fun W hW => same_any _ A n n c' c (l'.take n) l W (by rw [List.length_take, HL'.out]; omega) HL.out (by omega) (by omega) ((HRow'.out.take n).below hW) (HRow.out.below hW)
          have HS := Lib.hid hS
          clear hS hD HO
          generalize decide (txt (l'.take n) = txt l) = D at *
          go_wp2_with (go_at_call 20; refine (HEND1.out _).mono ?_; rintro e w' ⟨rfl, rfl⟩)
          refine (HS.out _ B6).mono ?_
          rintro e w7 ⟨rfl, c7⟩
          have B7 := B6.trans (c7.mono B6.size)
          clear B6 c7 HS
          rcases hcs with ⟨x1, x2, x3, x4, x5⟩ | ⟨⟨x1, x2, x3⟩ | x1 | ⟨x1, x2⟩, x4 | ⟨x4, x5⟩⟩
          all_goals
            subst x4
            go_wp2_with (go_at_call 20; refine (HEND1.out _).mono ?_; rintro e w' ⟨rfl, rfl⟩)
            go_ret
            exact ⟨rfl, B7⟩
      · rw [e3]
        clear e3
        go_wp2_with (go_at_call 20; refine (HEND1.out _).mono ?_; rintro e w' ⟨rfl, rfl⟩)
        go_ret
        exact ⟨rfl, B6⟩
    · rw [e2]
      clear e2
      rcases H3.out with ⟨o3, r3, e3, k3, hO⟩ | e3
      · rw [e3, r3]
        have HO := Lib.hid hO
        clear hO o3 r3 e3 H3
        generalize keyS sp (txt l') = K3 at *
        by_cases hlt : n' < n
        · go_wp2_with (go_at_call 20; refine (HEND1.out _).mono ?_; rintro e w' ⟨rfl, rfl⟩)
          go_ret
          exact ⟨rfl, B6⟩
        · obtain ⟨b', off', rfl, _⟩ := HRow'.out (by intro e; have := HL'.out; rw [e] at this; simp at this; omega)
          have g5 : decide (n' < n) = false := by simp; omega
          have i1 : (n : Int) ≤ (n' : Int) := by omega
          have i2 : (n' : Int) ≤ (c' : Int) := by omega
          have hD : decide (n < n') = true ∨ decide (n < n') = false := by cases decide (n < n') <;> simp
          have hcs : (Op.bytesLess K3 K1b = false ∧ (K3 == K1b) = false ∧ Op.bytesLess K3 K1e = true ∧ decide (txt (l'.take n) = txt l) = true ∧ decide (n < n') = true) ∨ (((Op.bytesLess K3 K1b = false ∧ (K3 == K1b) = false ∧ Op.bytesLess K3 K1e = false) ∨ Op.bytesLess K3 K1b = true ∨ (Op.bytesLess K3 K1b = false ∧ (K3 == K1b) = true)) ∧ (decide (txt (l'.take n) = txt l) = false ∨ (decide (txt (l'.take n) = txt l) = true ∧ decide (n < n') = false))) := by
            have hO := HO.out
            revert hO
            cases Op.bytesLess K3 K1b <;> cases (K3 == K1b) <;> cases Op.bytesLess K3 K1e <;> cases decide (txt (l'.take n) = txt l) <;> cases decide (n < n') <;> simp
          have hS : ∀ W, Below w.heap.size w W → Calls Tryd.prog 26 #[.slice (some ⟨b', off', none⟩) n c', .slice A n c] W fun e w' => e = .returned (.bool (decide (txt (l'.take n) = txt l))) ∧ Below W.heap.size W w' := fun W hW => same_any _ A n n c' c (l'.take n) l W (by rw [List.length_take, HL'.out]; omega) HL.out (by omega) (by omega) ((HRow'.out.take n).below hW) (HRow.out.below hW)
          have HS := Lib.hid hS
          clear hS hD HO
          generalize decide (txt (l'.take n) = txt l) = D at *
          go_wp2_with (go_at_call 20; refine (HEND1.out _).mono ?_; rintro e w' ⟨rfl, rfl⟩)
          refine (HS.out _ B6).mono ?_
          rintro e w7 ⟨rfl, c7⟩
          have B7 := B6.trans (c7.mono B6.size)
          clear B6 c7 HS
          rcases hcs with ⟨x1, x2, x3, x4, x5⟩ | ⟨⟨x1, x2, x3⟩ | x1 | ⟨x1, x2⟩, x4 | ⟨x4, x5⟩⟩
          all_goals
            subst x4
            go_wp2_with (go_at_call 20; refine (HEND1.out _).mono ?_; rintro e w' ⟨rfl, rfl⟩)
            go_ret
            exact ⟨rfl, B7⟩
      · rw [e3]
        clear e3
        go_wp2_with (go_at_call 20; refine (HEND1.out _).mono ?_; rintro e w' ⟨rfl, rfl⟩)
        go_ret
        exact ⟨rfl, B6⟩
  · rw [e1]
    clear o1 e1
    go_wp2
    go_ret
    exact ⟨rfl, B6⟩
end Go.Proofs.YtghoelgjpljbkaaDoor.Label
