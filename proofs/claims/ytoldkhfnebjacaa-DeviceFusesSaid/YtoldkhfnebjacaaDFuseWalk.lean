/-
  The walk of DeviceFuses.
-/
import Derived.Test.YtoldkhfnebjacaaDAwake
namespace Go.Proofs.Ytoldkhfnebjacaa.Disk
open Go.RowKit Go.Maps Gen

/-- What a device with a fuse of F is behind a acts that were tried. -/
def Burns (F : Int) (a : Nat) (s : St) : Prop := s.n = 8 ∧ ((F < 0 ∧ s.off = false ∧ s.fused = false) ∨ (0 ≤ F ∧ (a : Int) ≤ F ∧ s.off = false ∧ s.fused = true ∧ s.fuse = F - a) ∨ (0 ≤ F ∧ F < a ∧ s.off = true))
def burnE (F : Int) (a : Nat) : Int := if 0 ≤ F ∧ F ≤ a then 40 else 0
theorem Burns.act {F : Int} {a : Nat} {s : St} (h : Burns F a s) (ho : s.off = false) : s.actE = burnE F a ∧ Burns F (a + 1) s.act := by
  obtain ⟨hn, ⟨h1, h2, h3⟩ | ⟨h1, h2, h3, h4, h5⟩ | ⟨_, _, h3⟩⟩ := h
  · refine ⟨by simp [St.actE, h3, burnE]; omega, by rw [act_n]; exact hn, .inl ⟨h1, ?_, ?_⟩⟩ <;> simp [St.act, h3, h2]
  · by_cases hz : s.fuse = 0
    · refine ⟨by simp [St.actE, h4, hz, burnE]; omega, by rw [act_n]; exact hn, .inr (.inr ⟨h1, by omega, by simp [St.act, h4, hz]⟩)⟩
    · refine ⟨?_, by rw [act_n]; exact hn, .inr (.inl ⟨h1, by omega, by simp [St.act, h4, hz, h3], by simp [St.act, h4, hz], ?_⟩)⟩
      · have : ¬ (F ≤ a) := by omega
        simp [St.actE, hz, burnE, this]
      · simp [St.act, h4, hz]; omega
  · rw [h3] at ho; cases ho
theorem Burns.off {F : Int} {a : Nat} {s : St} (h : Burns F a s) (ho : s.off = true) : burnE F a = 40 ∧ Burns F (a + 1) s := by
  obtain ⟨hn, ⟨h1, h2, h3⟩ | ⟨h1, h2, h3, h4, h5⟩ | ⟨h1, h2, h3⟩⟩ := h
  · rw [ho] at h2; cases h2
  · rw [ho] at h3; cases h3
  · exact ⟨by rw [burnE, if_pos ⟨h1, by omega⟩], hn, .inr (.inr ⟨h1, by omega, h3⟩)⟩
theorem Burns.congr {F : Int} {a : Nat} {s s' : St} (h : Burns F a s) (e1 : s'.n = s.n) (e2 : s'.off = s.off) (e3 : s'.fused = s.fused) (e4 : s'.fuse = s.fuse) : Burns F a s' := by
  unfold Burns
  rw [e1, e2, e3, e4]; exact h
theorem Burns.write {F : Int} {a : Nat} {s : St} (h : Burns F a s) (n : Int) (l : Bs) (h0 : 0 ≤ n) (h1 : n < 8) (hl : l.length ≤ 1024) : s.writeE n l = burnE F a ∧ Burns F (a + 1) (s.write n l) := by
  cases ho : s.off
  · have hb : s.bad n l.length = false := by
      have := h.1
      simp [St.bad, St.has, this, h0, h1, hl]
    obtain ⟨e1, e2⟩ := h.act ho
    refine ⟨by simp [St.writeE, ho, hb, e1], ?_⟩
    by_cases hz : s.actE = 0
    · simp only [St.write, ho, hb, hz, if_true, Bool.false_eq_true, if_false]
      exact e2.congr rfl rfl rfl rfl
    · simp only [St.write, ho, hb, hz, Bool.false_eq_true, if_false]
      exact e2
  · obtain ⟨e1, e2⟩ := h.off ho
    exact ⟨by simp [St.writeE, ho, e1], by simpa [St.write, ho] using e2⟩
theorem Burns.sync {F : Int} {a : Nat} {s : St} (h : Burns F a s) : s.syncE = burnE F a ∧ Burns F (a + 1) s.sync := by
  cases ho : s.off
  · obtain ⟨e1, e2⟩ := h.act ho
    refine ⟨by simp [St.syncE, ho, e1], ?_⟩
    by_cases hz : s.actE = 0
    · simp only [St.sync, ho, hz, if_true, Bool.false_eq_true, if_false]
      exact e2.congr rfl rfl rfl rfl
    · simp only [St.sync, ho, hz, Bool.false_eq_true, if_false]
      exact e2
  · obtain ⟨e1, e2⟩ := h.off ho
    exact ⟨by simp [St.syncE, ho, e1], by simpa [St.sync, ho] using e2⟩
theorem Burns.bad {F : Int} {a : Nat} {s : St} (h : Burns F a s) : (s.writeE 8 [] == 0) = false ∧ s.write 8 [] = s := by
  have hb : s.bad 8 0 = true := by
    have := h.1
    simp [St.bad, St.has, this]
  cases ho : s.off
  · exact ⟨by simp [St.writeE, ho, hb], by simp [St.write, ho, hb]⟩
  · exact ⟨by simp [St.writeE, ho], by simp [St.write, ho]⟩
theorem Burns.start (F : Int) : Burns F 0 ((St.fresh 8).setFuse F) := by
  refine ⟨rfl, ?_⟩
  by_cases h : 0 ≤ F
  · exact .inr (.inl ⟨h, by simpa using h, rfl, by simp [St.setFuse, h], by simp [St.setFuse]; omega⟩)
  · exact .inl ⟨by omega, rfl, by simp [St.setFuse]; omega⟩
theorem row_one (w : World) (t : TypeId) (fr : Nat × Nat) : BRow (w.alloc (.cells #[.int .u8 1] t fr)) (some ⟨w.heap.size, 0, none⟩) [1] :=
  lit_row _ _ _ _ _ fun k hk => match k, hk with
    | 0, _ => rfl
    | n + 1, h => by simp at h
/-- At the head of each round. -/
def FuseRel (w : World) (sb bl bc : Nat) (F : Int) (m : Nat) (i : Value) (wr : World) : Prop :=
  ∃ (k : Nat) (s : St), k ≤ m ∧ i = .int .i64 (k : Int) ∧ On w wr sb bl bc s ∧ Burns F (k + k / 5) s
theorem restart_on (s : St) (t cut : Int) : (s.restart [] t cut).off = false ∧ (s.restart [] t cut).syncE = 0 := by
  have h1 : (s.restart [] t cut).off = false := rfl
  have h2 : (s.restart [] t cut).fused = false := rfl
  exact ⟨h1, by simp [St.syncE, h1, St.actE, h2]⟩
/-- A round's facts, in the walk's own words. -/
theorem fuse_round (F : Int) (k m : Nat) (hk : k < m) (hm : m < 100) (s : St) (h : Burns F (k + k / 5) s) : ∃ steps : Nat, steps < 200 ∧
    ((¬ 4 ≤ (k : Int) ∧ ¬ (k : Int) % 5 = 4 ∧ (steps : Int) ≤ k ∧ (k : Int) ≤ steps) ∨ (4 ≤ (k : Int) ∧ (k : Int) + ((k : Int) + 1) / 5 = (steps : Int))) ∧
    (((k : Int) % 5 = 4 ∧ Burns F (steps + 1) ((s.write ((k : Int) % 8) [1]).sync) ∧ (s.write ((k : Int) % 8) [1]).syncE = burnE F steps) ∨ (¬ (k : Int) % 5 = 4 ∧ Burns F (steps + 1) (s.write ((k : Int) % 8) [1]) ∧ s.writeE ((k : Int) % 8) [1] = burnE F steps)) ∧
    steps + 1 = k + 1 + (k + 1) / 5 := by
  obtain ⟨w1, w2⟩ := h.write ((k : Int) % 8) [1] (by omega) (by omega) (by simp)
  by_cases h5 : k % 5 = 4
  · obtain ⟨s1, s2⟩ := w2.sync
    refine ⟨k + (k + 1) / 5, by omega, .inr ⟨by omega, by omega⟩, .inl ⟨by omega, ?_, ?_⟩, by omega⟩
    · rw [show k + (k + 1) / 5 + 1 = k + k / 5 + 1 + 1 by omega]; exact s2
    · rw [show k + (k + 1) / 5 = k + k / 5 + 1 by omega]; exact s1
  · have e : k + (k + 1) / 5 = k + k / 5 := by omega
    refine ⟨k + (k + 1) / 5, by omega, ?_, .inr ⟨by omega, by rw [e]; exact w2, by rw [e]; exact w1⟩, by omega⟩
    by_cases h4 : 4 ≤ k
    · exact .inr ⟨by omega, by omega⟩
    · exact .inl ⟨by omega, by omega, by omega, by omega⟩
set_option maxRecDepth 100000 in
set_option maxHeartbeats 8000000 in
theorem fuses_core (F : Int) (m : Nat) (hm : m < 100) (F0 : -9223372036854775808 ≤ F) (F1 : F ≤ 9223372036854775807) (acts : Int) (b0 : -9223372036854775808 ≤ acts) (b1 : acts ≤ 9223372036854775807) (hq : acts < 0 ∧ -((acts + 1).tmod 100) = (m : Int) ∨ ¬ acts < 0 ∧ acts % 100 = (m : Int)) (w : World) :
    Calls Try.prog 7 #[.int .i64 F, .int .i64 acts] w fun e w' => e = .returned (.bool true) ∧ Below w.heap.size w w' := by
  rcases hq with ⟨hneg, hq⟩ | ⟨hneg, hq⟩
  all_goals
    go_enter Try.func7, Try.ntmps7
    go_wp2_with fail
    refine (awake_any w).mono ?_
    rintro e w1 ⟨rfl, bb1⟩
    go_wp2_with fail
    refine (new_on bb1 8 (by omega) (by omega)).mono ?_
    rintro e w2 ⟨sb, bl, bc, rfl, o2, _⟩
    have O2 := Lib.hid o2
    clear o2 bb1
    go_wp2_with fail
    refine (O2.out.fuse F F1).mono ?_
    rintro e w3 ⟨rfl, o3, _⟩
    have HST := Lib.hid (show FuseRel w sb bl bc F m (.int .i64 0) w3 from ⟨0, _, Nat.zero_le _, rfl, o3, Burns.start F⟩)
    clear o3 O2
    go_wp2_with fail
    go_loopw [8] (fun i wr => FuseRel w sb bl bc F m i wr) (fun i _ => m - (intOf i).toNat)
    case atStart => exact HST.out
    case round =>
      obtain ⟨k, s, hkm, rfl, hon, hbn⟩ := hrel
      have HO := Lib.hid hon
      clear hon HST
      by_cases hlt : k < m
      · obtain ⟨hbad, hsame⟩ := hbn.bad
        obtain ⟨steps, hst, h4, h5, hnext⟩ := fuse_round F k m hlt hm s hbn
        have HSAME := Lib.hid hsame
        have HNX := Lib.hid hnext
        have HBN := Lib.hid hbn
        clear hsame hnext hbn
        have hc : (F < 0) ∨ (0 ≤ F ∧ (steps : Int) < F) ∨ (0 ≤ F ∧ F ≤ (steps : Int)) := by omega
        have hg : ∃ E : Int, burnE F steps = E ∧ ((F < 0 ∧ E = 0) ∨ (0 ≤ F ∧ (steps : Int) < F ∧ E = 0) ∨ (0 ≤ F ∧ F ≤ (steps : Int) ∧ E = 40)) := ⟨_, rfl, by unfold burnE; rcases hc with h | h | h <;> (split <;> omega)⟩
        obtain ⟨E, hE, hg⟩ := hg
        clear hc
        rcases h5 with ⟨h5, hB, hEs⟩ | ⟨h5, hB, hEs⟩
        · have b5 : ((k : Int) % 5 == 4) = true := by simpa using h5
          have HES := Lib.hid (hEs.trans hE)
          have HB := Lib.hid hB
          clear hEs hB hE
          rcases h4 with ⟨h4, h4', _⟩ | ⟨h4, hsum⟩
          · exact absurd h5 h4'
          · rcases hg with ⟨g1, rfl⟩ | ⟨g1, g2, rfl⟩ | ⟨g1, g2, rfl⟩
            all_goals
              go_wp2_with fail
              refine (HO.out.write 8 none 0 0 [] rfl (nil_row _) (fun _ a h => by cases h)).mono ?_
              rintro e w4 ⟨rfl, o4, _⟩
              rw [HSAME.out] at o4
              have O4 := Lib.hid o4
              clear o4
              generalize s.writeE 8 [] = Eb at hbad ⊢
              go_wp2_with fail
              refine ((O4.out.alloc _).write _ _ 1 1 [1] rfl (row_one _ _ _) (fun _ a ha => by cases ha; exact O4.out.new (Nat.le_refl _))).mono ?_
              rintro e w5 ⟨rfl, o5, _⟩
              have O5 := Lib.hid o5
              clear o5 O4
              generalize s.writeE ((k : Int) % 8) [1] = E0
              go_wp2_with fail
              refine O5.out.sync.mono ?_
              rintro e w6 ⟨rfl, o6, _⟩
              rw [HES.out]
              have O6 := Lib.hid o6
              clear o6 O5
              go_wp2_with fail
              go_roundw
              case rel => exact ⟨k + 1, _, hlt, by go_num, O6.out, HNX.out ▸ HB.out⟩
              case measure => simp [intOf]; omega
        · have b5 : ((k : Int) % 5 == 4) = false := by simpa using h5
          have HES := Lib.hid (hEs.trans hE)
          have HB := Lib.hid hB
          clear hEs hB hE
          rcases h4 with ⟨h4, h4', hsk, hks⟩ | ⟨h4, hsum⟩ <;> rcases hg with ⟨g1, rfl⟩ | ⟨g1, g2, rfl⟩ | ⟨g1, g2, rfl⟩
          all_goals
            go_wp2_with fail
            refine (HO.out.write 8 none 0 0 [] rfl (nil_row _) (fun _ a h => by cases h)).mono ?_
            rintro e w4 ⟨rfl, o4, _⟩
            rw [HSAME.out] at o4
            have O4 := Lib.hid o4
            clear o4
            generalize s.writeE 8 [] = Eb at hbad ⊢
            go_wp2_with fail
            refine ((O4.out.alloc _).write _ _ 1 1 [1] rfl (row_one _ _ _) (fun _ a ha => by cases ha; exact O4.out.new (Nat.le_refl _))).mono ?_
            rintro e w5 ⟨rfl, o5, _⟩
            rw [HES.out]
            have O5 := Lib.hid o5
            clear o5 O4
            go_wp2_with fail
            go_roundw
            case rel => exact ⟨k + 1, _, hlt, by go_num, O5.out, HNX.out ▸ HB.out⟩
            case measure => simp [intOf]; omega
      · clear hbn
        go_wp2_with fail
        refine (HO.out.restart0 (-1) 0 (by omega) (by omega)).mono ?_
        rintro e w4 ⟨rfl, o4, _⟩
        have cO := off_dev _ sb bl bc _ o4.dev
        have cS := o4.sync
        rw [(restart_on s (-1) 0).1] at cO
        rw [(restart_on s (-1) 0).2] at cS
        clear o4 HO
        go_wp2_with fail
        refine cO.mono ?_
        rintro e w' ⟨rfl, rfl⟩
        go_wp2_with fail
        refine cS.mono ?_
        rintro e w5 ⟨rfl, o5, _⟩
        go_wp2_with fail
        go_ret
        exact ⟨rfl, o5.below⟩
theorem place_at (at0 : Int) : ∃ k : Nat, k < 100 ∧ (at0 < 0 ∧ -((at0 + 1).tmod 100) = (k : Int) ∨ ¬ at0 < 0 ∧ at0 % 100 = (k : Int)) := by
  by_cases h : at0 < 0
  · refine ⟨(-((at0 + 1).tmod 100)).toNat, ?_, Or.inl ⟨h, ?_⟩⟩ <;> rw [← Int.neg_tmod, Int.tmod_eq_emod_of_nonneg (by omega)] <;> omega
  · exact ⟨(at0 % 100).toNat, by omega, Or.inr ⟨h, by omega⟩⟩
theorem fuses_walk (F acts : Int) (F0 : -9223372036854775808 ≤ F) (F1 : F ≤ 9223372036854775807) (b0 : -9223372036854775808 ≤ acts) (b1 : acts ≤ 9223372036854775807) (w : World) :
    Calls Try.prog 7 #[.int .i64 F, .int .i64 acts] w fun e w' => e = .returned (.bool true) ∧ Below w.heap.size w w' := by
  obtain ⟨m, hm, hq⟩ := place_at acts
  exact fuses_core F m hm F0 F1 acts b0 b1 hq w
end Go.Proofs.Ytoldkhfnebjacaa.Disk
