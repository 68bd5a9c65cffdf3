/-
  Contracts of what the document's own Check asks.
-/
import Derived.Test.YtiebaeahimeedaaPCheck2
namespace Go.Proofs.Ytiebaeahimeedaa.Page
open Go.RowKit Gen

theorem rPlace_any (n : Int) (w : World) : Calls Try.prog 24 #[.int .i64 n] w (TellsQ (Place n) w) := by
  by_cases h1 : 2 ≤ n
  · have d1 : decide (2 ≤ n) = true := by simp [h1]
    go_enter Try.func24, Try.ntmps24
    go_wp2_with fail
    go_ret
    exact ⟨_, rfl, by unfold Place; simp [h1], rfl⟩
  · have d1 : decide (2 ≤ n) = false := by simp [h1]
    go_enter Try.func24, Try.ntmps24
    go_wp2_with fail
    go_ret
    exact ⟨_, rfl, by unfold Place; simp; omega, rfl⟩
theorem rKey_any (s : Bs) (w : World) : Calls Try.prog 63 #[strV s] w (TellsQ (KeyOk s) w) := by
  have e : (strB s).size = s.length := strB_size s
  obtain ⟨S, hS⟩ : ∃ S, strB s = S := ⟨_, rfl⟩
  rw [show strV s = .string S by rw [← hS]]
  rw [hS] at e
  clear hS
  by_cases h1 : 1 ≤ s.length
  · have d1 : decide (1 ≤ (S.size : Int)) = true := by simp; omega
    go_enter Try.func63, Try.ntmps63
    go_wp2_with fail
    go_ret
    exact ⟨_, rfl, by unfold KeyOk; simp; omega, rfl⟩
  · have d1 : decide (1 ≤ (S.size : Int)) = false := by simp; omega
    go_enter Try.func63, Try.ntmps63
    go_wp2_with fail
    go_ret
    exact ⟨_, rfl, by unfold KeyOk; simp; omega, rfl⟩
theorem less_same : ∀ x : Bs, Op.bytesLess x x = false
  | [] => rfl
  | c :: x => by simp [Op.bytesLess, less_same x]
theorem less_total : ∀ {x y : Bs}, Op.bytesLess x y = false → x ≠ y → Op.bytesLess y x = true
  | [], [], _, h => absurd rfl h
  | [], _ :: _, h, _ => by simp [Op.bytesLess] at h
  | _ :: _, [], _, _ => rfl
  | a :: x, b :: y, h, hn => by
    simp only [Op.bytesLess, Bool.or_eq_false_iff, Bool.and_eq_false_iff, decide_eq_false_iff_not] at h
    simp only [Op.bytesLess, Bool.or_eq_true, Bool.and_eq_true, decide_eq_true_eq, beq_iff_eq]
    by_cases hab : a = b
    · subst hab
      right
      refine ⟨rfl, less_total (h.2.elim (fun e => by simp at e) id) (fun e => hn (by rw [e]))⟩
    · left
      have h1 := h.1
      rw [UInt8.lt_iff_toNat_lt] at h1 ⊢
      have : a.toNat ≠ b.toNat := fun e => hab (UInt8.toNat_inj.1 e)
      omega
theorem less_asym : ∀ {x y : Bs}, Op.bytesLess x y = true → Op.bytesLess y x = false
  | [], [], h => by simp [Op.bytesLess] at h
  | [], _ :: _, _ => rfl
  | _ :: _, [], h => by simp [Op.bytesLess] at h
  | a :: x, b :: y, h => by
    simp only [Op.bytesLess, Bool.or_eq_true, Bool.and_eq_true, decide_eq_true_eq, beq_iff_eq] at h
    simp only [Op.bytesLess, Bool.or_eq_false_iff, Bool.and_eq_false_iff, decide_eq_false_iff_not]
    rcases h with h | ⟨rfl, h⟩
    · rw [UInt8.lt_iff_toNat_lt] at h ⊢
      refine ⟨by omega, .inl ?_⟩
      rw [beq_eq_false_iff_ne]
      intro e
      rw [e] at h
      omega
    · refine ⟨by rw [UInt8.lt_iff_toNat_lt]; omega, .inr (less_asym h)⟩
theorem less_or (x y : Bs) : (Op.bytesLess x y || x == y) = !(Op.bytesLess y x) := by
  by_cases h : x = y
  · subst h; simp [less_same]
  · rcases hl : Op.bytesLess x y with _ | _
    · rw [less_total hl h]; simp [h]
    · rw [less_asym hl]; simp
/-- A leaf's entries, up to some place. -/
def LeafTo (l : List (Bs × Bs)) (k : Nat) : Prop := ∀ j (h : j < l.length), j < k → KeyOk l[j].1 ∧ l[j].2.length ≤ 100 ∧ ∀ i (hi : i + 1 = j), Lt (l[i]'(by omega)).1 l[j].1
theorem leafTo_iff {p : Pg} (h1 : 1 ≤ p.pairs.length) (h6 : p.pairs.length ≤ 6) : LeafTo p.pairs p.pairs.length ↔ LeafOk p := by
  constructor
  · intro h
    refine ⟨⟨h1, h6⟩, fun x hx => ?_, fun s hs => ?_, fun j hj => ?_⟩
    · obtain ⟨j, hj, rfl⟩ := List.getElem_of_mem hx
      exact (h j hj hj).2.1
    · obtain ⟨x, hx, rfl⟩ := List.mem_map.1 hs
      obtain ⟨j, hj, rfl⟩ := List.getElem_of_mem hx
      exact (h j hj hj).1
    · rw [List.length_map] at hj
      simp only [List.getElem_map]
      exact (h (j + 1) hj hj).2.2 j rfl
  · intro h j hj _
    refine ⟨h.all _ (List.mem_map_of_mem (List.getElem_mem hj)), h.vals _ (List.getElem_mem hj), fun i hi => ?_⟩
    subst hi
    have := h.rises i (by rw [List.length_map]; exact hj)
    simpa only [List.getElem_map] using this
theorem leafTo_step {l : List (Bs × Bs)} {k : Nat} (hk : k < l.length) (h : LeafTo l k) : (KeyOk l[k].1 ∧ l[k].2.length ≤ 100 ∧ (∀ i (hi : i + 1 = k), Lt (l[i]'(by omega)).1 l[k].1) → LeafTo l (k + 1)) ∧ (LeafTo l l.length → KeyOk l[k].1 ∧ l[k].2.length ≤ 100 ∧ ∀ i (hi : i + 1 = k), Lt (l[i]'(by omega)).1 l[k].1) :=
  ⟨fun g j hj hjk => by
    by_cases e : j = k
    · subst e; exact g
    · exact h j hj (by omega), fun g => g k hk hk⟩
set_option maxRecDepth 100000 in
theorem rLeaf_any (p : Pg) (a : Lay) (w : World) (hR : PRow w a.A1 p.pairs) : Calls Try.prog 35 #[pgV p a] w (Tells (LeafOk p) w) := by
  have b1 : Below w.heap.size w (w.alloc (.cells (pgC p a) 28)) := (Below.refl _ _).alloc (Nat.le_refl _) _
  have B1 := Lib.hid b1
  have AT := Lib.hid (show At (w.alloc (.cells (pgC p a) 28)) w.heap.size (pgC p a) from At.of_block (heap_alloc_last w _))
  have HP := Lib.hid (hR.below b1)
  clear hR b1
  obtain ⟨W0, hW0⟩ : ∃ W0, w.alloc (.cells (pgC p a) 28) = W0 := ⟨_, rfl⟩
  unfold pgV
  unfold pgC at *
  rw [hW0] at AT HP B1
  have x1 : W0.cell? ⟨w.heap.size, 1, none⟩ = some (.slice a.A1 p.pairs.length a.c1) := AT.out.2.2 1 _ rfl
  by_cases hlo : 1 ≤ p.pairs.length
  rotate_left
  · have d1 : decide ((p.pairs.length : Int) < 1) = true := by simp; omega
    go_enter Try.func35, Try.ntmps35
    go_wp2_with fail
    go_ret
    exact ⟨_, rfl, ⟨fun h => (by cases h), fun h => absurd h.len.1 hlo⟩, B1.out⟩
  have d1 : decide ((p.pairs.length : Int) < 1) = false := by simp; omega
  by_cases hhi : p.pairs.length ≤ 6
  rotate_left
  · have d2 : decide (6 < (p.pairs.length : Int)) = true := by simp; omega
    go_enter Try.func35, Try.ntmps35
    go_wp2_with fail
    go_ret
    exact ⟨_, rfl, ⟨fun h => (by cases h), fun h => absurd h.len.2 hhi⟩, B1.out⟩
  have d2 : decide (6 < (p.pairs.length : Int)) = false := by simp; omega
  have HI := Lib.hid (leafTo_iff hlo hhi)
  obtain ⟨n, hn⟩ : ∃ n, p.pairs.length = n := ⟨_, rfl⟩
  rw [hn] at x1 d1 d2 AT hlo hhi hW0 ⊢
  have HN := Lib.hid hn
  clear hn
  generalize a.A1 = Ak at *
  go_enter Try.func35, Try.ntmps35
  go_wp2_with fail
  clear hW0 x1 d1 d2
  go_loopw [3] (fun i wr => ∃ k : Nat, i = .int .i64 (k : Int) ∧ k ≤ n ∧ Hid (LeafTo p.pairs k) ∧ Drew W0 wr) (fun i _ => n - (intOf i).toNat)
  case atStart => exact ⟨0, rfl, Nat.zero_le _, Lib.hid (fun j h hj => absurd hj (Nat.not_lt_zero j)), Drew.refl _⟩
  case round =>
    obtain ⟨k, rfl, hk, hQ, hD⟩ := hrel
    have HD := Lib.hid hD
    have x1 := (AT.out.below (hD.below _) AT.out.1).2.2 1 _ rfl
    clear hD
    by_cases hlt : k < n
    · have hka : k < p.pairs.length := by have := HN.out; omega
      obtain ⟨b, o, rfl, -, hc⟩ := HP.out (by intro e; rw [e] at hka; simp at hka)
      obtain ⟨h1, h2⟩ := hc k hka
      rw [← HD.out.cell] at h1 h2
      have t1 : (k : Int) < (n : Int) := by omega
      have t3 : (0 : Int) ≤ (k : Int) := by omega
      have HS := Lib.hid (leafTo_step hka hQ.out)
      have HY := Lib.hid (show k ≠ 0 → ∃ j, k = j + 1 ∧ ∃ hj : j < p.pairs.length, wr.cell? ⟨b, o + j * 2, none⟩ = some (strV p.pairs[j].1) from fun hz => ⟨k - 1, by omega, by omega, by rw [HD.out.cell]; exact (hc (k - 1) (by omega)).1⟩)
      have g2 : (strB p.pairs[k].2).size = p.pairs[k].2.length := strB_size _
      obtain ⟨X, hX⟩ : ∃ X, strB p.pairs[k].1 = X := ⟨_, rfl⟩
      obtain ⟨V, hV⟩ : ∃ X, strB p.pairs[k].2 = X := ⟨_, rfl⟩
      have HX := Lib.hid hX
      have cK := rKey_any p.pairs[k].1 wr
      rw [show strV p.pairs[k].1 = .string X by rw [← hX]] at h1 cK
      rw [show strV p.pairs[k].2 = .string V by rw [← hV]] at h2
      rw [hV] at g2
      clear hc hQ hX hV
      go_wp2_with fail
      refine cK.mono ?_
      rintro e w' ⟨r, rfl, hr, rfl⟩
      rcases r with _ | _
      · have HF : Hid (¬ LeafOk p) := Lib.hid (fun h => by cases (hr.2 (HS.out.2 (HI.out.2 h)).1))
        clear hr HS HY cK
        go_wp2_with fail
        go_quiet (fail)
        go_wp2_with fail
        go_ret
        exact ⟨_, rfl, ⟨fun h => (by cases h), fun h => absurd h HF.out⟩, B1.out.trans ((HD.out.drewN _).below _)⟩
      have HK := Lib.hid (hr.1 rfl)
      clear hr cK
      by_cases hv : p.pairs[k].2.length ≤ 100
      rotate_left
      · have d3 : decide (100 < (V.size : Int)) = true := by simp; omega
        have HF : Hid (¬ LeafOk p) := Lib.hid (fun h => absurd (HS.out.2 (HI.out.2 h)).2.1 hv)
        clear HS HY hv g2
        go_wp2_with fail
        go_quiet (fail)
        go_wp2_with fail
        go_ret
        exact ⟨_, rfl, ⟨fun h => (by cases h), fun h => absurd h HF.out⟩, B1.out.trans ((HD.out.drewN _).below _)⟩
      have d3 : decide (100 < (V.size : Int)) = false := by simp; omega
      have HV := Lib.hid hv
      clear hv g2
      by_cases hz : k = 0
      · subst hz
        have HF := Lib.hid (HS.out.1 ⟨HK.out, HV.out, fun i hi => by omega⟩)
        clear HS HY
        go_wp2_with fail
        go_quiet (fail)
        go_wp2_with fail
        go_roundw
        case rel => exact ⟨1, by go_num, by omega, HF, HD.out.drewN _⟩
        case measure => simp [intOf]; omega
      · obtain ⟨j, rfl, hj, hcj⟩ := HY.out hz
        obtain ⟨Y, hY⟩ : ∃ X, strB p.pairs[j].1 = X := ⟨_, rfl⟩
        rw [show strV p.pairs[j].1 = .string Y by rw [← hY]] at hcj
        have HD1 : Hid (∀ r, less p.pairs[j].1 p.pairs[j + 1].1 = r → (Op.bytesLess X.toList Y.toList || X.toList == Y.toList) = !r) := Lib.hid (fun r h => by rw [← hY, ← HX.out, strB_list, strB_list, ← h]; exact less_or _ _)
        have t4 : (0 : Int) ≤ (j : Int) := by omega
        have t5 : (j : Int) < (n : Int) := by omega
        have t6 : (0 : Int) < ((j + 1 : Nat) : Int) := by omega
        have e1 : ((j + 1 : Nat) : Int) - 1 = (j : Int) := by omega
        clear HY hz hY
        by_cases hxy : less p.pairs[j].1 p.pairs[j + 1].1 = true
        · have d : (Op.bytesLess X.toList Y.toList || X.toList == Y.toList) = false := HD1.out _ hxy
          have HF := Lib.hid (HS.out.1 ⟨HK.out, HV.out, fun i hi => by obtain rfl : i = j := (by omega); exact hxy⟩)
          clear HS HD1 hxy
          go_wp2_with fail
          go_quiet (fail)
          go_wp2_with fail
          go_roundw
          case rel => exact ⟨j + 2, by go_num, by omega, HF, HD.out.drewN _⟩
          case measure => simp [intOf]; omega
        · have hf : less p.pairs[j].1 p.pairs[j + 1].1 = false := by simpa using hxy
          have d : (Op.bytesLess X.toList Y.toList || X.toList == Y.toList) = true := HD1.out _ hf
          have HF : Hid (¬ LeafOk p) := Lib.hid (fun h => absurd ((HS.out.2 (HI.out.2 h)).2.2 j rfl) hxy)
          clear HS HD1 hxy hf
          go_wp2_with fail
          go_quiet (fail)
          go_wp2_with fail
          go_ret
          exact ⟨_, rfl, ⟨fun h => (by cases h), fun h => absurd h HF.out⟩, B1.out.trans ((HD.out.drewN _).below _)⟩
    · have HF := Lib.hid (HI.out.1 (fun j hj h => hQ.out j hj (by have := HN.out; omega)))
      clear hQ
      go_wp2_with fail
      go_ret
      exact ⟨_, rfl, ⟨fun _ => HF.out, fun _ => rfl⟩, B1.out.trans (HD.out.below _)⟩
end Go.Proofs.Ytiebaeahimeedaa.Page
