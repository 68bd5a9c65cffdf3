/-
  Contracts of what the document's own Check asks: branches, lists.
-/
import Derived.Test.YtiebaeahimeedaaPRefC
namespace Go.Proofs.Ytiebaeahimeedaa.Page
open Go.RowKit Gen

/-- Elements that are so, each behind the one ahead, up to some place. -/
def RiseTo {α : Type} (P : α → Prop) (lt : α → α → Prop) (l : List α) (k : Nat) : Prop := ∀ j (h : j < l.length), j < k → P l[j] ∧ ∀ i (hi : i + 1 = j), lt (l[i]'(by omega)) l[j]
theorem riseTo_iff {α : Type} {P : α → Prop} {lt : α → α → Prop} {l : List α} : RiseTo P lt l l.length ↔ (∀ s ∈ l, P s) ∧ Rises lt l := by
  constructor
  · intro h
    refine ⟨fun s hs => ?_, fun j hj => (h (j + 1) hj hj).2 j rfl⟩
    obtain ⟨j, hj, rfl⟩ := List.getElem_of_mem hs
    exact (h j hj hj).1
  · intro h j hj _
    refine ⟨h.1 _ (List.getElem_mem hj), fun i hi => ?_⟩
    subst hi
    exact h.2 i hj
theorem riseTo_step {α : Type} {P : α → Prop} {lt : α → α → Prop} {l : List α} {k : Nat} (hk : k < l.length) (h : RiseTo P lt l k) : (P l[k] ∧ (∀ i (hi : i + 1 = k), lt (l[i]'(by omega)) l[k]) → RiseTo P lt l (k + 1)) ∧ (RiseTo P lt l l.length → P l[k] ∧ ∀ i (hi : i + 1 = k), lt (l[i]'(by omega)) l[k]) :=
  ⟨fun g j hj hjk => by
    by_cases e : j = k
    · subst e; exact g
    · exact h j hj (by omega), fun g => g k hk hk⟩
set_option maxRecDepth 100000 in
set_option maxHeartbeats 4000000 in
theorem rBranch_any (p : Pg) (a : Lay) (w : World) (hok : PgOk p) (hR : SRow w a.A2 p.keys) (hK : IRow w a.A3 p.kids) : Calls Try.prog 36 #[pgV p a] w (Tells (BranchOk p) w) := by
  have b1 : Below w.heap.size w (w.alloc (.cells (pgC p a) 28)) := (Below.refl _ _).alloc (Nat.le_refl _) _
  have B1 := Lib.hid b1
  have AT := Lib.hid (show At (w.alloc (.cells (pgC p a) 28)) w.heap.size (pgC p a) from At.of_block (heap_alloc_last w _))
  have HP := Lib.hid (RowG.below hR b1)
  have HQ := Lib.hid (RowG.below hK b1)
  have k1 := hok.kids
  have k2 := hok.keys
  clear hR hK hok b1
  obtain ⟨W0, hW0⟩ : ∃ W0, w.alloc (.cells (pgC p a) 28) = W0 := ⟨_, rfl⟩
  unfold pgV
  unfold pgC at *
  rw [hW0] at AT HP B1 HQ
  have x2 : W0.cell? ⟨w.heap.size, 2, none⟩ = some (.slice a.A2 p.keys.length a.c2) := AT.out.2.2 2 _ rfl
  have x3 : W0.cell? ⟨w.heap.size, 3, none⟩ = some (.slice a.A3 p.kids.length a.c3) := AT.out.2.2 3 _ rfl
  by_cases hlo : 1 ≤ p.keys.length
  rotate_left
  · have d1 : decide ((p.keys.length : Int) < 1) = true := by simp; omega
    go_enter Try.func36, Try.ntmps36
    go_wp2_with fail
    go_ret
    exact ⟨_, rfl, ⟨fun h => (by cases h), fun h => absurd h.len.1 hlo⟩, B1.out⟩
  have d1 : decide ((p.keys.length : Int) < 1) = false := by simp; omega
  by_cases hhi : p.keys.length ≤ 12
  rotate_left
  · have d2 : decide (12 < (p.keys.length : Int)) = true := by simp; omega
    go_enter Try.func36, Try.ntmps36
    go_wp2_with fail
    go_ret
    exact ⟨_, rfl, ⟨fun h => (by cases h), fun h => absurd h.len.2 hhi⟩, B1.out⟩
  have d2 : decide (12 < (p.keys.length : Int)) = false := by simp; omega
  by_cases hnm : p.kids.length = p.keys.length + 1
  rotate_left
  · have d3 : ((p.kids.length : Int) != (p.keys.length : Int) + 1) = true := by simp; omega
    go_enter Try.func36, Try.ntmps36
    go_wp2_with fail
    go_ret
    exact ⟨_, rfl, ⟨fun h => (by cases h), fun h => absurd h.kids hnm⟩, B1.out⟩
  have d3 : ((p.kids.length : Int) != (p.keys.length : Int) + 1) = false := by simp; omega
  have HBR := Lib.hid (show BranchOk p ↔ RiseTo KeyOk Lt p.keys p.keys.length ∧ ∀ s ∈ p.kids, Place s from ⟨fun h => ⟨riseTo_iff.2 ⟨h.all, h.rises⟩, h.places⟩, fun h => ⟨⟨hlo, hhi⟩, hnm, (riseTo_iff.1 h.1).1, (riseTo_iff.1 h.1).2, h.2⟩⟩)
  obtain ⟨n, hn⟩ : ∃ n, p.keys.length = n := ⟨_, rfl⟩
  obtain ⟨m, hm⟩ : ∃ m, p.kids.length = m := ⟨_, rfl⟩
  rw [hn] at x2 d1 d2 d3 AT hlo hhi hW0 hnm ⊢
  rw [hm] at x3 d3 AT hW0 hnm ⊢
  have HN := Lib.hid hn
  have HM := Lib.hid hm
  have HNM := Lib.hid hnm
  clear hn hm hnm k1 k2
  generalize a.A2 = Ak at *
  generalize a.A3 = Ad at *
  go_enter Try.func36, Try.ntmps36
  go_wp2_with fail
  clear hW0 x2 x3 d1 d2 d3
  go_loopw [3] (fun i wr => ∃ k : Nat, i = .int .i64 (k : Int) ∧ k ≤ n ∧ Hid (RiseTo KeyOk Lt p.keys k) ∧ Drew W0 wr) (fun i _ => n - (intOf i).toNat)
  case atStart => exact ⟨0, rfl, Nat.zero_le _, Lib.hid (fun j h hj => absurd hj (Nat.not_lt_zero j)), Drew.refl _⟩
  case round =>
    obtain ⟨k, rfl, hk, hQ, hD⟩ := hrel
    have HD := Lib.hid hD
    have x2 := (AT.out.below (hD.below _) AT.out.1).2.2 2 _ rfl
    have x3 := (AT.out.below (hD.below _) AT.out.1).2.2 3 _ rfl
    clear hD
    by_cases hlt : k < n
    · have hka : k < p.keys.length := by have := HN.out; omega
      obtain ⟨b, o, rfl, -, hc⟩ := HP.out (by intro e; rw [e] at hka; simp at hka)
      have h1 := hc k hka
      rw [← HD.out.cell] at h1
      have t1 : (k : Int) < (n : Int) := by omega
      have t3 : (0 : Int) ≤ (k : Int) := by omega
      have HS := Lib.hid (riseTo_step hka hQ.out)
      have HY := Lib.hid (show k ≠ 0 → ∃ j, k = j + 1 ∧ ∃ hj : j < p.keys.length, wr.cell? ⟨b, o + j, none⟩ = some (strV p.keys[j]) from fun hz => ⟨k - 1, by omega, by omega, by rw [HD.out.cell]; exact hc (k - 1) (by omega)⟩)
      obtain ⟨X, hX⟩ : ∃ X, strB p.keys[k] = X := ⟨_, rfl⟩
      have HX := Lib.hid hX
      have cK := rKey_any p.keys[k] wr
      rw [show strV p.keys[k] = .string X by rw [← hX]] at h1 cK
      clear hc hQ hX x3
      go_wp2_with fail
      refine cK.mono ?_
      rintro e w' ⟨r, rfl, hr, rfl⟩
      rcases r with _ | _
      · have HF : Hid (¬ BranchOk p) := Lib.hid (fun h => by cases (hr.2 (HS.out.2 (HBR.out.1 h).1).1))
        clear hr HS HY cK
        go_wp2_with fail
        go_quiet (fail)
        go_wp2_with fail
        go_ret
        exact ⟨_, rfl, ⟨fun h => (by cases h), fun h => absurd h HF.out⟩, B1.out.trans ((HD.out.drewN _).below _)⟩
      have HK := Lib.hid (hr.1 rfl)
      clear hr cK
      by_cases hz : k = 0
      · subst hz
        have HF := Lib.hid (HS.out.1 ⟨HK.out, fun i hi => by omega⟩)
        clear HS HY
        go_wp2_with fail
        go_quiet (fail)
        go_wp2_with fail
        go_roundw
        case rel => exact ⟨1, by go_num, by omega, HF, HD.out.drewN _⟩
        case measure => simp [intOf]; omega
      · obtain ⟨j, rfl, hj, hcj⟩ := HY.out hz
        obtain ⟨Y, hY⟩ : ∃ X, strB p.keys[j] = X := ⟨_, rfl⟩
        rw [show strV p.keys[j] = .string Y by rw [← hY]] at hcj
        have HD1 : Hid (∀ r, less p.keys[j] p.keys[j + 1] = r → (Op.bytesLess X.toList Y.toList || X.toList == Y.toList) = !r) := Lib.hid (fun r h => by rw [← hY, ← HX.out, strB_list, strB_list, ← h]; exact less_or _ _)
        have t4 : (0 : Int) ≤ (j : Int) := by omega
        have t5 : (j : Int) < (n : Int) := by omega
        have t6 : (0 : Int) < ((j + 1 : Nat) : Int) := by omega
        have e1 : ((j + 1 : Nat) : Int) - 1 = (j : Int) := by omega
        clear HY hz hY
        by_cases hxy : less p.keys[j] p.keys[j + 1] = true
        · have d : (Op.bytesLess X.toList Y.toList || X.toList == Y.toList) = false := HD1.out _ hxy
          have HF := Lib.hid (HS.out.1 ⟨HK.out, fun i hi => by obtain rfl : i = j := (by omega); exact hxy⟩)
          clear HS HD1 hxy
          go_wp2_with fail
          go_quiet (fail)
          go_wp2_with fail
          go_roundw
          case rel => exact ⟨j + 2, by go_num, by omega, HF, HD.out.drewN _⟩
          case measure => simp [intOf]; omega
        · have hf : less p.keys[j] p.keys[j + 1] = false := by simpa using hxy
          have d : (Op.bytesLess X.toList Y.toList || X.toList == Y.toList) = true := HD1.out _ hf
          have HF : Hid (¬ BranchOk p) := Lib.hid (fun h => absurd ((HS.out.2 (HBR.out.1 h).1).2 j rfl) hxy)
          clear HS HD1 hxy hf
          go_wp2_with fail
          go_quiet (fail)
          go_wp2_with fail
          go_ret
          exact ⟨_, rfl, ⟨fun h => (by cases h), fun h => absurd h HF.out⟩, B1.out.trans ((HD.out.drewN _).below _)⟩
    · have HRT : Hid (RiseTo KeyOk Lt p.keys p.keys.length) := Lib.hid (fun j hj h => hQ.out j hj (by have := HN.out; omega))
      clear hQ
      go_wp2_with fail
      clear x2 x3
      obtain ⟨W1, rfl⟩ : ∃ W1 : World, W1 = wr := ⟨_, rfl⟩
      have hm13 : m ≤ 13 := by have := HNM.out; omega
      go_loop [5] (fun i => ∃ k : Nat, i = .int .i64 (k : Int) ∧ k ≤ m ∧ Hid (∀ j (h : j < p.kids.length), j < k → Place p.kids[j])) (fun i => m - (intOf i).toNat)
      case atStart => exact ⟨0, rfl, Nat.zero_le _, Lib.hid (fun j h hj => absurd hj (Nat.not_lt_zero j))⟩
      case round =>
        obtain ⟨k2, rfl, hk2, hQ⟩ := hrel
        have x3 := (AT.out.below (HD.out.below _) AT.out.1).2.2 3 _ rfl
        by_cases hlt2 : k2 < m
        · have hka : k2 < p.kids.length := by have := HM.out; omega
          obtain ⟨b, o, rfl, -, hc⟩ := HQ.out (by intro e; rw [e] at hka; simp at hka)
          have h1 := hc k2 hka
          rw [← HD.out.cell] at h1
          have t1 : (k2 : Int) < (m : Int) := by omega
          have t3 : (0 : Int) ≤ (k2 : Int) := by omega
          have HS : Hid (Place p.kids[k2] → ∀ j (hj : j < p.kids.length), j < k2 + 1 → Place p.kids[j]) := Lib.hid (fun h j hj hjk => by
            by_cases e : j = k2
            · subst e; exact h
            · exact hQ.out j hj (by omega))
          have HN2 : Hid (¬ Place p.kids[k2] → ¬ BranchOk p) := Lib.hid (fun h g => absurd (g.places _ (List.getElem_mem hka)) h)
          generalize p.kids[k2] = z at h1 HS HN2
          clear hc hQ
          go_wp2_with fail
          refine (rPlace_any _ _).mono ?_
          rintro e w' ⟨r, rfl, hr, rfl⟩
          rcases r with _ | _
          · have HF : Hid (¬ BranchOk p) := Lib.hid (HN2.out (fun h => by cases (hr.2 h)))
            clear hr HS HN2
            go_wp2_with fail
            go_ret
            exact ⟨_, rfl, ⟨fun h => (by cases h), fun h => absurd h HF.out⟩, B1.out.trans (HD.out.below _)⟩
          · have HF := Lib.hid (HS.out (hr.1 rfl))
            clear hr HS HN2
            go_wp2_with fail
            go_round
            case rel => exact ⟨k2 + 1, by go_num, by omega, HF⟩
            case measure => simp [intOf]; omega
        · have HF : Hid (BranchOk p) := Lib.hid (HBR.out.2 ⟨HRT.out, fun s hs => by
            obtain ⟨j, hj, rfl⟩ := List.getElem_of_mem hs
            exact hQ.out j hj (by have := HM.out; omega)⟩)
          clear hQ
          go_wp2_with fail
          go_ret
          exact ⟨_, rfl, ⟨fun _ => HF.out, fun _ => rfl⟩, B1.out.trans (HD.out.below _)⟩
set_option maxRecDepth 100000 in
set_option maxHeartbeats 4000000 in
theorem rList_any (p : Pg) (a : Lay) (w : World) (hR : IRow w a.A4 p.pages) : Calls Try.prog 37 #[pgV p a] w (Tells (FreeOk p) w) := by
  have b1 : Below w.heap.size w (w.alloc (.cells (pgC p a) 28)) := (Below.refl _ _).alloc (Nat.le_refl _) _
  have B1 := Lib.hid b1
  have AT := Lib.hid (show At (w.alloc (.cells (pgC p a) 28)) w.heap.size (pgC p a) from At.of_block (heap_alloc_last w _))
  have HP := Lib.hid (RowG.below hR b1)
  clear hR b1
  obtain ⟨W0, hW0⟩ : ∃ W0, w.alloc (.cells (pgC p a) 28) = W0 := ⟨_, rfl⟩
  unfold pgV
  unfold pgC at *
  rw [hW0] at AT HP B1
  have x4 : W0.cell? ⟨w.heap.size, 4, none⟩ = some (.slice a.A4 p.pages.length a.c4) := AT.out.2.2 4 _ rfl
  have x5 : W0.cell? ⟨w.heap.size, 5, none⟩ = some (.int .i64 p.next) := AT.out.2.2 5 _ rfl
  by_cases hhi : p.pages.length ≤ 200
  rotate_left
  · have d2 : decide (200 < (p.pages.length : Int)) = true := by simp; omega
    go_enter Try.func37, Try.ntmps37
    go_wp2_with fail
    go_ret
    exact ⟨_, rfl, ⟨fun h => (by cases h), fun h => absurd h.len hhi⟩, B1.out⟩
  have d2 : decide (200 < (p.pages.length : Int)) = false := by simp; omega
  have HBR := Lib.hid (show FreeOk p ↔ RiseTo Place (· < ·) p.pages p.pages.length ∧ (p.next = 0 ∨ Place p.next) from ⟨fun h => ⟨riseTo_iff.2 ⟨h.all, h.rises⟩, h.next⟩, fun h => ⟨hhi, (riseTo_iff.1 h.1).1, (riseTo_iff.1 h.1).2, h.2⟩⟩)
  obtain ⟨n, hn⟩ : ∃ n, p.pages.length = n := ⟨_, rfl⟩
  rw [hn] at x4 d2 AT hhi hW0 ⊢
  have HN := Lib.hid hn
  clear hn
  generalize a.A4 = Ak at *
  by_cases hz0 : p.next = 0 ∨ Place p.next
  rotate_left
  · have d3 : (p.next != 0) = true := by simp; omega
    have HF : Hid (¬ FreeOk p) := Lib.hid (fun h => hz0 h.next)
    have HF2 : Hid (¬ Place p.next) := Lib.hid (fun h => hz0 (.inr h))
    clear hz0
    go_enter Try.func37, Try.ntmps37
    go_wp2_with fail
    refine (rPlace_any _ _).mono ?_
    rintro e w' ⟨r, rfl, hr, rfl⟩
    obtain rfl : r = false := by
      rcases r with _ | _
      · rfl
      · exact absurd (hr.1 rfl) HF2.out
    clear hr
    go_wp2_with fail
    go_ret
    exact ⟨_, rfl, ⟨fun h => (by cases h), fun h => absurd h HF.out⟩, B1.out⟩
  have HNX := Lib.hid hz0
  clear hz0
  have cP := rPlace_any p.next W0
  have LOOP : ∀ d : Bool, (p.next != 0) = d → Calls Try.prog 37 #[Value.agg #[.int .i64 p.kind, .slice a.A1 p.pairs.length a.c1, .slice a.A2 p.keys.length a.c2, .slice a.A3 p.kids.length a.c3, .slice Ak n a.c4, .int .i64 p.next, .int .u64 (p.epoch : Int), .int .i64 p.root, .int .i64 p.depth, .int .i64 p.count, .int .i64 p.high]] w (Tells (FreeOk p) w) := fun d d3 => by
    rcases d with _ | _
    all_goals
      go_enter Try.func37, Try.ntmps37
      go_wp2_with (go_at_call 24; refine cP.mono ?_; rintro e w' ⟨r, rfl, hr, rfl⟩; obtain rfl : r = true := (hr.2 (HNX.out.elim (fun h => by rw [h] at d3; cases d3) id)); clear hr)
      clear hW0 x4 x5 d2 d3 cP
      go_loopw [3] (fun i wr => ∃ k : Nat, i = .int .i64 (k : Int) ∧ k ≤ n ∧ Hid (RiseTo Place (· < ·) p.pages k) ∧ Drew W0 wr) (fun i _ => n - (intOf i).toNat)
      case atStart => exact ⟨0, rfl, Nat.zero_le _, Lib.hid (fun j h hj => absurd hj (Nat.not_lt_zero j)), Drew.refl _⟩
      case round =>
        obtain ⟨k, rfl, hk, hQ, hD⟩ := hrel
        have HD := Lib.hid hD
        have x2 := (AT.out.below (hD.below _) AT.out.1).2.2 4 _ rfl
        clear hD
        by_cases hlt : k < n
        · have hka : k < p.pages.length := by have := HN.out; omega
          obtain ⟨b, o, rfl, -, hc⟩ := HP.out (by intro e; rw [e] at hka; simp at hka)
          have h1 := hc k hka
          rw [← HD.out.cell] at h1
          have t1 : (k : Int) < (n : Int) := by omega
          have t3 : (0 : Int) ≤ (k : Int) := by omega
          have HS := Lib.hid (riseTo_step hka hQ.out)
          have HY := Lib.hid (show k ≠ 0 → ∃ j, k = j + 1 ∧ ∃ hj : j < p.pages.length, wr.cell? ⟨b, o + j, none⟩ = some (numV p.pages[j]) from fun hz => ⟨k - 1, by omega, by omega, by rw [HD.out.cell]; exact hc (k - 1) (by omega)⟩)
          have cK := rPlace_any p.pages[k] wr
          obtain ⟨x, hx⟩ : ∃ x, p.pages[k] = x := ⟨_, rfl⟩
          have HX := Lib.hid hx
          rw [hx] at h1 cK
          clear hc hQ hx
          go_wp2_with fail
          refine cK.mono ?_
          rintro e w' ⟨r, rfl, hr, rfl⟩
          rcases r with _ | _
          · have HF : Hid (¬ FreeOk p) := Lib.hid (fun h => by cases (hr.2 (by rw [← HX.out]; exact (HS.out.2 (HBR.out.1 h).1).1)))
            clear hr HS HY cK
            go_wp2_with fail
            go_quiet (fail)
            go_wp2_with fail
            go_ret
            exact ⟨_, rfl, ⟨fun h => (by cases h), fun h => absurd h HF.out⟩, B1.out.trans ((HD.out.drewN _).below _)⟩
          have HK : Hid (Place p.pages[k]) := Lib.hid (by rw [HX.out]; exact hr.1 rfl)
          clear hr cK
          by_cases hz : k = 0
          · subst hz
            have HF := Lib.hid (HS.out.1 ⟨HK.out, fun i hi => by omega⟩)
            clear HS HY
            go_wp2_with fail
            go_quiet (fail)
            go_wp2_with fail
            go_roundw
            case rel => exact ⟨1, by go_num, by omega, HF, HD.out.drewN _⟩
            case measure => simp [intOf]; omega
          · obtain ⟨j, rfl, hj, hcj⟩ := HY.out hz
            have HXY := Lib.hid (show p.pages[j] < p.pages[j + 1] ↔ p.pages[j] < x by rw [HX.out])
            have HNO : Hid (¬ p.pages[j] < p.pages[j + 1] → ¬ FreeOk p) := Lib.hid (fun g h => absurd ((HS.out.2 (HBR.out.1 h).1).2 j rfl) g)
            have HYES : Hid (p.pages[j] < p.pages[j + 1] → RiseTo Place (· < ·) p.pages (j + 1 + 1)) := Lib.hid (fun hxy => HS.out.1 ⟨HK.out, fun i hi => by obtain rfl : i = j := (by omega); exact hxy⟩)
            have t4 : (0 : Int) ≤ (j : Int) := by omega
            have t5 : (j : Int) < (n : Int) := by omega
            have t6 : (0 : Int) < ((j + 1 : Nat) : Int) := by omega
            have e1 : ((j + 1 : Nat) : Int) - 1 = (j : Int) := by omega
            obtain ⟨y, hy⟩ : ∃ y, p.pages[j] = y := ⟨_, rfl⟩
            rw [hy] at hcj HXY HNO HYES
            clear HY hz hy HS
            by_cases hxy : y < x
            · have d : decide (x ≤ y) = false := by simp; omega
              have HF := Lib.hid (HYES.out (HXY.out.2 hxy))
              clear hxy HXY HNO HYES
              go_wp2_with fail
              go_quiet (fail)
              go_wp2_with fail
              go_roundw
              case rel => exact ⟨j + 2, by go_num, by omega, HF, HD.out.drewN _⟩
              case measure => simp [intOf]; omega
            · have d : decide (x ≤ y) = true := by simp; omega
              have HF := Lib.hid (HNO.out (fun h => hxy (HXY.out.1 h)))
              clear hxy HXY HNO HYES
              go_wp2_with fail
              go_quiet (fail)
              go_wp2_with fail
              go_ret
              exact ⟨_, rfl, ⟨fun h => (by cases h), fun h => absurd h HF.out⟩, B1.out.trans ((HD.out.drewN _).below _)⟩
        · have HF : Hid (FreeOk p) := Lib.hid (HBR.out.2 ⟨fun j hj h => hQ.out j hj (by have := HN.out; omega), HNX.out⟩)
          clear hQ
          go_wp2_with fail
          go_ret
          exact ⟨_, rfl, ⟨fun _ => HF.out, fun _ => rfl⟩, B1.out.trans (HD.out.below _)⟩
  exact LOOP _ rfl
end Go.Proofs.Ytiebaeahimeedaa.Page
