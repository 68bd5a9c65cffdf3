/-
  The document's device: Sync.
-/
import Derived.Test.YtoldkhfnebjacaaDRefWrite
namespace Go.Proofs.Ytoldkhfnebjacaa.Disk
open Go.RowKit Go.Maps Gen

/-- A row is laid into what lasts. -/
theorem Ref.last_set {w : World} {rb lb cb ib : Nat} {s : St} (h : Ref w rb lb cb ib s) {i : Nat} (hi : i < s.n) {A : Option Addr} {c : Nat} {l : Bs} (hl : l.length = 1024) (hc0 : 1024 ≤ c) (hc1 : c ≤ maxLen) (hR : BRow w A l) :
    Ref (w.setCell ⟨lb, i, none⟩ (.slice A 1024 c)) rb lb cb ib { s with L := upd s.L (i : Int) (laid l) } := by
  obtain ⟨n1, n2, n3, n4, n5⟩ := h.nes
  have m1 := mod_set w lb i (.slice A 1024 c)
  obtain ⟨left, hb, hf⟩ := h.box
  refine ⟨⟨left, (m1.block rb h.lt (by simp; exact n1)).trans hb, hf⟩, (h.last.set hi hl hc0 hc1 hR).congr (fun j hj l' e => ?_), h.cache.kept m1 (by simp; exact h.ne.symm) (h.ha (by simp)), h.is.kept m1 (by simp; exact n4.symm), h.ne, h.nle, h.nz⟩
  simp only at e ⊢
  by_cases ej : j = i
  · subst ej; rw [upd_same, laid_getD] at e; simpa using e
  · rw [upd_other _ _ (by omega)] at e; simp only [if_neg ej]; exact e
/-- The cache holds a sector no more. -/
theorem Ref.is_off {w : World} {rb lb cb ib : Nat} {s : St} (h : Ref w rb lb cb ib s) (i : Nat) : Ref (w.setCell ⟨ib, i, none⟩ (.bool false)) rb lb cb ib { s with C := upd s.C (i : Int) none } := by
  obtain ⟨n1, n2, n3, n4, n5⟩ := h.nes
  have m1 := mod_set w ib i (.bool false)
  obtain ⟨left, hb, hf⟩ := h.box
  refine ⟨⟨left, (m1.block rb h.lt (by simp; exact n3)).trans hb, hf⟩, h.last.kept m1 (by simp; exact n4) (h.ha (by simp)), (h.cache.kept m1 (by simp; exact n5) (h.ha (by simp))).congr (fun j hj l' e => ?_), (h.is.set i false).congr (fun j hj => ?_), h.ne, h.nle, h.nz⟩
  · simp only at e
    by_cases ej : j = i
    · subst ej; rw [upd_same] at e; cases e
    · rw [upd_other _ _ (by omega)] at e; exact e
  · simp only
    by_cases ej : j = i
    · subst ej; rw [upd_same]; simp
    · rw [upd_other _ _ (by omega)]; simp [ej]
/-- Behind k rounds of Sync. -/
def St.syn (s : St) (k : Nat) : St := { s with L := fun x => if x < k then merged s (fun _ => false) x else s.L x, C := fun x => if x < k then none else s.C x }
theorem syn_zero {w : World} {rb lb cb ib : Nat} {s : St} (h : Ref w rb lb cb ib s) : Ref w rb lb cb ib (s.syn 0) :=
  h.congr rfl rfl rfl (fun _ => rfl) (fun i _ => by simp only [St.syn]; rw [if_neg (by omega)]) (fun i _ => by simp only [St.syn]; rw [if_neg (by omega)])
theorem syn_end {w : World} {rb lb cb ib : Nat} {s : St} (h : Ref w rb lb cb ib (s.syn s.n)) : Ref w rb lb cb ib s.synced :=
  h.congr rfl rfl rfl (fun _ => rfl) (fun i hi => by
    have : i < s.n := hi
    simp only [St.syn, St.synced]; rw [if_pos (by omega)]) (fun i hi => by
    have : i < s.n := hi
    simp only [St.syn, St.synced]; rw [if_pos (by omega)])
theorem syn_none {w : World} {rb lb cb ib : Nat} {s : St} {k : Nat} (h : Ref w rb lb cb ib (s.syn k)) (hC : s.C (k : Int) = none) : Ref (w.setCell ⟨ib, k, none⟩ (.bool false)) rb lb cb ib (s.syn (k + 1)) :=
  (h.is_off k).congr rfl rfl rfl (fun _ => rfl) (fun i _ => by
    simp only [St.syn]
    by_cases e : i = k
    · subst e
      rw [if_pos (by omega), if_neg (by omega)]
      simp only [merged, hC]
    · by_cases e2 : i < k
      · rw [if_pos (by omega), if_pos (by omega)]
      · rw [if_neg (by omega), if_neg (by omega)]) (fun i _ => by
    simp only [St.syn]
    by_cases e : i = k
    · subst e
      rw [upd_same, if_pos (by omega)]
    · rw [upd_other _ _ (by omega)]
      by_cases e2 : i < k
      · rw [if_pos (by omega), if_pos (by omega)]
      · rw [if_neg (by omega), if_neg (by omega)])
theorem syn_some {w : World} {rb lb cb ib : Nat} {s : St} {k : Nat} (h : Ref w rb lb cb ib (s.syn k)) (hk : k < s.n) {A : Option Addr} {c : Nat} {l : Bs} (hC : s.C (k : Int) = some l) (hl : l.length = 1024) (hc0 : 1024 ≤ c) (hc1 : c ≤ maxLen) (hR : BRow w A l) :
    Ref ((w.setCell ⟨lb, k, none⟩ (.slice A 1024 c)).setCell ⟨ib, k, none⟩ (.bool false)) rb lb cb ib (s.syn (k + 1)) :=
  ((h.last_set hk hl hc0 hc1 hR).is_off k).congr rfl rfl rfl (fun _ => rfl) (fun i _ => by
    simp only [St.syn]
    by_cases e : i = k
    · subst e
      rw [if_pos (by omega), upd_same]
      simp [merged, hC]
    · rw [upd_other _ _ (by omega)]
      by_cases e2 : i < k
      · rw [if_pos (by omega), if_pos (by omega)]
      · rw [if_neg (by omega), if_neg (by omega)]) (fun i _ => by
    simp only [St.syn]
    by_cases e : i = k
    · subst e
      rw [upd_same, if_pos (by omega)]
    · rw [upd_other _ _ (by omega)]
      by_cases e2 : i < k
      · rw [if_pos (by omega), if_pos (by omega)]
      · rw [if_neg (by omega), if_neg (by omega)])
/-- At the head of each round. -/
def RSyncRel (w : World) (rb lb cb ib N : Nat) (s : St) (i : Value) (wr : World) : Prop := ∃ k : Nat, k ≤ N ∧ i = .int .i64 (k : Int) ∧ Ref wr rb lb cb ib (s.syn k) ∧ Mod [rb, lb, cb, ib] w wr
set_option maxRecDepth 100000 in
set_option maxHeartbeats 4000000 in
theorem rsync_ok (w : World) (rb lb cb ib N : Nat) (s : St) (hN : s.n = N) (h : Ref w rb lb cb ib s) (f0 : 0 ≤ s.fuse) (f1 : s.fuse ≤ 9223372036854775807) (ho : s.off = false) (ha : s.actB = true) :
    Calls Try.prog 30 #[ptr rb] w fun e w' => e = .returned (.int .i64 0) ∧ Ref w' rb lb cb ib s.act.synced ∧ Mod [rb, lb, cb, ib] w w' := by
  obtain ⟨left, c0, c1, c2, c3, c4, c5, hf⟩ := h.cells
  have cA := ract_ref w rb lb cb ib s h f0 f1
  rw [ha] at cA
  rw [ho] at c3
  have hle := h.nle
  rw [hN] at hle
  have hN1 : s.act.n = N := (act_n s).trans hN
  clear h hf c0 c1 c2 c4 c5 ho ha f0 f1
  generalize s.act = s1 at *
  have HN := Lib.hid hN1
  clear hN hN1
  go_enter Try.func30, Try.ntmps30
  go_wp2_with fail
  refine cA.mono ?_
  rintro e w1 ⟨rfl, r1, m1⟩
  have RF := Lib.hid (syn_zero r1)
  have M1 := Lib.hid m1
  clear r1 m1 c3
  go_wp2_with fail
  go_loopw [4] (fun i wr => RSyncRel w rb lb cb ib N s1 i wr) (fun i _ => N - (intOf i).toNat)
  case atStart => exact ⟨0, Nat.zero_le _, rfl, RF.out, M1.out⟩
  case round =>
    clear RF M1
    obtain ⟨k, hk, rfl, r, m⟩ := hrel
    obtain ⟨left, c0, c1, c2, c3, c4, c5, _⟩ := r.cells
    have hn : (s1.syn k).n = N := HN.out
    rw [hn] at c0 c1 c2
    have RF := Lib.hid r
    have MM := Lib.hid m
    have hlt := r.lt
    obtain ⟨n1, n2, n3, n4, n5⟩ := r.nes
    clear r m c3 c4 c5 hn
    by_cases hlt2 : k < N
    · have hkn : k < (s1.syn k).n := by show k < s1.n; have := HN.out; omega
      obtain ⟨hI, hIf⟩ := RF.out.is.at_ hkn
      have hCk : (s1.syn k).C (k : Int) = s1.C (k : Int) := by simp only [St.syn]; rw [if_neg (by omega)]
      have b0 : decide ((k : Int) < (N : Int)) = true := by simp; omega
      rw [hCk] at hI
      cases hC : s1.C (k : Int) with
      | none =>
        rw [hC] at hI
        simp only [Option.isSome_none] at hI
        have R2 := Lib.hid (syn_none RF.out hC)
        have M2 := Lib.hid (MM.out.setCell ⟨ib, k, none⟩ (.bool false) (.inl (by simp)))
        clear hC hCk hkn RF MM n1 n2 n3 n4 n5
        go_wp2_with fail
        go_roundw
        case rel => exact ⟨k + 1, hlt2, by go_num, R2.out, M2.out⟩
        case measure => simp [intOf]; omega
      | some l =>
        rw [hC] at hI
        simp only [Option.isSome_some] at hI
        obtain ⟨wd, hwd⟩ : ∃ wd, wd = wr.drew := ⟨_, rfl⟩
        have md : Mod [rb, lb, cb, ib] w wd := by rw [hwd]; exact MM.out.drew
        have rd : Ref wd rb lb cb ib (s1.syn k) := by rw [hwd]; exact RF.out.kept (Mod.refl [] _).drew (fun _ _ => by simp) (fun _ _ _ _ _ _ => by simp)
        obtain ⟨A, c, hA, _, hl, hc0, hc1, hR⟩ := rd.cache.at_ hkn (hCk.trans hC)
        obtain ⟨v0, hv0, hv1⟩ := rd.last.any hkn
        obtain ⟨left', d0, d1, d2, _, _, _, _⟩ := rd.cells
        obtain ⟨hJ, hJf⟩ := rd.is.at_ hkn
        rw [show (s1.syn k).n = N from HN.out] at d0 d1 d2
        have R2 := Lib.hid (syn_some rd (by have := HN.out; omega) hC hl hc0 hc1 hR)
        have M2 := Lib.hid ((md.setCell ⟨lb, k, none⟩ (.slice A 1024 c) (.inl (by simp))).setCell ⟨ib, k, none⟩ (.bool false) (.inl (by simp)))
        have m3 := mod_set wd lb k (.slice A 1024 c)
        have e2 := (m3.cell (p := ⟨rb, 2, none⟩) rd.lt (by simp; exact n1)).trans d2
        have eI := (m3.cell (p := ⟨ib, k, none⟩) rd.is.lt (by simp; exact n4.symm)).trans hJ
        have eIf : (wd.setCell ⟨lb, k, none⟩ (.slice A 1024 c)).frozen? ⟨ib, k, none⟩ = false := (World.frozen?_of_block (m3.block ib rd.is.lt (by simp; exact n4.symm))).trans hJf
        have E2 := Lib.hid e2
        have EI := Lib.hid eI
        have EIF := Lib.hid eIf
        have HWD := Lib.hid hwd
        have hi0 : (0 : Int) ≤ (k : Int) := by omega
        have hi1 : (k : Int) < (N : Int) := by omega
        clear hC hCk hkn RF MM n1 n2 n3 n4 n5 hl hc0 hc1 hR m3 e2 eI eIf hwd md rd hJ hJf d2
        go_wp2_with fail
        refine region_tail 13 (by kernel_rfl) (by kernel_rfl) ?_
        intro w3 hw3
        obtain rfl : wd = w3 := HWD.out.trans hw3.symm
        simp only [List.take_succ_cons, List.take_zero, List.drop_succ_cons, List.drop_zero]
        clear c0 c1 c2 hI hIf HWD hw3
        repeat still_step
        refine wpStill_nil ?_
        have e2 := E2.out
        have eI := EI.out
        have eIf := EIF.out
        go_wp2_with fail
        go_roundw
        case rel => exact ⟨k + 1, hlt2, by go_num, R2.out, M2.out⟩
        case measure => simp [intOf]; omega
    · obtain rfl : k = N := by omega
      have b0 : decide ((k : Int) < (k : Int)) = false := by simp
      go_wp2_with fail
      go_ret
      exact ⟨rfl, syn_end (by rw [HN.out]; exact RF.out), MM.out⟩
set_option maxRecDepth 100000 in
theorem rsync_off (w : World) (rb lb cb ib : Nat) (s : St) (h : Ref w rb lb cb ib s) (ho : s.off = true) :
    Calls Try.prog 30 #[ptr rb] w fun e w' => e = .returned (.int .i64 40) ∧ w = w' := by
  obtain ⟨left, c0, c1, c2, c3, c4, c5, hf⟩ := h.cells
  rw [ho] at c3
  clear h hf c0 c1 c2 c4 c5 ho
  go_enter Try.func30, Try.ntmps30
  go_wp2_with fail
  go_ret
  exact ⟨rfl, rfl⟩
set_option maxRecDepth 100000 in
theorem rsync_out (w : World) (rb lb cb ib : Nat) (s : St) (h : Ref w rb lb cb ib s) (f0 : 0 ≤ s.fuse) (f1 : s.fuse ≤ 9223372036854775807) (ho : s.off = false) (ha : s.actB = false) :
    Calls Try.prog 30 #[ptr rb] w fun e w' => e = .returned (.int .i64 40) ∧ Ref w' rb lb cb ib s.act ∧ Mod [rb, lb, cb, ib] w w' := by
  obtain ⟨left, c0, c1, c2, c3, c4, c5, hf⟩ := h.cells
  have cA := ract_ref w rb lb cb ib s h f0 f1
  rw [ha] at cA
  rw [ho] at c3
  clear h hf c0 c1 c2 c4 c5 ho ha
  go_enter Try.func30, Try.ntmps30
  go_wp2_with fail
  refine cA.mono ?_
  rintro e w1 ⟨rfl, r1, m1⟩
  have R1 := Lib.hid r1
  clear r1 c3
  go_wp2_with fail
  go_ret
  exact ⟨rfl, R1.out, m1⟩
theorem rsync_ref (w : World) (rb lb cb ib : Nat) (s : St) (h : Ref w rb lb cb ib s) (f0 : 0 ≤ s.fuse) (f1 : s.fuse ≤ 9223372036854775807) :
    Calls Try.prog 30 #[ptr rb] w fun e w' => e = .returned (.int .i64 s.syncE) ∧ Ref w' rb lb cb ib s.sync ∧ Mod [rb, lb, cb, ib] w w' := by
  unfold St.syncE St.sync
  cases ho : s.off
  · cases ha : s.actB
    · have e := act_no s ha
      rw [e]
      exact rsync_out w rb lb cb ib s h f0 f1 ho ha
    · have e := act_is s ha
      rw [e]
      exact rsync_ok w rb lb cb ib _ s rfl h f0 f1 ho ha
  · refine (rsync_off w rb lb cb ib s h ho).mono ?_
    rintro e w' ⟨rfl, rfl⟩
    exact ⟨rfl, h, Mod.refl _ _⟩
end Go.Proofs.Ytoldkhfnebjacaa.Disk
