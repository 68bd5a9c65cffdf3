/-
  Restart.
-/
import Derived.Test.YtoldkhfnebjacaaDTear
namespace Go.Proofs.Ytoldkhfnebjacaa.Disk
open Go.RowKit Go.Maps Gen

def St.keep1 (s : St) (n : Int) : St := match s.C n with
  | some l => { s.lay n l with C := upd s.C n none }
  | none => s
def St.keeps (s : St) (ks : List Int) : St := ks.foldl St.keep1 s
def cutN (cut : Int) : Nat := (min (max cut 0) 1024).toNat
def St.tear1 (s : St) (n : Int) (k : Nat) : St := match s.C n with
  | some l => s.lay n (torn l ((s.L n).getD zeros) k)
  | none => s
def St.reset (s : St) : St := { s with C := fun _ => none, off := false, fused := false, fuse := 0 }
def St.restart (s : St) (ks : List Int) (t : Int) (cut : Int) : St := ((s.keeps ks).tear1 t (cutN cut)).reset
theorem keeps_snoc (s : St) (ks : List Int) (k : Nat) (h : k < ks.length) : s.keeps (ks.take (k + 1)) = (s.keeps (ks.take k)).keep1 ks[k] := by
  rw [List.take_succ_eq_append_getElem h, St.keeps, List.foldl_append]; rfl
abbrev intV (x : Int) : Value := .int .i64 x
abbrev IRow (w : World) (A : Option Addr) (l : List Int) : Prop := RowG w intV A l

theorem restart_nil (A : Option Addr) (k c : Nat) (t cut : Int) (w : World) : Calls Try.prog 17 #[.pointer none, .slice A k c, .int .i64 t, .int .i64 cut] w fun e w' => e = .returned (.tuple #[]) ∧ w = w' := by
  go_enter Try.func17, Try.ntmps17
  go_wp2_with fail
  refine bodyPost_ret (results_none rfl _ _ _) rfl ?_
  exact ⟨rfl, rfl⟩
theorem Dev.reset {w : World} {sb bl bc : Nat} {s : St} (h : Dev w sb bl bc { s with C := fun _ => none }) : Dev (((w.setCell ⟨sb, 3, none⟩ (.bool false)).setCell ⟨sb, 4, none⟩ (.bool false)).setCell ⟨sb, 5, none⟩ (.int .i64 0)) sb bl bc s.reset := by
  have h1 := heap_setCell_box (heap_setCell_box (heap_setCell_box h.box 3 (.bool false)) 4 (.bool false)) 5 (.int .i64 0)
  refine ⟨h1, h.last.of_block ?_, h.cache.of_block ?_, h.ne, h.nz, h.nle, Int.le_refl _, by simp [St.reset]⟩
  · rw [Below.heap_setCell _ _ _ _ h.sbl.symm, Below.heap_setCell _ _ _ _ h.sbl.symm, Below.heap_setCell _ _ _ _ h.sbl.symm]
  · rw [Below.heap_setCell _ _ _ _ h.sbc.symm, Below.heap_setCell _ _ _ _ h.sbc.symm, Below.heap_setCell _ _ _ _ h.sbc.symm]
def Dev.reset_of (s1 : St) (t cut : Int) (l m : Bs) (s2 : St) : Prop := ∀ {sb bl bc : Nat} (w' : World), Dev w' sb bl bc (s1.lay t (torn l m (cutN cut))).reset → Dev w' sb bl bc s2
theorem cut_eq (cut : Int) : min (max cut 0) 1024 = ((cutN cut : Nat) : Int) := by unfold cutN; omega
theorem tear_cut (w : World) (sb bl bc : Nat) (s : St) (n : Int) (l : Bs) (cut : Int) (m : Bs) (hm : (s.L n).getD zeros = m) (hl : l.length = 1024) (h : Dev w sb bl bc s) (h0 : 0 ≤ n) (h1 : n < s.n) (cv : Int) (hc : cv = ((cutN cut : Nat) : Int)) : Calls Try.prog 37 #[ptr sb, .int .i64 n, .agg (secC l), .int .i64 cv] w fun e w' =>
    e = .returned (.tuple #[]) ∧ Dev w' sb bl bc (s.lay n (torn l m (cutN cut))) ∧ Mod [sb, bl, bc] w w' := by
  subst hc
  exact tear_dev w sb bl bc s n l _ _ hl (by unfold cutN; omega) h h0 h1 hm
/-- What holds at the head of each round over keep. -/
def KeepRel (w : World) (sb bl bc : Nat) (s : St) (ks : List Int) (i : Value) (wr : World) : Prop :=
  ∃ k : Nat, k ≤ ks.length ∧ i = .int .i64 (k : Int) ∧ Dev wr sb bl bc (s.keeps (ks.take k)) ∧ Mod [sb, bl, bc] w wr
set_option maxRecDepth 100000 in
set_option maxHeartbeats 4000000 in
theorem restart_dev (w : World) (sb bl bc : Nat) (s : St) (A : Option Addr) (n c : Nat) (t cut : Int) (ks : List Int) (hks : ks.length = n) (hn : n ≤ 9223372036854775807) (hR : IRow w A ks) (hA : ks ≠ [] → ∀ a, A = some a → a.block ≠ sb ∧ a.block ≠ bl ∧ a.block ≠ bc)
    (hkb : ∀ x ∈ ks, -9223372036854775808 ≤ x ∧ x ≤ 9223372036854775807) (ht0 : -9223372036854775808 ≤ t) (ht1 : t ≤ 9223372036854775807) (h : Dev w sb bl bc s) :
    Calls Try.prog 17 #[ptr sb, .slice A n c, .int .i64 t, .int .i64 cut] w fun e w' =>
    e = .returned (.tuple #[]) ∧ Dev w' sb bl bc (s.restart ks t cut) ∧ Mod [sb, bl, bc] w w' := by
  have HR := Lib.hid hR
  have HA := Lib.hid hA
  have HK := Lib.hid hks
  have HB := Lib.hid hkb
  have HST := Lib.hid (show KeepRel w sb bl bc s ks (.int .i64 0) w from ⟨0, Nat.zero_le _, rfl, h, Mod.refl _ _⟩)
  clear hR hA hks hkb h
  go_enter Try.func17, Try.ntmps17
  go_wp2_with fail
  go_loopw [18] (fun i wr => KeepRel w sb bl bc s ks i wr) (fun i _ => n - (intOf i).toNat)
  case atStart => exact HST.out
  case round =>
    obtain ⟨k, hk, rfl, hdev, hm⟩ := hrel
    have hkn : k ≤ n := by have := HK.out; omega
    by_cases hlt : k < n
    · have hlk : k < ks.length := by have := HK.out; omega
      obtain ⟨b, off, rfl, hb, hc⟩ := HR.out (fun e => by rw [e] at hlk; simp at hlk)
      have hcell := hc k hlk
      have hnot := HA.out (fun e => by rw [e] at hlk; simp at hlk) _ rfl
      have hcw : wr.cell? ⟨b, off + k, none⟩ = some (.int .i64 ks[k]) := (hm.cell (p := ⟨b, off + k, none⟩) hb (by simp; exact hnot)).trans hcell
      have hbk := HB.out ks[k] (List.getElem_mem hlk)
      have HSN := Lib.hid (keeps_snoc s ks k hlk)
      clear hcell hnot hc hb
      generalize ks[k] = x at *
      generalize s.keeps (ks.take k) = s1 at *
      obtain ⟨c0, c1, c2, c3, c4, c5⟩ := hdev.cells
      have ZZ := Lib.hid (zero_sec wr)
      have LK := hdev.cache.lookup_ok x hbk.1 hbk.2
      clear c0 c1 c3 c4 c5
      have HM := Lib.hid hm
      have HKL := Lib.hid hlk
      cases hC : s1.C x with
      | none =>
        rw [hC] at LK
        simp only [Option.getD_none, Option.isSome_none] at LK
        have LK2 := Lib.hid LK
        have SS := Lib.hid (store_sec_new wr (secC zeros) zeros zeros_len zeros_size)
        have HF : Hid (Dev (wr.alloc (.cells (secC zeros) 66)) sb bl bc (s.keeps (ks.take (k + 1))) ∧ Mod [sb, bl, bc] w (wr.alloc (.cells (secC zeros) 66))) := Lib.hid ⟨by
          rw [HSN.out, St.keep1, hC]; exact hdev.alloc _, hm.alloc _⟩
        clear LK hC hdev HSN hm hlk hbk hk
        generalize zeros = z at *
        go_wp2_with (first
          | ((with_reducible refine wpList_lookup_eq rfl 58 (.tmp 26) (.tmp 27) true rfl _ _ ?_ ?_ LK2.out ?_); (next => rfl); (next => rfl))
          | ((with_reducible refine wpList_alloc_eq (o := ⟨some 10, _, _, _, _, _⟩) rfl 66 rfl _ ZZ.out ?_))
          | ((with_reducible refine wpList_store_eq rfl 66 (.tmp 10) (.tmp 29) rfl _ _ ?_ ?_ SS.out ?_); (next => rfl); (next => rfl)))
        go_roundw
        case rel => exact ⟨k + 1, HKL.out, by go_num, HF.out⟩
        case measure => simp [intOf]; omega
      | some l =>
        rw [hC] at LK
        simp only [Option.getD_some, Option.isSome_some] at LK
        have LK2 := Lib.hid LK
        have hfit := hdev.cache.fit x l hC
        have SS := Lib.hid (store_sec_new wr (secC zeros) l hfit.2.2 zeros_size)
        have LD := Lib.hid (load_sec (w := wr.alloc (.cells (secC l) 66)) (b := wr.heap.size) hfit.2.2 (heap_alloc_last _ _))
        have cY := Lib.hid (lay_dev _ sb bl bc _ x l hfit.2.2 (hdev.alloc (.cells (secC l) 66)) hfit.1 hfit.2.1)
        have HC := Lib.hid hC
        clear LK hC hdev hm hlk hk hfit
        generalize zeros = z at *
        go_wp2_with (first
          | ((with_reducible refine wpList_lookup_eq rfl 58 (.tmp 26) (.tmp 27) true rfl _ _ ?_ ?_ LK2.out ?_); (next => rfl); (next => rfl))
          | ((with_reducible refine wpList_alloc_eq (o := ⟨some 10, _, _, _, _, _⟩) rfl 66 rfl _ ZZ.out ?_))
          | ((with_reducible refine wpList_store_eq rfl 66 (.tmp 10) (.tmp 29) rfl _ _ ?_ ?_ SS.out ?_); (next => rfl); (next => rfl))
          | ((with_reducible refine wpList_load_eq rfl 66 (.tmp 10) rfl _ ?_ LD.out ?_); (next => rfl)))
        refine cY.out.mono ?_
        rintro e w3 ⟨rfl, HD, HM3⟩
        obtain ⟨w4, hrun, hm4, hg4⟩ := HD.cache.drop x hbk.1 hbk.2 0
        have R := Lib.hid hrun
        obtain ⟨c0, c1, c2', c3, c4, c5⟩ := HD.cells
        have HF : Hid (Dev w4 sb bl bc (s.keeps (ks.take (k + 1))) ∧ Mod [sb, bl, bc] w w4) := Lib.hid ⟨by
          rw [HSN.out, St.keep1, HC.out]; exact HD.withC hg4 hm4, ((HM.out.alloc _).trans (HM3.mono (by simp))).grown hg4 (fun k e => .inl (by cases e; simp))⟩
        clear hrun c0 c1 c3 c4 c5 hm4 hg4 HD HM3 cY LD SS LK2 ZZ hbk
        go_wp2_with ((with_reducible refine wpList_delete_eq rfl 58 3 (.tmp 39) (.tmp 40) rfl _ _ ?_ ?_ R.out ?_); (next => rfl); (next => rfl))
        go_roundw
        case rel => exact ⟨k + 1, HKL.out, by go_num, HF.out⟩
        case measure => simp [intOf]; omega
    · have hke : s.keeps (ks.take k) = s.keeps ks := by rw [List.take_of_length_le (by have := HK.out; omega)]
      have HRS : Hid (∀ s2, s2 = (s.keeps ks).tear1 t (cutN cut) → s2.reset = s.restart ks t cut) := Lib.hid (fun s2 e => by rw [e]; rfl)
      rw [hke] at hdev
      clear hke
      generalize s.keeps ks = s1 at *
      obtain ⟨c0, c1, c2, c3, c4, c5⟩ := hdev.cells
      have ZZ := Lib.hid (zero_sec wr)
      have LK := hdev.cache.lookup_ok t ht0 ht1
      have HM := Lib.hid hm
      clear c0 c1 c3 c4 c5 hm
      cases hC : s1.C t with
      | none =>
        rw [hC] at LK
        simp only [Option.getD_none, Option.isSome_none] at LK
        have LK2 := Lib.hid LK
        have SS := Lib.hid (store_sec_new wr (secC zeros) zeros zeros_len zeros_size)
        have hd2 := hdev.alloc (.cells (secC zeros) 66)
        obtain ⟨w4, hrun, hm4, hg4⟩ := hd2.cache.clear 0
        have hd4 := hd2.withC hg4 hm4
        have R := Lib.hid hrun
        have HF := Lib.hid (show Dev _ sb bl bc (s.restart ks t cut) from HRS.out s1 (by rw [St.tear1, hC]) ▸ hd4.reset)
        have HM4 := Lib.hid ((HM.out.alloc (.cells (secC zeros) 66)).grown hg4 (fun k e => .inl (by cases e; simp)))
        obtain ⟨d0, d1, d2, d3, d4, d5⟩ := hd4.cells
        have f3 := hd4.free 3
        have f4 := hd4.free 4
        have f5 := hd4.free 5
        have hlt' := hdev.lt
        clear LK hC hdev hd2 hd4 hm4 hg4 hrun d0 d1 HRS
        generalize zeros = z at *
        go_wp2_with (first
          | ((with_reducible refine wpList_lookup_eq rfl 58 (.tmp 46) (.tmp 47) true rfl _ _ ?_ ?_ LK2.out ?_); (next => rfl); (next => rfl))
          | ((with_reducible refine wpList_alloc_eq (o := ⟨some 12, _, _, _, _, _⟩) rfl 66 rfl _ ZZ.out ?_))
          | ((with_reducible refine wpList_store_eq rfl 66 (.tmp 12) (.tmp 49) rfl _ _ ?_ ?_ SS.out ?_); (next => rfl); (next => rfl))
          | ((with_reducible refine wpList_clear_eq rfl 58 (.tmp 62) rfl _ ?_ R.out ?_); (next => rfl)))
        go_end0
        exact ⟨rfl, HF.out, ((HM4.out.setCell _ _ (.inl (by simp))).setCell _ _ (.inl (by simp))).setCell _ _ (.inl (by simp))⟩
      | some l =>
        rw [hC] at LK
        simp only [Option.getD_some, Option.isSome_some] at LK
        have LK2 := Lib.hid LK
        have hfit := hdev.cache.fit t l hC
        obtain ⟨m, hmm⟩ : ∃ m, (s1.L t).getD zeros = m := ⟨_, rfl⟩
        have SS := Lib.hid (store_sec_new wr (secC zeros) l hfit.2.2 zeros_size)
        have LD := Lib.hid (load_sec (w := wr.alloc (.cells (secC l) 66)) (b := wr.heap.size) hfit.2.2 (heap_alloc_last _ _))
        have cY := Lib.hid (tear_cut _ sb bl bc s1 t l cut m hmm hfit.2.2 (hdev.alloc (.cells (secC l) 66)) hfit.1 hfit.2.1)
        have HSR : Hid (Dev.reset_of s1 t cut l m (s.restart ks t cut)) := Lib.hid (fun w' hd => HRS.out (s1.lay t (torn l m (cutN cut))) (by rw [St.tear1, hC, ← hmm]) ▸ hd)
        clear LK hC hdev hfit HRS hmm
        generalize zeros = z at *
        go_wp2_with (first
          | ((with_reducible refine wpList_lookup_eq rfl 58 (.tmp 46) (.tmp 47) true rfl _ _ ?_ ?_ LK2.out ?_); (next => rfl); (next => rfl))
          | ((with_reducible refine wpList_alloc_eq (o := ⟨some 12, _, _, _, _, _⟩) rfl 66 rfl _ ZZ.out ?_))
          | ((with_reducible refine wpList_store_eq rfl 66 (.tmp 12) (.tmp 49) rfl _ _ ?_ ?_ SS.out ?_); (next => rfl); (next => rfl))
          | ((with_reducible refine wpList_load_eq rfl 66 (.tmp 12) rfl _ ?_ LD.out ?_); (next => rfl)))
        refine (cY.out _ (cut_eq cut)).mono ?_
        rintro e w3 ⟨rfl, HD, HM3⟩
        obtain ⟨w4, hrun, hm4, hg4⟩ := HD.cache.clear 0
        have hd4 := HD.withC hg4 hm4
        have R := Lib.hid hrun
        obtain ⟨c0, c1, c2', c3, c4, c5⟩ := HD.cells
        have HF := Lib.hid (HSR.out _ hd4.reset)
        have HM4 := Lib.hid (((HM.out.alloc (.cells (secC l) 66)).trans HM3).grown hg4 (fun k e => .inl (by cases e; simp)))
        obtain ⟨d0, d1, d2, d3, d4, d5⟩ := hd4.cells
        have f3 := hd4.free 3
        have f4 := hd4.free 4
        have f5 := hd4.free 5
        clear hrun c0 c1 c3 c4 c5 hm4 hg4 HD HM3 cY LD SS LK2 ZZ hd4 d0 d1 HSR
        go_wp2_with ((with_reducible refine wpList_clear_eq rfl 58 (.tmp 62) rfl _ ?_ R.out ?_); (next => rfl))
        go_end0
        exact ⟨rfl, HF.out, ((HM4.out.setCell _ _ (.inl (by simp))).setCell _ _ (.inl (by simp))).setCell _ _ (.inl (by simp))⟩
end Go.Proofs.Ytoldkhfnebjacaa.Disk
