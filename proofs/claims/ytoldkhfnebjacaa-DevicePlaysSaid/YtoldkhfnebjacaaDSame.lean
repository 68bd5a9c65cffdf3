/-
  Bytes as texts; two lists of sectors compared.
-/
import Derived.Test.YtoldkhfnebjacaaDAwake
import Derived.Laws.BytesArg
namespace Go.Proofs.Ytoldkhfnebjacaa.Disk
open Go.RowKit Go.Maps Gen

def strB (l : Bs) : ByteArray := ⟨l.toArray⟩
theorem strB_list (l : Bs) : (strB l).toList = l := by rw [ByteArray.toList_eq]; rfl
theorem strB_data (l : Bs) : (strB l).data.toList = l := rfl
theorem conv_run {w : World} {A : Option Addr} {l : Bs} {n : Nat} (c : Nat) (hl : l.length = n) (hR : BRow w A l) : (convert 32 9 (.slice A n c)).run Try.prog w = .ok (.string (strB l)) w := by
  rcases A with _ | a
  · have e : l = [] := by
      by_cases h : l = []
      · exact h
      · obtain ⟨_, _, h, _⟩ := hR h; cases h
    subst e
    rw [run_convert_bytes_nil w 32 5 Try.underlying32 Try.underlying5 _ _ 9 Try.underlying9]
    rfl
  · have hload : (loadCells a n).run Try.prog w = .ok ((l.map fun c => (c.toNat : Int)).map (Value.int .u8)).toArray w := by
      by_cases h : l = []
      · subst h
        obtain rfl : n = 0 := hl.symm
        simp [loadCells, loadCellsFrom]
      · obtain ⟨b, off, e, _, hc⟩ := hR h
        cases e
        have := run_loadCells_list (P := Try.prog) w ⟨b, off, none⟩ ((l.map fun c => (c.toNat : Int)).map (Value.int .u8)) (fun j v hj => by
          have hplain : (⟨b, off, none⟩ : Addr).add j = ⟨b, off + j, none⟩ := by unfold Addr.add; split <;> simp_all
          rw [List.map_map, List.getElem?_map, Option.map_eq_some_iff] at hj
          obtain ⟨x, hx, rfl⟩ := hj
          obtain ⟨hjl, hx⟩ := List.getElem?_eq_some_iff.1 hx
          rw [hplain, hc j hjl, hx]; rfl)
        simpa [hl] using this
    rw [run_convert_bytes_string w 32 9 5 _ n c Try.underlying32 Try.underlying5 Try.underlying9, run_bytesToString w _ n c _ hload, foldl_push_bytes]
    have e2 : (l.map fun c => (c.toNat : Int)).map (fun n => UInt8.ofNat n.toNat) = l := by
      rw [List.map_map]
      conv => rhs; rw [← List.map_id l]
      exact List.map_congr_left (fun c _ => by simp)
    rw [e2]
    simp [strB, ByteArray.empty, ByteArray.emptyWithCapacity]
    rfl
/-- A region that draws its order and only reads; the world behind the draw under a letter. -/
theorem region_still {P : Program} {id : Nat} {Q : Exit → Act → World → Prop} {a : Act} {w : World} {l : List Oper} (hm : P.follows .mixedOrders = true) (hB : Region.lexB .any l.toArray = true)
    (h : ∀ w1, w1 = w.drew → wpStill P l.toArray w1 (fun a' => Q .normal a' w1) l a) : (Code.region id l.toArray true).wp P Q a w := wp_region_still_lit hm hB (h _ rfl)

/-- Nothing but the count of draws has changed. -/
def Drew (w w' : World) : Prop := ∃ n, w' = w.drewN n
theorem Drew.refl (w : World) : Drew w w := ⟨0, rfl⟩
theorem Drew.drew {w w' : World} (h : Drew w w') : Drew w w'.drew := by
  obtain ⟨n, rfl⟩ := h
  exact ⟨n + 1, rfl⟩
theorem Drew.drewN {w w' : World} (h : Drew w w') (m : Nat) : Drew w (w'.drewN m) := by
  obtain ⟨n, rfl⟩ := h
  exact ⟨n + m, by rw [World.drewN_drewN]⟩
theorem Drew.cell {w w' : World} (h : Drew w w') (p : Addr) : w'.cell? p = w.cell? p := by
  obtain ⟨n, rfl⟩ := h
  rfl
theorem Drew.heap {w w' : World} (h : Drew w w') : w'.heap = w.heap := by
  obtain ⟨n, rfl⟩ := h
  rfl
theorem Drew.below {w w' : World} (h : Drew w w') (B : Nat) : Below B w w' := by
  obtain ⟨n, rfl⟩ := h
  exact ⟨rfl, rfl, rfl, Nat.le_refl _, fun _ _ => rfl⟩
theorem Drew.mod {w w' : World} (h : Drew w w') (S : List Nat) : Mod S w w' := Mod.of_below S (h.below _)
theorem Drew.row {w w' : World} (h : Drew w w') {A : Option Addr} {l : Bs} (hR : BRow w A l) : BRow w' A l := RowG.below hR (h.below _)
/-- At the head of each round of Same: the lists are alike so far. -/
def SameRel (w : World) (la lb : List (Int × Bs)) (i : Value) (wr : World) : Prop :=
  ∃ k : Nat, k ≤ la.length ∧ i = .int .i64 (k : Int) ∧ la.take k = lb.take k ∧ Drew w wr
theorem take_step {la lb : List (Int × Bs)} {k : Nat} (ha : k < la.length) (hb : k < lb.length) (h : la.take k = lb.take k) (e : la[k] = lb[k]) : la.take (k + 1) = lb.take (k + 1) := by
  rw [List.take_succ_eq_append_getElem ha, List.take_succ_eq_append_getElem hb, h, e]
theorem strB_beq (l m : Bs) : ((strB l).toList == (strB m).toList) = decide (l = m) := by
  rw [strB_list, strB_list]
  by_cases h : l = m <;> simp [h]
set_option maxRecDepth 100000 in
set_option maxHeartbeats 4000000 in
theorem same_core (va vb : Value) (la lb : List (Int × Bs)) (hn : la.length ≤ 4096) (w : World) (ha : Kepts w va la) (hb : Kepts w vb lb) (R : Bool) (hR : decide (la = lb) = R) :
    Calls Try.prog 21 #[va, vb] w fun e w' => e = .returned (.bool R) ∧ Drew w w' := by
  obtain ⟨A, c, rfl, _, _, _, ha⟩ := ha
  obtain ⟨B, d, rfl, _, _, _, hb⟩ := hb
  have HA := Lib.hid ha
  have HB := Lib.hid hb
  have HR := Lib.hid hR
  clear ha hb hR
  by_cases hlen : la.length = lb.length
  · have hl0 : ((la.length : Int) != (lb.length : Int)) = false := by simp [hlen]
    have HL := Lib.hid hlen
    clear hlen
    go_enter Try.func21, Try.ntmps21
    go_wp2_with fail
    go_loopw [5] (fun i wr => SameRel w la lb i wr) (fun i _ => la.length - (intOf i).toNat)
    case atStart => exact ⟨0, Nat.zero_le _, rfl, by simp, Drew.refl _⟩
    case round =>
      obtain ⟨k, hk, rfl, htake, hdr⟩ := hrel
      have HT := Lib.hid htake
      have HDR := Lib.hid hdr
      clear htake hdr
      by_cases hlt : k < la.length
      · have hltb : k < lb.length := by have := HL.out; omega
        obtain ⟨b1, o1, rfl, hb1, hc1⟩ := HA.out (fun e => by rw [e] at hlt; simp at hlt)
        obtain ⟨b2, o2, rfl, hb2, hc2⟩ := HB.out (fun e => by rw [e] at hltb; simp at hltb)
        obtain ⟨s1, A1, d1, t1, r1⟩ := hc1 k hlt
        obtain ⟨s2, A2, d2, t2, r2⟩ := hc2 k hltb
        have HS1 := Lib.hid s1
        have HS2 := Lib.hid s2
        have HT1 := Lib.hid t1
        have HT2 := Lib.hid t2
        have HR1 := Lib.hid r1
        have HR2 := Lib.hid r2
        clear s1 s2 t1 t2 r1 r2 hc1 hc2 HA HB
        obtain ⟨x1, l1, hx1⟩ : ∃ x l, la[k] = (x, l) := ⟨_, _, rfl⟩
        obtain ⟨x2, l2, hx2⟩ : ∃ x l, lb[k] = (x, l) := ⟨_, _, rfl⟩
        rw [hx1] at HS1 HT1 HR1
        rw [hx2] at HS2 HT2 HR2
        have HX1 := Lib.hid hx1
        have HX2 := Lib.hid hx2
        clear hx1 hx2
        by_cases hx : x1 = x2
        · have bx : (x1 != x2) = false := by simp [hx]
          go_wp2_with fail
          refine region_still (by kernel_rfl) (by kernel_rfl) ?_
          intro w1 hw1
          have D1 : Drew w w1 := by rw [hw1]; exact HDR.out.drew
          have HD1 := Lib.hid D1
          have s1 : w1.cell? ⟨b1, o1 + k * 2, none⟩ = some (.int .i64 x1) := by rw [D1.cell, Nat.mul_comm]; exact HS1.out
          have s2 : w1.cell? ⟨b2, o2 + k * 2, none⟩ = some (.int .i64 x2) := by rw [D1.cell, Nat.mul_comm]; exact HS2.out
          have t1 : w1.cell? ⟨b1, o1 + k * 2 + 1, none⟩ = some (.slice A1 l1.length d1) := by rw [D1.cell, Nat.mul_comm]; exact HT1.out
          have t2 : w1.cell? ⟨b2, o2 + k * 2 + 1, none⟩ = some (.slice A2 l2.length d2) := by rw [D1.cell, Nat.mul_comm]; exact HT2.out
          have v1 := conv_run d1 rfl (D1.row HR1.out)
          have v2 := conv_run d2 rfl (D1.row HR2.out)
          clear D1 hw1 HS1 HS2 HT1 HT2 HR1 HR2 HDR
          have HSB := Lib.hid (strB_beq l1 l2)
          generalize strB l1 = S1 at *
          generalize strB l2 = S2 at *
          by_cases hl : l1 = l2
          · have bl : (S1.toList == S2.toList) = true := by rw [HSB.out]; simp [hl]
            have HE := Lib.hid (show la[k] = lb[k] by rw [HX1.out, HX2.out, hx, hl])
            clear hx hl HSB
            repeat still_step
            refine wpStill_nil ?_
            clear s1 s2 t1 t2 v1 v2
            go_wp2_with fail
            go_roundw
            case rel => exact ⟨k + 1, hlt, by go_num, take_step hlt hltb HT.out HE.out, HD1.out⟩
            case measure => simp [intOf]; omega
          · have bl : (S1.toList == S2.toList) = false := by rw [HSB.out]; simp [hl]
            have HE : Hid (R = false) := Lib.hid (by
              rw [← HR.out]
              simp only [decide_eq_false_iff_not]
              intro e
              subst e
              have := HX1.out.symm.trans HX2.out
              simp at this
              exact hl this.2)
            clear hx hl HSB
            repeat still_step
            refine wpStill_nil ?_
            clear s1 s2 t1 t2 v1 v2
            go_wp2_with fail
            go_ret
            exact ⟨congrArg (fun b => Ending.returned (.bool b)) HE.out.symm, HD1.out⟩
        · have bx : (x1 != x2) = true := by simp [hx]
          have HE : Hid (R = false) := Lib.hid (by
            rw [← HR.out]
            simp only [decide_eq_false_iff_not]
            intro e
            subst e
            have := HX1.out.symm.trans HX2.out
            simp at this
            exact hx this.1)
          have s1 : wr.cell? ⟨b1, o1 + k * 2, none⟩ = some (.int .i64 x1) := by rw [HDR.out.cell, Nat.mul_comm]; exact HS1.out
          have s2 : wr.cell? ⟨b2, o2 + k * 2, none⟩ = some (.int .i64 x2) := by rw [HDR.out.cell, Nat.mul_comm]; exact HS2.out
          clear hx HS1 HS2 HT1 HT2 HR1 HR2
          go_wp2_with fail
          go_quiet (fail)
          clear s1 s2
          go_wp2_with fail
          go_ret
          exact ⟨congrArg (fun b => Ending.returned (.bool b)) HE.out.symm, HDR.out.drewN nq⟩
      · have HE : Hid (R = true) := Lib.hid (by
          rw [← HR.out, decide_eq_true_iff]
          have h1 := HT.out
          rwa [List.take_of_length_le (by omega), List.take_of_length_le (by have := HL.out; omega)] at h1)
        go_wp2_with fail
        go_ret
        exact ⟨congrArg (fun b => Ending.returned (.bool b)) HE.out.symm, HDR.out⟩
  · have hl0 : ((la.length : Int) != (lb.length : Int)) = true := by simp; omega
    have HE : Hid (R = false) := Lib.hid (by
      rw [← HR.out]
      simp only [decide_eq_false_iff_not]
      intro e
      exact hlen (by rw [e]))
    clear hlen
    go_enter Try.func21, Try.ntmps21
    go_wp2_with fail
    go_ret
    exact ⟨congrArg (fun b => Ending.returned (.bool b)) HE.out.symm, Drew.refl _⟩
theorem same_any (va vb : Value) (la lb : List (Int × Bs)) (hn : la.length ≤ 4096) (w : World) (ha : Kepts w va la) (hb : Kepts w vb lb) :
    Calls Try.prog 21 #[va, vb] w fun e w' => e = .returned (.bool (decide (la = lb))) ∧ Drew w w' := same_core va vb la lb hn w ha hb _ rfl
end Go.Proofs.Ytoldkhfnebjacaa.Disk
