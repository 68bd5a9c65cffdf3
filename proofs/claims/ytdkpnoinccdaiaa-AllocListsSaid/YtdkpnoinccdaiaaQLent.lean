/-
  Contracts of alloc's lent, Check, Of.
-/
import Derived.Test.YtdkpnoinccdaiaaQTurn
namespace Go.Proofs.Ytdkpnoinccdaiaa.Pool
open Go.RowKit Gen

instance (high n : Int) : Decidable (Covers high n) := inferInstanceAs (Decidable (_ ∧ _))
instance (p : Po) (most : Int) : Decidable (PoolOk p most) := decidable_of_iff _ (poolOk_iff p most).symm
/-- A page that may come back. -/
def May (p : Po) (n : Int) : Prop := Covers p.high n ∧ n ∉ p.free ∧ n ∉ p.limbo
instance (p : Po) (n : Int) : Decidable (May p n) := inferInstanceAs (Decidable (_ ∧ _))
set_option maxRecDepth 100000 in
theorem lent_any (p : Po) (a : La) (n : Int) (w : World) (h : PoAt w p a) : Calls Try.prog 30 #[poV p a, .int .i64 n] w (Tells (May p n) w) := by
  have hb := below_box w (.cells (poC p a) 25)
  have hat := po_box w p a
  have cV := covers_any p a n (w.alloc (.cells (poC p a) 25))
  have HP := Lib.hid (h.below hb)
  have HB := Lib.hid hb
  have AT := Lib.hid hat
  obtain ⟨c0, c1, c2⟩ := po_cells hat
  clear h hb hat
  obtain ⟨W0, hW0⟩ : ∃ W0, w.alloc (.cells (poC p a) 25) = W0 := ⟨_, rfl⟩
  rw [hW0] at HP HB AT cV c0 c1 c2
  unfold poV
  go_enter Try.func30, Try.ntmps30
  go_wp2_with fail
  refine cV.mono ?_
  rintro e w1 ⟨r, rfl, hr, hb⟩
  clear hW0 c0 c1 c2 cV
  rcases r with _ | _
  · have HN : Hid (¬ May p n) := Lib.hid (fun g => by cases (hr.2 g.1))
    have HB1 := Lib.hid (HB.out.trans (hb.mono HB.out.size))
    clear hr hb
    go_wp2_with fail
    go_ret
    exact ⟨_, rfl, ⟨fun h => (by cases h), fun h => absurd h HN.out⟩, HB1.out⟩
  have HC := Lib.hid (hr.1 rfl)
  have HP1 := Lib.hid (HP.out.below hb)
  obtain ⟨c0, c1, c2⟩ := po_cells (AT.out.below hb AT.out.1)
  have cF := contains_any a.A1 _ a.c1 p.free n w1 HP1.out.f
  have cL := contains_any a.A2 _ a.c2 p.limbo n w1 HP1.out.l
  have HB1 := Lib.hid (HB.out.trans (hb.mono HB.out.size))
  clear hr hb
  go_wp2_with fail
  refine cF.mono ?_
  rintro e w2 ⟨r, rfl, hr, rfl⟩
  clear cF
  rcases r with _ | _
  rotate_left
  · have HN : Hid (¬ May p n) := Lib.hid (fun g => g.2.1 (hr.1 rfl))
    clear hr cL
    go_wp2_with fail
    go_ret
    exact ⟨_, rfl, ⟨fun h => (by cases h), fun h => absurd h HN.out⟩, HB1.out⟩
  have HF : Hid (n ∉ p.free) := Lib.hid (fun g => by cases (hr.2 g))
  clear hr
  go_wp2_with fail
  refine cL.mono ?_
  rintro e w2 ⟨r, rfl, hr, rfl⟩
  clear cL
  have HR : Hid ((!r) = true ↔ May p n) := Lib.hid ⟨fun e => ⟨HC.out, HF.out, fun g => by rw [hr.2 g] at e; cases e⟩, fun g => by
    rcases r with _ | _
    · rfl
    · exact absurd (hr.1 rfl) g.2.2⟩
  clear hr
  go_wp2_with fail
  go_ret
  exact ⟨_, rfl, HR.out, HB1.out⟩
/-- Check's own closure. -/
theorem check1_any (b : Nat) (p : Po) (a : La) (x : Int) (w : World) (h : At w b (poC p a)) : Calls Try.prog 35 #[.int .i64 x, .pointer (some ⟨b, 0, none⟩)] w fun e w' => e = .returned (.bool (!decide (Covers p.high x))) ∧ Below w.heap.size w w' := by
  obtain ⟨c0, c1, c2⟩ := po_cells h
  have cV := covers_any p a x w
  unfold poV at cV
  unfold poC at cV
  clear h
  go_enter Try.func35, Try.ntmps35
  go_wp2_with fail
  refine cV.mono ?_
  rintro e w1 ⟨r, rfl, hr, hb⟩
  have HR : Hid ((!r) = !decide (Covers p.high x)) := Lib.hid (by
    rw [show r = decide (Covers p.high x) by
      rcases r with _ | _
      · exact (decide_eq_false (fun g => by cases hr.2 g)).symm
      · exact (decide_eq_true (hr.1 rfl)).symm])
  have HB := Lib.hid hb
  clear hr hb c0 c1 c2 cV
  go_wp2_with fail
  go_ret
  exact ⟨by rw [← HR.out]; rfl, HB.out⟩
theorem field_run (h : Int) (A1 A2 : Option Addr) (n1 n2 c1 c2 : Nat) (W : World) : (Instr.field 25 (.agg #[.int .i64 h, .slice A1 n1 c1, .slice A2 n2 c2]) 1).run Try.prog W = .ok (.slice A1 n1 c1) W := by
  kernel_rfl
def Checks (p : Po) (most : Int) (w : World) (e : Ending) (w' : World) : Prop := e = .returned (numV (if PoolOk p most then 0 else 61)) ∧ Below w.heap.size w w'
set_option maxRecDepth 100000 in
set_option maxHeartbeats 4000000 in
theorem check_any (p : Po) (a : La) (most : Int) (w : World) (h : PoAt w p a) (hf : p.free.length ≤ 100000) (hl : p.limbo.length ≤ 100000) : Calls Try.prog 21 #[poV p a, .int .i64 most] w (Checks p most w) := by
  have hb := below_box w (.cells (poC p a) 25)
  have hat := po_box w p a
  have HP := Lib.hid (h.below hb)
  have cT := turn_any p a (w.alloc (.cells (poC p a) 25)) HP.out hf hl
  have HB := Lib.hid hb
  have AT := Lib.hid hat
  have HI := Lib.hid (poolOk_iff p most)
  obtain ⟨c0, c1, c2⟩ := po_cells hat
  clear h hb hat
  obtain ⟨W0, hW0⟩ : ∃ W0, w.alloc (.cells (poC p a) 25) = W0 := ⟨_, rfl⟩
  rw [hW0] at HP HB AT cT c0 c1 c2
  unfold poV at cT
  unfold poV
  go_enter Try.func21, Try.ntmps21
  go_wp2_with fail
  refine cT.mono ?_
  rintro e w1 ⟨b, rfl, hp, hb, -⟩
  obtain ⟨R, hR⟩ : ∃ R, layAll p.free p.limbo = R := ⟨_, rfl⟩
  have HF := Lib.hid hp.f
  rw [hR] at HF HI
  unfold poV
  unfold poC
  simp only [hR]
  clear hW0 c0 c1 c2 cT hp hR
  have HP1 := Lib.hid (HP.out.below hb)
  have AT1 := Lib.hid (AT.out.below hb AT.out.1)
  have HB1 := Lib.hid (HB.out.trans (hb.mono HB.out.size))
  obtain ⟨c0, c1, c2⟩ := po_cells AT1.out
  have qf := field_run p.high b.A1 b.A2 R.length 0 b.c1 b.c2
  clear hb
  by_cases h2 : p.high < 2
  · have d1 : decide (p.high < 2) = true := by simp [h2]
    have HN : Hid (¬ PoolOk p most) := Lib.hid (fun g => by have := g.low; omega)
    go_wp2_with fail
    go_ret
    exact ⟨by rw [if_neg HN.out]; rfl, HB1.out⟩
  have d1 : decide (p.high < 2) = false := by simp [h2]
  by_cases hm : most < p.high
  · have d2 : decide (most < p.high) = true := by simp [hm]
    have HN : Hid (¬ PoolOk p most) := Lib.hid (fun g => by have := g.top; omega)
    go_wp2_with fail
    go_ret
    exact ⟨by rw [if_neg HN.out]; rfl, HB1.out⟩
  have d2 : decide (most < p.high) = false := by simp [hm]
  have H2 := Lib.hid h2
  have HM := Lib.hid hm
  clear h2 hm
  have cR1 := rises_any a.A2 _ a.c2 p.limbo w1 HP1.out.l
  go_wp2_with fail
  refine cR1.mono ?_
  rintro e w2 ⟨r, rfl, hr, hb⟩
  have HB2 := Lib.hid (HB1.out.trans (hb.mono HB1.out.size))
  have AT2 := Lib.hid (AT1.out.below hb AT1.out.1)
  have HF2 := Lib.hid (HF.out.below hb)
  clear cR1 hb c0 c1 c2 d1 d2 AT1 HF HB1 HP1
  rcases r with _ | _
  · have HN : Hid (¬ PoolOk p most) := Lib.hid (fun g => by cases hr.2 g.limbo)
    clear hr
    go_wp2_with fail
    go_ret
    exact ⟨by rw [if_neg HN.out]; rfl, HB2.out⟩
  have HR1 := Lib.hid (hr.1 rfl)
  clear hr
  have cR2 := rises_any b.A1 _ b.c1 R w2 HF2.out
  go_wp2_with fail
  refine cR2.mono ?_
  rintro e w3 ⟨r, rfl, hr, hb⟩
  have HB3 := Lib.hid (HB2.out.trans (hb.mono HB2.out.size))
  have AT3 := Lib.hid (AT2.out.below hb AT2.out.1)
  have HF3 := Lib.hid (HF2.out.below hb)
  clear cR2 hb AT2 HF2 HB2
  rcases r with _ | _
  · have HN : Hid (¬ PoolOk p most) := Lib.hid (fun g => by cases hr.2 (HI.out.1 g).2.2.2.1)
    clear hr
    go_wp2_with fail
    go_ret
    exact ⟨by rw [if_neg HN.out]; rfl, HB3.out⟩
  have HR2 := Lib.hid (hr.1 rfl)
  clear hr
  have cC := containsFunc_any 35 #[.pointer (some ⟨w.heap.size, 0, none⟩)] (fun x => !decide (Covers p.high x)) (Go.Proofs.enters_of Try.func35 (by kernel_rfl) rfl) b.A1 _ b.c1 R w3 HF3.out (fun W x hW =>
    (check1_any w.heap.size p a x W (AT3.out.below hW AT3.out.1)).mono (by rintro e w' ⟨rfl, hb⟩; exact ⟨rfl, hW.trans (hb.mono hW.size)⟩))
  go_wp2_with fail
  refine cC.mono ?_
  rintro e w4 ⟨r, rfl, hr, hb⟩
  have HB4 := Lib.hid (HB3.out.trans (hb.mono HB3.out.size))
  clear cC hb
  rcases r with _ | _
  · have HN : Hid (PoolOk p most) := Lib.hid (HI.out.2 ⟨by have := H2.out; omega, by have := HM.out; omega, HR1.out, HR2.out, fun x hx => by
      by_cases g : Covers p.high x
      · exact g
      · have := hr.2 ⟨x, hx, by simp [g]⟩
        cases this⟩)
    clear hr
    go_wp2_with fail
    go_ret
    exact ⟨by rw [if_pos HN.out]; rfl, HB4.out⟩
  · have HN : Hid (¬ PoolOk p most) := Lib.hid (fun g => by
      obtain ⟨x, hx, e⟩ := hr.1 rfl
      have := (HI.out.1 g).2.2.2.2 x hx
      simp [Covers, this] at e)
    clear hr
    go_wp2_with fail
    go_ret
    exact ⟨by rw [if_neg HN.out]; rfl, HB4.out⟩
end Go.Proofs.Ytdkpnoinccdaiaa.Pool
