/-
  The document's device: Write.
-/
import Derived.Test.YtoldkhfnebjacaaDRefRead
import Derived.Deep.RegionWith
import Derived.Deep.RegionHeld3
namespace Go.Proofs.Ytoldkhfnebjacaa.Disk
open Go.RowKit Go.Maps Gen

theorem Ref.ha {w : World} {rb lb cb ib : Nat} {s : St} (h : Ref w rb lb cb ib s) {b : Nat} (hb : b ∈ [rb, lb, cb, ib]) : ∀ A l, BRow w A l → l ≠ [] → ∀ a, A = some a → a.block ∉ [b] := fun A l hR hne a e => by
  have := h.apart hR hne a e
  intro hc
  simp only [List.mem_singleton] at hc
  exact this (hc ▸ hb)
/-- A row of the call's own is laid into the cache. -/
theorem Ref.put {w : World} {rb lb cb ib : Nat} {s : St} (h : Ref w rb lb cb ib s) {i : Nat} (hi : i < s.n) {A : Option Addr} {c : Nat} {l : Bs} (hl : l.length = 1024) (hc0 : 1024 ≤ c) (hc1 : c ≤ maxLen) (hR : BRow w A l) :
    Ref ((w.setCell ⟨cb, i, none⟩ (.slice A 1024 c)).setCell ⟨ib, i, none⟩ (.bool true)) rb lb cb ib { s with C := upd s.C (i : Int) (some l) } := by
  obtain ⟨n1, n2, n3, n4, n5⟩ := h.nes
  have hne := h.ne
  have m1 := mod_set w cb i (.slice A 1024 c)
  have m2 := mod_set (w.setCell ⟨cb, i, none⟩ (.slice A 1024 c)) ib i (.bool true)
  have l1 := h.last.kept m1 (by simp; exact h.ne) (h.ha (by simp))
  have c1 := h.cache.set hi hl hc0 hc1 hR
  have i1 := h.is.kept m1 (by simp; exact n5.symm)
  have hib := i1.noByte
  have l2 := l1.kept m2 (by simp; exact n4) (fun A l hR hne a e => by simp; exact hib.ne hR hne a e)
  have c2 := c1.kept m2 (by simp; exact n5) (fun A l hR hne a e => by simp; exact hib.ne hR hne a e)
  have i2 := i1.set i true
  obtain ⟨left, hb, hf⟩ := h.box
  refine ⟨⟨left, ?_, hf⟩, l2, ?_, ?_, h.ne, h.nle, h.nz⟩
  · rw [m2.block rb (by simpa using h.lt) (by simp; exact n3), m1.block rb h.lt (by simp; exact n2)]; exact hb
  · refine c2.congr (fun j hj l' e => ?_)
    simp only at e
    by_cases ej : j = i
    · subst ej; rw [upd_same] at e; simpa using e
    · rw [upd_other _ _ (by omega)] at e; simp only [if_neg ej]; exact e
  · refine i2.congr (fun j hj => ?_)
    simp only
    by_cases ej : j = i
    · subst ej; rw [upd_same]; simp
    · rw [upd_other _ _ (by omega)]; simp [ej]
def BadW (s : St) (n : Int) (k : Nat) : Prop := n < 0 ∨ (0 ≤ n ∧ (s.n : Int) ≤ n) ∨ (0 ≤ n ∧ n < s.n ∧ 1024 < k)
set_option maxRecDepth 100000 in
theorem rwrite_bad (w : World) (rb lb cb ib : Nat) (s : St) (n : Int) (A : Option Addr) (k c : Nat) (h : Ref w rb lb cb ib s) (ho : s.off = false) (hb : BadW s n k) :
    Calls Try.prog 29 #[ptr rb, .int .i64 n, .slice A k c] w fun e w' => e = .returned (.int .i64 41) ∧ w = w' := by
  obtain ⟨left, c0, c1, c2, c3, c4, c5, hf⟩ := h.cells
  rw [ho] at c3
  rcases hb with hb | ⟨hb, hb1⟩ | ⟨hb, hb1, hb2⟩
  · have b0 : decide (n < 0) = true := by simpa using hb
    clear h hf c1 c2 c4 c5 ho
    go_enter Try.func29, Try.ntmps29
    go_wp2_with fail
    go_ret
    exact ⟨rfl, rfl⟩
  · have b0 : decide (n < 0) = false := by simp; omega
    have b1 : decide ((s.n : Int) ≤ n) = true := by simp; omega
    clear h hf c1 c2 c4 c5 ho
    go_enter Try.func29, Try.ntmps29
    go_wp2_with fail
    go_ret
    exact ⟨rfl, rfl⟩
  · have b0 : decide (n < 0) = false := by simp; omega
    have b1 : decide ((s.n : Int) ≤ n) = false := by simp; omega
    have b2 : decide (1024 < (k : Int)) = true := by simp; omega
    clear h hf c1 c2 c4 c5 ho
    go_enter Try.func29, Try.ntmps29
    go_wp2_with fail
    go_ret
    exact ⟨rfl, rfl⟩
set_option maxRecDepth 100000 in
theorem rwrite_off (w : World) (rb lb cb ib : Nat) (s : St) (n : Int) (A : Option Addr) (k c : Nat) (h : Ref w rb lb cb ib s) (ho : s.off = true) :
    Calls Try.prog 29 #[ptr rb, .int .i64 n, .slice A k c] w fun e w' => e = .returned (.int .i64 40) ∧ w = w' := by
  obtain ⟨left, c0, c1, c2, c3, c4, c5, hf⟩ := h.cells
  rw [ho] at c3
  clear h hf c0 c1 c2 c4 c5 ho
  go_enter Try.func29, Try.ntmps29
  go_wp2_with fail
  go_ret
  exact ⟨rfl, rfl⟩
set_option maxRecDepth 100000 in
theorem rwrite_out (w : World) (rb lb cb ib : Nat) (s : St) (i : Nat) (A : Option Addr) (k c : Nat) (h : Ref w rb lb cb ib s) (f0 : 0 ≤ s.fuse) (f1 : s.fuse ≤ 9223372036854775807) (ho : s.off = false) (hi : i < s.n) (hk : k ≤ 1024) (ha : s.actB = false) :
    Calls Try.prog 29 #[ptr rb, .int .i64 (i : Int), .slice A k c] w fun e w' => e = .returned (.int .i64 40) ∧ Ref w' rb lb cb ib s.act ∧ Mod [rb, lb, cb, ib] w w' := by
  obtain ⟨left, c0, c1, c2, c3, c4, c5, hf⟩ := h.cells
  have cA := ract_ref w rb lb cb ib s h f0 f1
  rw [ha] at cA
  rw [ho] at c3
  have b0 : decide ((i : Int) < 0) = false := by simp
  have b1 : decide ((s.n : Int) ≤ (i : Int)) = false := by simp; omega
  have b2 : decide (1024 < (k : Int)) = false := by simp; omega
  clear h hf c1 c2 c4 c5 ho ha
  go_enter Try.func29, Try.ntmps29
  go_wp2_with fail
  refine cA.mono ?_
  rintro e w1 ⟨rfl, r1, m1⟩
  have R1 := Lib.hid r1
  clear r1 c0 c3
  go_wp2_with fail
  go_ret
  exact ⟨rfl, R1.out, m1⟩
theorem one_keep {w1 : World} {b o : Nat} {v : Value} (h : w1.cell? ⟨b, o, none⟩ = some v) (hb : b < w1.heap.size) : ∀ W, Below w1.heap.size w1 W → W.cell? ⟨b, o, none⟩ = some v := fun _ m => (m.cell (p := ⟨b, o, none⟩) hb).trans h
set_option maxRecDepth 100000 in
set_option maxHeartbeats 4000000 in
theorem rwrite_ok (w : World) (rb lb cb ib : Nat) (s : St) (i : Nat) (A : Option Addr) (k c : Nat) (l : Bs) (hl : l.length = k) (hA0 : A = none → c = 0) (hR : BRow w A l) (h : Ref w rb lb cb ib s) (f0 : 0 ≤ s.fuse) (f1 : s.fuse ≤ 9223372036854775807) (ho : s.off = false) (hi : i < s.n) (hk : k ≤ 1024) (ha : s.actB = true) :
    Calls Try.prog 29 #[ptr rb, .int .i64 (i : Int), .slice A k c] w fun e w' => e = .returned (.int .i64 0) ∧ Ref w' rb lb cb ib { s.act with C := upd s.act.C (i : Int) (some (pad l)) } ∧ Mod [rb, lb, cb, ib] w w' := by
  obtain ⟨left, c0, c1, c2, c3, c4, c5, hf⟩ := h.cells
  have cA := ract_ref w rb lb cb ib s h f0 f1
  rw [ha] at cA
  rw [ho] at c3
  have b0 : decide ((i : Int) < 0) = false := by simp
  have b1 : decide ((s.n : Int) ≤ (i : Int)) = false := by simp; omega
  have b2 : decide (1024 < (k : Int)) = false := by simp; omega
  have HH := Lib.hid h
  have HL := Lib.hid hl
  have HA0 := Lib.hid hA0
  have HR := Lib.hid hR
  clear h hf c1 c2 c4 c5 ho ha hl hA0 hR
  go_enter Try.func29, Try.ntmps29
  go_wp2_with fail
  refine cA.mono ?_
  rintro e w1 ⟨rfl, r1, m1⟩
  have RF := Lib.hid r1
  have M1 := Lib.hid m1
  have hrow : BRow w1.drew A l := HR.out.mod m1.drew (fun hne a e => HH.out.apart HR.out hne a e)
  obtain ⟨v1, W1, A2, c2, W2, q1, q2, q3, q4, q5, q6, q7, q8⟩ := pad_row2 w1.drew A k c l HL.out HA0.out hrow hk
  rw [← show IntKind.i64.wrap (1024 - (k : Int)) = 1024 - (k : Int) by rw [IntKind.wrap_i64]; omega] at q2
  have Q1 := Lib.hid q1
  have Q2 := Lib.hid q2
  have Q3 := Lib.hid q3
  have Q4 := Lib.hid q4
  have Q5 := Lib.hid q5
  have B2 := Lib.hid (((Below.refl w1.heap.size w1).drew).trans q7)
  have B1 := Lib.hid (((Below.refl w1.heap.size w1).drew).trans q8)
  have hn : s.act.n = s.n := act_n s
  obtain ⟨left1, d0, d1, d2, d3, d4, d5, _⟩ := r1.cells
  rw [hn] at d0 d1 d2
  have KS := Lib.hid (one_keep d1 r1.lt)
  have hv := (r1.below (((Below.refl w1.heap.size w1).drew).trans q7)).cache.any (i := i) (by rw [hn]; exact hi)
  obtain ⟨v0, hv0, hv1⟩ := hv
  have r2 := r1.below (((Below.refl w1.heap.size w1).drew).trans q7)
  obtain ⟨n1, n2, n3, n4, n5⟩ := r1.nes
  have m3 := mod_set W2 cb i (.slice A2 1024 c2)
  have e1 : (W2.setCell ⟨cb, i, none⟩ (.slice A2 1024 c2)).cell? ⟨rb, 1, none⟩ = some (hdr cb s.n) := (m3.cell (p := ⟨rb, 1, none⟩) r2.lt (by simp; exact n2)).trans ((B2.out.cell (p := ⟨rb, 1, none⟩) r1.lt).trans d1)
  have e2 : (W2.setCell ⟨cb, i, none⟩ (.slice A2 1024 c2)).cell? ⟨rb, 2, none⟩ = some (hdr ib s.n) := (m3.cell (p := ⟨rb, 2, none⟩) r2.lt (by simp; exact n2)).trans ((B2.out.cell (p := ⟨rb, 2, none⟩) r1.lt).trans d2)
  obtain ⟨hI, hIf⟩ := (r2.is.kept m3 (by simp; exact n5.symm)).at_ (i := i) (by rw [hn]; exact hi)
  have HE1 := Lib.hid e1
  have HE2 := Lib.hid e2
  have HI := Lib.hid hI
  have HIF := Lib.hid hIf
  have PUT := Lib.hid (r2.put (i := i) (by rw [hn]; exact hi) (pad_len (by have := HL.out; omega)) Q3.out Q4.out Q5.out)
  have MM := Lib.hid ((M1.out.trans (Mod.of_below [rb, lb, cb, ib] B2.out)).setCell ⟨cb, i, none⟩ (.slice A2 1024 c2) (.inl (by simp)))
  have hi0 : (0 : Int) ≤ (i : Int) := by omega
  have hi1 : (i : Int) < (s.n : Int) := by omega
  clear r1 m1 r2 hrow q1 q2 q3 q4 q5 q6 q7 q8 c0 c3 d0 d2 d3 d4 d5 hn n1 n2 n3 n4 n5 m3 e1 e2 hI hIf
  go_wp2_with fail
  go_region_held3 (fun w' => w'.cell? ⟨rb, 1, none⟩ = some (hdr cb s.n))
    (first | exact d1 | exact HE1.out | exact KS.out _ ((Below.refl _ _).drew) | exact KS.out _ (((Below.refl _ _).drew).alloc (Nat.le_refl _) _) | exact KS.out _ B1.out | exact KS.out _ B2.out)
    (first
      | (refine step_append2_eq (by rfl) (.tmp 37) (.tmp 38) _ _ (by rfl) (by rfl) (by rfl) Q1.out ?_; skip)
      | (refine step_append2_eq (by rfl) (.tmp 39) (.tmp 42) _ _ (by rfl) (by rfl) (by rfl) Q2.out ?_; skip))
  clear hv0 hv1 d1
  generalize W2.setCell ⟨cb, i, none⟩ (.slice A2 1024 c2) = W3 at *
  have e2 := HE2.out
  have hI := HI.out
  have hIf := HIF.out
  go_wp2_with fail
  go_ret
  exact ⟨rfl, PUT.out, MM.out.setCell _ _ (.inl (by simp))⟩
theorem act_is (s : St) : s.actB = true → s.actE = 0 := fun h => by simpa [St.actB] using h
theorem act_no (s : St) : s.actB = false → s.actE = 40 := fun h => by
  rcases actE_or s with e | e
  · simp [St.actB, e] at h
  · exact e
theorem rwrite_ref (w : World) (rb lb cb ib : Nat) (s : St) (n : Int) (A : Option Addr) (k c : Nat) (l : Bs) (hl : l.length = k) (hA0 : A = none → c = 0) (hR : BRow w A l) (h : Ref w rb lb cb ib s) (f0 : 0 ≤ s.fuse) (f1 : s.fuse ≤ 9223372036854775807) :
    Calls Try.prog 29 #[ptr rb, .int .i64 n, .slice A k c] w fun e w' => e = .returned (.int .i64 (s.writeE n l)) ∧ Ref w' rb lb cb ib (s.write n l) ∧ Mod [rb, lb, cb, ib] w w' := by
  subst hl
  unfold St.writeE St.write
  cases ho : s.off
  · cases hb : s.bad n l.length
    · have hb' := hb
      simp [St.bad, St.has] at hb'
      obtain ⟨i, rfl⟩ : ∃ i : Nat, n = i := ⟨n.toNat, by omega⟩
      cases ha : s.actB
      · have e := act_no s ha
        rw [e]
        exact rwrite_out w rb lb cb ib s i A _ c h f0 f1 ho (by omega) (by omega) ha
      · have e := act_is s ha
        rw [e]
        exact rwrite_ok w rb lb cb ib s i A _ c l rfl hA0 hR h f0 f1 ho (by omega) (by omega) ha
    · refine (rwrite_bad w rb lb cb ib s n A _ c h ho ?_).mono ?_
      · simp [St.bad, St.has] at hb
        unfold BadW
        omega
      · rintro e w' ⟨rfl, rfl⟩
        exact ⟨rfl, h, Mod.refl _ _⟩
  · refine (rwrite_off w rb lb cb ib s n A _ c h ho).mono ?_
    rintro e w' ⟨rfl, rfl⟩
    exact ⟨rfl, h, Mod.refl _ _⟩
end Go.Proofs.Ytoldkhfnebjacaa.Disk
