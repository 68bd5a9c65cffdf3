/-
  The document's device: act, Fuse, Read.
-/
import Derived.Test.YtoldkhfnebjacaaDRef
namespace Go.Proofs.Ytoldkhfnebjacaa.Disk
open Go.RowKit Go.Maps Gen

def St.actB (s : St) : Bool := decide (s.actE = 0)
set_option maxRecDepth 100000 in
theorem ract_ref (w : World) (rb lb cb ib : Nat) (s : St) (h : Ref w rb lb cb ib s) (f0 : 0 ≤ s.fuse) (f1 : s.fuse ≤ 9223372036854775807) : Calls Try.prog 43 #[ptr rb] w fun e w' =>
    e = .returned (.bool s.actB) ∧ Ref w' rb lb cb ib s.act ∧ Mod [rb, lb, cb, ib] w w' := by
  obtain ⟨left, c0, c1, c2, c3, c4, c5, hf⟩ := h.cells
  have z3 := h.free 3
  have z4 := h.free 4
  have z5 := h.free 5
  have HH := Lib.hid h
  cases hfu : s.fused
  · have HA : Hid (s.act = s) := Lib.hid (by simp [St.act, hfu])
    have HB : Hid (s.actB = true) := Lib.hid (by simp [St.actB, St.actE, hfu])
    rw [hfu] at c4
    clear h hf hfu c0 c1 c2 c3 c5 z3 z4 z5
    go_enter Try.func43, Try.ntmps43
    go_wp2_with fail
    go_ret
    exact ⟨by rw [HB.out]; rfl, by rw [HA.out]; exact HH.out, Mod.refl _ _⟩
  · have hl := hf hfu
    rw [hfu] at c4
    rw [hl] at c5
    by_cases h0 : s.fuse = 0
    · have HA : Hid (s.act = { s with off := true, fused := false }) := Lib.hid (by simp [St.act, hfu, h0])
      have HB : Hid (s.actB = false) := Lib.hid (by simp [St.actB, St.actE, hfu, h0])
      rw [h0] at c5
      clear h hf c0 c1 c2 hfu hl h0 f0 f1
      go_enter Try.func43, Try.ntmps43
      go_wp2_with fail
      go_ret
      refine ⟨by rw [HB.out]; rfl, ?_, ?_⟩
      · rw [HA.out]
        obtain ⟨left0, hb0, _⟩ := HH.out.box
        have h1 := HH.out.box_set (s' := { s with off := true, fused := s.fused }) 3 (.bool true) left0 rfl rfl rfl (fun l hb _ => by
          rw [hb0] at hb; cases hb; rfl) (fun e => by obtain ⟨l1, hb1, he⟩ := HH.out.box; rw [hb0] at hb1; cases hb1; exact he e)
        exact h1.box_set (s' := { s with off := true, fused := false }) 4 (.bool false) left0 rfl rfl rfl (fun l hb _ => by
          have hh := heap_setCell_box hb0 3 (.bool true)
          rw [hh] at hb; cases hb; rfl) (fun e => by cases e)
      · exact ((Mod.refl _ _).setCell _ _ (.inl (by simp))).setCell _ _ (.inl (by simp))
    · have HA : Hid (s.act = { s with fuse := s.fuse - 1 }) := Lib.hid (by simp [St.act, hfu, h0])
      have HB : Hid (s.actB = true) := Lib.hid (by simp [St.actB, St.actE, hfu, h0])
      have b0 : (s.fuse == 0) = false := by simpa using h0
      clear h hf c0 c1 c2 hl h0
      have HFU := Lib.hid hfu
      clear hfu
      go_enter Try.func43, Try.ntmps43
      go_wp2_with fail
      go_ret
      refine ⟨by rw [HB.out]; rfl, ?_, (Mod.refl _ _).setCell _ _ (.inl (by simp))⟩
      rw [HA.out]
      exact HH.out.box_set (s' := { s with fuse := s.fuse - 1 }) 5 _ (s.fuse - 1) rfl rfl rfl (fun l hb _ => rfl) (fun _ => rfl)
set_option maxRecDepth 100000 in
theorem rfuse_ref (w : World) (rb lb cb ib : Nat) (s : St) (k : Int) (h : Ref w rb lb cb ib s) : Calls Try.prog 31 #[ptr rb, .int .i64 k] w fun e w' =>
    e = .returned (.tuple #[]) ∧ Ref w' rb lb cb ib (s.setFuse k) ∧ Mod [rb, lb, cb, ib] w w' := by
  obtain ⟨left, c0, c1, c2, c3, c4, c5, hf⟩ := h.cells
  have z4 := h.free 4
  have z5 := h.free 5
  have HH := Lib.hid h
  clear h hf c0 c1 c2 c3
  obtain ⟨B, hB⟩ : ∃ B, decide (0 ≤ k) = B := ⟨_, rfl⟩
  have HB := Lib.hid hB
  go_enter Try.func31, Try.ntmps31
  go_wp2_with fail
  go_end0
  refine ⟨rfl, ?_, ((Mod.refl _ _).setCell _ _ (.inl (by simp))).setCell _ _ (.inl (by simp))⟩
  obtain ⟨left0, hb0, he0⟩ := HH.out.box
  have hk : s.setFuse k = { s with fused := B, fuse := max k 0 } := by rw [St.setFuse, HB.out]
  have h1 := HH.out.box_set (s' := { s with fused := B, fuse := left0 }) 4 (.bool B) left0 rfl rfl rfl (fun l hb _ => by
    rw [hb0] at hb; cases hb; rfl) (fun _ => rfl)
  rw [hk]
  exact h1.box_set (s' := { s with fused := B, fuse := max k 0 }) 5 (.int .i64 k) k rfl rfl rfl (fun l hb _ => rfl) (fun e => by
    have h2 := HB.out
    simp only at e
    rw [e] at h2
    simp at h2
    show k = max k 0
    omega)
def RReadPost (w : World) (l : Bs) (er : Int) (e : Ending) (w' : World) : Prop := ∃ A c, e = .returned (.tuple #[.slice A l.length c, .int .i64 er]) ∧ BRow w' A l ∧ w = w'
set_option maxRecDepth 100000 in
theorem rread_ref (w : World) (rb lb cb ib : Nat) (s : St) (n : Int) (h : Ref w rb lb cb ib s) : Calls Try.prog 28 #[ptr rb, .int .i64 n] w (RReadPost w (s.readB n) (s.readE n)) := by
  obtain ⟨left, c0, c1, c2, c3, c4, c5, hf⟩ := h.cells
  have fin0 : ∀ er, RReadPost w [] er (.returned (.tuple #[.slice none 0 0, .int .i64 er])) w := fun er => ⟨none, 0, rfl, nil_row w, rfl⟩
  cases ho : s.off
  · rw [ho] at c3
    by_cases hn0 : n < 0
    · rw [show s.readB n = [] by simp [St.readB, ho, St.has]; intro h; omega, show s.readE n = 41 by simp [St.readE, ho, St.has]; intro h; omega]
      have b0 : decide (n < 0) = true := by simpa using hn0
      clear h hf c1 c2 c4 c5 ho hn0
      go_enter Try.func28, Try.ntmps28
      go_wp2_with fail
      go_ret2
      exact fin0 _
    · by_cases hn1 : n < s.n
      · obtain ⟨i, rfl⟩ : ∃ i : Nat, n = i := ⟨n.toNat, by omega⟩
        have hi : i < s.n := by omega
        have hh : s.has (i : Int) = true := by simp [St.has]; omega
        have bi0 : decide ((i : Int) < 0) = false := by simp
        have bi1 : decide ((s.n : Int) ≤ (i : Int)) = false := by simp; omega
        rw [show s.readB (i : Int) = s.get i by simp [St.readB, ho, hh], show s.readE (i : Int) = 0 by simp [St.readE, ho, hh]]
        obtain ⟨hI, _⟩ := h.is.at_ hi
        cases hC : s.C (i : Int) with
        | none =>
          obtain ⟨A, c, hA, _, hl, hc0, hc1, hR⟩ := h.last.at_ hi rfl
          rw [show s.get i = (s.L (i : Int)).getD zeros by simp [St.get, hC]]
          rw [hC] at hI
          simp only [Option.isSome_none] at hI
          have HR := Lib.hid hR
          have HLN := Lib.hid hl
          clear h hf c1 c4 c5 ho hn0 hR hh hC hc0 hc1 fin0 hl hn1
          generalize (s.L (i : Int)).getD zeros = l at *
          go_enter Try.func28, Try.ntmps28
          go_wp2_with fail
          go_ret2
          exact ⟨A, c, by rw [HLN.out]; rfl, HR.out, rfl⟩
        | some l =>
          obtain ⟨A, c, hA, _, hl, hc0, hc1, hR⟩ := h.cache.at_ hi hC
          rw [show s.get i = l by simp [St.get, hC]]
          rw [hC] at hI
          simp only [Option.isSome_some] at hI
          have HR := Lib.hid hR
          have HLN := Lib.hid hl
          clear h hf c4 c5 ho hn0 hR hh hC hc0 hc1 fin0 hl hn1
          go_enter Try.func28, Try.ntmps28
          go_wp2_with fail
          go_ret2
          exact ⟨A, c, by rw [HLN.out]; rfl, HR.out, rfl⟩
      · rw [show s.readB n = [] by simp [St.readB, ho, St.has]; intro h; omega, show s.readE n = 41 by simp [St.readE, ho, St.has]; intro h; omega]
        have b0 : decide (n < 0) = false := by simp; omega
        have b1 : decide ((s.n : Int) ≤ n) = true := by simp; omega
        clear h hf c1 c2 c4 c5 ho hn0 hn1
        go_enter Try.func28, Try.ntmps28
        go_wp2_with fail
        go_ret2
        exact fin0 _
  · rw [ho] at c3
    rw [show s.readB n = [] by simp [St.readB, ho], show s.readE n = 40 by simp [St.readE, ho]]
    clear h hf c0 c1 c2 c4 c5 ho
    go_enter Try.func28, Try.ntmps28
    go_wp2_with fail
    go_ret2
    exact fin0 _
end Go.Proofs.Ytoldkhfnebjacaa.Disk
