/-
  The walk of PageTurns.
-/
import Derived.Test.YtiebaeahimeedaaPBytes
import Derived.Test.YtiebaeahimeedaaPBackWalk
namespace Go.Proofs.Ytiebaeahimeedaa.Page
open Go.RowKit Gen

set_option maxRecDepth 100000 in
set_option maxHeartbeats 8000000 in
theorem turns_core (s : Int) (p : Pg) (a : Lay) (at0 : Int) (y : UInt8) (k : Nat) (w : World) (hok : PgOk p) (hR : PgRows w p a) (b1 : -9223372036854775808 ≤ at0) (b2 : at0 ≤ 9223372036854775807) (hk : k < 1024)
    (hq : at0 < 0 ∧ -((at0 + 1).tmod 1024) = (k : Int) ∨ ¬ at0 < 0 ∧ at0 % 1024 = (k : Int)) : Calls Try.prog 7 #[.int .i64 s, pgV p a, .int .i64 at0, byteV y] w fun e w' => e = .returned (.bool true) ∧ Below w.heap.size w w' := by
  have bb1 : Below w.heap.size w (w.alloc (.cells (pgC p a) 28)) := (Below.refl _ _).alloc (Nat.le_refl _) _
  have B1 := Lib.hid bb1
  have AT := Lib.hid (pg_box w p a)
  have R1 := Lib.hid (hR.below bb1)
  have OK := Lib.hid hok
  clear hR hok bb1
  obtain ⟨W0, hW0⟩ : ∃ W0, w.alloc (.cells (pgC p a) 28) = W0 := ⟨_, rfl⟩
  unfold pgV
  unfold pgC at *
  rw [hW0] at AT R1 B1
  go_enter Try.func7, Try.ntmps7
  go_wp2_with fail
  clear hW0
  refine (awake_any W0).mono ?_
  rintro e w1 ⟨rfl, bb⟩
  have B2 := Lib.hid (B1.out.trans (bb.mono B1.out.size))
  have A2 := Lib.hid (AT.out.below bb AT.out.1)
  have R2 := Lib.hid (R1.out.below bb)
  obtain ⟨x0, x1, x2, x3, x4, x5, x6, x7, x8, x9, x10⟩ := pg_keep w1 p a A2.out w1 (Below.refl _ _)
  have cF := few_any p a w1 OK.out R2.out
  clear bb AT R1 B1
  go_wp2_with fail
  refine cF.mono ?_
  rintro e w2 ⟨⟨r, rfl⟩, bb⟩
  have B3 := Lib.hid (B2.out.trans (bb.mono B2.out.size))
  have A3 := Lib.hid (A2.out.below bb A2.out.1)
  have R3 := Lib.hid (R2.out.below bb)
  clear x0 x1 x2 x3 x4 x5 x6 x7 x8 x9 x10
  obtain ⟨x0, x1, x2, x3, x4, x5, x6, x7, x8, x9, x10⟩ := pg_keep w2 p a A3.out w2 (Below.refl _ _)
  have cE := encode_any s p a w2 OK.out R3.out
  clear bb A2 R2 B2 cF
  rcases r with _ | _
  · go_wp2_with fail
    go_ret
    exact ⟨rfl, B3.out⟩
  go_wp2_with fail
  refine cE.mono ?_
  rintro e w3 (⟨X, m, d, l, rfl, hby, henc, hb⟩ | ⟨rfl, hno, hb⟩)
  rotate_left
  · have B4 := Lib.hid (B3.out.trans (hb.mono B3.out.size))
    clear hb hno cE A3 R3 B3 x0 x1 x2 x3 x4 x5 x6 x7 x8 x9 x10
    go_wp2_with fail
    go_ret
    exact ⟨rfl, B4.out⟩
  obtain rfl : m = 1024 := by rw [← hby.len]; exact enc_len henc
  have B4 := Lib.hid (B3.out.trans (hb.mono B3.out.size))
  have X4 := Lib.hid hby
  have HE := Lib.hid henc
  clear hb A3 R3 B3 cE hby henc x0 x1 x2 x3 x4 x5 x6 x7 x8 x9 x10
  obtain ⟨x, hxk⟩ : ∃ x, l[k]? = some x := ⟨_, List.getElem?_eq_getElem (by have := X4.out.len; omega)⟩
  have HX := Lib.hid hxk
  have hb8 := xor8 x y
  have HZ := Lib.hid (show x ^^^ y = x ↔ y = 0 from ⟨fun e => by
    have h2 := congrArg (fun v => x ^^^ v) e
    simpa only [← UInt8.xor_assoc, UInt8.xor_self, UInt8.zero_xor] using h2, fun e => by rw [e, UInt8.xor_zero]⟩)
  clear hxk
  generalize x ^^^ y = z at hb8 HZ
  rcases hq with ⟨hcut, hq⟩ | ⟨hcut, hq⟩
  · have hgt : decide (at0 < 0) = true := by simp; omega
    obtain ⟨g, cap, w5, r1, hgb, hgs, hcell, hfz, hrow, B5⟩ := copy_row (w := w) w3 X 1024 d l X4.out.len X4.out.nil (RowG.below X4.out.row ((Below.refl _ _).alloc (Nat.le_refl _) _)) (by omega) (by omega) B4.out
    have R1 := Lib.hid r1
    have hck := hcell k x HX.out
    have hfk := hfz k
    have HROW := Lib.hid (hrow k z hk)
    have B6 := Lib.hid (B5.setCell (p := ⟨g, k, none⟩) (Nat.le_trans B4.out.size hgb) (byteV z))
    clear r1 hcell hfz hrow B5 B4 X4
    have cD := decode_any s _ 1024 cap (l.set k z) _ HROW.out
    go_wp2_with (at_builtin; (refine wpList_append_eq rfl (.tmp 45) (.tmp 46) _ rfl rfl rfl R1.out ?_; clear R1))
    clear hck hfk hb8 hcut hq hgt hgb hgs hk b1 b2 HROW
    by_cases hy : y = 0
    · have d9 : ((y.toNat : Int) == 0) = true := by rw [hy]; rfl
      have hz : z = x := HZ.out.2 hy
      have hls : l.set k z = l := by
        obtain ⟨hk2, hx2⟩ := List.getElem?_eq_some_iff.1 HX.out
        rw [hz, ← hx2, List.set_getElem_self]
      rw [hls] at cD
      clear hy hz hls
      refine cD.mono ?_
      intro e w7 hd
      obtain ⟨hb, a2, rfl, -⟩ := dec_back HE.out OK.out hd
      have hal : Below w7.heap.size w7 (w7.alloc (.cells (pgC p a2) 28)) := (Below.refl _ _).alloc (Nat.le_refl _) _
      have hb2 := hb.trans (hal.mono hb.size)
      have B7 := Lib.hid (B6.out.trans (hb2.mono B6.out.size))
      clear hb hb2 hal hd cD B6 HZ
      go_wp2_with fail
      go_ret
      exact ⟨rfl, B7.out⟩
    · have d9 : ((y.toNat : Int) == 0) = false := by
        rw [beq_eq_false_iff_ne]
        intro e
        exact hy (UInt8.toNat_inj.1 (by rw [UInt8.toNat_zero]; omega))
      have HY := Lib.hid hy
      clear hy
      refine cD.mono ?_
      rintro e w7 ⟨hb, ⟨q, a2, rfl, _, _, hq⟩ | ⟨rfl, hno⟩⟩
      · exact absurd (HZ.out.1 (enc_turn HE.out HX.out hq.2).symm) HY.out
      have hal : Below w7.heap.size w7 (w7.alloc (.cells (pgC { kind := 0 } {}) 28)) := (Below.refl _ _).alloc (Nat.le_refl _) _
      have hb2 := hb.trans (hal.mono hb.size)
      have B7 := Lib.hid (B6.out.trans (hb2.mono B6.out.size))
      have y0 : (w7.alloc (.cells (pgC { kind := 0 } {}) 28)).cell? ⟨w7.heap.size, 0, none⟩ = some (.int .i64 0) := (pg_box w7 { kind := 0 } {}).2.2 0 _ rfl
      clear hb hb2 hal hno cD B6 HZ
      go_wp2_with fail
      go_ret
      exact ⟨rfl, B7.out⟩
  · have hgt : decide (at0 < 0) = false := by simp; omega
    obtain ⟨g, cap, w5, r1, hgb, hgs, hcell, hfz, hrow, B5⟩ := copy_row (w := w) w3 X 1024 d l X4.out.len X4.out.nil (RowG.below X4.out.row ((Below.refl _ _).alloc (Nat.le_refl _) _)) (by omega) (by omega) B4.out
    have R1 := Lib.hid r1
    have hck := hcell k x HX.out
    have hfk := hfz k
    have HROW := Lib.hid (hrow k z hk)
    have B6 := Lib.hid (B5.setCell (p := ⟨g, k, none⟩) (Nat.le_trans B4.out.size hgb) (byteV z))
    clear r1 hcell hfz hrow B5 B4 X4
    have cD := decode_any s _ 1024 cap (l.set k z) _ HROW.out
    go_wp2_with (at_builtin; (refine wpList_append_eq rfl (.tmp 45) (.tmp 46) _ rfl rfl rfl R1.out ?_; clear R1))
    clear hck hfk hb8 hcut hq hgt hgb hgs hk b1 b2 HROW
    by_cases hy : y = 0
    · have d9 : ((y.toNat : Int) == 0) = true := by rw [hy]; rfl
      have hz : z = x := HZ.out.2 hy
      have hls : l.set k z = l := by
        obtain ⟨hk2, hx2⟩ := List.getElem?_eq_some_iff.1 HX.out
        rw [hz, ← hx2, List.set_getElem_self]
      rw [hls] at cD
      clear hy hz hls
      refine cD.mono ?_
      intro e w7 hd
      obtain ⟨hb, a2, rfl, -⟩ := dec_back HE.out OK.out hd
      have hal : Below w7.heap.size w7 (w7.alloc (.cells (pgC p a2) 28)) := (Below.refl _ _).alloc (Nat.le_refl _) _
      have hb2 := hb.trans (hal.mono hb.size)
      have B7 := Lib.hid (B6.out.trans (hb2.mono B6.out.size))
      clear hb hb2 hal hd cD B6 HZ
      go_wp2_with fail
      go_ret
      exact ⟨rfl, B7.out⟩
    · have d9 : ((y.toNat : Int) == 0) = false := by
        rw [beq_eq_false_iff_ne]
        intro e
        exact hy (UInt8.toNat_inj.1 (by rw [UInt8.toNat_zero]; omega))
      have HY := Lib.hid hy
      clear hy
      refine cD.mono ?_
      rintro e w7 ⟨hb, ⟨q, a2, rfl, _, _, hq⟩ | ⟨rfl, hno⟩⟩
      · exact absurd (HZ.out.1 (enc_turn HE.out HX.out hq.2).symm) HY.out
      have hal : Below w7.heap.size w7 (w7.alloc (.cells (pgC { kind := 0 } {}) 28)) := (Below.refl _ _).alloc (Nat.le_refl _) _
      have hb2 := hb.trans (hal.mono hb.size)
      have B7 := Lib.hid (B6.out.trans (hb2.mono B6.out.size))
      have y0 : (w7.alloc (.cells (pgC { kind := 0 } {}) 28)).cell? ⟨w7.heap.size, 0, none⟩ = some (.int .i64 0) := (pg_box w7 { kind := 0 } {}).2.2 0 _ rfl
      clear hb hb2 hal hno cD B6 HZ
      go_wp2_with fail
      go_ret
      exact ⟨rfl, B7.out⟩
theorem turns_walk (s : Int) (p : Pg) (a : Lay) (at0 : Int) (y : UInt8) (w : World) (hok : PgOk p) (hR : PgRows w p a) (b1 : -9223372036854775808 ≤ at0) (b2 : at0 ≤ 9223372036854775807) :
    Calls Try.prog 7 #[.int .i64 s, pgV p a, .int .i64 at0, byteV y] w fun e w' => e = .returned (.bool true) ∧ Below w.heap.size w w' := by
  obtain ⟨k, hk, hq⟩ := place1024 at0
  exact turns_core s p a at0 y k w hok hR b1 b2 hk hq
end Go.Proofs.Ytiebaeahimeedaa.Page
