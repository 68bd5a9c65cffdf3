/-
  The walk of PageEncodes.
-/
import Derived.Test.YtiebaeahimeedaaPBackWalk
import Derived.Test.YtiebaeahimeedaaPRefG
import Derived.Deep.RegionHeld3
namespace Go.Proofs.Ytiebaeahimeedaa.Page
open Go.RowKit Gen

set_option maxRecDepth 100000 in
set_option maxHeartbeats 8000000 in
theorem encodes_walk (s : Int) (p : Pg) (a : Lay) (w : World) (hs64 : -9223372036854775808 ≤ s ∧ s ≤ 9223372036854775807) (hok : PgOk p) (hR : PgRows w p a) : Calls Try.prog 4 #[.int .i64 s, pgV p a] w fun e w' => e = .returned (.bool true) ∧ Below w.heap.size w w' := by
  have b1 : Below w.heap.size w (w.alloc (.cells (pgC p a) 28)) := (Below.refl _ _).alloc (Nat.le_refl _) _
  have B1 := Lib.hid b1
  have AT := Lib.hid (pg_box w p a)
  have R1 := Lib.hid (hR.below b1)
  have OK := Lib.hid hok
  have H64 := Lib.hid hs64
  clear hR hok b1 hs64
  obtain ⟨W0, hW0⟩ : ∃ W0, w.alloc (.cells (pgC p a) 28) = W0 := ⟨_, rfl⟩
  unfold pgV
  unfold pgC at *
  rw [hW0] at AT R1 B1
  go_enter Try.func4, Try.ntmps4
  go_wp2_with fail
  clear hW0
  refine (awake_any W0).mono ?_
  rintro e w1 ⟨rfl, bb⟩
  have B2 := Lib.hid (B1.out.trans (bb.mono B1.out.size))
  have A2 := Lib.hid (AT.out.below bb AT.out.1)
  have R2 := Lib.hid (R1.out.below bb)
  obtain ⟨x0, x1, x2, x3, x4, x5, x6, x7, x8, x9, x10⟩ := pg_keep w1 p a A2.out w1 (Below.refl _ _)
  have cF := few_any p a w1 OK.out R2.out
  clear bb AT R1 B1
  go_wp2_with fail
  refine cF.mono ?_
  rintro e w2 ⟨⟨r, rfl⟩, bb⟩
  have B3 := Lib.hid (B2.out.trans (bb.mono B2.out.size))
  have A3 := Lib.hid (A2.out.below bb A2.out.1)
  have R3 := Lib.hid (R2.out.below bb)
  clear x0 x1 x2 x3 x4 x5 x6 x7 x8 x9 x10
  obtain ⟨x0, x1, x2, x3, x4, x5, x6, x7, x8, x9, x10⟩ := pg_keep w2 p a A3.out w2 (Below.refl _ _)
  have cE := encode_any s p a w2 OK.out R3.out
  clear bb A2 R2 B2 cF
  rcases r with _ | _
  · go_wp2_with fail
    go_ret
    exact ⟨rfl, B3.out⟩
  go_wp2_with fail
  refine cE.mono ?_
  rintro e w3 (⟨X, m, d, l, rfl, hby, henc, hb⟩ | ⟨rfl, hno, hb⟩)
  · obtain rfl : m = 1024 := by rw [← hby.len]; exact enc_len henc
    have B4 := Lib.hid (B3.out.trans (hb.mono B3.out.size))
    have A4 := Lib.hid (A3.out.below hb A3.out.1)
    have R4 := Lib.hid (R3.out.below hb)
    have X4 := Lib.hid hby
    have HE := Lib.hid henc
    clear x0 x1 x2 x3 x4 x5 x6 x7 x8 x9 x10
    obtain ⟨x0, x1, x2, x3, x4, x5, x6, x7, x8, x9, x10⟩ := pg_keep w3 p a A4.out w3 (Below.refl _ _)
    have cG := rEncode_any s p a w3 H64.out OK.out R4.out
    clear hb A3 R3 B3 cE hby henc
    go_wp2_with fail
    refine cG.mono ?_
    rintro e w4 (⟨Y, m, z, v, rfl, hby, henc, hb⟩ | ⟨rfl, hno, hb⟩)
    rotate_left
    · exact absurd HE.out (hno _)
    obtain rfl := enc_fun HE.out henc
    obtain rfl : m = 1024 := by rw [← hby.len]; exact enc_len henc
    have B5 := Lib.hid (B4.out.trans (hb.mono B4.out.size))
    have A5 := Lib.hid (A4.out.below hb A4.out.1)
    have R5 := Lib.hid (R4.out.below hb)
    clear x0 x1 x2 x3 x4 x5 x6 x7 x8 x9 x10
    obtain ⟨x0, x1, x2, x3, x4, x5, x6, x7, x8, x9, x10⟩ := pg_keep w4 p a A5.out w4 (Below.refl _ _)
    have hb4 := hb
    have HBY := Lib.hid hby
    obtain ⟨S, hS⟩ : ∃ S, strB l = S := ⟨_, rfl⟩
    have HSS := Lib.hid hS
    have KS := Lib.hid (fun w' (hW : Below w4.heap.size w4 w') => show (w'.cell? ⟨w.heap.size, 0, none⟩ = some (.int .i64 p.kind) ∧ w'.cell? ⟨w.heap.size, 1, none⟩ = some (.slice a.A1 p.pairs.length a.c1) ∧ w'.cell? ⟨w.heap.size, 2, none⟩ = some (.slice a.A2 p.keys.length a.c2) ∧ w'.cell? ⟨w.heap.size, 3, none⟩ = some (.slice a.A3 p.kids.length a.c3) ∧ w'.cell? ⟨w.heap.size, 4, none⟩ = some (.slice a.A4 p.pages.length a.c4) ∧ w'.cell? ⟨w.heap.size, 5, none⟩ = some (.int .i64 p.next) ∧ w'.cell? ⟨w.heap.size, 6, none⟩ = some (.int .u64 (p.epoch : Int)) ∧ w'.cell? ⟨w.heap.size, 7, none⟩ = some (.int .i64 p.root) ∧ w'.cell? ⟨w.heap.size, 8, none⟩ = some (.int .i64 p.depth) ∧ w'.cell? ⟨w.heap.size, 9, none⟩ = some (.int .i64 p.count) ∧ w'.cell? ⟨w.heap.size, 10, none⟩ = some (.int .i64 p.high)) ∧ (convert 30 9 (.slice X 1024 d)).run Try.prog w' = .ok (.string S) w' ∧ (convert 30 9 (.slice Y 1024 z)).run Try.prog w' = .ok (.string S) w' from ⟨pg_keep w4 p a A5.out w' hW, (conv_run d ((X4.out.below hb4).below hW).len ((X4.out.below hb4).below hW).row).trans (by rw [HSS.out]), (conv_run z (HBY.out.below hW).len (HBY.out.below hW).row).trans (by rw [HSS.out])⟩)
    have CK := Lib.hid (fun W (hW : Below w4.heap.size w4 W) => check_any p a W OK.out (R5.out.below hW))
    have CR := Lib.hid (fun W (hW : Below w4.heap.size w4 W) => rCheck_any p a W OK.out (R5.out.below hW))
    have HBD := Lib.hid (Below.refl w4.heap.size w4).drew
    have K0 := Lib.hid (KS.out _ HBD.out)
    clear hb A4 R4 B4 cG hb4 hby henc hS X4 HE HBY x0 x1 x2 x3 x4 x5 x6 x7 x8 x9 x10
    go_wp2_with fail
    go_region_held3 (fun w' => (w'.cell? ⟨w.heap.size, 0, none⟩ = some (.int .i64 p.kind) ∧ w'.cell? ⟨w.heap.size, 1, none⟩ = some (.slice a.A1 p.pairs.length a.c1) ∧ w'.cell? ⟨w.heap.size, 2, none⟩ = some (.slice a.A2 p.keys.length a.c2) ∧ w'.cell? ⟨w.heap.size, 3, none⟩ = some (.slice a.A3 p.kids.length a.c3) ∧ w'.cell? ⟨w.heap.size, 4, none⟩ = some (.slice a.A4 p.pages.length a.c4) ∧ w'.cell? ⟨w.heap.size, 5, none⟩ = some (.int .i64 p.next) ∧ w'.cell? ⟨w.heap.size, 6, none⟩ = some (.int .u64 (p.epoch : Int)) ∧ w'.cell? ⟨w.heap.size, 7, none⟩ = some (.int .i64 p.root) ∧ w'.cell? ⟨w.heap.size, 8, none⟩ = some (.int .i64 p.depth) ∧ w'.cell? ⟨w.heap.size, 9, none⟩ = some (.int .i64 p.count) ∧ w'.cell? ⟨w.heap.size, 10, none⟩ = some (.int .i64 p.high)) ∧ (convert 30 9 (.slice X 1024 d)).run Try.prog w' = .ok (.string S) w' ∧ (convert 30 9 (.slice Y 1024 z)).run Try.prog w' = .ok (.string S) w')
      (with_reducible (first | exact K0.out | exact K1.out | exact K2.out))
      (first
        | (go_at_call 14; (with_reducible refine (CK.out _ HBD.out).mono ?_); rintro e w5 ⟨x, rfl, hx, hb⟩
           have RB1 := Lib.hid (HBD.out.trans (hb.mono HBD.out.size)); have K1 := Lib.hid (KS.out _ RB1.out); have HX := Lib.hid hx; clear hx hb)
        | (go_at_call 15; (with_reducible refine (CR.out _ RB1.out).mono ?_); rintro e w6 ⟨y, rfl, hy, hb⟩
           have RB2 := Lib.hid (RB1.out.trans (hb.mono RB1.out.size)); have K2 := Lib.hid (KS.out _ RB2.out); have HY := Lib.hid hy; clear hy hb))
    have B7 := Lib.hid (B5.out.trans (RB2.out.mono B5.out.size))
    obtain rfl : x = y := by
      rcases HX.out with ⟨rfl, h⟩ | ⟨rfl, h⟩ <;> rcases HY.out with ⟨rfl, g⟩ | ⟨rfl, g⟩
      · rfl
      · exact absurd h g
      · exact absurd g h
      · rfl
    clear K0 K1 K2 KS CK CR HX HY
    go_wp2_with fail
    go_ret
    exact ⟨(by show Ending.returned (Value.bool (x == x)) = _; simp), B7.out⟩
  · have B4 := Lib.hid (B3.out.trans (hb.mono B3.out.size))
    have A4 := Lib.hid (A3.out.below hb A3.out.1)
    have R4 := Lib.hid (R3.out.below hb)
    have HNO := Lib.hid hno
    clear x0 x1 x2 x3 x4 x5 x6 x7 x8 x9 x10
    obtain ⟨x0, x1, x2, x3, x4, x5, x6, x7, x8, x9, x10⟩ := pg_keep w3 p a A4.out w3 (Below.refl _ _)
    have cG := rEncode_any s p a w3 H64.out OK.out R4.out
    clear hb A3 R3 B3 cE hno
    go_wp2_with fail
    refine cG.mono ?_
    rintro e w4 (⟨Y, m, z, v, rfl, hby, henc, hb⟩ | ⟨rfl, hno, hb⟩)
    · exact absurd henc (HNO.out _)
    have B5 := Lib.hid (B4.out.trans (hb.mono B4.out.size))
    have A5 := Lib.hid (A4.out.below hb A4.out.1)
    have R5 := Lib.hid (R4.out.below hb)
    clear x0 x1 x2 x3 x4 x5 x6 x7 x8 x9 x10
    obtain ⟨x0, x1, x2, x3, x4, x5, x6, x7, x8, x9, x10⟩ := pg_keep w4 p a A5.out w4 (Below.refl _ _)
    obtain ⟨S, hS⟩ : ∃ S, strB [] = S := ⟨_, rfl⟩
    have HSS := Lib.hid hS
    clear hno HNO hS
    have KS := Lib.hid (fun w' (hW : Below w4.heap.size w4 w') => show (w'.cell? ⟨w.heap.size, 0, none⟩ = some (.int .i64 p.kind) ∧ w'.cell? ⟨w.heap.size, 1, none⟩ = some (.slice a.A1 p.pairs.length a.c1) ∧ w'.cell? ⟨w.heap.size, 2, none⟩ = some (.slice a.A2 p.keys.length a.c2) ∧ w'.cell? ⟨w.heap.size, 3, none⟩ = some (.slice a.A3 p.kids.length a.c3) ∧ w'.cell? ⟨w.heap.size, 4, none⟩ = some (.slice a.A4 p.pages.length a.c4) ∧ w'.cell? ⟨w.heap.size, 5, none⟩ = some (.int .i64 p.next) ∧ w'.cell? ⟨w.heap.size, 6, none⟩ = some (.int .u64 (p.epoch : Int)) ∧ w'.cell? ⟨w.heap.size, 7, none⟩ = some (.int .i64 p.root) ∧ w'.cell? ⟨w.heap.size, 8, none⟩ = some (.int .i64 p.depth) ∧ w'.cell? ⟨w.heap.size, 9, none⟩ = some (.int .i64 p.count) ∧ w'.cell? ⟨w.heap.size, 10, none⟩ = some (.int .i64 p.high)) ∧ (convert 30 9 (.slice none 0 0)).run Try.prog w' = .ok (.string S) w' from ⟨pg_keep w4 p a A5.out w' hW, (conv_run (w := w') (A := none) (l := []) 0 rfl (fun h => absurd rfl h)).trans (by rw [HSS.out])⟩)
    have CK := Lib.hid (fun W (hW : Below w4.heap.size w4 W) => check_any p a W OK.out (R5.out.below hW))
    have CR := Lib.hid (fun W (hW : Below w4.heap.size w4 W) => rCheck_any p a W OK.out (R5.out.below hW))
    have HBD := Lib.hid (Below.refl w4.heap.size w4).drew
    have K0 := Lib.hid (KS.out _ HBD.out)
    clear hb A4 R4 B4 cG x0 x1 x2 x3 x4 x5 x6 x7 x8 x9 x10
    go_wp2_with fail
    go_region_held3 (fun w' => (w'.cell? ⟨w.heap.size, 0, none⟩ = some (.int .i64 p.kind) ∧ w'.cell? ⟨w.heap.size, 1, none⟩ = some (.slice a.A1 p.pairs.length a.c1) ∧ w'.cell? ⟨w.heap.size, 2, none⟩ = some (.slice a.A2 p.keys.length a.c2) ∧ w'.cell? ⟨w.heap.size, 3, none⟩ = some (.slice a.A3 p.kids.length a.c3) ∧ w'.cell? ⟨w.heap.size, 4, none⟩ = some (.slice a.A4 p.pages.length a.c4) ∧ w'.cell? ⟨w.heap.size, 5, none⟩ = some (.int .i64 p.next) ∧ w'.cell? ⟨w.heap.size, 6, none⟩ = some (.int .u64 (p.epoch : Int)) ∧ w'.cell? ⟨w.heap.size, 7, none⟩ = some (.int .i64 p.root) ∧ w'.cell? ⟨w.heap.size, 8, none⟩ = some (.int .i64 p.depth) ∧ w'.cell? ⟨w.heap.size, 9, none⟩ = some (.int .i64 p.count) ∧ w'.cell? ⟨w.heap.size, 10, none⟩ = some (.int .i64 p.high)) ∧ (convert 30 9 (.slice none 0 0)).run Try.prog w' = .ok (.string S) w')
      (with_reducible (first | exact K0.out | exact K1.out | exact K2.out))
      (first
        | (go_at_call 14; (with_reducible refine (CK.out _ HBD.out).mono ?_); rintro e w5 ⟨x, rfl, hx, hb⟩
           have RB1 := Lib.hid (HBD.out.trans (hb.mono HBD.out.size)); have K1 := Lib.hid (KS.out _ RB1.out); have HX := Lib.hid hx; clear hx hb)
        | (go_at_call 15; (with_reducible refine (CR.out _ RB1.out).mono ?_); rintro e w6 ⟨y, rfl, hy, hb⟩
           have RB2 := Lib.hid (RB1.out.trans (hb.mono RB1.out.size)); have K2 := Lib.hid (KS.out _ RB2.out); have HY := Lib.hid hy; clear hy hb))
    have B7 := Lib.hid (B5.out.trans (RB2.out.mono B5.out.size))
    obtain rfl : x = y := by
      rcases HX.out with ⟨rfl, h⟩ | ⟨rfl, h⟩ <;> rcases HY.out with ⟨rfl, g⟩ | ⟨rfl, g⟩
      · rfl
      · exact absurd h g
      · exact absurd g h
      · rfl
    clear K0 K1 K2 KS CK CR HX HY
    go_wp2_with fail
    go_ret
    exact ⟨(by show Ending.returned (Value.bool (x == x)) = _; simp), B7.out⟩
end Go.Proofs.Ytiebaeahimeedaa.Page
