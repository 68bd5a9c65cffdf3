/-
  The walk of PageBack.
-/
import Derived.Test.YtiebaeahimeedaaPPlacesWalk
namespace Go.Proofs.Ytiebaeahimeedaa.Page
open Go.RowKit Gen

/-- Decode's answer for what was made of a page: it. -/
theorem dec_back {s : Int} {p : Pg} {l : Bs} {w w' : World} {e : Ending} (h : Enc s p l) (hok : PgOk p) (hd : DecPost s l w e w') : Below w.heap.size w w' ∧ ∃ a, e = .returned (.tuple #[pgV p a, numV 0]) ∧ PgRows w' p a := by
  obtain ⟨hb, ⟨q, a, rfl, hr, _, hq⟩ | ⟨_, hno⟩⟩ := hd
  · obtain rfl := dec_fun (dec_of_enc h hok.epoch) hq
    exact ⟨hb, a, rfl, hr⟩
  · exact absurd (dec_of_enc h hok.epoch) (hno p)
set_option maxRecDepth 100000 in
set_option maxHeartbeats 8000000 in
/-- Behind the first part: bytes that are one's are its. -/
theorem back_few (s : Int) (p : Pg) (a : Lay) (o : Int) (A : Option Addr) (n c : Nat) (u : Bs) (w : World) (hok : PgOk p) (hR : PgRows w p a) (hu : BytesAt w A n c u) (hn : n ≤ 2000) : Calls Try.prog 6 #[.int .i64 s, pgV p a, .int .i64 o, .slice A n c] w fun e w' => e = .returned (.bool true) ∧ Below w.heap.size w w' := by
  have b1 : Below w.heap.size w (w.alloc (.cells (pgC p a) 28)) := (Below.refl _ _).alloc (Nat.le_refl _) _
  have B1 := Lib.hid b1
  have AT := Lib.hid (pg_box w p a)
  have R1 := Lib.hid (hR.below b1)
  have U1 := Lib.hid (hu.below b1)
  have OK := Lib.hid hok
  have dn : decide (2000 < (n : Int)) = false := by simp; omega
  clear hR hok b1 hu hn
  obtain ⟨W0, hW0⟩ : ∃ W0, w.alloc (.cells (pgC p a) 28) = W0 := ⟨_, rfl⟩
  unfold pgV
  unfold pgC at *
  rw [hW0] at AT R1 B1 U1
  go_enter Try.func6, Try.ntmps6
  go_wp2_with fail
  clear hW0
  refine (awake_any W0).mono ?_
  rintro e w1 ⟨rfl, bb⟩
  have B2 := Lib.hid (B1.out.trans (bb.mono B1.out.size))
  have A2 := Lib.hid (AT.out.below bb AT.out.1)
  have R2 := Lib.hid (R1.out.below bb)
  have U2 := Lib.hid (U1.out.below bb)
  obtain ⟨x0, x1, x2, x3, x4, x5, x6, x7, x8, x9, x10⟩ := pg_keep w1 p a A2.out w1 (Below.refl _ _)
  have cF := few_any p a w1 OK.out R2.out
  clear bb AT R1 B1 U1
  go_wp2_with fail
  refine cF.mono ?_
  rintro e w2 ⟨⟨r, rfl⟩, bb⟩
  have B3 := Lib.hid (B2.out.trans (bb.mono B2.out.size))
  have A3 := Lib.hid (A2.out.below bb A2.out.1)
  have R3 := Lib.hid (R2.out.below bb)
  have U3 := Lib.hid (U2.out.below bb)
  clear x0 x1 x2 x3 x4 x5 x6 x7 x8 x9 x10
  obtain ⟨x0, x1, x2, x3, x4, x5, x6, x7, x8, x9, x10⟩ := pg_keep w2 p a A3.out w2 (Below.refl _ _)
  have cE := encode_any s p a w2 OK.out R3.out
  clear bb A2 R2 B2 U2 cF
  rcases r with _ | _
  · go_wp2_with fail
    go_ret
    exact ⟨rfl, B3.out⟩
  go_wp2_with fail
  refine cE.mono ?_
  rintro e w3 (⟨X, m, d, l, rfl, hby, henc, hb⟩ | ⟨rfl, hno, hb⟩)
  · obtain rfl : m = 1024 := by rw [← hby.len]; exact enc_len henc
    have B4 := Lib.hid (B3.out.trans (hb.mono B3.out.size))
    have A4 := Lib.hid (A3.out.below hb A3.out.1)
    have R4 := Lib.hid (R3.out.below hb)
    have U4 := Lib.hid (U3.out.below hb)
    have X4 := Lib.hid hby
    have HE := Lib.hid henc
    have cD := decode_any s X 1024 d l w3 hby
    clear hb A3 R3 B3 U3 cE hby henc x0 x1 x2 x3 x4 x5 x6 x7 x8 x9 x10
    go_wp2_with fail
    refine cD.mono ?_
    intro e w4 hd
    obtain ⟨hb, a2, rfl, hr⟩ := dec_back HE.out OK.out hd
    have hal : Below w4.heap.size w4 (w4.alloc (.cells (pgC p a2) 28)) := (Below.refl _ _).alloc (Nat.le_refl _) _
    have hb2 := hb.trans (hal.mono hb.size)
    have B5 := Lib.hid (B4.out.trans (hb2.mono B4.out.size))
    have A5 := Lib.hid (A4.out.below hb2 A4.out.1)
    have R5 := Lib.hid (R4.out.below hb2)
    have U5 := Lib.hid (U4.out.below hb2)
    have X5 := Lib.hid (X4.out.below hb2)
    have Q5 := Lib.hid (pg_box w4 p a2)
    have S5 := Lib.hid (hr.below hal)
    have cG := decode_any o X 1024 d l _ X5.out
    clear hd hb hr hal hb2 cD B4 A4 R4 U4 X4
    go_wp2_with fail
    by_cases ho : o = s
    · have d1 : (o == s) = true := by simp [ho]
      have HO := Lib.hid ho
      clear ho
      refine cG.mono ?_
      intro e w5 hd
      rw [HO.out] at hd
      obtain ⟨hb, a4, rfl, _⟩ := dec_back HE.out OK.out hd
      have hal : Below w5.heap.size w5 (w5.alloc (.cells (pgC p a4) 28)) := (Below.refl _ _).alloc (Nat.le_refl _) _
      have hb2 := hb.trans (hal.mono hb.size)
      have B6 := Lib.hid (B5.out.trans (hb2.mono B5.out.size))
      have A6 := Lib.hid (A5.out.below hb2 A5.out.1)
      have R6 := Lib.hid (R5.out.below hb2)
      have U6 := Lib.hid (U5.out.below hb2)
      have Q6 := Lib.hid (Q5.out.below hb2 Q5.out.1)
      have S6 := Lib.hid (S5.out.below hb2)
      obtain ⟨W5, hW5⟩ : ∃ W5, w5.alloc (.cells (pgC p a4) 28) = W5 := ⟨_, rfl⟩
      rw [hW5] at B6 A6 R6 U6 Q6 S6
      obtain ⟨x0, x1, x2, x3, x4, x5, x6, x7, x8, x9, x10⟩ := pg_keep W5 p a A6.out W5 (Below.refl _ _)
      obtain ⟨y0, y1, y2, y3, y4, y5, y6, y7, y8, y9, y10⟩ := pg_keep W5 p a2 Q6.out W5 (Below.refl _ _)
      have cS := same_any p p a a2 W5 OK.out R6.out S6.out
      clear hb hb2 hal B5 A5 R5 U5 X5 Q5 S5 cG
      unfold pgC at hW5
      go_wp2_with fail
      clear hW5
      refine cS.mono ?_
      rintro e w6 ⟨r, rfl, hr, hb⟩
      obtain rfl : r = true := by simpa using hr
      have B6' := Lib.hid (B6.out.trans (hb.mono B6.out.size))
      have A6' := Lib.hid (A6.out.below hb A6.out.1)
      have R6' := Lib.hid (R6.out.below hb)
      have U6' := Lib.hid (U6.out.below hb)
      clear x0 x1 x2 x3 x4 x5 x6 x7 x8 x9 x10 y0 y1 y2 y3 y4 y5 y6 y7 y8 y9 y10
      obtain ⟨x0, x1, x2, x3, x4, x5, x6, x7, x8, x9, x10⟩ := pg_keep w6 p a A6'.out w6 (Below.refl _ _)
      have cC := check_any p a w6 OK.out R6'.out
      clear hr hb cS B6 A6 R6 U6 Q6 S6
      go_wp2_with fail
      refine cC.mono ?_
      rintro e wc ⟨x, rfl, hx, hb⟩
      obtain rfl : x = 0 := hx.elim (fun h => h.1) (fun h => absurd HE.out.1 h.2)
      have B7 := Lib.hid (B6'.out.trans (hb.mono B6'.out.size))
      have U7 := Lib.hid (U6'.out.below hb)
      have cH := decode_any s A n c u wc U7.out
      clear hx hb cC B6' A6' R6' U6' x0 x1 x2 x3 x4 x5 x6 x7 x8 x9 x10 HE
      go_wp2_with fail
      refine cH.mono ?_
      rintro e w7 ⟨hb, ⟨q, a3, rfl, hrows, hqok, hdec⟩ | ⟨rfl, hno⟩⟩
      · have hal : Below w7.heap.size w7 (w7.alloc (.cells (pgC q a3) 28)) := (Below.refl _ _).alloc (Nat.le_refl _) _
        have hb2 := hb.trans (hal.mono hb.size)
        have B8 := Lib.hid (B7.out.trans (hb2.mono B7.out.size))
        have U8 := Lib.hid (U7.out.below hb2)
        have S8 := Lib.hid (hrows.below hal)
        have QOK := Lib.hid hqok
        have HD := Lib.hid hdec
        obtain ⟨y0, y1, y2, y3, y4, y5, y6, y7, y8, y9, y10⟩ := pg_keep _ q a3 (pg_box w7 q a3) _ (Below.refl _ _)
        have cJ := encode_any s q a3 _ QOK.out S8.out
        clear hb hal hb2 hrows hqok hdec cH B7 U7
        go_wp2_with fail
        refine cJ.mono ?_
        rintro e w8 (⟨Y, k, z, v, rfl, hby, henc, hb⟩ | ⟨rfl, hno, hb⟩)
        rotate_left
        · exact absurd HD.out.2 (hno _)
        obtain rfl := enc_fun HD.out.2 henc
        obtain rfl : k = n := by rw [← hby.len, U8.out.len]
        have B9 := Lib.hid (B8.out.trans (hb.mono B8.out.size))
        have e1 := conv_run z hby.len hby.row
        have e2 := conv_run c U8.out.len (U8.out.below hb).row
        clear henc hby hb cJ y0 y1 y2 y3 y4 y5 y6 y7 y8 y9 y10 S8 QOK HD
        generalize strB u = S at *
        go_wp2_with fail
        go_ret
        exact ⟨rfl, B9.out⟩
      · have hal : Below w7.heap.size w7 (w7.alloc (.cells (pgC { kind := 0 } {}) 28)) := (Below.refl _ _).alloc (Nat.le_refl _) _
        have hb2 := hb.trans (hal.mono hb.size)
        have B8 := Lib.hid (B7.out.trans (hb2.mono B7.out.size))
        have y0 : (w7.alloc (.cells (pgC { kind := 0 } {}) 28)).cell? ⟨w7.heap.size, 0, none⟩ = some (.int .i64 0) := (pg_box w7 { kind := 0 } {}).2.2 0 _ rfl
        clear hb hal hb2 hno cH B7 U7
        go_wp2_with fail
        go_ret
        exact ⟨rfl, B8.out⟩
    · have d1 : (o == s) = false := by simp [ho]
      have HO := Lib.hid ho
      clear ho
      refine cG.mono ?_
      rintro e w5 ⟨hb, ⟨q, a4, rfl, _, _, hq⟩ | ⟨rfl, _⟩⟩
      · exact absurd (enc_place hq.2 HE.out) HO.out
      have hal : Below w5.heap.size w5 (w5.alloc (.cells #[.int .i64 0, .slice none 0 0, .slice none 0 0, .slice none 0 0, .slice none 0 0, .int .i64 0, .int .u64 0, .int .i64 0, .int .i64 0, .int .i64 0, .int .i64 0] 28)) := (Below.refl _ _).alloc (Nat.le_refl _) _
      have hb2 := hb.trans (hal.mono hb.size)
      have B6 := Lib.hid (B5.out.trans (hb2.mono B5.out.size))
      have A6 := Lib.hid (A5.out.below hb2 A5.out.1)
      have R6 := Lib.hid (R5.out.below hb2)
      have U6 := Lib.hid (U5.out.below hb2)
      have Q6 := Lib.hid (Q5.out.below hb2 Q5.out.1)
      have S6 := Lib.hid (S5.out.below hb2)
      obtain ⟨x0, x1, x2, x3, x4, x5, x6, x7, x8, x9, x10⟩ := pg_keep (w5.alloc (.cells #[.int .i64 0, .slice none 0 0, .slice none 0 0, .slice none 0 0, .slice none 0 0, .int .i64 0, .int .u64 0, .int .i64 0, .int .i64 0, .int .i64 0, .int .i64 0] 28)) p a A6.out (w5.alloc (.cells #[.int .i64 0, .slice none 0 0, .slice none 0 0, .slice none 0 0, .slice none 0 0, .int .i64 0, .int .u64 0, .int .i64 0, .int .i64 0, .int .i64 0, .int .i64 0] 28)) (Below.refl _ _)
      obtain ⟨y0, y1, y2, y3, y4, y5, y6, y7, y8, y9, y10⟩ := pg_keep (w5.alloc (.cells #[.int .i64 0, .slice none 0 0, .slice none 0 0, .slice none 0 0, .slice none 0 0, .int .i64 0, .int .u64 0, .int .i64 0, .int .i64 0, .int .i64 0, .int .i64 0] 28)) p a2 Q6.out (w5.alloc (.cells #[.int .i64 0, .slice none 0 0, .slice none 0 0, .slice none 0 0, .slice none 0 0, .int .i64 0, .int .u64 0, .int .i64 0, .int .i64 0, .int .i64 0, .int .i64 0] 28)) (Below.refl _ _)
      have cS := same_any p p a a2 (w5.alloc (.cells #[.int .i64 0, .slice none 0 0, .slice none 0 0, .slice none 0 0, .slice none 0 0, .int .i64 0, .int .u64 0, .int .i64 0, .int .i64 0, .int .i64 0, .int .i64 0] 28)) OK.out R6.out S6.out
      clear hb hb2 hal B5 A5 R5 U5 X5 Q5 S5 cG
      go_wp2_with fail
      refine cS.mono ?_
      rintro e w6 ⟨r, rfl, hr, hb⟩
      obtain rfl : r = true := by simpa using hr
      have B6' := Lib.hid (B6.out.trans (hb.mono B6.out.size))
      have A6' := Lib.hid (A6.out.below hb A6.out.1)
      have R6' := Lib.hid (R6.out.below hb)
      have U6' := Lib.hid (U6.out.below hb)
      clear x0 x1 x2 x3 x4 x5 x6 x7 x8 x9 x10 y0 y1 y2 y3 y4 y5 y6 y7 y8 y9 y10
      obtain ⟨x0, x1, x2, x3, x4, x5, x6, x7, x8, x9, x10⟩ := pg_keep w6 p a A6'.out w6 (Below.refl _ _)
      have cC := check_any p a w6 OK.out R6'.out
      clear hr hb cS B6 A6 R6 U6 Q6 S6
      go_wp2_with fail
      refine cC.mono ?_
      rintro e wc ⟨x, rfl, hx, hb⟩
      obtain rfl : x = 0 := hx.elim (fun h => h.1) (fun h => absurd HE.out.1 h.2)
      have B7 := Lib.hid (B6'.out.trans (hb.mono B6'.out.size))
      have U7 := Lib.hid (U6'.out.below hb)
      have cH := decode_any s A n c u wc U7.out
      clear hx hb cC B6' A6' R6' U6' x0 x1 x2 x3 x4 x5 x6 x7 x8 x9 x10 HE
      go_wp2_with fail
      refine cH.mono ?_
      rintro e w7 ⟨hb, ⟨q, a3, rfl, hrows, hqok, hdec⟩ | ⟨rfl, hno⟩⟩
      · have hal : Below w7.heap.size w7 (w7.alloc (.cells (pgC q a3) 28)) := (Below.refl _ _).alloc (Nat.le_refl _) _
        have hb2 := hb.trans (hal.mono hb.size)
        have B8 := Lib.hid (B7.out.trans (hb2.mono B7.out.size))
        have U8 := Lib.hid (U7.out.below hb2)
        have S8 := Lib.hid (hrows.below hal)
        have QOK := Lib.hid hqok
        have HD := Lib.hid hdec
        obtain ⟨y0, y1, y2, y3, y4, y5, y6, y7, y8, y9, y10⟩ := pg_keep _ q a3 (pg_box w7 q a3) _ (Below.refl _ _)
        have cJ := encode_any s q a3 _ QOK.out S8.out
        clear hb hal hb2 hrows hqok hdec cH B7 U7
        go_wp2_with fail
        refine cJ.mono ?_
        rintro e w8 (⟨Y, k, z, v, rfl, hby, henc, hb⟩ | ⟨rfl, hno, hb⟩)
        rotate_left
        · exact absurd HD.out.2 (hno _)
        obtain rfl := enc_fun HD.out.2 henc
        obtain rfl : k = n := by rw [← hby.len, U8.out.len]
        have B9 := Lib.hid (B8.out.trans (hb.mono B8.out.size))
        have e1 := conv_run z hby.len hby.row
        have e2 := conv_run c U8.out.len (U8.out.below hb).row
        clear henc hby hb cJ y0 y1 y2 y3 y4 y5 y6 y7 y8 y9 y10 S8 QOK HD
        generalize strB u = S at *
        go_wp2_with fail
        go_ret
        exact ⟨rfl, B9.out⟩
      · have hal : Below w7.heap.size w7 (w7.alloc (.cells (pgC { kind := 0 } {}) 28)) := (Below.refl _ _).alloc (Nat.le_refl _) _
        have hb2 := hb.trans (hal.mono hb.size)
        have B8 := Lib.hid (B7.out.trans (hb2.mono B7.out.size))
        have y0 : (w7.alloc (.cells (pgC { kind := 0 } {}) 28)).cell? ⟨w7.heap.size, 0, none⟩ = some (.int .i64 0) := (pg_box w7 { kind := 0 } {}).2.2 0 _ rfl
        clear hb hal hb2 hno cH B7 U7
        go_wp2_with fail
        go_ret
        exact ⟨rfl, B8.out⟩
  · have B7 := Lib.hid (B3.out.trans (hb.mono B3.out.size))
    have U7 := Lib.hid (U3.out.below hb)
    have cH := decode_any s A n c u w3 U7.out
    clear hb A3 R3 B3 U3 cE hno x0 x1 x2 x3 x4 x5 x6 x7 x8 x9 x10
    go_wp2_with fail
    refine cH.mono ?_
    rintro e w7 ⟨hb, ⟨q, a3, rfl, hrows, hqok, hdec⟩ | ⟨rfl, hno⟩⟩
    · have hal : Below w7.heap.size w7 (w7.alloc (.cells (pgC q a3) 28)) := (Below.refl _ _).alloc (Nat.le_refl _) _
      have hb2 := hb.trans (hal.mono hb.size)
      have B8 := Lib.hid (B7.out.trans (hb2.mono B7.out.size))
      have U8 := Lib.hid (U7.out.below hb2)
      have S8 := Lib.hid (hrows.below hal)
      have QOK := Lib.hid hqok
      have HD := Lib.hid hdec
      obtain ⟨y0, y1, y2, y3, y4, y5, y6, y7, y8, y9, y10⟩ := pg_keep _ q a3 (pg_box w7 q a3) _ (Below.refl _ _)
      have cJ := encode_any s q a3 _ QOK.out S8.out
      clear hb hal hb2 hrows hqok hdec cH B7 U7
      go_wp2_with fail
      refine cJ.mono ?_
      rintro e w8 (⟨Y, k, z, v, rfl, hby, henc, hb⟩ | ⟨rfl, hno, hb⟩)
      rotate_left
      · exact absurd HD.out.2 (hno _)
      obtain rfl := enc_fun HD.out.2 henc
      obtain rfl : k = n := by rw [← hby.len, U8.out.len]
      have B9 := Lib.hid (B8.out.trans (hb.mono B8.out.size))
      have e1 := conv_run z hby.len hby.row
      have e2 := conv_run c U8.out.len (U8.out.below hb).row
      clear henc hby hb cJ y0 y1 y2 y3 y4 y5 y6 y7 y8 y9 y10 S8 QOK HD
      generalize strB u = S at *
      go_wp2_with fail
      go_ret
      exact ⟨rfl, B9.out⟩
    · have hal : Below w7.heap.size w7 (w7.alloc (.cells (pgC { kind := 0 } {}) 28)) := (Below.refl _ _).alloc (Nat.le_refl _) _
      have hb2 := hb.trans (hal.mono hb.size)
      have B8 := Lib.hid (B7.out.trans (hb2.mono B7.out.size))
      have y0 : (w7.alloc (.cells (pgC { kind := 0 } {}) 28)).cell? ⟨w7.heap.size, 0, none⟩ = some (.int .i64 0) := (pg_box w7 { kind := 0 } {}).2.2 0 _ rfl
      clear hb hal hb2 hno cH B7 U7
      go_wp2_with fail
      go_ret
      exact ⟨rfl, B8.out⟩
set_option maxRecDepth 100000 in
theorem back_walk (s : Int) (p : Pg) (a : Lay) (o : Int) (A : Option Addr) (n c : Nat) (u : Bs) (w : World) (hok : PgOk p) (hR : PgRows w p a) (hu : BytesAt w A n c u) : Calls Try.prog 6 #[.int .i64 s, pgV p a, .int .i64 o, .slice A n c] w fun e w' => e = .returned (.bool true) ∧ Below w.heap.size w w' := by
  by_cases hn : n ≤ 2000
  · exact back_few s p a o A n c u w hok hR hu hn
  have b1 : Below w.heap.size w (w.alloc (.cells (pgC p a) 28)) := (Below.refl _ _).alloc (Nat.le_refl _) _
  have B1 := Lib.hid b1
  have AT := Lib.hid (pg_box w p a)
  have R1 := Lib.hid (hR.below b1)
  have OK := Lib.hid hok
  have dn : decide (2000 < (n : Int)) = true := by simp; omega
  clear hR hok b1 hu hn
  obtain ⟨W0, hW0⟩ : ∃ W0, w.alloc (.cells (pgC p a) 28) = W0 := ⟨_, rfl⟩
  unfold pgV
  unfold pgC at *
  rw [hW0] at AT R1 B1
  go_enter Try.func6, Try.ntmps6
  go_wp2_with fail
  clear hW0
  refine (awake_any W0).mono ?_
  rintro e w1 ⟨rfl, bb⟩
  have B2 := Lib.hid (B1.out.trans (bb.mono B1.out.size))
  have A2 := Lib.hid (AT.out.below bb AT.out.1)
  have R2 := Lib.hid (R1.out.below bb)
  obtain ⟨x0, x1, x2, x3, x4, x5, x6, x7, x8, x9, x10⟩ := pg_keep w1 p a A2.out w1 (Below.refl _ _)
  have cF := few_any p a w1 OK.out R2.out
  clear bb AT R1 B1
  go_wp2_with fail
  refine cF.mono ?_
  rintro e w2 ⟨⟨r, rfl⟩, bb⟩
  have B3 := Lib.hid (B2.out.trans (bb.mono B2.out.size))
  clear bb A2 R2 B2 cF x0 x1 x2 x3 x4 x5 x6 x7 x8 x9 x10
  rcases r with _ | _
  all_goals
    go_wp2_with fail
    go_ret
    exact ⟨rfl, B3.out⟩
end Go.Proofs.Ytiebaeahimeedaa.Page
