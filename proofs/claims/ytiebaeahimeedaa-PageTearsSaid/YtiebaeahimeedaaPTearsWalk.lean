/-
  The walk of PageTears.
-/
import Derived.Test.YtiebaeahimeedaaPTornRow
import Derived.Test.YtiebaeahimeedaaPBackWalk
namespace Go.Proofs.Ytiebaeahimeedaa.Page
open Go.RowKit Gen

theorem enc_differ {s : Int} {p q : Pg} {l v : Bs} (h : Enc s p l) (g : Enc s q v) (hs : s = 0 ∨ s = 1) (hp : p.epoch < 18446744073709551616) (hq : q.epoch < 18446744073709551616) (hne : p.epoch ≠ q.epoch) : l ≠ v := fun e => by
  have e1 := (enc_twin h hs).2.2.2
  have e2 := (enc_twin g hs).2.2.2
  rw [← e, e1] at e2
  exact hne (be_inj e2 (by omega) (by omega))
theorem zeros_none {s : Int} {q : Pg} {v : Bs} (g : Enc s q v) (hs : s = 0 ∨ s = 1) : zeros 1024 ≠ v := fun e => by
  have e1 := (enc_twin g hs).2.2.1
  rw [← e, zeros_get (by omega)] at e1
  exact absurd (Option.some.inj e1) (by decide)
theorem torn_full {l v : Bs} (hl : l.length = 1024) (hv : v.length = 1024) {k : Nat} (hk : ¬ k < 1024) : v.take k ++ l.drop k = v := by
  rw [List.take_of_length_le (by omega), List.drop_eq_nil_of_le (by omega), List.append_nil]
set_option maxRecDepth 100000 in
set_option maxHeartbeats 8000000 in
theorem tears_core (s : Int) (p q : Pg) (a b : Lay) (at0 : Int) (k : Nat) (w : World) (hok : PgOk p) (hR : PgRows w p a) (hoq : PgOk q) (hS : PgRows w q b) (b1 : -9223372036854775808 ≤ at0) (b2 : at0 ≤ 9223372036854775807) (hk : k < 1025)
    (hq : at0 < 0 ∧ -((at0 + 1).tmod 1025) = (k : Int) ∨ ¬ at0 < 0 ∧ at0 % 1025 = (k : Int)) : Calls Try.prog 8 #[.int .i64 s, pgV p a, pgV q b, .int .i64 at0] w fun e w' => e = .returned (.bool true) ∧ Below w.heap.size w w' := by
  have bb1 : Below w.heap.size w (w.alloc (.cells (pgC p a) 28)) := (Below.refl _ _).alloc (Nat.le_refl _) _
  have bb2 := bb1.alloc bb1.size (.cells (pgC q b) 28)
  have s1 : (w.alloc (.cells (pgC p a) 28)).heap.size = w.heap.size + 1 := by simp
  have hA : At ((w.alloc (.cells (pgC p a) 28)).alloc (.cells (pgC q b) 28)) w.heap.size (pgC p a) := (pg_box w p a).below ((Below.refl _ _).alloc (Nat.le_refl _) _) (by simp)
  have hB : At ((w.alloc (.cells (pgC p a) 28)).alloc (.cells (pgC q b) 28)) (w.heap.size + 1) (pgC q b) := by
    have := pg_box (w.alloc (.cells (pgC p a) 28)) q b
    rwa [s1] at this
  have B1 := Lib.hid bb2
  have AT := Lib.hid hA
  have BT := Lib.hid hB
  have R1 := Lib.hid (hR.below bb2)
  have S1 := Lib.hid (hS.below bb2)
  have OK := Lib.hid hok
  have OQ := Lib.hid hoq
  have HCUT := Lib.hid hq
  have HK := Lib.hid hk
  have HB1 := Lib.hid b1
  have HB2 := Lib.hid b2
  clear hR hok bb1 bb2 hS hoq hA hB s1 hq hk b1 b2
  obtain ⟨W0, hW0⟩ : ∃ W0, (w.alloc (.cells (pgC p a) 28)).alloc (.cells (pgC q b) 28) = W0 := ⟨_, rfl⟩
  unfold pgV
  unfold pgC at *
  rw [hW0] at AT BT R1 S1 B1
  go_enter Try.func8, Try.ntmps8
  go_wp2_with fail
  clear hW0
  refine (awake_any W0).mono ?_
  rintro e w1 ⟨rfl, bb⟩
  have B2 := Lib.hid (B1.out.trans (bb.mono B1.out.size))
  have A2 := Lib.hid (AT.out.below bb AT.out.1)
  have C2 := Lib.hid (BT.out.below bb BT.out.1)
  have R2 := Lib.hid (R1.out.below bb)
  have S2 := Lib.hid (S1.out.below bb)
  obtain ⟨x0, x1, x2, x3, x4, x5, x6, x7, x8, x9, x10⟩ := pg_keep w1 p a A2.out w1 (Below.refl _ _)
  have cE := encode_any s p a w1 OK.out R2.out
  clear bb AT BT R1 S1 B1
  go_wp2_with fail
  refine cE.mono ?_
  rintro e w2 (⟨X, m, d, l, rfl, hby, henc, hb⟩ | ⟨rfl, hno, hb⟩)
  · obtain rfl : m = 1024 := by rw [← hby.len]; exact enc_len henc
    have B3 := Lib.hid (B2.out.trans (hb.mono B2.out.size))
    have A3 := Lib.hid (A2.out.below hb A2.out.1)
    have C3 := Lib.hid (C2.out.below hb C2.out.1)
    have R3 := Lib.hid (R2.out.below hb)
    have S3 := Lib.hid (S2.out.below hb)
    have X3 := Lib.hid hby
    have HE := Lib.hid henc
    clear x0 x1 x2 x3 x4 x5 x6 x7 x8 x9 x10 hb hby henc cE A2 C2 R2 S2 B2
    obtain ⟨x0, x1, x2, x3, x4, x5, x6, x7, x8, x9, x10⟩ := pg_keep w2 q b C3.out w2 (Below.refl _ _)
    have cF := encode_any s q b w2 OQ.out S3.out
    go_wp2_with fail
    refine cF.mono ?_
    rintro e w3 (⟨Y, m, z, v, rfl, hby, henc, hb⟩ | ⟨rfl, hno, hb⟩)
    rotate_left
    · have B4 := Lib.hid (B3.out.trans (hb.mono B3.out.size))
      clear x0 x1 x2 x3 x4 x5 x6 x7 x8 x9 x10 hno hb cF
      go_wp2_with fail
      go_ret
      exact ⟨rfl, B4.out⟩
    obtain rfl : m = 1024 := by rw [← hby.len]; exact enc_len henc
    have B4 := Lib.hid (B3.out.trans (hb.mono B3.out.size))
    have A4 := Lib.hid (A3.out.below hb A3.out.1)
    have C4 := Lib.hid (C3.out.below hb C3.out.1)
    have R4 := Lib.hid (R3.out.below hb)
    have S4 := Lib.hid (S3.out.below hb)
    have X4 := Lib.hid (X3.out.below hb)
    have Y4 := Lib.hid hby
    have HF := Lib.hid henc
    clear x0 x1 x2 x3 x4 x5 x6 x7 x8 x9 x10 hb hby henc cF A3 C3 R3 S3 B3 X3
    have q0 : w3.cell? ⟨w.heap.size + 1, 0, none⟩ = some (.int .i64 q.kind) := C4.out.2.2 0 _ rfl
    by_cases hk4 : q.kind = 4
    rotate_left
    · have d4 : (q.kind != 4) = true := by simp [hk4]
      clear hk4
      go_wp2_with fail
      go_ret
      exact ⟨rfl, B4.out⟩
    have d4 : (q.kind != 4) = false := by simp [hk4]
    have HK4 := Lib.hid hk4
    have hp4 : p.kind = 4 := (enc_twin HE.out (enc_kind HF.out hk4)).2.1
    have d5 : (p.kind != 4) = false := by simp [hp4]
    have p0 : w3.cell? ⟨w.heap.size, 0, none⟩ = some (.int .i64 p.kind) := A4.out.2.2 0 _ rfl
    have p6 : w3.cell? ⟨w.heap.size, 6, none⟩ = some (.int .u64 (p.epoch : Int)) := A4.out.2.2 6 _ rfl
    have q6 : w3.cell? ⟨w.heap.size + 1, 6, none⟩ = some (.int .u64 (q.epoch : Int)) := C4.out.2.2 6 _ rfl
    clear hk4 hp4
    by_cases hne : p.epoch = q.epoch
    · have d6 : ((p.epoch : Int) == (q.epoch : Int)) = true := by simp [hne]
      clear hne
      go_wp2_with fail
      go_ret
      exact ⟨rfl, B4.out⟩
    have d6 : ((p.epoch : Int) == (q.epoch : Int)) = false := by simp; omega
    have HNE := Lib.hid hne
    clear hne
    have b1 := HB1.out
    have b2 := HB2.out
    have hk := HK.out
    obtain ⟨v1, W1, T, ct, W2, r1, r2, ht, hb, hbw⟩ := torn_row (w := w) k X4.out Y4.out (by omega) B4.out
    have R1 := Lib.hid r1
    have R2 := Lib.hid r2
    have HT := Lib.hid ht
    have B5 := Lib.hid hbw
    have A5 := Lib.hid (A4.out.below hb A4.out.1)
    have C5 := Lib.hid (C4.out.below hb C4.out.1)
    have R5 := Lib.hid (R4.out.below hb)
    have S5 := Lib.hid (S4.out.below hb)
    have X5 := Lib.hid (X4.out.below hb)
    have Y5 := Lib.hid (Y4.out.below hb)
    have hh := fun W => head_runB Y 1024 z k (by have := Y4.out.cap; omega) W
    have htl := fun W => tail_runB X 1024 d k (by omega) W
    clear r1 r2 ht hb hbw B4 A4 C4 R4 S4 X4 Y4
    generalize (if d = k then X else X.map (·.add k)) = X2 at *
    rcases HCUT.out with ⟨hcut, hq⟩ | ⟨hcut, hq⟩
    · have hgt : decide (at0 < 0) = true := by simp; omega
      go_wp2_with fail
      go_region_law (first
        | (refine step_append2_eq (by rfl) (.tmp 84) (.tmp 87) _ _ (by rfl) (by rfl) (by rfl) R1.out ?_)
        | (refine step_append2_eq (by rfl) (.tmp 88) (.tmp 91) _ _ (by rfl) (by rfl) (by rfl) R2.out ?_))
      clear R1 R2 hh htl hcut hq HCUT
      go_wp2_with fail
      have cD := decode_any s T 1024 ct _ W2 HT.out
      refine cD.mono ?_
      rintro e w5 ⟨hb, ⟨r, a3, rfl, hrows, hrok, hdec⟩ | ⟨rfl, hno⟩⟩
      rotate_left
      · have hal : Below w5.heap.size w5 (w5.alloc (.cells (pgC { kind := 0 } {}) 28)) := (Below.refl _ _).alloc (Nat.le_refl _) _
        have hb2 := hb.trans (hal.mono hb.size)
        have B6 := Lib.hid (B5.out.trans (hb2.mono B5.out.size))
        have d8 : decide ((k : Int) < 1024) = true := by
          by_cases h : k < 1024
          · simp; omega
          · exact absurd (by rw [torn_full (X5.out.len) (Y5.out.len) h]; exact dec_of_enc HF.out OQ.out.epoch) (hno q)
        clear hb hal hb2 hno cD
        go_wp2_with fail
        go_ret
        exact ⟨rfl, B6.out⟩
      have hal : Below w5.heap.size w5 (w5.alloc (.cells (pgC r a3) 28)) := (Below.refl _ _).alloc (Nat.le_refl _) _
      have hb2 := hb.trans (hal.mono hb.size)
      have B6 := Lib.hid (B5.out.trans (hb2.mono B5.out.size))
      have A6 := Lib.hid (A5.out.below hb2 A5.out.1)
      have C6 := Lib.hid (C5.out.below hb2 C5.out.1)
      have R6 := Lib.hid (R5.out.below hb2)
      have S6 := Lib.hid (S5.out.below hb2)
      have D6 := Lib.hid (pg_box w5 r a3)
      have Q6 := Lib.hid (hrows.below hal)
      have T6 := Lib.hid (HT.out.below hb2)
      have X6 := Lib.hid (X5.out.below hb2)
      have Y6 := Lib.hid (Y5.out.below hb2)
      have HD := Lib.hid hdec
      have HRO := Lib.hid hrok
      obtain ⟨W6, hW6⟩ : ∃ W6, w5.alloc (.cells (pgC r a3) 28) = W6 := ⟨_, rfl⟩
      rw [hW6] at B6 A6 C6 R6 S6 D6 Q6 T6 X6 Y6
      clear hb hal hb2 hrows hrok hdec cD B5 A5 C5 R5 S5 HT X5 Y5
      unfold pgC at hW6
      have t1 := conv_run ct T6.out.len T6.out.row
      have t2 := conv_run d X6.out.len X6.out.row
      have t3 := conv_run z Y6.out.len Y6.out.row
      have hs := enc_kind HF.out HK4.out
      have HNV := Lib.hid (enc_differ HE.out HF.out hs OK.out.epoch OQ.out.epoch HNE.out)
      have hor := enc_torn HF.out HK4.out (enc_twin HE.out hs).1 (enc_twin HE.out hs).2.2.2 OK.out.epoch OQ.out.epoch HNE.out (by have := HK.out; omega) HD.out.2
      rcases hor with ⟨he, -⟩ | he
      · have T7 := Lib.hid (he ▸ T6.out)
        rw [he] at t1 HD
        obtain rfl := dec_fun HD.out (dec_of_enc HE.out OK.out.epoch)
        have d9 : ((strB l).toList == (strB v).toList) = false := by rw [strB_beq]; simpa using HNV.out
        obtain ⟨x0, x1, x2, x3, x4, x5, x6, x7, x8, x9, x10⟩ := pg_keep W6 r a A6.out W6 (Below.refl _ _)
        obtain ⟨y0, y1, y2, y3, y4, y5, y6, y7, y8, y9, y10⟩ := pg_keep W6 r a3 D6.out W6 (Below.refl _ _)
        have cS := same_any r r a3 a W6 OK.out Q6.out R6.out
        obtain ⟨S1, hS1⟩ : ∃ S, strB l = S := ⟨_, rfl⟩
        obtain ⟨S2, hS2⟩ : ∃ S, strB v = S := ⟨_, rfl⟩
        rw [hS1] at t1 t2 d9
        rw [hS2] at t3 d9
        have HS1 := Lib.hid hS1
        have HS2 := Lib.hid hS2
        clear he hs hS1 hS2
        go_wp2_with fail
        refine cS.mono ?_
        rintro e w7 ⟨x, rfl, hx, hb⟩
        obtain rfl : x = true := by simpa using hx
        have B7 := Lib.hid (B6.out.trans (hb.mono B6.out.size))
        have t1 := conv_run ct (T7.out.below hb).len (T7.out.below hb).row
        have t3 := conv_run z (Y6.out.below hb).len (Y6.out.below hb).row
        rw [HS1.out] at t1
        rw [HS2.out] at t3
        clear hx hb cS x0 x1 x2 x3 x4 x5 x6 x7 x8 x9 x10 y0 y1 y2 y3 y4 y5 y6 y7 y8 y9 y10 hW6 B6 A6 C6 R6 S6 D6 Q6 T6 X6 Y6 T7
        go_wp2_with fail
        go_ret
        exact ⟨rfl, B7.out⟩
      · rw [he] at t1 HD
        obtain rfl := dec_fun HD.out (dec_of_enc HF.out OQ.out.epoch)
        have d9 : ((strB v).toList == (strB l).toList) = false := by rw [strB_beq]; simpa using fun h => HNV.out h.symm
        obtain ⟨x0, x1, x2, x3, x4, x5, x6, x7, x8, x9, x10⟩ := pg_keep W6 r b C6.out W6 (Below.refl _ _)
        obtain ⟨y0, y1, y2, y3, y4, y5, y6, y7, y8, y9, y10⟩ := pg_keep W6 r a3 D6.out W6 (Below.refl _ _)
        have cS := same_any r r a3 b W6 OQ.out Q6.out S6.out
        clear he hs
        generalize strB l = S1 at *
        generalize strB v = S2 at *
        go_wp2_with fail
        refine cS.mono ?_
        rintro e w7 ⟨x, rfl, hx, hb⟩
        obtain rfl : x = true := by simpa using hx
        have B7 := Lib.hid (B6.out.trans (hb.mono B6.out.size))
        clear hx hb cS x0 x1 x2 x3 x4 x5 x6 x7 x8 x9 x10 y0 y1 y2 y3 y4 y5 y6 y7 y8 y9 y10 hW6 B6 A6 C6 R6 S6 D6 Q6 T6 X6 Y6 t1 t2 t3
        go_wp2_with fail
        go_ret
        exact ⟨rfl, B7.out⟩
    · have hgt : decide (at0 < 0) = false := by simp; omega
      go_wp2_with fail
      go_region_law (first
        | (refine step_append2_eq (by rfl) (.tmp 84) (.tmp 87) _ _ (by rfl) (by rfl) (by rfl) R1.out ?_)
        | (refine step_append2_eq (by rfl) (.tmp 88) (.tmp 91) _ _ (by rfl) (by rfl) (by rfl) R2.out ?_))
      clear R1 R2 hh htl hcut hq HCUT
      go_wp2_with fail
      have cD := decode_any s T 1024 ct _ W2 HT.out
      refine cD.mono ?_
      rintro e w5 ⟨hb, ⟨r, a3, rfl, hrows, hrok, hdec⟩ | ⟨rfl, hno⟩⟩
      rotate_left
      · have hal : Below w5.heap.size w5 (w5.alloc (.cells (pgC { kind := 0 } {}) 28)) := (Below.refl _ _).alloc (Nat.le_refl _) _
        have hb2 := hb.trans (hal.mono hb.size)
        have B6 := Lib.hid (B5.out.trans (hb2.mono B5.out.size))
        have d8 : decide ((k : Int) < 1024) = true := by
          by_cases h : k < 1024
          · simp; omega
          · exact absurd (by rw [torn_full (X5.out.len) (Y5.out.len) h]; exact dec_of_enc HF.out OQ.out.epoch) (hno q)
        clear hb hal hb2 hno cD
        go_wp2_with fail
        go_ret
        exact ⟨rfl, B6.out⟩
      have hal : Below w5.heap.size w5 (w5.alloc (.cells (pgC r a3) 28)) := (Below.refl _ _).alloc (Nat.le_refl _) _
      have hb2 := hb.trans (hal.mono hb.size)
      have B6 := Lib.hid (B5.out.trans (hb2.mono B5.out.size))
      have A6 := Lib.hid (A5.out.below hb2 A5.out.1)
      have C6 := Lib.hid (C5.out.below hb2 C5.out.1)
      have R6 := Lib.hid (R5.out.below hb2)
      have S6 := Lib.hid (S5.out.below hb2)
      have D6 := Lib.hid (pg_box w5 r a3)
      have Q6 := Lib.hid (hrows.below hal)
      have T6 := Lib.hid (HT.out.below hb2)
      have X6 := Lib.hid (X5.out.below hb2)
      have Y6 := Lib.hid (Y5.out.below hb2)
      have HD := Lib.hid hdec
      have HRO := Lib.hid hrok
      obtain ⟨W6, hW6⟩ : ∃ W6, w5.alloc (.cells (pgC r a3) 28) = W6 := ⟨_, rfl⟩
      rw [hW6] at B6 A6 C6 R6 S6 D6 Q6 T6 X6 Y6
      clear hb hal hb2 hrows hrok hdec cD B5 A5 C5 R5 S5 HT X5 Y5
      unfold pgC at hW6
      have t1 := conv_run ct T6.out.len T6.out.row
      have t2 := conv_run d X6.out.len X6.out.row
      have t3 := conv_run z Y6.out.len Y6.out.row
      have hs := enc_kind HF.out HK4.out
      have HNV := Lib.hid (enc_differ HE.out HF.out hs OK.out.epoch OQ.out.epoch HNE.out)
      have hor := enc_torn HF.out HK4.out (enc_twin HE.out hs).1 (enc_twin HE.out hs).2.2.2 OK.out.epoch OQ.out.epoch HNE.out (by have := HK.out; omega) HD.out.2
      rcases hor with ⟨he, -⟩ | he
      · have T7 := Lib.hid (he ▸ T6.out)
        rw [he] at t1 HD
        obtain rfl := dec_fun HD.out (dec_of_enc HE.out OK.out.epoch)
        have d9 : ((strB l).toList == (strB v).toList) = false := by rw [strB_beq]; simpa using HNV.out
        obtain ⟨x0, x1, x2, x3, x4, x5, x6, x7, x8, x9, x10⟩ := pg_keep W6 r a A6.out W6 (Below.refl _ _)
        obtain ⟨y0, y1, y2, y3, y4, y5, y6, y7, y8, y9, y10⟩ := pg_keep W6 r a3 D6.out W6 (Below.refl _ _)
        have cS := same_any r r a3 a W6 OK.out Q6.out R6.out
        obtain ⟨S1, hS1⟩ : ∃ S, strB l = S := ⟨_, rfl⟩
        obtain ⟨S2, hS2⟩ : ∃ S, strB v = S := ⟨_, rfl⟩
        rw [hS1] at t1 t2 d9
        rw [hS2] at t3 d9
        have HS1 := Lib.hid hS1
        have HS2 := Lib.hid hS2
        clear he hs hS1 hS2
        go_wp2_with fail
        refine cS.mono ?_
        rintro e w7 ⟨x, rfl, hx, hb⟩
        obtain rfl : x = true := by simpa using hx
        have B7 := Lib.hid (B6.out.trans (hb.mono B6.out.size))
        have t1 := conv_run ct (T7.out.below hb).len (T7.out.below hb).row
        have t3 := conv_run z (Y6.out.below hb).len (Y6.out.below hb).row
        rw [HS1.out] at t1
        rw [HS2.out] at t3
        clear hx hb cS x0 x1 x2 x3 x4 x5 x6 x7 x8 x9 x10 y0 y1 y2 y3 y4 y5 y6 y7 y8 y9 y10 hW6 B6 A6 C6 R6 S6 D6 Q6 T6 X6 Y6 T7
        go_wp2_with fail
        go_ret
        exact ⟨rfl, B7.out⟩
      · rw [he] at t1 HD
        obtain rfl := dec_fun HD.out (dec_of_enc HF.out OQ.out.epoch)
        have d9 : ((strB v).toList == (strB l).toList) = false := by rw [strB_beq]; simpa using fun h => HNV.out h.symm
        obtain ⟨x0, x1, x2, x3, x4, x5, x6, x7, x8, x9, x10⟩ := pg_keep W6 r b C6.out W6 (Below.refl _ _)
        obtain ⟨y0, y1, y2, y3, y4, y5, y6, y7, y8, y9, y10⟩ := pg_keep W6 r a3 D6.out W6 (Below.refl _ _)
        have cS := same_any r r a3 b W6 OQ.out Q6.out S6.out
        clear he hs
        generalize strB l = S1 at *
        generalize strB v = S2 at *
        go_wp2_with fail
        refine cS.mono ?_
        rintro e w7 ⟨x, rfl, hx, hb⟩
        obtain rfl : x = true := by simpa using hx
        have B7 := Lib.hid (B6.out.trans (hb.mono B6.out.size))
        clear hx hb cS x0 x1 x2 x3 x4 x5 x6 x7 x8 x9 x10 y0 y1 y2 y3 y4 y5 y6 y7 y8 y9 y10 hW6 B6 A6 C6 R6 S6 D6 Q6 T6 X6 Y6 t1 t2 t3
        go_wp2_with fail
        go_ret
        exact ⟨rfl, B7.out⟩
  · have B3 := Lib.hid (B2.out.trans (hb.mono B2.out.size))
    have A3 := Lib.hid (A2.out.below hb A2.out.1)
    have C3 := Lib.hid (C2.out.below hb C2.out.1)
    have R3 := Lib.hid (R2.out.below hb)
    have S3 := Lib.hid (S2.out.below hb)
    clear x0 x1 x2 x3 x4 x5 x6 x7 x8 x9 x10 hb hno cE A2 C2 R2 S2 B2
    obtain ⟨x0, x1, x2, x3, x4, x5, x6, x7, x8, x9, x10⟩ := pg_keep w2 q b C3.out w2 (Below.refl _ _)
    have cF := encode_any s q b w2 OQ.out S3.out
    go_wp2_with fail
    refine cF.mono ?_
    rintro e w3 (⟨Y, m, z, v, rfl, hby, henc, hb⟩ | ⟨rfl, hno, hb⟩)
    rotate_left
    · have B4 := Lib.hid (B3.out.trans (hb.mono B3.out.size))
      clear x0 x1 x2 x3 x4 x5 x6 x7 x8 x9 x10 hno hb cF
      go_wp2_with fail
      go_ret
      exact ⟨rfl, B4.out⟩
    obtain rfl : m = 1024 := by rw [← hby.len]; exact enc_len henc
    have B4 := Lib.hid (B3.out.trans (hb.mono B3.out.size))
    have A4 := Lib.hid (A3.out.below hb A3.out.1)
    have C4 := Lib.hid (C3.out.below hb C3.out.1)
    have R4 := Lib.hid (R3.out.below hb)
    have S4 := Lib.hid (S3.out.below hb)
    have Y4 := Lib.hid hby
    have HF := Lib.hid henc
    clear x0 x1 x2 x3 x4 x5 x6 x7 x8 x9 x10 hb hby henc cF A3 C3 R3 S3 B3
    have q0 : w3.cell? ⟨w.heap.size + 1, 0, none⟩ = some (.int .i64 q.kind) := C4.out.2.2 0 _ rfl
    by_cases hk4 : q.kind = 4
    rotate_left
    · have d4 : (q.kind != 4) = true := by simp [hk4]
      clear hk4
      go_wp2_with fail
      go_ret
      exact ⟨rfl, B4.out⟩
    have d4 : (q.kind != 4) = false := by simp [hk4]
    have HK4 := Lib.hid hk4
    have hmk : (Instr.makeSlice 30 (.int .i64 1024) (.int .i64 1024)).run Try.prog w3 = .ok (.slice (some ⟨w3.heap.size, 0, none⟩) 1024 1024) (w3.alloc (.cells (rowC (List.replicate 1024 0)) 5)) := make_run 1024 (by omega) w3
    have hbz : Below w3.heap.size w3 (w3.alloc (.cells (rowC (List.replicate 1024 0)) 5)) := (Below.refl _ _).alloc (Nat.le_refl _) _
    have X4 : Hid (BytesAt (w3.alloc (.cells (rowC (List.replicate 1024 0)) 5)) (some ⟨w3.heap.size, 0, none⟩) 1024 1024 (zeros 1024)) := Lib.hid ⟨by simp [zeros], Nat.le_refl _, by simp only [maxLen]; omega, (fun h => by cases h), at_row (At.of_block (heap_alloc_last w3 _))⟩
    have B4' := Lib.hid (B4.out.trans (hbz.mono B4.out.size))
    have A4' := Lib.hid (A4.out.below hbz A4.out.1)
    have C4' := Lib.hid (C4.out.below hbz C4.out.1)
    have R4' := Lib.hid (R4.out.below hbz)
    have S4' := Lib.hid (S4.out.below hbz)
    have Y4' := Lib.hid (Y4.out.below hbz)
    have q6 : (w3.alloc (.cells (rowC (List.replicate 1024 0)) 5)).cell? ⟨w.heap.size + 1, 6, none⟩ = some (.int .u64 (q.epoch : Int)) := C4'.out.2.2 6 _ rfl
    clear hk4 hbz A4 C4 R4 S4 Y4 B4
    obtain ⟨w4, hw4⟩ : ∃ w4, w3.alloc (.cells (rowC (List.replicate 1024 0)) 5) = w4 := ⟨_, rfl⟩
    obtain ⟨h4, hh4⟩ : ∃ h4, w3.heap.size = h4 := ⟨_, rfl⟩
    rw [hw4] at hmk X4 B4' A4' C4' R4' S4' Y4' q6
    have HW4 := Lib.hid hw4
    clear hw4 hh4
    by_cases hne : q.epoch = 0
    · have d6 : ((q.epoch : Int) == 0) = true := by simp [hne]
      clear hne
      go_wp2_with fail
      go_ret
      exact ⟨rfl, B4'.out⟩
    have d6 : ((q.epoch : Int) == 0) = false := by simp; omega
    have HNE := Lib.hid hne
    clear hne
    have b1 := HB1.out
    have b2 := HB2.out
    have hk := HK.out
    obtain ⟨v1, W1, T, ct, W2, r1, r2, ht, hb, hbw⟩ := torn_row (w := w) (w3 := w4) k X4.out Y4'.out (by omega) B4'.out
    have R1 := Lib.hid r1
    have R2 := Lib.hid r2
    have HT := Lib.hid ht
    have B5 := Lib.hid hbw
    have A5 := Lib.hid (A4'.out.below hb A4'.out.1)
    have C5 := Lib.hid (C4'.out.below hb C4'.out.1)
    have R5 := Lib.hid (R4'.out.below hb)
    have S5 := Lib.hid (S4'.out.below hb)
    have X5 := Lib.hid (X4.out.below hb)
    have Y5 := Lib.hid (Y4'.out.below hb)
    have hh := fun W => head_runB Y 1024 z k (by have := Y4'.out.cap; omega) W
    have htl := fun W => tail_runB (some ⟨w3.heap.size, 0, none⟩) 1024 1024 k (by omega) W
    clear r1 r2 ht hb hbw B4' A4' C4' R4' S4' X4 Y4'
    generalize (if 1024 = k then (some ⟨w3.heap.size, 0, none⟩ : Option Addr) else Option.map (fun x : Addr => x.add k) (some ⟨w3.heap.size, 0, none⟩)) = X2 at *
    rcases HCUT.out with ⟨hcut, hq⟩ | ⟨hcut, hq⟩
    · have hgt : decide (at0 < 0) = true := by simp; omega
      go_wp2_with fail
      go_region_law (first
        | (refine step_append2_eq (by rfl) (.tmp 84) (.tmp 87) _ _ (by rfl) (by rfl) (by rfl) R1.out ?_)
        | (refine step_append2_eq (by rfl) (.tmp 88) (.tmp 91) _ _ (by rfl) (by rfl) (by rfl) R2.out ?_))
      clear R1 R2 hh htl hcut hq HCUT
      go_wp2_with fail
      have cD := decode_any s T 1024 ct _ W2 HT.out
      refine cD.mono ?_
      rintro e w5 ⟨hb, ⟨r, a3, rfl, hrows, hrok, hdec⟩ | ⟨rfl, hno⟩⟩
      rotate_left
      · have hal : Below w5.heap.size w5 (w5.alloc (.cells (pgC { kind := 0 } {}) 28)) := (Below.refl _ _).alloc (Nat.le_refl _) _
        have hb2 := hb.trans (hal.mono hb.size)
        have B6 := Lib.hid (B5.out.trans (hb2.mono B5.out.size))
        have d8 : decide ((k : Int) < 1024) = true := by
          by_cases h : k < 1024
          · simp; omega
          · exact absurd (by rw [torn_full (X5.out.len) (Y5.out.len) h]; exact dec_of_enc HF.out OQ.out.epoch) (hno q)
        clear hb hal hb2 hno cD
        go_wp2_with fail
        go_ret
        exact ⟨rfl, B6.out⟩
      have hal : Below w5.heap.size w5 (w5.alloc (.cells (pgC r a3) 28)) := (Below.refl _ _).alloc (Nat.le_refl _) _
      have hb2 := hb.trans (hal.mono hb.size)
      have B6 := Lib.hid (B5.out.trans (hb2.mono B5.out.size))
      have A6 := Lib.hid (A5.out.below hb2 A5.out.1)
      have C6 := Lib.hid (C5.out.below hb2 C5.out.1)
      have R6 := Lib.hid (R5.out.below hb2)
      have S6 := Lib.hid (S5.out.below hb2)
      have D6 := Lib.hid (pg_box w5 r a3)
      have Q6 := Lib.hid (hrows.below hal)
      have T6 := Lib.hid (HT.out.below hb2)
      have X6 := Lib.hid (X5.out.below hb2)
      have Y6 := Lib.hid (Y5.out.below hb2)
      have HD := Lib.hid hdec
      have HRO := Lib.hid hrok
      obtain ⟨W6, hW6⟩ : ∃ W6, w5.alloc (.cells (pgC r a3) 28) = W6 := ⟨_, rfl⟩
      rw [hW6] at B6 A6 C6 R6 S6 D6 Q6 T6 X6 Y6
      clear hb hal hb2 hrows hrok hdec cD B5 A5 C5 R5 S5 HT X5 Y5
      unfold pgC at hW6
      have t1 := conv_run ct T6.out.len T6.out.row
      have t2 := conv_run 1024 X6.out.len X6.out.row
      have t3 := conv_run z Y6.out.len Y6.out.row
      have hs := enc_kind HF.out HK4.out
      have HNV := Lib.hid (zeros_none HF.out hs)
      have hor := enc_torn HF.out HK4.out twin_zeros (by decide) (by omega) OQ.out.epoch (fun e => HNE.out e.symm) (by have := HK.out; omega) HD.out.2
      rcases hor with ⟨he, -⟩ | he
      · exact absurd (by rw [he] at HD; exact HD.out.2) (fun g : Enc s r (zeros 1024) => zeros_none g hs rfl)
      · rw [he] at t1 HD
        obtain rfl := dec_fun HD.out (dec_of_enc HF.out OQ.out.epoch)
        have d9 : ((strB v).toList == (strB (zeros 1024)).toList) = false := by rw [strB_beq]; simpa using fun h => HNV.out h.symm
        obtain ⟨x0, x1, x2, x3, x4, x5, x6, x7, x8, x9, x10⟩ := pg_keep W6 r b C6.out W6 (Below.refl _ _)
        obtain ⟨y0, y1, y2, y3, y4, y5, y6, y7, y8, y9, y10⟩ := pg_keep W6 r a3 D6.out W6 (Below.refl _ _)
        have cS := same_any r r a3 b W6 OQ.out Q6.out S6.out
        clear he hs
        generalize strB (zeros 1024) = S1 at *
        generalize strB v = S2 at *
        go_wp2_with fail
        refine cS.mono ?_
        rintro e w7 ⟨x, rfl, hx, hb⟩
        obtain rfl : x = true := by simpa using hx
        have B7 := Lib.hid (B6.out.trans (hb.mono B6.out.size))
        clear hx hb cS x0 x1 x2 x3 x4 x5 x6 x7 x8 x9 x10 y0 y1 y2 y3 y4 y5 y6 y7 y8 y9 y10 hW6 B6 A6 C6 R6 S6 D6 Q6 T6 X6 Y6 t1 t2 t3
        go_wp2_with fail
        go_ret
        exact ⟨rfl, B7.out⟩
    · have hgt : decide (at0 < 0) = false := by simp; omega
      go_wp2_with fail
      go_region_law (first
        | (refine step_append2_eq (by rfl) (.tmp 84) (.tmp 87) _ _ (by rfl) (by rfl) (by rfl) R1.out ?_)
        | (refine step_append2_eq (by rfl) (.tmp 88) (.tmp 91) _ _ (by rfl) (by rfl) (by rfl) R2.out ?_))
      clear R1 R2 hh htl hcut hq HCUT
      go_wp2_with fail
      have cD := decode_any s T 1024 ct _ W2 HT.out
      refine cD.mono ?_
      rintro e w5 ⟨hb, ⟨r, a3, rfl, hrows, hrok, hdec⟩ | ⟨rfl, hno⟩⟩
      rotate_left
      · have hal : Below w5.heap.size w5 (w5.alloc (.cells (pgC { kind := 0 } {}) 28)) := (Below.refl _ _).alloc (Nat.le_refl _) _
        have hb2 := hb.trans (hal.mono hb.size)
        have B6 := Lib.hid (B5.out.trans (hb2.mono B5.out.size))
        have d8 : decide ((k : Int) < 1024) = true := by
          by_cases h : k < 1024
          · simp; omega
          · exact absurd (by rw [torn_full (X5.out.len) (Y5.out.len) h]; exact dec_of_enc HF.out OQ.out.epoch) (hno q)
        clear hb hal hb2 hno cD
        go_wp2_with fail
        go_ret
        exact ⟨rfl, B6.out⟩
      have hal : Below w5.heap.size w5 (w5.alloc (.cells (pgC r a3) 28)) := (Below.refl _ _).alloc (Nat.le_refl _) _
      have hb2 := hb.trans (hal.mono hb.size)
      have B6 := Lib.hid (B5.out.trans (hb2.mono B5.out.size))
      have A6 := Lib.hid (A5.out.below hb2 A5.out.1)
      have C6 := Lib.hid (C5.out.below hb2 C5.out.1)
      have R6 := Lib.hid (R5.out.below hb2)
      have S6 := Lib.hid (S5.out.below hb2)
      have D6 := Lib.hid (pg_box w5 r a3)
      have Q6 := Lib.hid (hrows.below hal)
      have T6 := Lib.hid (HT.out.below hb2)
      have X6 := Lib.hid (X5.out.below hb2)
      have Y6 := Lib.hid (Y5.out.below hb2)
      have HD := Lib.hid hdec
      have HRO := Lib.hid hrok
      obtain ⟨W6, hW6⟩ : ∃ W6, w5.alloc (.cells (pgC r a3) 28) = W6 := ⟨_, rfl⟩
      rw [hW6] at B6 A6 C6 R6 S6 D6 Q6 T6 X6 Y6
      clear hb hal hb2 hrows hrok hdec cD B5 A5 C5 R5 S5 HT X5 Y5
      unfold pgC at hW6
      have t1 := conv_run ct T6.out.len T6.out.row
      have t2 := conv_run 1024 X6.out.len X6.out.row
      have t3 := conv_run z Y6.out.len Y6.out.row
      have hs := enc_kind HF.out HK4.out
      have HNV := Lib.hid (zeros_none HF.out hs)
      have hor := enc_torn HF.out HK4.out twin_zeros (by decide) (by omega) OQ.out.epoch (fun e => HNE.out e.symm) (by have := HK.out; omega) HD.out.2
      rcases hor with ⟨he, -⟩ | he
      · exact absurd (by rw [he] at HD; exact HD.out.2) (fun g : Enc s r (zeros 1024) => zeros_none g hs rfl)
      · rw [he] at t1 HD
        obtain rfl := dec_fun HD.out (dec_of_enc HF.out OQ.out.epoch)
        have d9 : ((strB v).toList == (strB (zeros 1024)).toList) = false := by rw [strB_beq]; simpa using fun h => HNV.out h.symm
        obtain ⟨x0, x1, x2, x3, x4, x5, x6, x7, x8, x9, x10⟩ := pg_keep W6 r b C6.out W6 (Below.refl _ _)
        obtain ⟨y0, y1, y2, y3, y4, y5, y6, y7, y8, y9, y10⟩ := pg_keep W6 r a3 D6.out W6 (Below.refl _ _)
        have cS := same_any r r a3 b W6 OQ.out Q6.out S6.out
        clear he hs
        generalize strB (zeros 1024) = S1 at *
        generalize strB v = S2 at *
        go_wp2_with fail
        refine cS.mono ?_
        rintro e w7 ⟨x, rfl, hx, hb⟩
        obtain rfl : x = true := by simpa using hx
        have B7 := Lib.hid (B6.out.trans (hb.mono B6.out.size))
        clear hx hb cS x0 x1 x2 x3 x4 x5 x6 x7 x8 x9 x10 y0 y1 y2 y3 y4 y5 y6 y7 y8 y9 y10 hW6 B6 A6 C6 R6 S6 D6 Q6 T6 X6 Y6 t1 t2 t3
        go_wp2_with fail
        go_ret
        exact ⟨rfl, B7.out⟩
theorem place1025 (at0 : Int) : ∃ k : Nat, k < 1025 ∧ (at0 < 0 ∧ -((at0 + 1).tmod 1025) = (k : Int) ∨ ¬ at0 < 0 ∧ at0 % 1025 = (k : Int)) := by
  by_cases h : at0 < 0
  · have h1 := Int.emod_nonneg (-(at0 + 1)) (show (1025 : Int) ≠ 0 by omega)
    have h2 := Int.emod_lt_of_pos (-(at0 + 1)) (show (0 : Int) < 1025 by omega)
    refine ⟨(-((at0 + 1).tmod 1025)).toNat, ?_, Or.inl ⟨h, ?_⟩⟩ <;> rw [← Int.neg_tmod, Int.tmod_eq_emod_of_nonneg (by omega)] <;> omega
  · have h1 := Int.emod_nonneg at0 (show (1025 : Int) ≠ 0 by omega)
    have h2 := Int.emod_lt_of_pos at0 (show (0 : Int) < 1025 by omega)
    exact ⟨(at0 % 1025).toNat, by omega, Or.inr ⟨h, by omega⟩⟩
theorem tears_walk (s : Int) (p q : Pg) (a b : Lay) (at0 : Int) (w : World) (hok : PgOk p) (hR : PgRows w p a) (hoq : PgOk q) (hS : PgRows w q b) (b1 : -9223372036854775808 ≤ at0) (b2 : at0 ≤ 9223372036854775807) :
    Calls Try.prog 8 #[.int .i64 s, pgV p a, pgV q b, .int .i64 at0] w fun e w' => e = .returned (.bool true) ∧ Below w.heap.size w w' := by
  obtain ⟨k, hk, hq⟩ := place1025 at0
  exact tears_core s p q a b at0 k w hok hR hoq hS b1 b2 hk hq
end Go.Proofs.Ytiebaeahimeedaa.Page
