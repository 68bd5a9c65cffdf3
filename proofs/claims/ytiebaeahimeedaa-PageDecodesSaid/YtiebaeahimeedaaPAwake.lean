/-
  The calls at the head of all statements of stage 5.
-/
import Derived.Test.YtiebaeahimeedaaPAwF
namespace Go.Proofs.Ytiebaeahimeedaa.Page
open Go.RowKit Gen

theorem decode_any (s : Int) (A : Option Addr) (n c : Nat) (u : Bs) (w : World) (h : BytesAt w A n c u) : Calls Try.prog 16 #[.int .i64 s, .slice A n c] w (DecPost s u w) := by
  rcases hr : rRead s u with _ | p
  · exact decode_none s A n c u w h hr
  · exact decode_some s A n c u w h p hr
theorem dec_fun {s : Int} {u : Bs} {p q : Pg} (h : IsDec s u p) (g : IsDec s u q) : p = q := by
  have := h.1.symm.trans g.1
  cases this
  rfl
abbrev lay0 (b : Nat) : Lay := { A1 := some ⟨b, 0, none⟩, c1 := 1 }
theorem ok0 : PgOk pg0 := by refine ⟨?_, ?_, ?_, ?_, ?_, ?_, ?_, ?_, ?_, ?_, ?_⟩ <;> simp [pg0, I64]
theorem rows0 (w : World) (C : Array Value) (t : TypeId) (hC : C = #[strV [97], strV [120, 121]]) : PgRows (w.alloc (.cells C t)) pg0 (lay0 w.heap.size) := by
  subst hC
  refine ⟨fun _ => ⟨w.heap.size, 0, rfl, by simp, fun j hj => ?_⟩, fun h => absurd rfl h, fun h => absurd rfl h, fun h => absurd rfl h⟩
  obtain rfl : j = 0 := by simp [pg0] at hj; omega
  exact ⟨by simp [pg0], by simp [pg0]⟩
theorem rowsB (w : World) : PgRows w { kind := 1 } {} := ⟨fun h => absurd rfl h, fun h => absurd rfl h, fun h => absurd rfl h, fun h => absurd rfl h⟩
theorem okB : PgOk { kind := 1 } := by refine ⟨?_, ?_, ?_, ?_, ?_, ?_, ?_, ?_, ?_, ?_, ?_⟩ <;> simp [I64]
set_option maxRecDepth 100000 in
set_option maxHeartbeats 8000000 in
theorem awake_any (w : World) : Calls Try.prog 10 #[] w fun e w' => e = .returned (.bool true) ∧ Below w.heap.size w w' := by
  have b1 : Below w.heap.size w (w.alloc (.cells #[strV [97], strV [120, 121]] 44)) := (Below.refl _ _).alloc (Nat.le_refl _) _
  have b2 : Below w.heap.size w ((w.alloc (.cells #[strV [97], strV [120, 121]] 44)).alloc (.cells (pgC pg0 (lay0 w.heap.size)) 28)) := b1.alloc b1.size _
  have r2 : PgRows ((w.alloc (.cells #[strV [97], strV [120, 121]] 44)).alloc (.cells (pgC pg0 (lay0 w.heap.size)) 28)) pg0 (lay0 w.heap.size) := (rows0 w _ _ rfl).below ((Below.refl _ _).alloc (Nat.le_refl _) _)
  have s1 : (w.alloc (.cells #[strV [97], strV [120, 121]] 44)).heap.size = w.heap.size + 1 := by simp
  have a2 : At ((w.alloc (.cells #[strV [97], strV [120, 121]] 44)).alloc (.cells (pgC pg0 (lay0 w.heap.size)) 28)) (w.heap.size + 1) (pgC pg0 (lay0 w.heap.size)) := by
    have := pg_box (w.alloc (.cells #[strV [97], strV [120, 121]] 44)) pg0 (lay0 w.heap.size)
    rwa [s1] at this
  have B := Lib.hid b2
  have R := Lib.hid r2
  have P := Lib.hid a2
  have cE := encode_any 5 pg0 (lay0 w.heap.size) ((w.alloc (.cells #[strV [97], strV [120, 121]] 44)).alloc (.cells (pgC pg0 (lay0 w.heap.size)) 28)) ok0 r2
  clear b1 b2 r2 s1 a2
  go_enter Try.func10, Try.ntmps10
  go_wp2_with fail
  refine cE.mono ?_
  rintro e w2 (⟨A, n, c, l, rfl, hby, henc, hb⟩ | ⟨rfl, hno, _⟩)
  rotate_left
  · exact absurd enc0 (hno L0)
  obtain rfl := enc_fun enc0 henc
  obtain rfl : n = 1024 := by rw [← hby.len]; exact heads0.1
  have B2 := Lib.hid (B.out.trans (hb.mono B.out.size))
  have R2 := Lib.hid (R.out.below hb)
  have P2 := Lib.hid (P.out.below hb P.out.1)
  have Y2 := Lib.hid hby
  have cD := decode_any 5 A 1024 c L0 w2 hby
  clear hby henc hb cE B R P
  go_wp2_with fail
  refine cD.mono ?_
  rintro e w3 ⟨hb, ⟨q, a, rfl, hrows, hok, hdec⟩ | ⟨rfl, hno⟩⟩
  rotate_left
  · exact absurd dec0 (hno pg0)
  obtain rfl := dec_fun dec0 hdec
  have hal : Below w3.heap.size w3 (w3.alloc (.cells (pgC pg0 a) 28)) := (Below.refl _ _).alloc (Nat.le_refl _) _
  have hb3 := hb.trans (hal.mono hb.size)
  have B3 := Lib.hid (B2.out.trans (hb3.mono B2.out.size))
  have R3 := Lib.hid (R2.out.below hb3)
  have P3 := Lib.hid (P2.out.below hb3 P2.out.1)
  have Y3 := Lib.hid (Y2.out.below hb3)
  have Q3 := Lib.hid (pg_box w3 pg0 a)
  have S3 := Lib.hid (hrows.below hal)
  have cF := decode_any 6 A 1024 c L0 _ Y3.out
  clear hrows hok hdec hb hal hb3 cD B2 R2 P2 Y2
  go_wp2_with fail
  refine cF.mono ?_
  rintro e w4 ⟨hb, ⟨q, a2, rfl, hrows, hok, hdec⟩ | ⟨rfl, hno⟩⟩
  · exact absurd hdec (not6 q)
  have hal : Below w4.heap.size w4 (w4.alloc (.cells #[.int .i64 0, .slice none 0 0, .slice none 0 0, .slice none 0 0, .slice none 0 0, .int .i64 0, .int .u64 0, .int .i64 0, .int .i64 0, .int .i64 0, .int .i64 0] 28)) := (Below.refl _ _).alloc (Nat.le_refl _) _
  have hb3 := hb.trans (hal.mono hb.size)
  have B4 := Lib.hid (B3.out.trans (hb3.mono B3.out.size))
  have R4 := Lib.hid (R3.out.below hb3)
  have P4 := Lib.hid (P3.out.below hb3 P3.out.1)
  have Y4 := Lib.hid (Y3.out.below hb3)
  have Q4 := Lib.hid (Q3.out.below hb3 Q3.out.1)
  have S4 := Lib.hid (S3.out.below hb3)
  clear hno hb hal hb3 cF B3 R3 P3 Y3 Q3 S3
  have p0 : (w4.alloc (.cells #[.int .i64 0, .slice none 0 0, .slice none 0 0, .slice none 0 0, .slice none 0 0, .int .i64 0, .int .u64 0, .int .i64 0, .int .i64 0, .int .i64 0, .int .i64 0] 28)).cell? ⟨w.heap.size + 1, 0, none⟩ = some (.int .i64 1) := P4.out.2.2 0 _ rfl
  have p1 : (w4.alloc (.cells #[.int .i64 0, .slice none 0 0, .slice none 0 0, .slice none 0 0, .slice none 0 0, .int .i64 0, .int .u64 0, .int .i64 0, .int .i64 0, .int .i64 0, .int .i64 0] 28)).cell? ⟨w.heap.size + 1, 1, none⟩ = some (.slice (some ⟨w.heap.size, 0, none⟩) 1 1) := P4.out.2.2 1 _ rfl
  have p2 : (w4.alloc (.cells #[.int .i64 0, .slice none 0 0, .slice none 0 0, .slice none 0 0, .slice none 0 0, .int .i64 0, .int .u64 0, .int .i64 0, .int .i64 0, .int .i64 0, .int .i64 0] 28)).cell? ⟨w.heap.size + 1, 2, none⟩ = some (.slice none 0 0) := P4.out.2.2 2 _ rfl
  have p3 : (w4.alloc (.cells #[.int .i64 0, .slice none 0 0, .slice none 0 0, .slice none 0 0, .slice none 0 0, .int .i64 0, .int .u64 0, .int .i64 0, .int .i64 0, .int .i64 0, .int .i64 0] 28)).cell? ⟨w.heap.size + 1, 3, none⟩ = some (.slice none 0 0) := P4.out.2.2 3 _ rfl
  have p4 : (w4.alloc (.cells #[.int .i64 0, .slice none 0 0, .slice none 0 0, .slice none 0 0, .slice none 0 0, .int .i64 0, .int .u64 0, .int .i64 0, .int .i64 0, .int .i64 0, .int .i64 0] 28)).cell? ⟨w.heap.size + 1, 4, none⟩ = some (.slice none 0 0) := P4.out.2.2 4 _ rfl
  have p5 : (w4.alloc (.cells #[.int .i64 0, .slice none 0 0, .slice none 0 0, .slice none 0 0, .slice none 0 0, .int .i64 0, .int .u64 0, .int .i64 0, .int .i64 0, .int .i64 0, .int .i64 0] 28)).cell? ⟨w.heap.size + 1, 5, none⟩ = some (.int .i64 0) := P4.out.2.2 5 _ rfl
  have p6 : (w4.alloc (.cells #[.int .i64 0, .slice none 0 0, .slice none 0 0, .slice none 0 0, .slice none 0 0, .int .i64 0, .int .u64 0, .int .i64 0, .int .i64 0, .int .i64 0, .int .i64 0] 28)).cell? ⟨w.heap.size + 1, 6, none⟩ = some (.int .u64 0) := P4.out.2.2 6 _ rfl
  have p7 : (w4.alloc (.cells #[.int .i64 0, .slice none 0 0, .slice none 0 0, .slice none 0 0, .slice none 0 0, .int .i64 0, .int .u64 0, .int .i64 0, .int .i64 0, .int .i64 0, .int .i64 0] 28)).cell? ⟨w.heap.size + 1, 7, none⟩ = some (.int .i64 0) := P4.out.2.2 7 _ rfl
  have p8 : (w4.alloc (.cells #[.int .i64 0, .slice none 0 0, .slice none 0 0, .slice none 0 0, .slice none 0 0, .int .i64 0, .int .u64 0, .int .i64 0, .int .i64 0, .int .i64 0, .int .i64 0] 28)).cell? ⟨w.heap.size + 1, 8, none⟩ = some (.int .i64 0) := P4.out.2.2 8 _ rfl
  have p9 : (w4.alloc (.cells #[.int .i64 0, .slice none 0 0, .slice none 0 0, .slice none 0 0, .slice none 0 0, .int .i64 0, .int .u64 0, .int .i64 0, .int .i64 0, .int .i64 0, .int .i64 0] 28)).cell? ⟨w.heap.size + 1, 9, none⟩ = some (.int .i64 0) := P4.out.2.2 9 _ rfl
  have p10 : (w4.alloc (.cells #[.int .i64 0, .slice none 0 0, .slice none 0 0, .slice none 0 0, .slice none 0 0, .int .i64 0, .int .u64 0, .int .i64 0, .int .i64 0, .int .i64 0, .int .i64 0] 28)).cell? ⟨w.heap.size + 1, 10, none⟩ = some (.int .i64 0) := P4.out.2.2 10 _ rfl
  have cG := encode_any 0 pg0 (lay0 w.heap.size) _ ok0 R4.out
  go_wp2_with fail
  clear p0 p1 p2 p3 p4 p5 p6 p7 p8 p9 p10
  refine cG.mono ?_
  rintro e w5 (⟨A5, n5, c5, l5, rfl, _, henc, hb⟩ | ⟨rfl, hno, hb⟩)
  · exact absurd henc (not0 l5)
  have B5 := Lib.hid (B4.out.trans (hb.mono B4.out.size))
  have R5 := Lib.hid (R4.out.below hb)
  have P5 := Lib.hid (P4.out.below hb P4.out.1)
  have Y5 := Lib.hid (Y4.out.below hb)
  have Q5 := Lib.hid (Q4.out.below hb Q4.out.1)
  have S5 := Lib.hid (S4.out.below hb)
  clear hno hb cG B4 R4 P4 Y4 Q4 S4
  have p0 : w5.cell? ⟨w.heap.size + 1, 0, none⟩ = some (.int .i64 1) := P5.out.2.2 0 _ rfl
  have p1 : w5.cell? ⟨w.heap.size + 1, 1, none⟩ = some (.slice (some ⟨w.heap.size, 0, none⟩) 1 1) := P5.out.2.2 1 _ rfl
  have p2 : w5.cell? ⟨w.heap.size + 1, 2, none⟩ = some (.slice none 0 0) := P5.out.2.2 2 _ rfl
  have p3 : w5.cell? ⟨w.heap.size + 1, 3, none⟩ = some (.slice none 0 0) := P5.out.2.2 3 _ rfl
  have p4 : w5.cell? ⟨w.heap.size + 1, 4, none⟩ = some (.slice none 0 0) := P5.out.2.2 4 _ rfl
  have p5 : w5.cell? ⟨w.heap.size + 1, 5, none⟩ = some (.int .i64 0) := P5.out.2.2 5 _ rfl
  have p6 : w5.cell? ⟨w.heap.size + 1, 6, none⟩ = some (.int .u64 0) := P5.out.2.2 6 _ rfl
  have p7 : w5.cell? ⟨w.heap.size + 1, 7, none⟩ = some (.int .i64 0) := P5.out.2.2 7 _ rfl
  have p8 : w5.cell? ⟨w.heap.size + 1, 8, none⟩ = some (.int .i64 0) := P5.out.2.2 8 _ rfl
  have p9 : w5.cell? ⟨w.heap.size + 1, 9, none⟩ = some (.int .i64 0) := P5.out.2.2 9 _ rfl
  have p10 : w5.cell? ⟨w.heap.size + 1, 10, none⟩ = some (.int .i64 0) := P5.out.2.2 10 _ rfl
  have q0 : w5.cell? ⟨w3.heap.size, 0, none⟩ = some (.int .i64 pg0.kind) := Q5.out.2.2 0 _ rfl
  have q1 : w5.cell? ⟨w3.heap.size, 1, none⟩ = some (.slice a.A1 pg0.pairs.length a.c1) := Q5.out.2.2 1 _ rfl
  have q2 : w5.cell? ⟨w3.heap.size, 2, none⟩ = some (.slice a.A2 pg0.keys.length a.c2) := Q5.out.2.2 2 _ rfl
  have q3 : w5.cell? ⟨w3.heap.size, 3, none⟩ = some (.slice a.A3 pg0.kids.length a.c3) := Q5.out.2.2 3 _ rfl
  have q4 : w5.cell? ⟨w3.heap.size, 4, none⟩ = some (.slice a.A4 pg0.pages.length a.c4) := Q5.out.2.2 4 _ rfl
  have q5 : w5.cell? ⟨w3.heap.size, 5, none⟩ = some (.int .i64 pg0.next) := Q5.out.2.2 5 _ rfl
  have q6 : w5.cell? ⟨w3.heap.size, 6, none⟩ = some (.int .u64 (pg0.epoch : Int)) := Q5.out.2.2 6 _ rfl
  have q7 : w5.cell? ⟨w3.heap.size, 7, none⟩ = some (.int .i64 pg0.root) := Q5.out.2.2 7 _ rfl
  have q8 : w5.cell? ⟨w3.heap.size, 8, none⟩ = some (.int .i64 pg0.depth) := Q5.out.2.2 8 _ rfl
  have q9 : w5.cell? ⟨w3.heap.size, 9, none⟩ = some (.int .i64 pg0.count) := Q5.out.2.2 9 _ rfl
  have q10 : w5.cell? ⟨w3.heap.size, 10, none⟩ = some (.int .i64 pg0.high) := Q5.out.2.2 10 _ rfl
  have cS := same_any pg0 pg0 (lay0 w.heap.size) a w5 ok0 R5.out S5.out
  go_wp2_with fail
  clear p0 p1 p2 p3 p4 p5 p6 p7 p8 p9 p10 q0 q1 q2 q3 q4 q5 q6 q7 q8 q9 q10
  refine cS.mono ?_
  rintro e w6 ⟨r, rfl, hr, hb⟩
  obtain rfl : r = true := by simpa using hr
  have B6 := Lib.hid (B5.out.trans (hb.mono B5.out.size))
  have R6 := Lib.hid (R5.out.below hb)
  have P6 := Lib.hid (P5.out.below hb P5.out.1)
  have Y6 := Y5.out.below hb
  obtain ⟨hl, h0, h2, h4, h6⟩ := heads0
  obtain ⟨b, off, rfl, _, hc⟩ := Y6.row (by intro e; rw [e] at hl; simp at hl)
  have gt : ∀ k x, L0[k]? = some x → w6.cell? ⟨b, off + k, none⟩ = some (byteV x) := fun k x h => by
    obtain ⟨hk, e⟩ := List.getElem?_eq_some_iff.1 h
    rw [hc k hk, e]
  have k0 : w6.cell? ⟨b, off, none⟩ = some (.int .u8 1) := gt 0 _ h0
  have k2 : w6.cell? ⟨b, off + 2, none⟩ = some (.int .u8 5) := gt 2 _ h2
  have k4 : w6.cell? ⟨b, off + 4, none⟩ = some (.int .u8 1) := gt 4 _ h4
  have k6 : w6.cell? ⟨b, off + 6, none⟩ = some (.int .u8 97) := gt 6 _ h6
  have p0 : w6.cell? ⟨w.heap.size + 1, 0, none⟩ = some (.int .i64 1) := P6.out.2.2 0 _ rfl
  have p1 : w6.cell? ⟨w.heap.size + 1, 1, none⟩ = some (.slice (some ⟨w.heap.size, 0, none⟩) 1 1) := P6.out.2.2 1 _ rfl
  have p2 : w6.cell? ⟨w.heap.size + 1, 2, none⟩ = some (.slice none 0 0) := P6.out.2.2 2 _ rfl
  have p3 : w6.cell? ⟨w.heap.size + 1, 3, none⟩ = some (.slice none 0 0) := P6.out.2.2 3 _ rfl
  have p4 : w6.cell? ⟨w.heap.size + 1, 4, none⟩ = some (.slice none 0 0) := P6.out.2.2 4 _ rfl
  have p5 : w6.cell? ⟨w.heap.size + 1, 5, none⟩ = some (.int .i64 0) := P6.out.2.2 5 _ rfl
  have p6 : w6.cell? ⟨w.heap.size + 1, 6, none⟩ = some (.int .u64 0) := P6.out.2.2 6 _ rfl
  have p7 : w6.cell? ⟨w.heap.size + 1, 7, none⟩ = some (.int .i64 0) := P6.out.2.2 7 _ rfl
  have p8 : w6.cell? ⟨w.heap.size + 1, 8, none⟩ = some (.int .i64 0) := P6.out.2.2 8 _ rfl
  have p9 : w6.cell? ⟨w.heap.size + 1, 9, none⟩ = some (.int .i64 0) := P6.out.2.2 9 _ rfl
  have p10 : w6.cell? ⟨w.heap.size + 1, 10, none⟩ = some (.int .i64 0) := P6.out.2.2 10 _ rfl
  have cC := check_any pg0 (lay0 w.heap.size) w6 ok0 R6.out
  clear hr hb cS hl h0 h2 h4 h6 hc gt Y6 B5 R5 P5 Y5 Q5 S5
  go_wp2_with fail
  refine cC.mono ?_
  rintro e w7 ⟨x, rfl, hx, hb⟩
  obtain ⟨rfl, -⟩ : x = 0 ∧ Fine pg0 := hx.elim id (fun h => absurd fine0 h.2)
  have B7 := Lib.hid (B6.out.trans (hb.mono B6.out.size))
  have cK := check_any { kind := 1 } {} w7 okB (rowsB w7)
  clear hx hb cC p0 p1 p2 p3 p4 p5 p6 p7 p8 p9 p10 k0 k2 k4 k6 B6 R6 P6
  go_wp2_with fail
  refine cK.mono ?_
  rintro e w8 ⟨x, rfl, hx, hb⟩
  obtain ⟨rfl, -⟩ : x = 50 ∧ ¬ Fine { kind := 1 } := hx.elim (fun h => absurd h.2 bare1) id
  have B8 := Lib.hid (B7.out.trans (hb.mono B7.out.size))
  clear hx hb cK
  go_wp2_with fail
  go_ret
  exact ⟨rfl, B8.out⟩
end Go.Proofs.Ytiebaeahimeedaa.Page
