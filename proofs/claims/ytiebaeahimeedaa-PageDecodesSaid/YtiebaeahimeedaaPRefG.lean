/-
  Contract of the document's own Encode.
-/
import Derived.Test.YtiebaeahimeedaaPRefB2
import Derived.Test.YtiebaeahimeedaaPRefF
import Derived.Deep.Cut
namespace Go.Proofs.Ytiebaeahimeedaa.Page
open Go.RowKit Gen

theorem rBody_any (p : Pg) (a : Lay) (w : World) (h : Fine p) (hR : PgRows w p a) : Calls Try.prog 26 #[pgV p a] w (LaysO (bodyOf p) w) := by
  unfold bodyOf
  rcases h with ⟨h, g, _⟩ | ⟨h, g, _⟩ | ⟨h, g, _⟩ | ⟨h, g, _⟩
  · rw [if_pos h]; exact rBody1 p a w h g hR
  · rw [if_neg (by omega), if_pos h]; exact rBody2 p a w h g hR
  · rw [if_neg (by omega), if_neg (by omega), if_pos h]; exact rBody3 p a w h g hR
  · rw [if_neg (by omega), if_neg (by omega), if_neg (by omega)]; exact rBody4 p a w h g
/-- filled, of bytes of the call's own. -/
theorem rFilled_own (B : Nat) (v : Value) (l : Bs) (k : Nat) (w : World) (h : OwnG w 5 byteV B v l) (hB : B ≤ w.heap.size) (hn : l.length ≤ k) (hk : k ≤ 10000) : Calls Try.prog 27 #[v, .int .i64 (k : Int)] w (fun e w' => ∃ v', e = .returned v' ∧ OwnG w' 5 byteV B v' (padTo k l) ∧ Below w.heap.size w w') := by
  obtain ⟨A, n, c, rfl, hy, -⟩ := own_bytes h
  have hln := hy.len
  by_cases hge : k ≤ n
  · have d1 : decide (k ≤ n) = true := by simp [hge]
    have hp : padTo k l = l := by rw [padTo, show k - l.length = 0 by omega]; simp
    rw [hp]
    have HH := Lib.hid h
    clear h hp hy hln
    go_enter Try.func27, Try.ntmps27
    go_wp2_with fail
    go_ret
    exact ⟨_, rfl, HH.out, Below.refl _ _⟩
  have d1 : decide (k ≤ n) = false := by simp [hge]
  have hb0 : Below w.heap.size w (w.alloc (.cells #[] 5)) := (Below.refl _ _).alloc (Nat.le_refl _) _
  have h1 := hy.below hb0
  obtain ⟨v1, W1, r1, o1, g1, _⟩ := append_row bytes_elem (w.alloc (.cells #[] 5)) w.heap.size (.slice (some ⟨w.heap.size, 0, none⟩) 0 0) [] (own_none w) A n c l h1.len h1.nil h1.row (by simp; omega) (by simp)
  have hb1 : Below w.heap.size w W1 := hb0.grown g1 hb0.size (fun j hj => by simp [Value.ownBlock] at hj; omega)
  rw [List.nil_append] at o1
  obtain ⟨v2, W2, r2, o2, g2, _⟩ := append_zeros W1 w.heap.size v1 l o1 (k - n) .i64 (by omega) hb1.size
  have hb2 : Below w.heap.size w W2 := below_grown hb1 o1 g2 hb1.size
  have hp : l ++ List.replicate (k - n) 0 = padTo k l := by rw [padTo, hln]
  rw [hp] at o2
  rw [show ((k - n : Nat) : Int) = (k : Int) - (n : Int) by omega] at r2
  have R1 := Lib.hid r1
  have R2 := Lib.hid r2
  have H2 := Lib.hid (own_down o2 hB)
  have B2 := Lib.hid hb2
  clear h h1 hb0 r1 o1 g1 hb1 r2 o2 g2 hb2 hp hy hln
  go_enter Try.func27, Try.ntmps27
  go_wp2_with (first
    | (at_builtin; ((with_reducible refine wpList_append_eq rfl (.tmp 10) (.tmp 11) _ rfl ?_ ?_ R1.out ?_); (next => rfl); (next => rfl)))
    | (at_builtin; ((with_reducible refine wpList_append2_eq rfl (.tmp 12) (.tmp 16) _ _ rfl ?_ ?_ R2.out ?_); (next => rfl); (next => rfl))))
  go_ret
  exact ⟨_, rfl, H2.out, B2.out⟩
/-- Bytes that a call has made behind a literal's one. -/
theorem app_lit {wk wb : World} {x : Int} {b : UInt8} {s1 : Value} {l : Bs} {B : Nat} (hx : x = (b.toNat : Int)) (hB : Below wk.heap.size wk wb) (o : OwnG wb 5 byteV B s1 l) (hl : l.length ≤ 1000) :
    ∃ v3 w3, (Builtin.append_ #[30, 30] 30 #[.slice (some ⟨wb.heap.size, 0, none⟩) 1 1, s1]).run Try.prog (wb.alloc (.cells #[.int .u8 x] 5)) = .ok v3 w3 ∧ OwnG w3 5 byteV wk.heap.size v3 ([b] ++ l) ∧ Below wk.heap.size wk w3 := by
  obtain ⟨A, n, c, rfl, h, -⟩ := own_bytes o
  have hO : OwnG (wb.alloc (.cells #[.int .u8 x] 5)) 5 byteV wb.heap.size (.slice (some ⟨wb.heap.size, 0, none⟩) 1 1) [b] :=
    ⟨rfl, .inr ⟨wb.heap.size, 1, #[.int .u8 x], rfl, Nat.le_refl _, heap_alloc_new _ _, Nat.le_refl _, by unfold maxLen; omega, rfl, by rw [hx]; rfl⟩⟩
  have h1 := h.below ((Below.refl wb.heap.size wb).alloc (Nat.le_refl _) (.cells #[.int .u8 x] 5))
  have hb := hB.alloc hB.size (.cells #[.int .u8 x] 5)
  obtain ⟨v3, w3, r3, o3, g3, -⟩ := append_row bytes_elem _ wk.heap.size _ _ (own_down hO hB.size) A n c l h1.len h1.nil h1.row (by have := h.len; simp; omega) hb.size
  exact ⟨v3, w3, r3, o3, below_grown hb (own_down hO hB.size) g3 hb.size⟩
/-- A row behind bytes of the call's own. -/
theorem app_src {W : World} {B n c : Nat} {u : Value} {A : Option Addr} {ys l : Bs} (hO : OwnG W 5 byteV B u ys) (hB : B ≤ W.heap.size) (hl : BytesAt W A n c l) (hn : ys.length + l.length ≤ 100000) :
    ∃ v3 w3, (Builtin.append_ #[30, 30] 30 #[u, .slice A n c]).run Try.prog W = .ok v3 w3 ∧ OwnG w3 5 byteV B v3 (ys ++ l) ∧ Below B W w3 := by
  obtain ⟨v3, w3, r3, o3, g3, -⟩ := append_row bytes_elem W B u ys hO A n c l hl.len hl.nil hl.row (by have := hl.len; omega) hB
  exact ⟨v3, w3, r3, o3, below_grown (Below.refl B W) hO g3 hB⟩
theorem BytesAt.beneath {w w' : World} {A : Option Addr} {n c B : Nat} {l : Bs} (h : BytesAt w A n c l) (hw : w.heap.size ≤ B) (hb : Below B w w') : BytesAt w' A n c l := h.below (hb.mono hw)
theorem doubled_parts (ep : Nat) (L : Bs) (h : L.length ≤ 496) : padTo 1016 (padTo 512 (be 8 ep ++ padTo 496 L) ++ padTo 496 L) ++ be 8 ep = doubledBs ep L := by
  have h1 := be_len 8 ep
  have h2 := pad_len h
  unfold doubledBs
  generalize be 8 ep = E at *
  generalize padTo 496 L = H at *
  rw [show padTo 512 (E ++ H) = E ++ H ++ zeros 8 by rw [padTo, List.length_append, h1, h2]; rfl]
  rw [show padTo 1016 (E ++ H ++ zeros 8 ++ H) = E ++ H ++ zeros 8 ++ H ++ zeros 8 by rw [padTo]; simp only [List.length_append, h1, h2, zeros, List.length_replicate]]
  simp
set_option maxRecDepth 100000 in
set_option maxHeartbeats 8000000 in
theorem rEncode_any (s : Int) (p : Pg) (a : Lay) (w : World) (hs64 : -9223372036854775808 ≤ s ∧ s ≤ 9223372036854775807) (hok : PgOk p) (hR : PgRows w p a) : Calls Try.prog 13 #[.int .i64 s, pgV p a] w (Encodes s p w) := by
  have b1 : Below w.heap.size w (w.alloc (.cells (pgC p a) 28)) := (Below.refl _ _).alloc (Nat.le_refl _) _
  have B1 := Lib.hid b1
  have AT := Lib.hid (pg_box w p a)
  have R1 := Lib.hid (hR.below b1)
  have OK := Lib.hid hok
  clear hR hok b1
  obtain ⟨W0, hW0⟩ : ∃ W0, w.alloc (.cells (pgC p a) 28) = W0 := ⟨_, rfl⟩
  unfold pgV
  unfold pgC at *
  rw [hW0] at AT R1 B1
  obtain ⟨x0, x1, x2, x3, x4, x5, x6, x7, x8, x9, x10⟩ := pg_keep W0 p a AT.out W0 (Below.refl _ _)
  have cC := rCheck_any p a W0 OK.out R1.out
  go_enter Try.func13, Try.ntmps13
  go_wp2_with fail
  clear hW0
  refine (rPlace_any _ _).mono ?_
  rintro e w' ⟨r, rfl, hr, rfl⟩
  have HPL := Lib.hid hr
  clear hr
  by_cases hk : p.kind = 4
  · have k4 : (p.kind == 4) = true := by simp [hk]
    have HK := Lib.hid hk
    clear hk
    rcases e0 : (s == 0) with _ | _
    rotate_left
    · have HS : Hid (s = 0 ∨ s = 1) := Lib.hid (.inl (by simpa using e0))
      have k5 : (p.kind != 4) = false := by simp [bne, k4]
      go_wp2_with fail
      refine cC.mono ?_
      rintro e wk ⟨x, rfl, hx, hb⟩
      have BC := Lib.hid (B1.out.trans (hb.mono B1.out.size))
      have HX := Lib.hid hx
      rcases hx with ⟨rfl, hf⟩ | ⟨rfl, hf⟩
      rotate_left
      · have HF := Lib.hid hf
        clear hb hf cC HX
        go_wp2_with fail
        go_ret2
        exact .inr ⟨rfl, fun l h => HF.out h.1, BC.out⟩
      have HF := Lib.hid hf
      have ATC := Lib.hid (AT.out.below hb AT.out.1)
      have RC := Lib.hid (R1.out.below hb)
      have SC := Lib.hid (Nat.lt_of_lt_of_le AT.out.1 hb.size)
      have hkk : 1 ≤ p.kind ∧ p.kind ≤ 4 := by rcases hf with ⟨h, _⟩ | ⟨h, _⟩ | ⟨h, _⟩ | ⟨h, _⟩ <;> omega
      have hss : 0 ≤ s ∧ s ≤ 4095 := by have := HS.out; omega
      clear hb hf cC HX x0 x1 x2 x3 x4 x5 x6 x7 x8 x9 x10
      have KS := Lib.hid (pg_keep wk p a ATC.out)
      have KZ := Lib.hid (fun W (hW : Below wk.heap.size wk W) => rBody_any p a W HF.out (RC.out.below hW))
      have q1 : p.kind % 256 = p.kind := by omega
      have q2 : IntKind.u8.wrap p.kind = p.kind := by rw [IntKind.wrap_u8']; omega
      have hx : p.kind = ((UInt8.ofNat p.kind.toNat).toNat : Int) := by rw [UInt8.toNat_ofNat']; omega
      have HT0 := Lib.hid (fun W => rTwo_any s W (by omega))
      have hO : OwnG (wk.alloc (.cells #[.int .u8 p.kind] 5)) 5 byteV wk.heap.size (.slice (some ⟨wk.heap.size, 0, none⟩) 1 1) [UInt8.ofNat p.kind.toNat] :=
        ⟨rfl, .inr ⟨wk.heap.size, 1, #[.int .u8 p.kind], rfl, Nat.le_refl _, heap_alloc_new _ _, Nat.le_refl _, by unfold maxLen; omega, rfl, by rw [show #[Value.int .u8 p.kind].toList = [.int .u8 ((UInt8.ofNat p.kind.toNat).toNat : Int)] by rw [← hx]]; rfl⟩⟩
      have HOD : Hid (OwnG (wk.alloc (.cells #[.int .u8 p.kind] 5)).drew 5 byteV wk.heap.size (.slice (some ⟨wk.heap.size, 0, none⟩) 1 1) [UInt8.ofNat p.kind.toNat]) := Lib.hid hO
      have HBD := Lib.hid ((Below.refl wk.heap.size wk).alloc (Nat.le_refl _) (.cells #[.int .u8 p.kind] 5)).drew
      have K0 := Lib.hid (KS.out _ HBD.out)
      have KD := Lib.hid (KS.out _ (Below.refl wk.heap.size wk).drew)
      have KE := Lib.hid (KS.out _ ((Below.refl wk.heap.size wk).alloc (Nat.le_refl _) (.cells #[.int .u8 p.kind] 5)))
      have hbl := body_len HF.out
      have LL1 : Hid ([UInt8.ofNat p.kind.toNat].length + (num2 s).length ≤ 100000) := Lib.hid (by rw [num2_len]; simp)
      have LL2 : Hid (([UInt8.ofNat p.kind.toNat] ++ num2 s).length + (bodyOf p).length ≤ 100000) := Lib.hid (by rw [List.length_append, num2_len]; simp; omega)
      have HAL : Hid ([UInt8.ofNat p.kind.toNat] ++ num2 s ++ bodyOf p = pageBs s p) := Lib.hid (by rw [pageBs, be_one]; simp)
      have hxk := hx
      clear hO hx hbl hkk hss
      have HBE := Lib.hid (Below.refl wk.heap.size wk).drew
      have HXK := Lib.hid hxk
      clear hxk
      have L2 : Hid ((num2 s).length ≤ 1000) := Lib.hid (by rw [num2_len]; omega)
      go_upto_region 6 with fail
      go_cut [7] from 10 (fun s7 wx => OwnG wx 5 byteV wk.heap.size s7 (pageBs s p) ∧ Below wk.heap.size wk wx)
      case first =>
        go_region_held3 (fun w' => w'.cell? ⟨w.heap.size, 0, none⟩ = some (.int .i64 p.kind) ∧ w'.cell? ⟨w.heap.size, 1, none⟩ = some (.slice a.A1 p.pairs.length a.c1) ∧ w'.cell? ⟨w.heap.size, 2, none⟩ = some (.slice a.A2 p.keys.length a.c2) ∧ w'.cell? ⟨w.heap.size, 3, none⟩ = some (.slice a.A3 p.kids.length a.c3) ∧ w'.cell? ⟨w.heap.size, 4, none⟩ = some (.slice a.A4 p.pages.length a.c4) ∧ w'.cell? ⟨w.heap.size, 5, none⟩ = some (.int .i64 p.next) ∧ w'.cell? ⟨w.heap.size, 6, none⟩ = some (.int .u64 (p.epoch : Int)) ∧ w'.cell? ⟨w.heap.size, 7, none⟩ = some (.int .i64 p.root) ∧ w'.cell? ⟨w.heap.size, 8, none⟩ = some (.int .i64 p.depth) ∧ w'.cell? ⟨w.heap.size, 9, none⟩ = some (.int .i64 p.count) ∧ w'.cell? ⟨w.heap.size, 10, none⟩ = some (.int .i64 p.high))
          (with_reducible (first | exact K0.out | exact KD.out | exact KE.out | exact KB1.out | exact KL1.out | exact KC1.out | exact KB2.out | exact KC2.out))
          (first
            | (go_at_call 25; (with_reducible refine (HT0.out _).mono ?_); rintro e wb1 ⟨sb1, rfl, ob1, bb1⟩
               have RB0 : Hid (Below wk.heap.size wk wb1) := Lib.hid (by first | exact HBD.out.trans (bb1.mono HBD.out.size) | exact HBE.out.trans (bb1.mono HBE.out.size)); have HOB := Lib.hid ob1; have HBB := Lib.hid bb1; have KB1 := Lib.hid (KS.out _ RB0.out); have KL1 := Lib.hid (KS.out _ (RB0.out.alloc RB0.out.size (.cells #[.int .u8 p.kind] 5))); clear ob1 bb1)
            | (obtain ⟨-, vb1, wc1, rc1, oc1, bc1⟩ := app_text HOD.out HBD.out HOB.out HBB.out LL1.out; refine step_append2_eq (by rfl) (.tmp 31) (.tmp 33) _ _ (by rfl) (by rfl) (by rfl) rc1 ?_
               have OB1 := Lib.hid oc1; have RB1 := Lib.hid bc1; have KC1 := Lib.hid (KS.out _ bc1); clear rc1 oc1 bc1)
            | (obtain ⟨vb1, wc1, rc1, oc1, bc1⟩ := app_lit HXK.out RB0.out HOB.out L2.out; refine step_append2_eq (by rfl) (.tmp 31) (.tmp 33) _ _ (by rfl) (by rfl) (by rfl) rc1 ?_
               have OB1 := Lib.hid oc1; have RB1 := Lib.hid bc1; have KC1 := Lib.hid (KS.out _ bc1); clear rc1 oc1 bc1)
            | (go_at_call 26; (with_reducible refine (KZ.out _ RB1.out).mono ?_); rintro e wb2 ⟨sb2, rfl, ob2, bb2⟩
               obtain ⟨rb2, vb2, wc2, rc2, oc2, bc2⟩ := app_text OB1.out RB1.out ob2 bb2 LL2.out
               have KB2 := Lib.hid (KS.out _ rb2); have QB2 := Lib.hid rc2; have OB2 := Lib.hid oc2; have RB2 := Lib.hid bc2; have KC2 := Lib.hid (KS.out _ bc2); clear ob2 bb2 rb2 rc2 oc2 bc2)
            | (refine step_append2_eq (by rfl) (.tmp 34) (.tmp 36) _ _ (by rfl) (by rfl) (by rfl) QB2.out ?_; skip))
        all_goals
          rw [HAL.out] at OB2
          go_wp2_with fail
          go_meet
          exact ⟨OB2.out, RB2.out⟩
      case rest =>
      obtain ⟨oB2, rB2⟩ := hcut
      have OB2 := Lib.hid oB2
      have RB2 := Lib.hid rB2
      clear oB2 rB2
      clear K0 KD KE HT0 KZ LL1 LL2 HBD HOD q1 q2 HBE HXK L2 HAL
      have x0 := (KS.out _ RB2.out).1
      have PL := Lib.hid (page_len (s := s) HF.out)
      have PL4 := Lib.hid (show (pageBs s p).length ≤ 496 by rw [page_len4 HK.out]; omega)
      have HE := Lib.hid (show Enc s p (padTo 1016 (padTo 512 (be 8 p.epoch ++ padTo 496 (pageBs s p)) ++ padTo 496 (pageBs s p)) ++ be 8 p.epoch) from ⟨HF.out, .inl ⟨HK.out, HS.out, doubled_parts _ _ PL4.out⟩⟩)
      have cF : Calls Try.prog 27 #[u7, .int .i64 496] wc _ := rFilled_own wk.heap.size u7 (pageBs s p) 496 wc OB2.out RB2.out.size PL4.out (by omega)
      go_wp2_with fail
      refine cF.mono ?_
      rintro e w8 ⟨v8, rfl, o8, b8⟩
      obtain ⟨A8, n8, c8, rfl, y8, -⟩ := own_bytes o8
      have Y8 := Lib.hid y8
      have R8 := Lib.hid (RB2.out.trans (b8.mono RB2.out.size))
      have HL := Lib.hid (pad_len PL4.out)
      have EL := Lib.hid (be_len 8 p.epoch)
      have x6 := (KS.out _ R8.out).2.2.2.2.2.2.1
      have cN : Calls Try.prog 28 #[.int .u64 (p.epoch : Int), .int .i64 8] w8 _ := rNumber_any p.epoch 8 w8 (by omega)
      clear o8 y8 b8 cF x0
      generalize padTo 496 (pageBs s p) = H at *
      generalize be 8 p.epoch = E at *
      go_wp2_with fail
      refine cN.mono ?_
      rintro e w9 ⟨v9, rfl, o9, b9⟩
      obtain ⟨A9, n9, c9, rfl, y9, -⟩ := own_bytes o9
      have Y9 := Lib.hid y9
      have Y8' := Lib.hid (Y8.out.below b9)
      have R9 := Lib.hid (R8.out.trans (b9.mono R8.out.size))
      clear o9 y9 b9 cN Y8 x6
      have hb0 : Below w9.heap.size w9 (w9.alloc (.cells #[] 5)) := (Below.refl _ _).alloc (Nat.le_refl _) _
      obtain ⟨v1, z1, q1, o1, b1⟩ := app_src (own_none w9) hb0.size (Y9.out.below hb0) (by have := EL.out; simp; omega)
      have hb1 := hb0.trans b1
      rw [List.nil_append] at o1
      obtain ⟨v2, z2, q2, o2, b2⟩ := app_src o1 hb1.size (Y8'.out.below hb1) (by have := EL.out; have := HL.out; omega)
      have hb2 := hb1.trans b2
      have Q1 := Lib.hid q1
      have Q2 := Lib.hid q2
      have HB2 := Lib.hid hb2
      have cF : Calls Try.prog 27 #[v2, .int .i64 512] z2 _ := rFilled_own w9.heap.size v2 (E ++ H) 512 z2 o2 hb2.size (by rw [List.length_append]; have := EL.out; have := HL.out; omega) (by omega)
      clear hb0 q1 o1 b1 hb1 q2 o2 b2 hb2
      go_wp2_with (first | (at_builtin; ((with_reducible refine wpList_append2_eq rfl (.tmp 53) (.tmp 54) _ _ rfl ?_ ?_ Q1.out ?_); (next => rfl); (next => rfl))) | (at_builtin; ((with_reducible refine wpList_append2_eq rfl (.tmp 55) (.tmp 56) _ _ rfl ?_ ?_ Q2.out ?_); (next => rfl); (next => rfl))))
      refine cF.mono ?_
      rintro e w12 ⟨v12, rfl, o12, b12⟩
      have hb3 := HB2.out.trans (b12.mono HB2.out.size)
      have hl12 : (padTo 512 (E ++ H)).length = 512 := pad_len (by rw [List.length_append]; have := EL.out; have := HL.out; omega)
      obtain ⟨v3, z3, q3, o3, b3⟩ := app_src o12 hb3.size (Y8'.out.below hb3) (by have := HL.out; omega)
      have hb4 := hb3.trans b3
      have Q3 := Lib.hid q3
      have HB4 := Lib.hid hb4
      have hl13 : (padTo 512 (E ++ H) ++ H).length ≤ 1016 := by rw [List.length_append]; have := HL.out; omega
      have HL13 := Lib.hid hl13
      have cG : Calls Try.prog 27 #[v3, .int .i64 1016] z3 _ := rFilled_own w9.heap.size v3 (padTo 512 (E ++ H) ++ H) 1016 z3 o3 hb4.size hl13 (by omega)
      clear o12 b12 hb3 hl12 q3 o3 b3 hb4 hl13 cF Q1 Q2
      go_wp2_with (at_builtin; ((with_reducible refine wpList_append2_eq rfl (.tmp 59) (.tmp 60) _ _ rfl ?_ ?_ Q3.out ?_); (next => rfl); (next => rfl)))
      refine cG.mono ?_
      rintro e w13 ⟨v13, rfl, o13, b13⟩
      have hb5 := HB4.out.trans (b13.mono HB4.out.size)
      have hl14 := pad_len HL13.out
      obtain ⟨v4, z4, q4, o4, b4⟩ := app_src o13 hb5.size (Y9.out.below hb5) (by have := EL.out; omega)
      have hb6 := hb5.trans b4
      obtain ⟨A14, n14, c14, rfl, y14, -⟩ := own_bytes o4
      have Q4 := Lib.hid q4
      have Y14 := Lib.hid y14
      have B14 := Lib.hid (R9.out.trans (hb6.mono R9.out.size))
      clear o13 b13 hb5 hl14 q4 o4 b4 hb6 y14 cG Q3
      go_wp2_with (at_builtin; ((with_reducible refine wpList_append2_eq rfl (.tmp 63) (.tmp 64) _ _ rfl ?_ ?_ Q4.out ?_); (next => rfl); (next => rfl)))
      go_ret2
      exact .inl ⟨_, _, _, _, rfl, Y14.out, HE.out, BC.out.trans (B14.out.mono BC.out.size)⟩
    rcases e1 : (s == 1) with _ | _
    rotate_left
    · have HS : Hid (s = 0 ∨ s = 1) := Lib.hid (.inr (by simpa using e1))
      have k5 : (p.kind != 4) = false := by simp [bne, k4]
      go_wp2_with fail
      refine cC.mono ?_
      rintro e wk ⟨x, rfl, hx, hb⟩
      have BC := Lib.hid (B1.out.trans (hb.mono B1.out.size))
      have HX := Lib.hid hx
      rcases hx with ⟨rfl, hf⟩ | ⟨rfl, hf⟩
      rotate_left
      · have HF := Lib.hid hf
        clear hb hf cC HX
        go_wp2_with fail
        go_ret2
        exact .inr ⟨rfl, fun l h => HF.out h.1, BC.out⟩
      have HF := Lib.hid hf
      have ATC := Lib.hid (AT.out.below hb AT.out.1)
      have RC := Lib.hid (R1.out.below hb)
      have SC := Lib.hid (Nat.lt_of_lt_of_le AT.out.1 hb.size)
      have hkk : 1 ≤ p.kind ∧ p.kind ≤ 4 := by rcases hf with ⟨h, _⟩ | ⟨h, _⟩ | ⟨h, _⟩ | ⟨h, _⟩ <;> omega
      have hss : 0 ≤ s ∧ s ≤ 4095 := by have := HS.out; omega
      clear hb hf cC HX x0 x1 x2 x3 x4 x5 x6 x7 x8 x9 x10
      have KS := Lib.hid (pg_keep wk p a ATC.out)
      have KZ := Lib.hid (fun W (hW : Below wk.heap.size wk W) => rBody_any p a W HF.out (RC.out.below hW))
      have q1 : p.kind % 256 = p.kind := by omega
      have q2 : IntKind.u8.wrap p.kind = p.kind := by rw [IntKind.wrap_u8']; omega
      have hx : p.kind = ((UInt8.ofNat p.kind.toNat).toNat : Int) := by rw [UInt8.toNat_ofNat']; omega
      have HT0 := Lib.hid (fun W => rTwo_any s W (by omega))
      have hO : OwnG (wk.alloc (.cells #[.int .u8 p.kind] 5)) 5 byteV wk.heap.size (.slice (some ⟨wk.heap.size, 0, none⟩) 1 1) [UInt8.ofNat p.kind.toNat] :=
        ⟨rfl, .inr ⟨wk.heap.size, 1, #[.int .u8 p.kind], rfl, Nat.le_refl _, heap_alloc_new _ _, Nat.le_refl _, by unfold maxLen; omega, rfl, by rw [show #[Value.int .u8 p.kind].toList = [.int .u8 ((UInt8.ofNat p.kind.toNat).toNat : Int)] by rw [← hx]]; rfl⟩⟩
      have HOD : Hid (OwnG (wk.alloc (.cells #[.int .u8 p.kind] 5)).drew 5 byteV wk.heap.size (.slice (some ⟨wk.heap.size, 0, none⟩) 1 1) [UInt8.ofNat p.kind.toNat]) := Lib.hid hO
      have HBD := Lib.hid ((Below.refl wk.heap.size wk).alloc (Nat.le_refl _) (.cells #[.int .u8 p.kind] 5)).drew
      have K0 := Lib.hid (KS.out _ HBD.out)
      have KD := Lib.hid (KS.out _ (Below.refl wk.heap.size wk).drew)
      have KE := Lib.hid (KS.out _ ((Below.refl wk.heap.size wk).alloc (Nat.le_refl _) (.cells #[.int .u8 p.kind] 5)))
      have hbl := body_len HF.out
      have LL1 : Hid ([UInt8.ofNat p.kind.toNat].length + (num2 s).length ≤ 100000) := Lib.hid (by rw [num2_len]; simp)
      have LL2 : Hid (([UInt8.ofNat p.kind.toNat] ++ num2 s).length + (bodyOf p).length ≤ 100000) := Lib.hid (by rw [List.length_append, num2_len]; simp; omega)
      have HAL : Hid ([UInt8.ofNat p.kind.toNat] ++ num2 s ++ bodyOf p = pageBs s p) := Lib.hid (by rw [pageBs, be_one]; simp)
      have hxk := hx
      clear hO hx hbl hkk hss
      have HBE := Lib.hid (Below.refl wk.heap.size wk).drew
      have HXK := Lib.hid hxk
      clear hxk
      have L2 : Hid ((num2 s).length ≤ 1000) := Lib.hid (by rw [num2_len]; omega)
      go_upto_region 6 with fail
      go_cut [7] from 10 (fun s7 wx => OwnG wx 5 byteV wk.heap.size s7 (pageBs s p) ∧ Below wk.heap.size wk wx)
      case first =>
        go_region_held3 (fun w' => w'.cell? ⟨w.heap.size, 0, none⟩ = some (.int .i64 p.kind) ∧ w'.cell? ⟨w.heap.size, 1, none⟩ = some (.slice a.A1 p.pairs.length a.c1) ∧ w'.cell? ⟨w.heap.size, 2, none⟩ = some (.slice a.A2 p.keys.length a.c2) ∧ w'.cell? ⟨w.heap.size, 3, none⟩ = some (.slice a.A3 p.kids.length a.c3) ∧ w'.cell? ⟨w.heap.size, 4, none⟩ = some (.slice a.A4 p.pages.length a.c4) ∧ w'.cell? ⟨w.heap.size, 5, none⟩ = some (.int .i64 p.next) ∧ w'.cell? ⟨w.heap.size, 6, none⟩ = some (.int .u64 (p.epoch : Int)) ∧ w'.cell? ⟨w.heap.size, 7, none⟩ = some (.int .i64 p.root) ∧ w'.cell? ⟨w.heap.size, 8, none⟩ = some (.int .i64 p.depth) ∧ w'.cell? ⟨w.heap.size, 9, none⟩ = some (.int .i64 p.count) ∧ w'.cell? ⟨w.heap.size, 10, none⟩ = some (.int .i64 p.high))
          (with_reducible (first | exact K0.out | exact KD.out | exact KE.out | exact KB1.out | exact KL1.out | exact KC1.out | exact KB2.out | exact KC2.out))
          (first
            | (go_at_call 25; (with_reducible refine (HT0.out _).mono ?_); rintro e wb1 ⟨sb1, rfl, ob1, bb1⟩
               have RB0 : Hid (Below wk.heap.size wk wb1) := Lib.hid (by first | exact HBD.out.trans (bb1.mono HBD.out.size) | exact HBE.out.trans (bb1.mono HBE.out.size)); have HOB := Lib.hid ob1; have HBB := Lib.hid bb1; have KB1 := Lib.hid (KS.out _ RB0.out); have KL1 := Lib.hid (KS.out _ (RB0.out.alloc RB0.out.size (.cells #[.int .u8 p.kind] 5))); clear ob1 bb1)
            | (obtain ⟨-, vb1, wc1, rc1, oc1, bc1⟩ := app_text HOD.out HBD.out HOB.out HBB.out LL1.out; refine step_append2_eq (by rfl) (.tmp 31) (.tmp 33) _ _ (by rfl) (by rfl) (by rfl) rc1 ?_
               have OB1 := Lib.hid oc1; have RB1 := Lib.hid bc1; have KC1 := Lib.hid (KS.out _ bc1); clear rc1 oc1 bc1)
            | (obtain ⟨vb1, wc1, rc1, oc1, bc1⟩ := app_lit HXK.out RB0.out HOB.out L2.out; refine step_append2_eq (by rfl) (.tmp 31) (.tmp 33) _ _ (by rfl) (by rfl) (by rfl) rc1 ?_
               have OB1 := Lib.hid oc1; have RB1 := Lib.hid bc1; have KC1 := Lib.hid (KS.out _ bc1); clear rc1 oc1 bc1)
            | (go_at_call 26; (with_reducible refine (KZ.out _ RB1.out).mono ?_); rintro e wb2 ⟨sb2, rfl, ob2, bb2⟩
               obtain ⟨rb2, vb2, wc2, rc2, oc2, bc2⟩ := app_text OB1.out RB1.out ob2 bb2 LL2.out
               have KB2 := Lib.hid (KS.out _ rb2); have QB2 := Lib.hid rc2; have OB2 := Lib.hid oc2; have RB2 := Lib.hid bc2; have KC2 := Lib.hid (KS.out _ bc2); clear ob2 bb2 rb2 rc2 oc2 bc2)
            | (refine step_append2_eq (by rfl) (.tmp 34) (.tmp 36) _ _ (by rfl) (by rfl) (by rfl) QB2.out ?_; skip))
        all_goals
          rw [HAL.out] at OB2
          go_wp2_with fail
          go_meet
          exact ⟨OB2.out, RB2.out⟩
      case rest =>
      obtain ⟨oB2, rB2⟩ := hcut
      have OB2 := Lib.hid oB2
      have RB2 := Lib.hid rB2
      clear oB2 rB2
      clear K0 KD KE HT0 KZ LL1 LL2 HBD HOD q1 q2 HBE HXK L2 HAL
      have x0 := (KS.out _ RB2.out).1
      have PL := Lib.hid (page_len (s := s) HF.out)
      have PL4 := Lib.hid (show (pageBs s p).length ≤ 496 by rw [page_len4 HK.out]; omega)
      have HE := Lib.hid (show Enc s p (padTo 1016 (padTo 512 (be 8 p.epoch ++ padTo 496 (pageBs s p)) ++ padTo 496 (pageBs s p)) ++ be 8 p.epoch) from ⟨HF.out, .inl ⟨HK.out, HS.out, doubled_parts _ _ PL4.out⟩⟩)
      have cF : Calls Try.prog 27 #[u7, .int .i64 496] wc _ := rFilled_own wk.heap.size u7 (pageBs s p) 496 wc OB2.out RB2.out.size PL4.out (by omega)
      go_wp2_with fail
      refine cF.mono ?_
      rintro e w8 ⟨v8, rfl, o8, b8⟩
      obtain ⟨A8, n8, c8, rfl, y8, -⟩ := own_bytes o8
      have Y8 := Lib.hid y8
      have R8 := Lib.hid (RB2.out.trans (b8.mono RB2.out.size))
      have HL := Lib.hid (pad_len PL4.out)
      have EL := Lib.hid (be_len 8 p.epoch)
      have x6 := (KS.out _ R8.out).2.2.2.2.2.2.1
      have cN : Calls Try.prog 28 #[.int .u64 (p.epoch : Int), .int .i64 8] w8 _ := rNumber_any p.epoch 8 w8 (by omega)
      clear o8 y8 b8 cF x0
      generalize padTo 496 (pageBs s p) = H at *
      generalize be 8 p.epoch = E at *
      go_wp2_with fail
      refine cN.mono ?_
      rintro e w9 ⟨v9, rfl, o9, b9⟩
      obtain ⟨A9, n9, c9, rfl, y9, -⟩ := own_bytes o9
      have Y9 := Lib.hid y9
      have Y8' := Lib.hid (Y8.out.below b9)
      have R9 := Lib.hid (R8.out.trans (b9.mono R8.out.size))
      clear o9 y9 b9 cN Y8 x6
      have hb0 : Below w9.heap.size w9 (w9.alloc (.cells #[] 5)) := (Below.refl _ _).alloc (Nat.le_refl _) _
      obtain ⟨v1, z1, q1, o1, b1⟩ := app_src (own_none w9) hb0.size (Y9.out.below hb0) (by have := EL.out; simp; omega)
      have hb1 := hb0.trans b1
      rw [List.nil_append] at o1
      obtain ⟨v2, z2, q2, o2, b2⟩ := app_src o1 hb1.size (Y8'.out.below hb1) (by have := EL.out; have := HL.out; omega)
      have hb2 := hb1.trans b2
      have Q1 := Lib.hid q1
      have Q2 := Lib.hid q2
      have HB2 := Lib.hid hb2
      have cF : Calls Try.prog 27 #[v2, .int .i64 512] z2 _ := rFilled_own w9.heap.size v2 (E ++ H) 512 z2 o2 hb2.size (by rw [List.length_append]; have := EL.out; have := HL.out; omega) (by omega)
      clear hb0 q1 o1 b1 hb1 q2 o2 b2 hb2
      go_wp2_with (first | (at_builtin; ((with_reducible refine wpList_append2_eq rfl (.tmp 53) (.tmp 54) _ _ rfl ?_ ?_ Q1.out ?_); (next => rfl); (next => rfl))) | (at_builtin; ((with_reducible refine wpList_append2_eq rfl (.tmp 55) (.tmp 56) _ _ rfl ?_ ?_ Q2.out ?_); (next => rfl); (next => rfl))))
      refine cF.mono ?_
      rintro e w12 ⟨v12, rfl, o12, b12⟩
      have hb3 := HB2.out.trans (b12.mono HB2.out.size)
      have hl12 : (padTo 512 (E ++ H)).length = 512 := pad_len (by rw [List.length_append]; have := EL.out; have := HL.out; omega)
      obtain ⟨v3, z3, q3, o3, b3⟩ := app_src o12 hb3.size (Y8'.out.below hb3) (by have := HL.out; omega)
      have hb4 := hb3.trans b3
      have Q3 := Lib.hid q3
      have HB4 := Lib.hid hb4
      have hl13 : (padTo 512 (E ++ H) ++ H).length ≤ 1016 := by rw [List.length_append]; have := HL.out; omega
      have HL13 := Lib.hid hl13
      have cG : Calls Try.prog 27 #[v3, .int .i64 1016] z3 _ := rFilled_own w9.heap.size v3 (padTo 512 (E ++ H) ++ H) 1016 z3 o3 hb4.size hl13 (by omega)
      clear o12 b12 hb3 hl12 q3 o3 b3 hb4 hl13 cF Q1 Q2
      go_wp2_with (at_builtin; ((with_reducible refine wpList_append2_eq rfl (.tmp 59) (.tmp 60) _ _ rfl ?_ ?_ Q3.out ?_); (next => rfl); (next => rfl)))
      refine cG.mono ?_
      rintro e w13 ⟨v13, rfl, o13, b13⟩
      have hb5 := HB4.out.trans (b13.mono HB4.out.size)
      have hl14 := pad_len HL13.out
      obtain ⟨v4, z4, q4, o4, b4⟩ := app_src o13 hb5.size (Y9.out.below hb5) (by have := EL.out; omega)
      have hb6 := hb5.trans b4
      obtain ⟨A14, n14, c14, rfl, y14, -⟩ := own_bytes o4
      have Q4 := Lib.hid q4
      have Y14 := Lib.hid y14
      have B14 := Lib.hid (R9.out.trans (hb6.mono R9.out.size))
      clear o13 b13 hb5 hl14 q4 o4 b4 hb6 y14 cG Q3
      go_wp2_with (at_builtin; ((with_reducible refine wpList_append2_eq rfl (.tmp 63) (.tmp 64) _ _ rfl ?_ ?_ Q4.out ?_); (next => rfl); (next => rfl)))
      go_ret2
      exact .inl ⟨_, _, _, _, rfl, Y14.out, HE.out, BC.out.trans (B14.out.mono BC.out.size)⟩
    have HS : Hid (¬ (s = 0 ∨ s = 1)) := Lib.hid (fun h => by rcases h with h | h <;> simp [h] at e0 e1)
    go_wp2_with fail
    refine cC.mono ?_
    rintro e wk ⟨x, rfl, hx, hb⟩
    have BC := Lib.hid (B1.out.trans (hb.mono B1.out.size))
    have HX := Lib.hid hx
    rcases hx with ⟨rfl, hf⟩ | ⟨rfl, hf⟩
    rotate_left
    · have HF := Lib.hid hf
      clear hb hf cC HX
      go_wp2_with fail
      go_ret2
      exact .inr ⟨rfl, fun l h => HF.out h.1, BC.out⟩
    clear hb hf cC HX
    go_wp2_with fail
    go_ret2
    exact .inr ⟨rfl, fun l h => h.2.elim (fun g => HS.out g.2.1) (fun g => g.1 HK.out), BC.out⟩
  · have k4 : (p.kind == 4) = false := by simp [hk]
    have k5 : (p.kind != 4) = true := by simp [hk]
    have HK := Lib.hid hk
    clear hk
    rcases r with _ | _
    · have HS : Hid (¬ Place s) := Lib.hid (fun h => by cases (HPL.out.2 h))
      go_wp2_with fail
      refine cC.mono ?_
      rintro e wk ⟨x, rfl, hx, hb⟩
      have BC := Lib.hid (B1.out.trans (hb.mono B1.out.size))
      have HX := Lib.hid hx
      rcases hx with ⟨rfl, hf⟩ | ⟨rfl, hf⟩
      rotate_left
      · have HF := Lib.hid hf
        clear hb hf cC HX
        go_wp2_with fail
        go_ret2
        exact .inr ⟨rfl, fun l h => HF.out h.1, BC.out⟩
      clear hb hf cC HX
      go_wp2_with fail
      go_ret2
      exact .inr ⟨rfl, fun l h => h.2.elim (fun g => HK.out g.1) (fun g => HS.out g.2.1), BC.out⟩
    have HS := Lib.hid (HPL.out.1 (by trivial))
    go_wp2_with fail
    refine cC.mono ?_
    rintro e wk ⟨x, rfl, hx, hb⟩
    have BC := Lib.hid (B1.out.trans (hb.mono B1.out.size))
    have HX := Lib.hid hx
    rcases hx with ⟨rfl, hf⟩ | ⟨rfl, hf⟩
    rotate_left
    · have HF := Lib.hid hf
      clear hb hf cC HX
      go_wp2_with fail
      go_ret2
      exact .inr ⟨rfl, fun l h => HF.out h.1, BC.out⟩
    have HF := Lib.hid hf
    have ATC := Lib.hid (AT.out.below hb AT.out.1)
    have RC := Lib.hid (R1.out.below hb)
    have SC := Lib.hid (Nat.lt_of_lt_of_le AT.out.1 hb.size)
    have hkk : 1 ≤ p.kind ∧ p.kind ≤ 4 := by rcases hf with ⟨h, _⟩ | ⟨h, _⟩ | ⟨h, _⟩ | ⟨h, _⟩ <;> omega
    have hss : 0 ≤ s ∧ s ≤ 4095 := by have := HS.out; unfold Place at this; omega
    clear hb hf cC HX x0 x1 x2 x3 x4 x5 x6 x7 x8 x9 x10
    have KS := Lib.hid (pg_keep wk p a ATC.out)
    have KZ := Lib.hid (fun W (hW : Below wk.heap.size wk W) => rBody_any p a W HF.out (RC.out.below hW))
    have q1 : p.kind % 256 = p.kind := by omega
    have q2 : IntKind.u8.wrap p.kind = p.kind := by rw [IntKind.wrap_u8']; omega
    have hx : p.kind = ((UInt8.ofNat p.kind.toNat).toNat : Int) := by rw [UInt8.toNat_ofNat']; omega
    have HT0 := Lib.hid (fun W => rTwo_any s W (by omega))
    have hO : OwnG (wk.alloc (.cells #[.int .u8 p.kind] 5)) 5 byteV wk.heap.size (.slice (some ⟨wk.heap.size, 0, none⟩) 1 1) [UInt8.ofNat p.kind.toNat] :=
      ⟨rfl, .inr ⟨wk.heap.size, 1, #[.int .u8 p.kind], rfl, Nat.le_refl _, heap_alloc_new _ _, Nat.le_refl _, by unfold maxLen; omega, rfl, by rw [show #[Value.int .u8 p.kind].toList = [.int .u8 ((UInt8.ofNat p.kind.toNat).toNat : Int)] by rw [← hx]]; rfl⟩⟩
    have HOD : Hid (OwnG (wk.alloc (.cells #[.int .u8 p.kind] 5)).drew 5 byteV wk.heap.size (.slice (some ⟨wk.heap.size, 0, none⟩) 1 1) [UInt8.ofNat p.kind.toNat]) := Lib.hid hO
    have HBD := Lib.hid ((Below.refl wk.heap.size wk).alloc (Nat.le_refl _) (.cells #[.int .u8 p.kind] 5)).drew
    have K0 := Lib.hid (KS.out _ HBD.out)
    have KD := Lib.hid (KS.out _ (Below.refl wk.heap.size wk).drew)
    have KE := Lib.hid (KS.out _ ((Below.refl wk.heap.size wk).alloc (Nat.le_refl _) (.cells #[.int .u8 p.kind] 5)))
    have hbl := body_len HF.out
    have LL1 : Hid ([UInt8.ofNat p.kind.toNat].length + (num2 s).length ≤ 100000) := Lib.hid (by rw [num2_len]; simp)
    have LL2 : Hid (([UInt8.ofNat p.kind.toNat] ++ num2 s).length + (bodyOf p).length ≤ 100000) := Lib.hid (by rw [List.length_append, num2_len]; simp; omega)
    have HAL : Hid ([UInt8.ofNat p.kind.toNat] ++ num2 s ++ bodyOf p = pageBs s p) := Lib.hid (by rw [pageBs, be_one]; simp)
    have hxk := hx
    clear hO hx hbl hkk hss
    have HBE := Lib.hid (Below.refl wk.heap.size wk).drew
    have HXK := Lib.hid hxk
    clear hxk
    have L2 : Hid ((num2 s).length ≤ 1000) := Lib.hid (by rw [num2_len]; omega)
    go_upto_region 6 with fail
    go_cut [7] from 10 (fun s7 wx => OwnG wx 5 byteV wk.heap.size s7 (pageBs s p) ∧ Below wk.heap.size wk wx)
    case first =>
      go_region_held3 (fun w' => w'.cell? ⟨w.heap.size, 0, none⟩ = some (.int .i64 p.kind) ∧ w'.cell? ⟨w.heap.size, 1, none⟩ = some (.slice a.A1 p.pairs.length a.c1) ∧ w'.cell? ⟨w.heap.size, 2, none⟩ = some (.slice a.A2 p.keys.length a.c2) ∧ w'.cell? ⟨w.heap.size, 3, none⟩ = some (.slice a.A3 p.kids.length a.c3) ∧ w'.cell? ⟨w.heap.size, 4, none⟩ = some (.slice a.A4 p.pages.length a.c4) ∧ w'.cell? ⟨w.heap.size, 5, none⟩ = some (.int .i64 p.next) ∧ w'.cell? ⟨w.heap.size, 6, none⟩ = some (.int .u64 (p.epoch : Int)) ∧ w'.cell? ⟨w.heap.size, 7, none⟩ = some (.int .i64 p.root) ∧ w'.cell? ⟨w.heap.size, 8, none⟩ = some (.int .i64 p.depth) ∧ w'.cell? ⟨w.heap.size, 9, none⟩ = some (.int .i64 p.count) ∧ w'.cell? ⟨w.heap.size, 10, none⟩ = some (.int .i64 p.high))
        (with_reducible (first | exact K0.out | exact KD.out | exact KE.out | exact KB1.out | exact KL1.out | exact KC1.out | exact KB2.out | exact KC2.out))
        (first
          | (go_at_call 25; (with_reducible refine (HT0.out _).mono ?_); rintro e wb1 ⟨sb1, rfl, ob1, bb1⟩
             have RB0 : Hid (Below wk.heap.size wk wb1) := Lib.hid (by first | exact HBD.out.trans (bb1.mono HBD.out.size) | exact HBE.out.trans (bb1.mono HBE.out.size)); have HOB := Lib.hid ob1; have HBB := Lib.hid bb1; have KB1 := Lib.hid (KS.out _ RB0.out); have KL1 := Lib.hid (KS.out _ (RB0.out.alloc RB0.out.size (.cells #[.int .u8 p.kind] 5))); clear ob1 bb1)
          | (obtain ⟨-, vb1, wc1, rc1, oc1, bc1⟩ := app_text HOD.out HBD.out HOB.out HBB.out LL1.out; refine step_append2_eq (by rfl) (.tmp 31) (.tmp 33) _ _ (by rfl) (by rfl) (by rfl) rc1 ?_
             have OB1 := Lib.hid oc1; have RB1 := Lib.hid bc1; have KC1 := Lib.hid (KS.out _ bc1); clear rc1 oc1 bc1)
          | (obtain ⟨vb1, wc1, rc1, oc1, bc1⟩ := app_lit HXK.out RB0.out HOB.out L2.out; refine step_append2_eq (by rfl) (.tmp 31) (.tmp 33) _ _ (by rfl) (by rfl) (by rfl) rc1 ?_
             have OB1 := Lib.hid oc1; have RB1 := Lib.hid bc1; have KC1 := Lib.hid (KS.out _ bc1); clear rc1 oc1 bc1)
          | (go_at_call 26; (with_reducible refine (KZ.out _ RB1.out).mono ?_); rintro e wb2 ⟨sb2, rfl, ob2, bb2⟩
             obtain ⟨rb2, vb2, wc2, rc2, oc2, bc2⟩ := app_text OB1.out RB1.out ob2 bb2 LL2.out
             have KB2 := Lib.hid (KS.out _ rb2); have QB2 := Lib.hid rc2; have OB2 := Lib.hid oc2; have RB2 := Lib.hid bc2; have KC2 := Lib.hid (KS.out _ bc2); clear ob2 bb2 rb2 rc2 oc2 bc2)
          | (refine step_append2_eq (by rfl) (.tmp 34) (.tmp 36) _ _ (by rfl) (by rfl) (by rfl) QB2.out ?_; skip))
      all_goals
        rw [HAL.out] at OB2
        go_wp2_with fail
        go_meet
        exact ⟨OB2.out, RB2.out⟩
    case rest =>
    obtain ⟨oB2, rB2⟩ := hcut
    have OB2 := Lib.hid oB2
    have RB2 := Lib.hid rB2
    clear oB2 rB2
    clear K0 KD KE HT0 KZ LL1 LL2 HBD HOD q1 q2 HBE HXK L2 HAL
    have x0 := (KS.out _ RB2.out).1
    have PL := Lib.hid (page_len (s := s) HF.out)
    have cF : Calls Try.prog 27 #[u7, .int .i64 1016] wc _ := rFilled_own wk.heap.size u7 (pageBs s p) 1016 wc OB2.out RB2.out.size PL.out (by omega)
    go_wp2_with fail
    refine cF.mono ?_
    rintro e w8 ⟨v8, rfl, o8, b8⟩
    obtain ⟨A8, n8, c8, rfl, y8, -⟩ := own_bytes o8
    have O8 := Lib.hid o8
    have R8 := Lib.hid (RB2.out.trans (b8.mono RB2.out.size))
    have hpl := pad_len PL.out
    have cS := Crc.refSum_any A8 n8 c8 _ w8 y8.len (by have := y8.len; omega) y8.row
    have hm := Crc.more_lt (padTo 1016 (pageBs s p)) (s := 0) (by omega)
    have HE := Lib.hid (show Enc s p (padTo 1016 (pageBs s p) ++ be 8 (Crc.more 0 (padTo 1016 (pageBs s p)))) from ⟨HF.out, .inr ⟨HK.out, HS.out, rfl⟩⟩)
    have LL : Hid ((padTo 1016 (pageBs s p)).length + (be 8 (Crc.more 0 (padTo 1016 (pageBs s p)))).length ≤ 100000) := Lib.hid (by rw [be_len]; omega)
    have cN : ∀ W, Calls Try.prog 28 #[.int .u64 ((Crc.more 0 (padTo 1016 (pageBs s p)) : Nat) : Int), .int .i64 8] W (LaysO (be 8 (Crc.more 0 (padTo 1016 (pageBs s p)))) W) := fun W => rNumber_any _ 8 W (by omega)
    clear o8 y8 b8 cF hpl x0
    generalize Crc.more 0 (padTo 1016 (pageBs s p)) = M at *
    generalize padTo 1016 (pageBs s p) = L at *
    have CN := Lib.hid cN
    clear cN
    go_wp2_with fail
    refine cS.mono ?_
    rintro e w8' ⟨rfl, rfl⟩
    clear cS
    go_wp2_with fail
    refine (CN.out _).mono ?_
    rintro e w9 ⟨s9, rfl, o9, b9⟩
    obtain ⟨r9, v10, w10, r10, o10, b10⟩ := app_text O8.out R8.out o9 b9 LL.out
    have R10 := Lib.hid r10
    have B10 := Lib.hid b10
    obtain ⟨A10, n10, c10, rfl, y10, -⟩ := own_bytes o10
    have Y10 := Lib.hid y10
    clear o9 b9 r9 r10 o10 b10 y10 hm
    go_wp2_with (at_builtin; ((with_reducible refine wpList_append2_eq rfl (.tmp 43) (.tmp 46) _ _ rfl ?_ ?_ R10.out ?_); (next => rfl); (next => rfl)))
    go_ret2
    exact .inl ⟨_, _, _, _, rfl, Y10.out, HE.out, BC.out.trans (B10.out.mono BC.out.size)⟩
end Go.Proofs.Ytiebaeahimeedaa.Page
