/-
  Contract of the document's own body: the other kinds.
-/
import Derived.Test.YtiebaeahimeedaaPRefB
namespace Go.Proofs.Ytiebaeahimeedaa.Page
open Go.RowKit Gen

set_option maxRecDepth 100000 in
set_option maxHeartbeats 8000000 in
theorem rBody2 (p : Pg) (a : Lay) (w : World) (hk : p.kind = 2) (g : BranchOk p) (hR : PgRows w p a) : Calls Try.prog 26 #[pgV p a] w (LaysO (bodyBranch p) w) := by
  have b1 : Below w.heap.size w (w.alloc (.cells (pgC p a) 28)) := (Below.refl _ _).alloc (Nat.le_refl _) _
  have B1 := Lib.hid b1
  have AT := Lib.hid (pg_box w p a)
  have R1 := Lib.hid (hR.below b1)
  clear hR b1
  obtain ⟨W0, hW0⟩ : ∃ W0, w.alloc (.cells (pgC p a) 28) = W0 := ⟨_, rfl⟩
  unfold pgV
  unfold pgC at *
  rw [hW0] at AT R1 B1
  have x0 : W0.cell? ⟨w.heap.size, 0, none⟩ = some (.int .i64 p.kind) := AT.out.2.2 0 _ rfl
  have k1 : (p.kind == 1) = false := by rw [hk]; rfl
  have k2 : (p.kind == 2) = true := by rw [hk]; rfl
  have G := Lib.hid g
  have RK := Lib.hid R1.out.r2
  have RD := Lib.hid R1.out.r3
  have hn6 := g.len.2
  have hnm := g.kids
  have cT := rTwo_any p.keys.length W0 (by omega)
  clear hk g R1
  obtain ⟨z, ds, hd⟩ : ∃ z ds, p.kids = z :: ds := by
    rcases hd : p.kids with _ | ⟨z, ds⟩
    · rw [hd] at hnm; simp at hnm
    · exact ⟨z, ds, rfl⟩
  have HD := Lib.hid hd
  have hz := place16 (G.out.places z (by rw [hd]; exact List.mem_cons_self ..))
  have hzs : ∀ x ∈ ds, 0 ≤ x ∧ x < 65536 := fun x hx => place16 (G.out.places x (by rw [hd]; exact List.mem_cons_of_mem _ hx))
  have HZS := Lib.hid hzs
  have hdl : ds.length = p.keys.length := by rw [hd] at hnm; simpa using hnm
  obtain ⟨bd, od, hbd, hlbd, hcd⟩ := RD.out (by rw [hd]; simp)
  have hcd0 : W0.cell? ⟨bd, od, none⟩ = some (.int .i64 z) := by
    have := hcd 0 (by rw [hd]; simp)
    simpa [hd] using this
  have hcds : ∀ j (hj : j < ds.length), W0.cell? ⟨bd, od + (j + 1), none⟩ = some (numV ds[j]) := fun j hj => by
    have := hcd (j + 1) (by rw [hd]; simpa using hj)
    simpa [hd] using this
  have HCDS := Lib.hid hcds
  have cZ := fun W => rTwo_any z W (by omega)
  have HZ := Lib.hid cZ
  have hkd : p.kids.length = p.keys.length + 1 := hnm
  clear hzs hcd hcds hd cZ hnm
  obtain ⟨n, hn⟩ : ∃ n, p.keys.length = n := ⟨_, rfl⟩
  rw [hn] at hkd hdl
  rw [hn, hkd, hbd] at AT hW0
  rw [hn] at hn6 cT
  have x2 : W0.cell? ⟨w.heap.size, 2, none⟩ = some (.slice a.A2 n a.c2) := AT.out.2.2 2 _ rfl
  have x3 : W0.cell? ⟨w.heap.size, 3, none⟩ = some (.slice (some ⟨bd, od, none⟩) (n + 1) a.c3) := AT.out.2.2 3 _ rfl
  rw [hn, hkd, hbd]
  have HN := Lib.hid hn
  have HDL := Lib.hid hdl
  clear hn hdl hkd hbd RD
  generalize a.A2 = Ak at *
  have KZ := Lib.hid (fun W (hW : Below W0.heap.size W0 W) => show W.cell? ⟨w.heap.size, 3, none⟩ = some (.slice (some ⟨bd, od, none⟩) (n + 1) a.c3) ∧ W.cell? ⟨bd, od, none⟩ = some (.int .i64 z) from ⟨(AT.out.below hW AT.out.1).2.2 3 _ rfl, by rw [hW.cell (p := ⟨bd, od, none⟩) hlbd]; exact hcd0⟩)
  go_enter Try.func26, Try.ntmps26
  go_wp2_with fail
  clear hW0
  have KS := Lib.hid (fun W (hW : Below W0.heap.size W0 W) => show W.cell? ⟨w.heap.size, 2, none⟩ = some (.slice Ak n a.c2) ∧ W.cell? ⟨w.heap.size, 3, none⟩ = some (.slice (some ⟨bd, od, none⟩) (n + 1) a.c3) ∧ W.cell? ⟨bd, od, none⟩ = some (.int .i64 z) from ⟨(AT.out.below hW AT.out.1).2.2 2 _ rfl, (KZ.out W hW).1, (KZ.out W hW).2⟩)
  have HT0 := Lib.hid (fun W => rTwo_any (n : Int) W (by omega))
  have HBD := Lib.hid (Below.refl W0.heap.size W0).drew
  have K0 := Lib.hid (KS.out _ HBD.out)
  have LL1 : Hid ((num2 (n : Int)).length + (num2 z).length ≤ 100000) := Lib.hid (by rw [num2_len, num2_len]; omega)
  clear x0 x2 x3 cT
  go_region_held3 (fun w' => w'.cell? ⟨w.heap.size, 2, none⟩ = some (.slice Ak n a.c2) ∧ w'.cell? ⟨w.heap.size, 3, none⟩ = some (.slice (some ⟨bd, od, none⟩) (n + 1) a.c3) ∧ w'.cell? ⟨bd, od, none⟩ = some (.int .i64 z))
    (with_reducible (first | exact K0.out | exact KA.out | exact KB1.out | exact KC1.out))
    (first
      | (go_at_call 25; (with_reducible refine (HT0.out _).mono ?_); rintro e wa ⟨sa, rfl, oa, ba⟩
         have RA := Lib.hid (HBD.out.trans (ba.mono HBD.out.size)); have KA := Lib.hid (KS.out _ RA.out); have OA := Lib.hid (own_down oa HBD.out.size); clear oa ba)
      | (go_at_call 25; (with_reducible refine (HZ.out _).mono ?_); rintro e wb1 ⟨sb1, rfl, ob1, bb1⟩
         obtain ⟨rb1, vb1, wc1, rc1, oc1, bc1⟩ := app_text OA.out RA.out ob1 bb1 LL1.out
         have KB1 := Lib.hid (KS.out _ rb1); have QB1 := Lib.hid rc1; have OB1 := Lib.hid oc1; have RB1 := Lib.hid bc1; have KC1 := Lib.hid (KS.out _ bc1); clear ob1 bb1 rb1 rc1 oc1 bc1)
      | (refine step_append2_eq (by rfl) (.tmp 44) (.tmp 49) _ _ (by rfl) (by rfl) (by rfl) QB1.out ?_; skip))
  clear K0 KA KB1 KC1 HT0 HZ KS LL1 HBD
  go_wp2_with fail
  go_loopw [3, 5] (fun v i wr => ∃ k : Nat, i = .int .i64 (k : Int) ∧ k ≤ n ∧ OwnG wr 5 byteV W0.heap.size v (num2 (n : Int) ++ num2 z ++ ((p.keys.zip ds).take k).flatMap fun x => txt x.1 ++ num2 x.2) ∧ Below W0.heap.size W0 wr) (fun _ i _ => n - (intOf i).toNat)
  case atStart => exact ⟨0, rfl, Nat.zero_le _, by simpa using OB1.out, RB1.out⟩
  case round =>
    obtain ⟨k, rfl, hk, hO, hB⟩ := hrel
    have HB := Lib.hid hB
    have HO := Lib.hid hO
    clear hB hO
    by_cases hlt : k < n
    · have hkl : k < p.keys.length := by have := HN.out; omega
      have hkd : k < ds.length := by have := HDL.out; omega
      have hkz : k < (p.keys.zip ds).length := by rw [List.length_zip]; omega
      obtain ⟨b, off, rfl, hlb, hc⟩ := RK.out (by intro e; rw [e] at hkl; simp at hkl)
      have hc1 := hc k hkl
      have hc2 := HCDS.out k hkd
      have hsk1 := (G.out.all p.keys[k] (List.getElem_mem hkl)).2
      have hsk2 := HZS.out ds[k] (List.getElem_mem hkd)
      have HT1 := Lib.hid (fun W => rText_any p.keys[k] W (by omega))
      have HT2 := Lib.hid (fun W => rTwo_any ds[k] W (by omega))
      obtain ⟨X, hX⟩ : ∃ X, strB p.keys[k] = X := ⟨_, rfl⟩
      rw [show strV p.keys[k] = .string X by rw [← hX]] at hc1 HT1
      have HAL : Hid ((num2 (n : Int) ++ num2 z ++ ((p.keys.zip ds).take k).flatMap fun x => txt x.1 ++ num2 x.2) ++ txt p.keys[k] ++ num2 ds[k] = num2 (n : Int) ++ num2 z ++ ((p.keys.zip ds).take (k + 1)).flatMap fun x => txt x.1 ++ num2 x.2) := Lib.hid (by
        rw [flat_step _ _ hkz]; simp)
      have L1 : (txt p.keys[k]).length ≤ 200 := by rw [txt_len]; omega
      have L2 : (num2 ds[k]).length ≤ 200 := by rw [num2_len]; omega
      have L0 : Hid ((num2 (n : Int) ++ num2 z ++ ((p.keys.zip ds).take k).flatMap fun x => txt x.1 ++ num2 x.2).length ≤ 10000) := Lib.hid (by
        have h1 := flat_len (fun x : Bs × Int => txt x.1 ++ num2 x.2) 100 ((p.keys.zip ds).take k) (fun x hx => by
          have hm := List.mem_of_mem_take hx
          have := (G.out.all x.1 (List.of_mem_zip hm).1).2
          rw [List.length_append, txt_len, num2_len]; omega)
        rw [List.length_append, List.length_append, num2_len, num2_len]
        have : ((p.keys.zip ds).take k).length ≤ 12 := by rw [List.length_take]; omega
        omega)
      obtain ⟨y, hy⟩ : ∃ y, ds[k] = y := ⟨_, rfl⟩
      rw [hy] at hc2 HT2 HAL L2
      have KS := Lib.hid (fun W (hW : Below W0.heap.size W0 W) => show W.cell? ⟨w.heap.size, 2, none⟩ = some (.slice (some ⟨b, off, none⟩) n a.c2) ∧ W.cell? ⟨w.heap.size, 3, none⟩ = some (.slice (some ⟨bd, od, none⟩) (n + 1) a.c3) ∧ W.cell? ⟨b, off + k, none⟩ = some (.string X) ∧ W.cell? ⟨bd, od + (k + 1), none⟩ = some (.int .i64 y) from ⟨(AT.out.below hW AT.out.1).2.2 2 _ rfl, (KZ.out W hW).1, by rw [hW.cell (p := ⟨b, off + k, none⟩) hlb]; exact hc1, by rw [hW.cell (p := ⟨bd, od + (k + 1), none⟩) hlbd]; exact hc2⟩)
      generalize txt p.keys[k] = tx at HT1 HAL L1
      generalize num2 y = ty at HT2 HAL L2
      generalize (num2 (n : Int) ++ num2 z ++ ((p.keys.zip ds).take k).flatMap fun x => txt x.1 ++ num2 x.2) = ys at HO HAL L0
      have K1 := KS.out _ HB.out
      have t1 : (k : Int) < (n : Int) := by omega
      have t3 : (0 : Int) ≤ (k : Int) := by omega
      have t4 : (k : Int) + 1 < (n : Int) + 1 := by omega
      have t5 : (0 : Int) ≤ (k : Int) + 1 := by omega
      have t6 : ((k : Int) + 1).toNat = k + 1 := by omega
      have t7 : IntKind.i64.wrap ((k : Int) + 1) = (k : Int) + 1 := by rw [IntKind.wrap_i64]; omega
      have HBD := Lib.hid HB.out.drew
      have K0 := Lib.hid (KS.out _ HBD.out)
      have HOD : Hid (OwnG wr.drew 5 byteV W0.heap.size u3 ys) := Lib.hid HO.out
      have LL1 : Hid (ys.length + tx.length ≤ 100000) := Lib.hid (by have := L0.out; omega)
      have LL2 : Hid ((ys ++ tx).length + ty.length ≤ 100000) := Lib.hid (by have := L0.out; rw [List.length_append]; omega)
      clear hc hX hy hsk1 hsk2 hc1 hc2
      have x1 := K1.1
      go_wp2_with fail
      clear x1 K1
      go_region_held3 (fun w' => w'.cell? ⟨w.heap.size, 2, none⟩ = some (.slice (some ⟨b, off, none⟩) n a.c2) ∧ w'.cell? ⟨w.heap.size, 3, none⟩ = some (.slice (some ⟨bd, od, none⟩) (n + 1) a.c3) ∧ w'.cell? ⟨b, off + k, none⟩ = some (.string X) ∧ w'.cell? ⟨bd, od + (k + 1), none⟩ = some (.int .i64 y))
        (with_reducible (first | exact K0.out | exact KB1.out | exact KC1.out | exact KB2.out | exact KC2.out))
        (first
          | (go_at_call 55; (with_reducible refine (HT1.out _).mono ?_); rintro e wb1 ⟨sb1, rfl, ob1, bb1⟩
             obtain ⟨rb1, vb1, wc1, rc1, oc1, bc1⟩ := app_text HOD.out HBD.out ob1 bb1 LL1.out
             have KB1 := Lib.hid (KS.out _ rb1); have QB1 := Lib.hid rc1; have OB1 := Lib.hid oc1; have RB1 := Lib.hid bc1; have KC1 := Lib.hid (KS.out _ bc1); clear ob1 bb1 rb1 rc1 oc1 bc1)
          | (refine step_append2_eq (by rfl) (.tmp 58) (.tmp 64) _ _ (by rfl) (by rfl) (by rfl) QB1.out ?_; skip)
          | (go_at_call 25; (with_reducible refine (HT2.out _).mono ?_); rintro e wb2 ⟨sb2, rfl, ob2, bb2⟩
             obtain ⟨rb2, vb2, wc2, rc2, oc2, bc2⟩ := app_text OB1.out RB1.out ob2 bb2 LL2.out
             have KB2 := Lib.hid (KS.out _ rb2); have QB2 := Lib.hid rc2; have OB2 := Lib.hid oc2; have RB2 := Lib.hid bc2; have KC2 := Lib.hid (KS.out _ bc2); clear ob2 bb2 rb2 rc2 oc2 bc2)
          | (refine step_append2_eq (by rfl) (.tmp 65) (.tmp 72) _ _ (by rfl) (by rfl) (by rfl) QB2.out ?_; skip))
      clear K0 KB1 KC1 KB2 KC2 HT1 HT2 KS
      rw [HAL.out] at OB2
      go_wp2_with fail
      go_roundw
      case rel => exact ⟨k + 1, by go_num, by omega, OB2.out, RB2.out⟩
      case measure => simp [intOf]; omega
    · have HF := Lib.hid (show OwnG wr 5 byteV w.heap.size u3 (bodyBranch p) from by
        have h := own_down HO.out B1.out.size
        rw [List.take_of_length_le (by rw [List.length_zip]; have := HN.out; omega)] at h
        rw [bodyBranch, HN.out, HD.out]
        exact h)
      have x2 := (AT.out.below HB.out AT.out.1).2.2 2 _ rfl
      clear HO
      go_wp2_with fail
      go_ret
      exact ⟨_, rfl, HF.out, B1.out.trans (HB.out.mono B1.out.size)⟩
set_option maxRecDepth 100000 in
set_option maxHeartbeats 8000000 in
theorem rBody3 (p : Pg) (a : Lay) (w : World) (hk : p.kind = 3) (g : FreeOk p) (hR : PgRows w p a) : Calls Try.prog 26 #[pgV p a] w (LaysO (bodyFree p) w) := by
  have b1 : Below w.heap.size w (w.alloc (.cells (pgC p a) 28)) := (Below.refl _ _).alloc (Nat.le_refl _) _
  have B1 := Lib.hid b1
  have AT := Lib.hid (pg_box w p a)
  have R1 := Lib.hid (hR.below b1)
  clear hR b1
  obtain ⟨W0, hW0⟩ : ∃ W0, w.alloc (.cells (pgC p a) 28) = W0 := ⟨_, rfl⟩
  unfold pgV
  unfold pgC at *
  rw [hW0] at AT R1 B1
  have x0 : W0.cell? ⟨w.heap.size, 0, none⟩ = some (.int .i64 p.kind) := AT.out.2.2 0 _ rfl
  have k1 : (p.kind == 1) = false := by rw [hk]; rfl
  have k2 : (p.kind == 2) = false := by rw [hk]; rfl
  have k3 : (p.kind == 3) = true := by rw [hk]; rfl
  have G := Lib.hid g
  have RP0 := Lib.hid R1.out.r4
  have hn6 := g.len
  have hnx : 0 ≤ p.next ∧ p.next < 65536 := by rcases g.next with h | h; omega; exact place16 h
  have cX := Lib.hid (fun W => rTwo_any p.next W (by omega))
  have cT := rTwo_any p.pages.length W0 (by omega)
  clear hk g R1
  obtain ⟨n, hn⟩ : ∃ n, p.pages.length = n := ⟨_, rfl⟩
  rw [hn] at AT hn6 hW0 cT ⊢
  have x4 : W0.cell? ⟨w.heap.size, 4, none⟩ = some (.slice a.A4 n a.c4) := AT.out.2.2 4 _ rfl
  have HN := Lib.hid hn
  clear hn
  generalize a.A4 = Ak at *
  go_enter Try.func26, Try.ntmps26
  go_wp2_with fail
  clear hW0
  refine cT.mono ?_
  rintro e w1 ⟨v0, rfl, ho, hb⟩
  have O1 := Lib.hid ho
  have BW := Lib.hid hb
  clear ho hb cT x0 x4
  go_wp2_with fail
  go_loopw [3, 6] (fun v i wr => ∃ k : Nat, i = .int .i64 (k : Int) ∧ k ≤ n ∧ OwnG wr 5 byteV W0.heap.size v (num2 (n : Int) ++ (p.pages.take k).flatMap num2) ∧ Below W0.heap.size W0 wr) (fun _ i _ => n - (intOf i).toNat)
  case atStart => exact ⟨0, rfl, Nat.zero_le _, by simpa using O1.out, BW.out⟩
  case round =>
    obtain ⟨k, rfl, hk, hO, hB⟩ := hrel
    have HB := Lib.hid hB
    have HO := Lib.hid hO
    clear hB hO
    by_cases hlt : k < n
    · have hkl : k < p.pages.length := by have := HN.out; omega
      obtain ⟨b, off, rfl, hlb, hc⟩ := RP0.out (by intro e; rw [e] at hkl; simp at hkl)
      have hc1 := hc k hkl
      have hxx := place16 (G.out.all _ (List.getElem_mem hkl))
      have HT1 := Lib.hid (fun W => rTwo_any p.pages[k] W (by omega))
      have HAL : Hid ((num2 (n : Int) ++ (p.pages.take k).flatMap num2) ++ num2 p.pages[k] = num2 (n : Int) ++ (p.pages.take (k + 1)).flatMap num2) := Lib.hid (by
        rw [flat_step _ _ hkl]; simp)
      have L1 : (num2 p.pages[k]).length = 2 := num2_len _
      have L0 : Hid ((num2 (n : Int) ++ (p.pages.take k).flatMap num2).length ≤ 10000) := Lib.hid (by
        have h1 := flat_len num2 2 (p.pages.take k) (fun x hx => by rw [num2_len]; omega)
        rw [List.length_append, num2_len]
        have : (p.pages.take k).length ≤ 200 := by rw [List.length_take]; have := HN.out; omega
        omega)
      generalize p.pages[k] = x at HT1 HAL L1 hc1
      have KS := Lib.hid (fun W (hW : Below W0.heap.size W0 W) => show W.cell? ⟨w.heap.size, 4, none⟩ = some (.slice (some ⟨b, off, none⟩) n a.c4) ∧ W.cell? ⟨b, off + k, none⟩ = some (.int .i64 x) from ⟨(AT.out.below hW AT.out.1).2.2 4 _ rfl, by rw [hW.cell (p := ⟨b, off + k, none⟩) hlb]; exact hc1⟩)
      have LL1 : Hid ((num2 (n : Int) ++ (p.pages.take k).flatMap num2).length + (num2 x).length ≤ 100000) := Lib.hid (by have := L0.out; omega)
      generalize num2 x = tx at HT1 HAL L1 LL1
      generalize (num2 (n : Int) ++ (p.pages.take k).flatMap num2) = ys at HO HAL L0 LL1
      have K1 := KS.out _ HB.out
      have t1 : (k : Int) < (n : Int) := by omega
      have t3 : (0 : Int) ≤ (k : Int) := by omega
      clear hc hc1 hxx
      have x1 := K1.1
      go_wp2_with fail
      refine (HT1.out _).mono ?_
      rintro e w2 ⟨s2, rfl, o2, b2⟩
      obtain ⟨r2, v3, w3, r3, o3, b3⟩ := app_text HO.out HB.out o2 b2 LL1.out
      have R3 := Lib.hid r3
      rw [HAL.out] at o3
      have O3 := Lib.hid o3
      have B3 := Lib.hid b3
      clear o2 b2 r2 r3 o3 b3 K1 x1 HT1 KS
      go_wp2_with (at_builtin; ((with_reducible refine wpList_append2_eq rfl (.tmp 87) (.tmp 93) _ _ rfl ?_ ?_ R3.out ?_); (next => rfl); (next => rfl)))
      go_roundw
      case rel => exact ⟨k + 1, by go_num, by omega, O3.out, B3.out⟩
      case measure => simp [intOf]; omega
    · have HF := Lib.hid (show OwnG wr 5 byteV W0.heap.size u3 (num2 (n : Int) ++ p.pages.flatMap num2) from by
        have h := HO.out
        rw [List.take_of_length_le (by have := HN.out; omega)] at h
        exact h)
      have x1 := (AT.out.below HB.out AT.out.1).2.2 4 _ rfl
      have x5 := (AT.out.below HB.out AT.out.1).2.2 5 _ rfl
      have LL : Hid ((num2 (n : Int) ++ p.pages.flatMap num2).length + (num2 p.next).length ≤ 100000) := Lib.hid (by
        have h1 := flat_len num2 2 p.pages (fun x hx => by rw [num2_len]; omega)
        rw [List.length_append, num2_len, num2_len]
        have := HN.out
        omega)
      clear HO
      go_wp2_with fail
      refine (cX.out _).mono ?_
      rintro e w2 ⟨s2, rfl, o2, b2⟩
      obtain ⟨r2, v3, w3, r3, o3, b3⟩ := app_text HF.out HB.out o2 b2 LL.out
      have R3 := Lib.hid r3
      have O3 := Lib.hid (show OwnG w3 5 byteV w.heap.size v3 (bodyFree p) from by
        rw [bodyFree, HN.out]
        exact own_down o3 B1.out.size)
      have B3 := Lib.hid b3
      clear o2 b2 r2 r3 o3 b3 x1 x5
      go_wp2_with (at_builtin; ((with_reducible refine wpList_append2_eq rfl (.tmp 95) (.tmp 98) _ _ rfl ?_ ?_ R3.out ?_); (next => rfl); (next => rfl)))
      go_ret
      exact ⟨_, rfl, O3.out, B1.out.trans (B3.out.mono B1.out.size)⟩
set_option maxRecDepth 100000 in
set_option maxHeartbeats 8000000 in
theorem rBody4 (p : Pg) (a : Lay) (w : World) (hk : p.kind = 4) (g : SuperOk p) : Calls Try.prog 26 #[pgV p a] w (LaysO (bodySuper p) w) := by
  have b1 : Below w.heap.size w (w.alloc (.cells (pgC p a) 28)) := (Below.refl _ _).alloc (Nat.le_refl _) _
  have B1 := Lib.hid b1
  have AT := Lib.hid (pg_box w p a)
  clear b1
  obtain ⟨W0, hW0⟩ : ∃ W0, w.alloc (.cells (pgC p a) 28) = W0 := ⟨_, rfl⟩
  unfold pgV
  unfold pgC at *
  rw [hW0] at AT B1
  have x0 : W0.cell? ⟨w.heap.size, 0, none⟩ = some (.int .i64 p.kind) := AT.out.2.2 0 _ rfl
  have k1 : (p.kind == 1) = false := by rw [hk]; rfl
  have k2 : (p.kind == 2) = false := by rw [hk]; rfl
  have k3 : (p.kind == 3) = false := by rw [hk]; rfl
  have k4 : (p.kind == 4) = true := by rw [hk]; rfl
  have G := Lib.hid g
  have hnx : 0 ≤ p.next ∧ p.next < 65536 := by rcases g.next with h | h; omega; exact place16 h
  have hrt : 0 ≤ p.root ∧ p.root < 65536 := by rcases g.root with h | h; omega; exact place16 h
  have hdp := g.depth
  have hct := g.count
  have hhi := g.high
  have c7 := Lib.hid (fun W => rTwo_any p.root W (by omega))
  have c8 := Lib.hid (fun W => rTwo_any p.depth W (by omega))
  have c9 := Lib.hid (fun W => show Calls Try.prog 28 #[.int .u64 p.count, .int .i64 4] W (LaysO (be 4 p.count.toNat) W) from by have := rNumber_any p.count.toNat 4 W (by omega); rw [Int.toNat_of_nonneg hct.1] at this; exact this)
  have c10 := Lib.hid (fun W => rTwo_any p.high W (by omega))
  have c5 := Lib.hid (fun W => rTwo_any p.next W (by omega))
  have KS := Lib.hid (fun W (hW : Below W0.heap.size W0 W) => show W.cell? ⟨w.heap.size, 7, none⟩ = some (.int .i64 p.root) ∧ W.cell? ⟨w.heap.size, 8, none⟩ = some (.int .i64 p.depth) ∧ W.cell? ⟨w.heap.size, 9, none⟩ = some (.int .i64 p.count) ∧ W.cell? ⟨w.heap.size, 10, none⟩ = some (.int .i64 p.high) ∧ W.cell? ⟨w.heap.size, 5, none⟩ = some (.int .i64 p.next) from ⟨(AT.out.below hW AT.out.1).2.2 7 _ rfl, (AT.out.below hW AT.out.1).2.2 8 _ rfl, (AT.out.below hW AT.out.1).2.2 9 _ rfl, (AT.out.below hW AT.out.1).2.2 10 _ rfl, (AT.out.below hW AT.out.1).2.2 5 _ rfl⟩)
  have q3 : IntKind.u64.wrap p.count = p.count := by rw [IntKind.wrap_u64]; omega
  have q1 : (0 : Int) ≤ p.count := hct.1
  have q2 : p.count ≤ 2147483647 := hct.2
  clear hk g hnx hrt hdp hct hhi
  go_enter Try.func26, Try.ntmps26
  go_wp2_with fail
  clear hW0
  have HBD := Lib.hid (Below.refl W0.heap.size W0).drew
  have K0 := Lib.hid (KS.out _ HBD.out)
  have LL1 : Hid ((num2 p.root).length + (num2 p.depth).length ≤ 100000) := Lib.hid (by rw [num2_len, num2_len]; omega)
  have LL2 : Hid ((num2 p.root ++ num2 p.depth).length + (be 4 p.count.toNat).length ≤ 100000) := Lib.hid (by rw [List.length_append, num2_len, num2_len, be_len]; omega)
  have LL3 : Hid ((num2 p.root ++ num2 p.depth ++ be 4 p.count.toNat).length + (num2 p.high).length ≤ 100000) := Lib.hid (by rw [List.length_append, List.length_append, num2_len, num2_len, be_len, num2_len]; omega)
  have LL4 : Hid ((num2 p.root ++ num2 p.depth ++ be 4 p.count.toNat ++ num2 p.high).length + (num2 p.next).length ≤ 100000) := Lib.hid (by rw [List.length_append, List.length_append, List.length_append, num2_len, num2_len, be_len, num2_len, num2_len]; omega)
  have HAL : Hid (num2 p.root ++ num2 p.depth ++ be 4 p.count.toNat ++ num2 p.high ++ num2 p.next = bodySuper p) := Lib.hid (by rw [bodySuper]; simp)
  clear x0
  go_region_held3 (fun w' => w'.cell? ⟨w.heap.size, 7, none⟩ = some (.int .i64 p.root) ∧ w'.cell? ⟨w.heap.size, 8, none⟩ = some (.int .i64 p.depth) ∧ w'.cell? ⟨w.heap.size, 9, none⟩ = some (.int .i64 p.count) ∧ w'.cell? ⟨w.heap.size, 10, none⟩ = some (.int .i64 p.high) ∧ w'.cell? ⟨w.heap.size, 5, none⟩ = some (.int .i64 p.next))
    (with_reducible (first | exact K0.out | exact KA.out | exact KB1.out | exact KC1.out | exact KB2.out | exact KC2.out))
    (first
      | (go_at_call 25; (with_reducible refine (c7.out _).mono ?_); rintro e wa ⟨sa, rfl, oa, ba⟩
         have RA := Lib.hid (HBD.out.trans (ba.mono HBD.out.size)); have KA := Lib.hid (KS.out _ RA.out); have OA := Lib.hid (own_down oa HBD.out.size); clear oa ba)
      | (go_at_call 25; (with_reducible refine (c8.out _).mono ?_); rintro e wb1 ⟨sb1, rfl, ob1, bb1⟩
         obtain ⟨rb1, vb1, wc1, rc1, oc1, bc1⟩ := app_text OA.out RA.out ob1 bb1 LL1.out
         have KB1 := Lib.hid (KS.out _ rb1); have QB1 := Lib.hid rc1; have OB1 := Lib.hid oc1; have RB1 := Lib.hid bc1; have KC1 := Lib.hid (KS.out _ bc1); clear ob1 bb1 rb1 rc1 oc1 bc1)
      | (refine step_append2_eq (by rfl) (.tmp 104) (.tmp 107) _ _ (by rfl) (by rfl) (by rfl) QB1.out ?_; skip)
      | (go_at_call 28; (with_reducible refine (c9.out _).mono ?_); rintro e wb2 ⟨sb2, rfl, ob2, bb2⟩
         obtain ⟨rb2, vb2, wc2, rc2, oc2, bc2⟩ := app_text OB1.out RB1.out ob2 bb2 LL2.out
         have KB2 := Lib.hid (KS.out _ rb2); have QB2 := Lib.hid rc2; have OB2 := Lib.hid oc2; have RB2 := Lib.hid bc2; have KC2 := Lib.hid (KS.out _ bc2); clear ob2 bb2 rb2 rc2 oc2 bc2)
      | (refine step_append2_eq (by rfl) (.tmp 108) (.tmp 112) _ _ (by rfl) (by rfl) (by rfl) QB2.out ?_; skip))
  clear K0 KA KB1 KC1 KB2 KC2 c7 c8 c9 LL1 LL2 HBD
  have HBD := Lib.hid (RB2.out.drew)
  have HOD : Hid (OwnG wc2.drew 5 byteV W0.heap.size vb2 (num2 p.root ++ num2 p.depth ++ be 4 p.count.toNat)) := Lib.hid OB2.out
  have K0 := Lib.hid (KS.out _ HBD.out)
  clear OA RA QB1 QB2
  go_wp2_with fail
  go_region_held3 (fun w' => w'.cell? ⟨w.heap.size, 7, none⟩ = some (.int .i64 p.root) ∧ w'.cell? ⟨w.heap.size, 8, none⟩ = some (.int .i64 p.depth) ∧ w'.cell? ⟨w.heap.size, 9, none⟩ = some (.int .i64 p.count) ∧ w'.cell? ⟨w.heap.size, 10, none⟩ = some (.int .i64 p.high) ∧ w'.cell? ⟨w.heap.size, 5, none⟩ = some (.int .i64 p.next))
    (with_reducible (first | exact K0.out | exact KD1.out | exact KE1.out | exact KD2.out | exact KE2.out))
    (first
      | (go_at_call 25; (with_reducible refine (c10.out _).mono ?_); rintro e wd1 ⟨sd1, rfl, od1, bd1⟩
         obtain ⟨rd1, vd1, we1, re1, oe1, be1⟩ := app_text HOD.out HBD.out od1 bd1 LL3.out
         have KD1 := Lib.hid (KS.out _ rd1); have QD1 := Lib.hid re1; have OD1 := Lib.hid oe1; have RD1 := Lib.hid be1; have KE1 := Lib.hid (KS.out _ be1); clear od1 bd1 rd1 re1 oe1 be1)
      | (refine step_append2_eq (by rfl) (.tmp 114) (.tmp 117) _ _ (by rfl) (by rfl) (by rfl) QD1.out ?_; skip)
      | (go_at_call 25; (with_reducible refine (c5.out _).mono ?_); rintro e wd2 ⟨sd2, rfl, od2, bd2⟩
         obtain ⟨rd2, vd2, we2, re2, oe2, be2⟩ := app_text OD1.out RD1.out od2 bd2 LL4.out
         have KD2 := Lib.hid (KS.out _ rd2); have QD2 := Lib.hid re2; have OD2 := Lib.hid oe2; have RD2 := Lib.hid be2; have KE2 := Lib.hid (KS.out _ be2); clear od2 bd2 rd2 re2 oe2 be2)
      | (refine step_append2_eq (by rfl) (.tmp 118) (.tmp 121) _ _ (by rfl) (by rfl) (by rfl) QD2.out ?_; skip))
  clear K0 KD1 KE1 KD2 KE2 c10 c5 KS
  go_wp2_with fail
  have HF : Hid (OwnG we2 5 byteV w.heap.size vd2 (bodySuper p)) := Lib.hid (by
    have h := own_down OD2.out B1.out.size
    rw [HAL.out] at h
    exact h)
  go_ret
  exact ⟨_, rfl, HF.out, B1.out.trans (RD2.out.mono B1.out.size)⟩
end Go.Proofs.Ytiebaeahimeedaa.Page
