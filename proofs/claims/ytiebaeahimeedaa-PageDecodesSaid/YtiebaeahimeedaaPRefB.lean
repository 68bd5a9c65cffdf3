/-
  Contract of the document's own body.
-/
import Derived.Test.YtiebaeahimeedaaPRefN
namespace Go.Proofs.Ytiebaeahimeedaa.Page
open Go.RowKit Gen

theorem own_down {α : Type} {w : World} {e : TypeId} {enc : α → Value} {B B' : Nat} {v : Value} {l : List α} (h : OwnG w e enc B v l) (hb : B' ≤ B) : OwnG w e enc B' v l := by
  obtain ⟨h1, h2 | ⟨g, cap, cur, r1, r2, rest⟩⟩ := h
  · exact ⟨h1, .inl h2⟩
  · exact ⟨h1, .inr ⟨g, cap, cur, r1, Nat.le_trans hb r2, rest⟩⟩
/-- Bytes that a call has made behind bytes of the call's own. -/
theorem app_text {W0 wr w2 : World} {u s2 : Value} {ys tx : Bs} (hO : OwnG wr 5 byteV W0.heap.size u ys) (hB : Below W0.heap.size W0 wr) (o2 : OwnG w2 5 byteV wr.heap.size s2 tx) (b2 : Below wr.heap.size wr w2) (hl : ys.length + tx.length ≤ 100000) :
    Below W0.heap.size W0 w2 ∧ ∃ v3 w3, (Builtin.append_ #[30, 30] 30 #[u, s2]).run Try.prog w2 = .ok v3 w3 ∧ OwnG w3 5 byteV W0.heap.size v3 (ys ++ tx) ∧ Below W0.heap.size W0 w3 := by
  obtain ⟨A2, n2, c2, rfl, h2, -⟩ := own_bytes o2
  have R2 := hB.trans (b2.mono hB.size)
  have V2 := OwnG.kept hO b2
  obtain ⟨v3, w3, r3, o3, g3, -⟩ := append_row bytes_elem w2 W0.heap.size u ys V2 A2 n2 c2 tx h2.len h2.nil h2.row (by have := h2.len; omega) R2.size
  exact ⟨R2, v3, w3, r3, o3, below_grown R2 V2 g3 R2.size⟩
set_option maxRecDepth 100000 in
set_option maxHeartbeats 8000000 in
theorem rBody1 (p : Pg) (a : Lay) (w : World) (hk : p.kind = 1) (g : LeafOk p) (hR : PgRows w p a) : Calls Try.prog 26 #[pgV p a] w (LaysO (bodyLeaf p) w) := by
  have b1 : Below w.heap.size w (w.alloc (.cells (pgC p a) 28)) := (Below.refl _ _).alloc (Nat.le_refl _) _
  have B1 := Lib.hid b1
  have AT := Lib.hid (pg_box w p a)
  have R1 := Lib.hid (hR.below b1)
  clear hR b1
  obtain ⟨W0, hW0⟩ : ∃ W0, w.alloc (.cells (pgC p a) 28) = W0 := ⟨_, rfl⟩
  unfold pgV
  unfold pgC at *
  rw [hW0] at AT R1 B1
  have x0 : W0.cell? ⟨w.heap.size, 0, none⟩ = some (.int .i64 p.kind) := AT.out.2.2 0 _ rfl
  have x1 : W0.cell? ⟨w.heap.size, 1, none⟩ = some (.slice a.A1 p.pairs.length a.c1) := AT.out.2.2 1 _ rfl
  have k1 : (p.kind == 1) = true := by rw [hk]; rfl
  have G := Lib.hid g
  have hn6 := g.len.2
  have cT := rTwo_any p.pairs.length W0 (by omega)
  have RP0 := Lib.hid R1.out.r1
  clear hk g R1
  obtain ⟨n, hn⟩ : ∃ n, p.pairs.length = n := ⟨_, rfl⟩
  rw [hn] at x1 AT hn6 hW0 cT ⊢
  have HN := Lib.hid hn
  clear hn
  generalize a.A1 = Ak at *
  go_enter Try.func26, Try.ntmps26
  go_wp2_with fail
  clear hW0
  refine cT.mono ?_
  rintro e w1 ⟨v0, rfl, ho, hb⟩
  have O1 := Lib.hid ho
  have BW := Lib.hid hb
  clear ho hb cT x0 x1
  go_wp2_with fail
  go_loopw [3, 4] (fun v i wr => ∃ k : Nat, i = .int .i64 (k : Int) ∧ k ≤ n ∧ OwnG wr 5 byteV W0.heap.size v (num2 (n : Int) ++ (p.pairs.take k).flatMap fun x => txt x.1 ++ txt x.2) ∧ Below W0.heap.size W0 wr) (fun _ i _ => n - (intOf i).toNat)
  case atStart => exact ⟨0, rfl, Nat.zero_le _, by simpa using O1.out, BW.out⟩
  case round =>
    obtain ⟨k, rfl, hk, hO, hB⟩ := hrel
    have HB := Lib.hid hB
    have HO := Lib.hid hO
    clear hB hO
    by_cases hlt : k < n
    · have hkl : k < p.pairs.length := by have := HN.out; omega
      obtain ⟨b, off, rfl, hlb, hc⟩ := RP0.out (by intro e; rw [e] at hkl; simp at hkl)
      obtain ⟨hc1, hc2⟩ := hc k hkl
      obtain ⟨X, hX⟩ : ∃ X, strB p.pairs[k].1 = X := ⟨_, rfl⟩
      obtain ⟨Y, hY⟩ : ∃ Y, strB p.pairs[k].2 = Y := ⟨_, rfl⟩
      rw [show strV p.pairs[k].1 = .string X by rw [← hX]] at hc1
      rw [show strV p.pairs[k].2 = .string Y by rw [← hY]] at hc2
      have hsk1 := (G.out.all p.pairs[k].1 (List.mem_map_of_mem (List.getElem_mem hkl))).2
      have hsk2 := G.out.vals _ (List.getElem_mem hkl)
      have HT1 := Lib.hid (fun W => rText_any p.pairs[k].1 W (by omega))
      have HT2 := Lib.hid (fun W => rText_any p.pairs[k].2 W (by omega))
      rw [show strV p.pairs[k].1 = .string X by rw [← hX]] at HT1
      rw [show strV p.pairs[k].2 = .string Y by rw [← hY]] at HT2
      have HAL : Hid ((num2 (n : Int) ++ (p.pairs.take k).flatMap fun x => txt x.1 ++ txt x.2) ++ txt p.pairs[k].1 ++ txt p.pairs[k].2 = num2 (n : Int) ++ (p.pairs.take (k + 1)).flatMap fun x => txt x.1 ++ txt x.2) := Lib.hid (by
        rw [flat_step _ _ hkl]; simp)
      have L1 : (txt p.pairs[k].1).length ≤ 200 := by rw [txt_len]; omega
      have L2 : (txt p.pairs[k].2).length ≤ 200 := by rw [txt_len]; omega
      have L0 : Hid ((num2 (n : Int) ++ (p.pairs.take k).flatMap fun x => txt x.1 ++ txt x.2).length ≤ 10000) := Lib.hid (by
        have h1 := flat_len (fun x : Bs × Bs => txt x.1 ++ txt x.2) 400 (p.pairs.take k) (fun x hx => by
          have hm := List.mem_of_mem_take hx
          have := (G.out.all x.1 (List.mem_map_of_mem hm)).2
          have := G.out.vals x hm
          rw [List.length_append, txt_len, txt_len]; omega)
        rw [List.length_append, num2_len]
        have : (p.pairs.take k).length ≤ 6 := by rw [List.length_take]; have := HN.out; omega
        omega)
      have KS := Lib.hid (fun W (hW : Below W0.heap.size W0 W) => show W.cell? ⟨w.heap.size, 1, none⟩ = some (.slice (some ⟨b, off, none⟩) n a.c1) ∧ W.cell? ⟨b, off + k * 2, none⟩ = some (.string X) ∧ W.cell? ⟨b, off + k * 2 + 1, none⟩ = some (.string Y) from ⟨(AT.out.below hW AT.out.1).2.2 1 _ rfl, by rw [hW.cell (p := ⟨b, off + k * 2, none⟩) hlb]; exact hc1, by rw [hW.cell (p := ⟨b, off + k * 2 + 1, none⟩) hlb]; exact hc2⟩)
      generalize txt p.pairs[k].1 = tx at HT1 HAL L1
      generalize txt p.pairs[k].2 = ty at HT2 HAL L2
      generalize (num2 (n : Int) ++ (p.pairs.take k).flatMap fun x => txt x.1 ++ txt x.2) = ys at HO HAL L0
      have K1 := KS.out _ HB.out
      have t1 : (k : Int) < (n : Int) := by omega
      have t3 : (0 : Int) ≤ (k : Int) := by omega
      clear hc hX hY hsk1 hsk2 hc1 hc2
      have x1 := K1.1
      go_wp2_with fail
      have K0 := Lib.hid (KS.out _ HB.out.drew)
      have HOD : Hid (OwnG wr.drew 5 byteV W0.heap.size u3 ys) := Lib.hid HO.out
      have LL1 : Hid (ys.length + tx.length ≤ 100000) := Lib.hid (by have := L0.out; omega)
      have LL2 : Hid ((ys ++ tx).length + ty.length ≤ 100000) := Lib.hid (by have := L0.out; rw [List.length_append]; omega)
      clear x1 K1
      go_region_held3 (fun w' => w'.cell? ⟨w.heap.size, 1, none⟩ = some (.slice (some ⟨b, off, none⟩) n a.c1) ∧ w'.cell? ⟨b, off + k * 2, none⟩ = some (.string X) ∧ w'.cell? ⟨b, off + k * 2 + 1, none⟩ = some (.string Y))
        (with_reducible (first | exact K0.out | exact K2.out | exact K3.out | exact K4.out | exact K5.out))
        (first
          | (go_at_call 55; (with_reducible refine (HT1.out _).mono ?_); rintro e w2 ⟨s2, rfl, o2, b2⟩
             obtain ⟨r2, v3, w3, r3, o3, b3⟩ := app_text HOD.out HB.out.drew o2 b2 LL1.out
             have K2 := Lib.hid (KS.out _ r2); have Q3 := Lib.hid r3; have O3 := Lib.hid o3; have R3 := Lib.hid b3; have K3 := Lib.hid (KS.out _ b3); clear o2 b2 r2 r3 o3 b3)
          | (refine step_append2_eq (by rfl) (.tmp 22) (.tmp 29) _ _ (by rfl) (by rfl) (by rfl) Q3.out ?_; skip)
          | (go_at_call 55; (with_reducible refine (HT2.out _).mono ?_); rintro e w4 ⟨s4, rfl, o4, b4⟩
             obtain ⟨r4, v5, w5, r5, o5, b5⟩ := app_text O3.out R3.out o4 b4 LL2.out
             have K4 := Lib.hid (KS.out _ r4); have Q5 := Lib.hid r5; have O5 := Lib.hid o5; have R5 := Lib.hid b5; have K5 := Lib.hid (KS.out _ b5); clear o4 b4 r4 r5 o5 b5)
          | (refine step_append2_eq (by rfl) (.tmp 30) (.tmp 37) _ _ (by rfl) (by rfl) (by rfl) Q5.out ?_; skip))
      clear K0 K2 K3 K4 K5 HT1 HT2 KS
      rw [HAL.out] at O5
      go_wp2_with fail
      go_roundw
      case rel => exact ⟨k + 1, by go_num, by omega, O5.out, R5.out⟩
      case measure => simp [intOf]; omega
    · have HF := Lib.hid (show OwnG wr 5 byteV w.heap.size u3 (bodyLeaf p) from by
        have h := own_down HO.out B1.out.size
        rw [List.take_of_length_le (by have := HN.out; omega)] at h
        rw [bodyLeaf, HN.out]
        exact h)
      have x1 := (AT.out.below HB.out AT.out.1).2.2 1 _ rfl
      clear HO
      go_wp2_with fail
      go_ret
      exact ⟨_, rfl, HF.out, B1.out.trans (HB.out.mono B1.out.size)⟩
end Go.Proofs.Ytiebaeahimeedaa.Page
