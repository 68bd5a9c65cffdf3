/-
  Contracts of page's layFree, layBranch, laySuper.
-/
import Derived.Test.YtiebaeahimeedaaPEnc1
namespace Go.Proofs.Ytiebaeahimeedaa.Page
open Go.RowKit Gen

def FreeRel (w : World) (H : Bs) (ps : List Int) (v i : Value) (wr : World) : Prop := ∃ (k : Nat) (xs : List Part), i = .int .i64 k ∧ k ≤ ps.length ∧ OwnS wr (w.heap.size + 1) v xs ∧ xs.length = 1 + k ∧ allOf xs = H ++ (ps.take k).flatMap num2 ∧ Below w.heap.size w wr ∧ w.heap.size + 1 ≤ wr.heap.size ∧ ∃ z, wr.cell? ⟨w.heap.size, 5, none⟩ = some z
set_option maxRecDepth 100000 in
set_option maxHeartbeats 1000000 in
theorem layFree_any (p : Pg) (a : Lay) (w : World) (hR : IRow w a.A4 p.pages) (hn6 : p.pages.length ≤ 200) (hs : ∀ x ∈ p.pages, 0 ≤ x ∧ x ≤ 9223372036854775807) (hx0 : 0 ≤ p.next) (hx1 : p.next ≤ 9223372036854775807) : Calls Try.prog 51 #[pgV p a] w (Lays (bodyFree p) w) := by
  have B1 : Below w.heap.size w (w.alloc (.cells (pgC p a) 28)) := (Below.refl _ _).alloc (Nat.le_refl _) _
  have HB1 := Lib.hid B1
  have HR := Lib.hid hR
  have cL := layNumber_any p.pages.length (w.alloc (.cells (pgC p a) 28)) (by omega) (by omega)
  have cX := Lib.hid (fun W => layNumber_any p.next W hx0 hx1)
  change Hid (∀ W, Calls _ _ _ _ (Lays (num2 p.next) _)) at cX
  have HS := Lib.hid hs
  have c1 : (w.alloc (.cells (pgC p a) 28)).cell? ⟨w.heap.size, 4, none⟩ = some (.slice a.A4 p.pages.length a.c4) := by simp [pgC]
  have c5 : (w.alloc (.cells (pgC p a) 28)).cell? ⟨w.heap.size, 5, none⟩ = some (.int .i64 p.next) := by simp [pgC]
  have HSZ := Lib.hid (show w.heap.size + 1 ≤ (w.alloc (.cells (pgC p a) 28)).heap.size by simp)
  clear hR B1 hs hx0 hx1
  change Calls _ _ _ _ (Lays (num2 (p.pages.length : Int)) _) at cL
  unfold pgC at HB1 cL c1 c5 HSZ
  unfold bodyFree
  generalize hps : p.pages = ps at *
  unfold pgV pgC
  rw [hps]
  generalize a.A4 = A1 at *
  generalize p.next = nx at *
  have H6 := Lib.hid hn6
  obtain ⟨n, hn⟩ : ∃ n, ps.length = n := ⟨_, rfl⟩
  generalize hH : num2 (ps.length : Int) = H at *
  have hHl : Hid (H.length = 2) := Lib.hid (by rw [← hH]; exact num2_len _)
  rw [hn] at c1 c5 cL hn6 HB1 HSZ ⊢
  have HN := Lib.hid hn
  clear hps hn hH
  go_enter Try.func51, Try.ntmps51
  go_wp2_with fail
  refine cL.mono ?_
  rintro e w1 ⟨A2, n2, c2, rfl, h2, b2, f2⟩
  have B2 := HB1.out.trans (b2.mono HB1.out.size)
  have SZ2 := Nat.le_trans HSZ.out b2.size
  have d1 := cell_below (cell_below c1 b2) ((Below.refl _ _).alloc (Nat.le_refl _) (.cells #[.slice A2 n2 c2] 30))
  have d5 := cell_below (cell_below c5 b2) ((Below.refl _ _).alloc (Nat.le_refl _) (.cells #[.slice A2 n2 c2] 30))
  have HO := Lib.hid (own_lit w1 (w.heap.size + 1) #[.slice A2 n2 c2] 1 [(A2, c2, H)] rfl (by rw [enc_at h2]; rfl) ((PartsIn.nil _).cons h2) SZ2 (by omega))
  have HB2 := Lib.hid (B2.alloc B2.size (.cells #[.slice A2 n2 c2] 30))
  have HSZ2 := Lib.hid (show w.heap.size + 1 ≤ (w1.alloc (.cells #[.slice A2 n2 c2] 30)).heap.size by simp; omega)
  have HD5 := Lib.hid d5
  clear h2 b2 f2 B2 cL c1 c5 SZ2 HSZ d5
  go_wp2_with fail
  clear d1
  go_loopw [3, 14] (fun v i wr => FreeRel w H ps v i wr ∧ wr.cell? ⟨w.heap.size, 5, none⟩ = some (.int .i64 nx)) (fun _ i _ => n - (intOf i).toNat)
  case atStart => exact ⟨⟨0, [(A2, c2, H)], rfl, Nat.zero_le _, HO.out, rfl, by simp [allOf], HB2.out, HSZ2.out, _, HD5.out⟩, HD5.out⟩
  case round =>
    obtain ⟨⟨k, xs, rfl, hk, ho, hxl, hall, hb, hsz, -⟩, h5⟩ := hrel
    by_cases hlt : k < n
    · have hkl : k < ps.length := by have := HN.out; omega
      obtain ⟨b, off, rfl, hlb, hc⟩ := HR.out (by intro e; subst e; simp at hkl)
      have hc1 := hc k hkl
      rw [← hb.cell (p := ⟨b, off + k, none⟩) hlb] at hc1
      have hsk := HS.out _ (List.getElem_mem hkl)
      have HT1 := Lib.hid (fun W => layNumber_any ps[k] W hsk.1 hsk.2)
      change Hid (∀ W, Calls _ _ _ _ (Lays (num2 ps[k]) _)) at HT1
      have HAL : Hid (∀ z1 : Part, z1.2.2 = num2 ps[k] → allOf (xs ++ [z1]) = H ++ (ps.take (k + 1)).flatMap num2) := Lib.hid (fun z1 h1 => by
        rw [allOf_append, hall, flat_step _ _ hkl]; simp [allOf, h1])
      generalize num2 ps[k] = tx at HT1 HAL
      generalize ps[k] = x at hc1 HT1
      have hbl := hb.size
      have HO3 := Lib.hid ho
      have HBB := Lib.hid hb
      have HXL := Lib.hid hxl
      have HSZ3 := Lib.hid hsz
      have H5 := Lib.hid h5
      have NE := Lib.hid (show some w.heap.size ≠ u3.ownBlock from fun e => by have := (World.ownsRow.lt ho.1 w.heap.size e.symm).1; omega)
      clear hc hb ho hsk hxl hall hsz h5
      go_wp2_with fail
      refine (HT1.out _).mono ?_
      rintro e w2 ⟨A3, n3, c3, rfl, h3, b3, f3⟩
      obtain ⟨v5, w5, hrun5, ho5, hb5, hB5, hk5⟩ := one_append HO3.out HBB.out (Nat.le_succ _) HSZ3.out b3 h3 f3 (by have := HXL.out; have := H6.out; have := HN.out; omega)
      have Q5 := Lib.hid hrun5
      have O5 := Lib.hid ho5
      have B5 := Lib.hid hb5
      have S5 := Lib.hid hB5
      have C5 := Lib.hid ((hk5 w.heap.size 5 (by have := b3.size; have := HSZ3.out; omega) NE.out).trans (cell_below H5.out b3))
      clear h3 b3 f3 hrun5 ho5 hb5 hB5 hk5 HT1 hc1
      go_wp2_with (at_builtin; (refine wpList_append_eq rfl (.tmp 18) (.tmp 21) _ rfl rfl rfl Q5.out ?_; clear Q5))
      go_roundw
      case rel => exact ⟨⟨k + 1, xs ++ [(A3, c3, tx)], by go_num, hkl, O5.out, by rw [List.length_append, HXL.out]; simp; omega, HAL.out _ rfl, B5.out, S5.out, _, C5.out⟩, C5.out⟩
      case measure => simp [intOf]; omega
    · have hfin : allOf xs = H ++ ps.flatMap num2 := by rw [hall, List.take_of_length_le (by have := HN.out; omega)]
      have HO3 := Lib.hid ho
      have HBB := Lib.hid hb
      have HXL := Lib.hid hxl
      have HSZ3 := Lib.hid hsz
      have HF := Lib.hid hfin
      have HLN : Hid (∀ l : List Int, (l.flatMap num2).length = 2 * l.length) := Lib.hid (fun l => by
        induction l with
        | nil => rfl
        | cons x l ih => rw [List.flatMap_cons, List.length_append, ih, num2_len, List.length_cons]; omega)
      clear ho hb hxl hsz hfin hall
      go_wp2_with fail
      refine (cX.out _).mono ?_
      rintro e w2 ⟨A3, n3, c3, rfl, h3, b3, f3⟩
      obtain ⟨v5, w5, hrun5, ho5, hb5, hB5, hk5⟩ := one_append HO3.out HBB.out (Nat.le_succ _) HSZ3.out b3 h3 f3 (by have := HXL.out; have := H6.out; have := HN.out; omega)
      have Q5 := Lib.hid hrun5
      have B5 := Lib.hid hb5
      obtain ⟨A, c, hv, _, _, _, hrow⟩ := OwnG.row ho5.1
      subst hv
      have hall2 : allOf (xs ++ [(A3, c3, num2 nx)]) = H ++ ps.flatMap num2 ++ num2 nx := by rw [allOf_append, HF.out]; simp [allOf]
      have cJ := joined_any A (xs ++ [(A3, c3, num2 nx)]).length c (xs ++ [(A3, c3, num2 nx)]) w5 rfl (by rw [List.length_append]; have := HXL.out; have := H6.out; simp; omega) hrow ho5.parts (by
        rw [hall2, List.length_append, List.length_append, HLN.out, num2_len]; have := hHl.out; have := H6.out; omega)
      rw [hall2] at cJ
      have HJ := Lib.hid cJ
      generalize (xs ++ [(A3, c3, num2 nx)]).length = m at *
      clear h3 b3 f3 hrun5 ho5 hb5 hB5 hk5 hrow cJ hall2
      go_wp2_with (at_builtin; (refine wpList_append_eq rfl (.tmp 24) (.tmp 28) _ rfl rfl rfl Q5.out ?_; clear Q5))
      refine HJ.out.mono ?_
      rintro e w3 ⟨A3, n3, c3, rfl, h3, b3, f3⟩
      have B3 := Lib.hid (B5.out.trans (b3.mono B5.out.size))
      have H3 := Lib.hid h3
      have F3 := Lib.hid (fun a ha => Nat.le_trans B5.out.size (f3 a ha))
      clear b3 h3 f3
      go_wp2_with fail
      go_ret
      exact ⟨_, _, _, rfl, H3.out, B3.out, F3.out⟩
end Go.Proofs.Ytiebaeahimeedaa.Page
