/-
  Contracts of page's layLeaf, layFree.
-/
import Derived.Test.YtiebaeahimeedaaPText
import Derived.Deep.RegionWith
import Derived.Deep.RegionHeld3
import Derived.Test.YtiebaeahimeedaaCStep
namespace Go.Proofs.Ytiebaeahimeedaa.Page
open Go.RowKit Gen

def num2 (x : Int) : Bs := be 2 x.toNat
def txt (s : Bs) : Bs := be 1 s.length ++ s
def bodyLeaf (p : Pg) : Bs := num2 p.pairs.length ++ p.pairs.flatMap fun x => txt x.1 ++ txt x.2
def bodyFree (p : Pg) : Bs := num2 p.pages.length ++ p.pages.flatMap num2 ++ num2 p.next
theorem num2_len (x : Int) : (num2 x).length = 2 := be_len _ _
theorem txt_len (s : Bs) : (txt s).length = 1 + s.length := by rw [txt, List.length_append, be_len]
theorem cell_lt {w : World} {b o : Nat} {v : Value} (h : w.cell? ⟨b, o, none⟩ = some v) : b < w.heap.size := by
  rcases Nat.lt_or_ge b w.heap.size with h' | h'
  · exact h'
  · simp [World.cell?, Array.getElem?_eq_none h'] at h
theorem cell_below {w w' : World} {b o : Nat} {v : Value} (h : w.cell? ⟨b, o, none⟩ = some v) (hb : Below w.heap.size w w') : w'.cell? ⟨b, o, none⟩ = some v := by
  rw [hb.cell (p := ⟨b, o, none⟩) (cell_lt h)]; exact h
theorem two_keep {w1 : World} {b1 o1 b2 o2 : Nat} {u v : Value} (h1 : w1.cell? ⟨b1, o1, none⟩ = some u) (h2 : w1.cell? ⟨b2, o2, none⟩ = some v) :
    ∀ W, Below w1.heap.size w1 W → W.cell? ⟨b1, o1, none⟩ = some u ∧ W.cell? ⟨b2, o2, none⟩ = some v := fun _ hb => ⟨cell_below h1 hb, cell_below h2 hb⟩
theorem allOf_append (xs ys : List Part) : allOf (xs ++ ys) = allOf xs ++ allOf ys := by simp [allOf]
/-- Between two rounds of layLeaf. -/
def LeafRel (w : World) (H : Bs) (ps : List (Bs × Bs)) (v i : Value) (wr : World) : Prop := ∃ (k : Nat) (xs : List Part), i = .int .i64 k ∧ k ≤ ps.length ∧ OwnS wr w.heap.size v xs ∧ xs.length = 1 + 2 * k ∧ allOf xs = H ++ (ps.take k).flatMap (fun x => txt x.1 ++ txt x.2) ∧ Below w.heap.size w wr
theorem flat_step {α : Type} (f : α → Bs) (l : List α) {k : Nat} (h : k < l.length) : (l.take (k + 1)).flatMap f = (l.take k).flatMap f ++ f l[k] := by
  rw [List.take_succ_eq_append_getElem h, List.flatMap_append]; simp
/-- Two texts more, in a round that may have made a copy first. -/
theorem two_append {w wr W1 w2 w3 : World} {B : Nat} {v : Value} {xs : List Part} {A3 A4 : Option Addr} {n3 c3 n4 c4 : Nat} {tx ty : Bs} (ho : OwnS wr B v xs) (hb : Below w.heap.size w wr) (hwB : w.heap.size ≤ B) (hB : B ≤ wr.heap.size) (bw : Below wr.heap.size wr W1) (r2 : Below W1.heap.size W1 w2) (r3 : Below W1.heap.size W1 w3)
    (h3 : BytesAt w3 A3 n3 c3 tx) (h4 : BytesAt w3 A4 n4 c4 ty) (f3 : ∀ a, A3 = some a → W1.heap.size ≤ a.block) (f4 : ∀ a, A4 = some a → w2.heap.size ≤ a.block) (hn : xs.length ≤ 1000) :
    ∃ v' W', (Builtin.append_ #[77, 77] 77 #[v, .slice (some ⟨w3.heap.size, 0, none⟩) 2 2]).run Try.prog (w3.alloc (.cells #[.slice A3 n3 c3, .slice A4 n4 c4] 30)) = .ok v' W' ∧ OwnS W' B v' (xs ++ [(A3, c3, tx), (A4, c4, ty)]) ∧ Below w.heap.size w W' ∧ B ≤ W'.heap.size ∧
      ∀ b o, b < w3.heap.size → some b ≠ v.ownBlock → W'.cell? ⟨b, o, none⟩ = w3.cell? ⟨b, o, none⟩ := by
  have sw := bw.size
  have hb3 : Below wr.heap.size wr w3 := bw.trans (r3.mono sw)
  have ho3 := ho.below hb3
  have hB3 : B ≤ w3.heap.size := Nat.le_trans hB hb3.size
  have ne : ∀ {A : Option Addr} {l : Bs}, (∀ a, A = some a → wr.heap.size ≤ a.block) → (l ≠ [] → ∀ a, A = some a → some a.block ≠ v.ownBlock) := fun hf _ a ha => own_lt ho (hf a ha)
  obtain ⟨v', W', hrun, ho', hg⟩ := append_parts w3 B v xs [(A3, c3, tx), (A4, c4, ty)] ho3 #[.slice A3 n3 c3, .slice A4 n4 c4] 2 rfl (by rw [enc_at h3, enc_at h4]; rfl) (fun x hx => by
    rcases List.mem_cons.1 hx with rfl | hx
    · exact ⟨h3.nil, h3.row, ne (fun a ha => Nat.le_trans sw (f3 a ha))⟩
    · rcases List.mem_cons.1 hx with rfl | hx
      · exact ⟨h4.nil, h4.row, ne (fun a ha => Nat.le_trans (Nat.le_trans sw r2.size) (f4 a ha))⟩
      · cases hx) (by omega) hB3
  have hb4 : Below w.heap.size w (w3.alloc (.cells #[.slice A3 n3 c3, .slice A4 n4 c4] 30)) := (hb.trans (hb3.mono hb.size)).alloc (Nat.le_trans hb.size hb3.size) _
  refine ⟨v', W', hrun, ho', hb4.grown hg hb4.size (fun k hk => Nat.le_trans hwB (World.ownsRow.lt ho.1 k hk).1), Nat.le_trans hB3 (Nat.le_trans (by simp) hg.size), fun b o hlt hne => ?_⟩
  rw [World.cell?_of_block (w := w3.alloc (.cells #[.slice A3 n3 c3, .slice A4 n4 c4] 30)) (a := ⟨b, o, none⟩) (hg.block b (by simp; omega) hne)]
  exact ((Below.refl w3.heap.size w3).alloc (Nat.le_refl _) _).cell hlt
/-- One part more. -/
theorem one_append {w wr w3 : World} {B : Nat} {v : Value} {xs : List Part} {A3 : Option Addr} {n3 c3 : Nat} {tx : Bs} (ho : OwnS wr B v xs) (hb : Below w.heap.size w wr) (hwB : w.heap.size ≤ B) (hB : B ≤ wr.heap.size) (r3 : Below wr.heap.size wr w3)
    (h3 : BytesAt w3 A3 n3 c3 tx) (f3 : ∀ a, A3 = some a → wr.heap.size ≤ a.block) (hn : xs.length ≤ 100000) :
    ∃ v' W', (Builtin.append_ #[77, 77] 77 #[v, .slice (some ⟨w3.heap.size, 0, none⟩) 1 1]).run Try.prog (w3.alloc (.cells #[.slice A3 n3 c3] 30)) = .ok v' W' ∧ OwnS W' B v' (xs ++ [(A3, c3, tx)]) ∧ Below w.heap.size w W' ∧ B ≤ W'.heap.size ∧
      ∀ b o, b < w3.heap.size → some b ≠ v.ownBlock → W'.cell? ⟨b, o, none⟩ = w3.cell? ⟨b, o, none⟩ := by
  have ho3 := ho.below r3
  have hB3 : B ≤ w3.heap.size := Nat.le_trans hB r3.size
  obtain ⟨v', W', hrun, ho', hg⟩ := append_parts w3 B v xs [(A3, c3, tx)] ho3 #[.slice A3 n3 c3] 1 rfl (by rw [enc_at h3]; rfl) (fun x hx => by
    rcases List.mem_cons.1 hx with rfl | hx
    · exact ⟨h3.nil, h3.row, fun _ a ha => own_lt ho (f3 a ha)⟩
    · cases hx) (by omega) hB3
  have hb4 : Below w.heap.size w (w3.alloc (.cells #[.slice A3 n3 c3] 30)) := (hb.trans (r3.mono hb.size)).alloc (Nat.le_trans hb.size r3.size) _
  refine ⟨v', W', hrun, ho', hb4.grown hg hb4.size (fun k hk => Nat.le_trans hwB (World.ownsRow.lt ho.1 k hk).1), Nat.le_trans hB3 (Nat.le_trans (by simp) hg.size), fun b o hlt hne => ?_⟩
  rw [World.cell?_of_block (w := w3.alloc (.cells #[.slice A3 n3 c3] 30)) (a := ⟨b, o, none⟩) (hg.block b (by simp; omega) hne)]
  exact ((Below.refl w3.heap.size w3).alloc (Nat.le_refl _) _).cell hlt
set_option maxRecDepth 100000 in
set_option maxHeartbeats 1000000 in
theorem layLeaf_any (p : Pg) (a : Lay) (w : World) (hR : PRow w a.A1 p.pairs) (hn6 : p.pairs.length ≤ 6) (hs : ∀ x ∈ p.pairs, x.1.length ≤ 100 ∧ x.2.length ≤ 100) (hT : (bodyLeaf p).length ≤ 100000) : Calls Try.prog 49 #[pgV p a] w (Lays (bodyLeaf p) w) := by
  have B1 : Below w.heap.size w (w.alloc (.cells (pgC p a) 28)) := (Below.refl _ _).alloc (Nat.le_refl _) _
  have HB1 := Lib.hid B1
  have HR := Lib.hid hR
  have cL := layNumber_any p.pairs.length (w.alloc (.cells (pgC p a) 28)) (by omega) (by omega)
  have HS := Lib.hid hs
  unfold bodyLeaf at *
  have c1 : (w.alloc (.cells (pgC p a) 28)).cell? ⟨w.heap.size, 1, none⟩ = some (.slice a.A1 p.pairs.length a.c1) := by simp [pgC]
  clear hR B1 hs
  change Calls _ _ _ _ (Lays (num2 (p.pairs.length : Int)) _) at cL
  unfold pgC at HB1 cL c1
  generalize hps : p.pairs = ps at *
  unfold pgV pgC
  rw [hps]
  generalize a.A1 = A1 at *
  have H6 := Lib.hid hn6
  have HT := Lib.hid hT
  obtain ⟨n, hn⟩ : ∃ n, ps.length = n := ⟨_, rfl⟩
  generalize hH : num2 (ps.length : Int) = H at *
  have hHl : H.length = 2 := by rw [← hH]; exact num2_len _
  rw [hn] at c1 cL hn6 HB1 ⊢
  have HN := Lib.hid hn
  clear hps hT hn hH
  go_enter Try.func49, Try.ntmps49
  go_wp2_with fail
  refine cL.mono ?_
  rintro e w1 ⟨A2, n2, c2, rfl, h2, b2, f2⟩
  have d1 := cell_below c1 b2
  have B2 := HB1.out.trans (b2.mono HB1.out.size)
  have HO := Lib.hid (own_lit w1 w.heap.size #[.slice A2 n2 c2] 1 [(A2, c2, H)] rfl (by rw [enc_at h2]; rfl) ((PartsIn.nil _).cons h2) B2.size (by omega))
  have HB2 := Lib.hid (B2.alloc B2.size (.cells #[.slice A2 n2 c2] 30))
  have d2 := cell_below d1 ((Below.refl _ _).alloc (Nat.le_refl _) (.cells #[.slice A2 n2 c2] 30))
  clear h2 b2 f2 B2 d1 cL c1
  go_wp2_with fail
  clear d2
  go_loopw [3, 14] (fun v i wr => LeafRel w H ps v i wr) (fun _ i _ => n - (intOf i).toNat)
  case atStart => exact ⟨0, [(A2, c2, H)], rfl, Nat.zero_le _, HO.out, rfl, by simp [allOf], HB2.out⟩
  case round =>
    obtain ⟨k, xs, rfl, hk, ho, hxl, hall, hb⟩ := hrel
    by_cases hlt : k < n
    · have hkl : k < ps.length := by have := HN.out; omega
      obtain ⟨b, off, rfl, hlb, hc⟩ := HR.out (by intro e; subst e; simp at hkl)
      obtain ⟨hc1, hc2⟩ := hc k hkl
      rw [← hb.cell (p := ⟨b, off + k * 2, none⟩) hlb] at hc1
      rw [← hb.cell (p := ⟨b, off + k * 2 + 1, none⟩) hlb] at hc2
      obtain ⟨X, hX⟩ : ∃ X, strB ps[k].1 = X := ⟨_, rfl⟩
      obtain ⟨Y, hY⟩ : ∃ Y, strB ps[k].2 = Y := ⟨_, rfl⟩
      rw [show strV ps[k].1 = .string X by rw [← hX]] at hc1
      rw [show strV ps[k].2 = .string Y by rw [← hY]] at hc2
      have hsk := HS.out _ (List.getElem_mem hkl)
      have HT1 := Lib.hid (fun W => layText_any ps[k].1 W (by omega))
      have HT2 := Lib.hid (fun W => layText_any ps[k].2 W (by omega))
      rw [show strV ps[k].1 = .string X by rw [← hX], show be 1 ps[k].1.length ++ ps[k].1 = txt ps[k].1 from rfl] at HT1
      rw [show strV ps[k].2 = .string Y by rw [← hY], show be 1 ps[k].2.length ++ ps[k].2 = txt ps[k].2 from rfl] at HT2
      have HAL : Hid (∀ z1 z2 : Part, z1.2.2 = txt ps[k].1 → z2.2.2 = txt ps[k].2 → allOf (xs ++ [z1, z2]) = H ++ (ps.take (k + 1)).flatMap (fun x => txt x.1 ++ txt x.2)) := Lib.hid (fun z1 z2 h1 h2 => by
        rw [allOf_append, hall, flat_step _ _ hkl]; simp [allOf, h1, h2])
      generalize txt ps[k].1 = tx at HT1 HAL
      generalize txt ps[k].2 = ty at HT2 HAL
      have hbl := hb.size
      have KS := Lib.hid (two_keep (w1 := wr.alloc (.cells #[.string X, .string Y] 44)) (b1 := wr.heap.size) (o1 := 0) (b2 := wr.heap.size) (o2 := 1) (u := .string X) (v := .string Y) (by simp) (by simp))
      have BW := Lib.hid ((Below.refl _ wr).alloc (Nat.le_refl _) (.cells #[.string X, .string Y] 44))
      have SW := Lib.hid (show wr.heap.size < (wr.alloc (.cells #[.string X, .string Y] 44)).heap.size by simp)
      have NE := Lib.hid (show some wr.heap.size ≠ u3.ownBlock from own_lt ho (a := ⟨wr.heap.size, 0, none⟩) (Nat.le_refl _))
      have HO := Lib.hid ho
      have HBB := Lib.hid hb
      have HXL := Lib.hid hxl
      clear hc hX hY hb ho hsk hxl hall
      go_wp2_with fail
      have R0 := Lib.hid (Below.refl (wr.alloc (.cells #[.string X, .string Y] 44)).heap.size (wr.alloc (.cells #[.string X, .string Y] 44)))
      have K0 := Lib.hid (KS.out _ R0.out.drew)
      go_region_held3 (fun w' => w'.cell? ⟨wr.heap.size, 0, none⟩ = some (.string X) ∧ w'.cell? ⟨wr.heap.size, 1, none⟩ = some (.string Y))
        (with_reducible (first | exact K0.out | exact K2.out | exact K3.out | exact K4.out | exact K5.out))
        (first
          | (go_at_call 68; (with_reducible refine (HT1.out _).mono ?_); rintro e w2 ⟨A3, n3, c3, rfl, h3, b3, f3⟩; have R2 := Lib.hid (R0.out.drew.trans (b3.mono R0.out.drew.size)); have H3 := Lib.hid h3; have F3 := Lib.hid f3; have K2 := Lib.hid (KS.out _ R2.out); clear h3 b3 f3)
          | (go_at_call 68; (with_reducible refine (HT2.out _).mono ?_); rintro e w3 ⟨A4, n4, c4, rfl, h4, b4, f4⟩; have R3 := Lib.hid (R2.out.trans (b4.mono R2.out.size)); have H4 := Lib.hid h4; have F4 := Lib.hid f4; have H3' := Lib.hid (H3.out.below b4); have K3 := Lib.hid (KS.out _ R3.out); have K4 := Lib.hid (KS.out _ (R3.out.alloc R3.out.size (.cells #[.slice A3 n3 c3, .slice A4 n4 c4] 30))); clear h4 b4 f4;
              obtain ⟨v5, w5, hrun5, ho5, hb5, hB5, hk5⟩ := two_append HO.out HBB.out (Nat.le_refl _) HBB.out.size BW.out R2.out R3.out H3'.out H4.out F3.out F4.out (by have := HXL.out; have := H6.out; have := HN.out; omega);
              have Q5 := Lib.hid hrun5; have O5 := Lib.hid ho5; have B5 := Lib.hid hb5; have K5 := Lib.hid (And.intro ((hk5 wr.heap.size 0 (Nat.lt_of_lt_of_le SW.out R3.out.size) NE.out).trans K3.out.1) ((hk5 wr.heap.size 1 (Nat.lt_of_lt_of_le SW.out R3.out.size) NE.out).trans K3.out.2)); clear hrun5 ho5 hb5 hB5 hk5)
          | (refine step_append2_eq (by rfl) (.tmp 18) (.tmp 25) _ _ (by rfl) (by rfl) (by rfl) Q5.out ?_; skip))
      clear K0 K2 K3 K4 K5 HT1 HT2 KS
      go_wp2_with fail
      go_roundw
      case rel => exact ⟨k + 1, xs ++ [(A3, c3, tx), (A4, c4, ty)], by go_num, hkl, O5.out, by rw [List.length_append, HXL.out]; simp; omega, HAL.out _ _ rfl rfl, B5.out⟩
      case measure => simp [intOf]; omega
    · have hfin : allOf xs = H ++ ps.flatMap (fun x => txt x.1 ++ txt x.2) := by rw [hall, List.take_of_length_le (by have := HN.out; omega)]
      obtain ⟨A, c, hv, _, _, _, hrow⟩ := OwnG.row ho.1
      subst hv
      have cJ := joined_any A xs.length c xs wr rfl (by have := H6.out; omega) hrow ho.parts (by rw [hfin]; have := HT.out; omega)
      rw [hfin] at cJ
      have HJ := Lib.hid cJ
      have HBB := Lib.hid hb
      generalize xs.length = m at *
      clear hfin hrow ho hall hxl cJ hb
      go_wp2_with fail
      refine HJ.out.mono ?_
      rintro e w3 ⟨A3, n3, c3, rfl, h3, b3, f3⟩
      have B3 := Lib.hid (HBB.out.trans (b3.mono HBB.out.size))
      have H3 := Lib.hid h3
      have F3 := Lib.hid (fun a ha => Nat.le_trans HBB.out.size (f3 a ha))
      clear b3 h3 f3
      go_wp2_with fail
      go_ret
      exact ⟨_, _, _, rfl, H3.out, B3.out, F3.out⟩
end Go.Proofs.Ytiebaeahimeedaa.Page
