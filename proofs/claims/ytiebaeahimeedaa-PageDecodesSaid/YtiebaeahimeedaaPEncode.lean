/-
  Contract of page's Encode.
-/
import Derived.Test.YtiebaeahimeedaaPDouble
namespace Go.Proofs.Ytiebaeahimeedaa.Page
open Go.RowKit Gen

/-- A page's bytes for a sector. -/
def Enc (s : Int) (p : Pg) (l : Bs) : Prop := Fine p ∧ (p.kind = 4 ∧ (s = 0 ∨ s = 1) ∧ l = doubledBs p.epoch (pageBs s p) ∨ p.kind ≠ 4 ∧ Place s ∧ l = summedBs (pageBs s p))
/-- Encode's answer. -/
def Encodes (s : Int) (p : Pg) (w : World) (e : Ending) (w' : World) : Prop :=
  (∃ A n c l, e = .returned (.tuple #[.slice A n c, numV 0]) ∧ BytesAt w' A n c l ∧ Enc s p l ∧ Below w.heap.size w w') ∨ (e = .returned (.tuple #[.slice none 0 0, numV 50]) ∧ (∀ l, ¬ Enc s p l) ∧ Below w.heap.size w w')
theorem pg_keep {b : Nat} (w : World) (p : Pg) (a : Lay) (h : At w b (pgC p a)) : ∀ W, Below w.heap.size w W → W.cell? ⟨b, 0, none⟩ = some (.int .i64 p.kind) ∧ W.cell? ⟨b, 1, none⟩ = some (.slice a.A1 p.pairs.length a.c1) ∧ W.cell? ⟨b, 2, none⟩ = some (.slice a.A2 p.keys.length a.c2) ∧ W.cell? ⟨b, 3, none⟩ = some (.slice a.A3 p.kids.length a.c3) ∧ W.cell? ⟨b, 4, none⟩ = some (.slice a.A4 p.pages.length a.c4) ∧ W.cell? ⟨b, 5, none⟩ = some (.int .i64 p.next) ∧ W.cell? ⟨b, 6, none⟩ = some (.int .u64 (p.epoch : Int)) ∧ W.cell? ⟨b, 7, none⟩ = some (.int .i64 p.root) ∧ W.cell? ⟨b, 8, none⟩ = some (.int .i64 p.depth) ∧ W.cell? ⟨b, 9, none⟩ = some (.int .i64 p.count) ∧ W.cell? ⟨b, 10, none⟩ = some (.int .i64 p.high) := fun W hb => by
  have h := h.below hb h.1
  exact ⟨h.2.2 0 _ rfl, h.2.2 1 _ rfl, h.2.2 2 _ rfl, h.2.2 3 _ rfl, h.2.2 4 _ rfl, h.2.2 5 _ rfl, h.2.2 6 _ rfl, h.2.2 7 _ rfl, h.2.2 8 _ rfl, h.2.2 9 _ rfl, h.2.2 10 _ rfl⟩

theorem pg_box (w : World) (p : Pg) (a : Lay) : At (w.alloc (.cells (pgC p a) 28)) w.heap.size (pgC p a) := At.of_block (heap_alloc_last w _)
theorem alloc_lt (w : World) (o : Obj) : w.heap.size < (w.alloc o).heap.size := by simp
theorem eq_false' {a b : Int} (h : a ≠ b) : (a == b) = false := beq_eq_false_iff_ne.2 h

set_option maxRecDepth 100000 in
theorem encode_not (s : Int) (p : Pg) (a : Lay) (w : World) (hok : PgOk p) (hR : PgRows w p a) (hf : ¬ Fine p) : Calls Try.prog 12 #[.int .i64 s, pgV p a] w (Encodes s p w) := by
  have B1 := Lib.hid ((Below.refl w.heap.size w).alloc (Nat.le_refl _) (.cells (pgC p a) 28))
  have AT := Lib.hid (pg_box w p a)
  have LT := Lib.hid (alloc_lt w (.cells (pgC p a) 28))
  have cC := check_any p a (w.alloc (.cells (pgC p a) 28)) hok (hR.below ((Below.refl _ _).alloc (Nat.le_refl _) _))
  have HF := Lib.hid hf
  clear hok hR hf
  unfold pgV
  unfold pgC at B1 cC LT
  go_enter Try.func12, Try.ntmps12
  go_wp2_with fail
  refine cC.mono ?_
  rintro e w1 ⟨x, rfl, hx, b1⟩
  have B2 := Lib.hid (B1.out.trans (b1.mono B1.out.size))
  have A1 := AT.out.below b1 LT.out
  obtain ⟨rfl, hn⟩ : x = 50 ∧ ¬ Fine p := hx.elim (fun h => absurd h.2 HF.out) id
  clear hx hn A1 b1 cC
  go_wp2_with fail
  go_ret2
  exact .inr ⟨rfl, fun l h => HF.out h.1, B2.out⟩
set_option maxRecDepth 100000 in
theorem encode_plain (s : Int) (p : Pg) (a : Lay) (w : World) (hok : PgOk p) (hR : PgRows w p a) (hf : Fine p) (hk : p.kind ≠ 4) : Calls Try.prog 12 #[.int .i64 s, pgV p a] w (Encodes s p w) := by
  have B1 := Lib.hid ((Below.refl w.heap.size w).alloc (Nat.le_refl _) (.cells (pgC p a) 28))
  have AT := Lib.hid (pg_box w p a)
  have LT := Lib.hid (alloc_lt w (.cells (pgC p a) 28))
  have cC := check_any p a (w.alloc (.cells (pgC p a) 28)) hok (hR.below ((Below.refl _ _).alloc (Nat.le_refl _) _))
  have HF := Lib.hid hf
  have HR := Lib.hid (hR.below ((Below.refl w.heap.size w).alloc (Nat.le_refl _) (.cells (pgC p a) 28)))
  have k4 : (p.kind == 4) = false := eq_false' hk
  have k5 : (p.kind != 4) = true := by simp [bne, k4]
  have HK := Lib.hid hk
  clear hok hR hf hk
  unfold pgC at HR
  unfold pgV
  unfold pgC at B1 cC LT
  go_enter Try.func12, Try.ntmps12
  go_wp2_with fail
  refine cC.mono ?_
  rintro e w1 ⟨x, rfl, hx, b1⟩
  have B2 := Lib.hid (B1.out.trans (b1.mono B1.out.size))
  have A1 := AT.out.below b1 LT.out
  obtain ⟨rfl, -⟩ : x = 0 ∧ Fine p := hx.elim id (fun h => absurd HF.out h.2)
  have HR1 := Lib.hid (HR.out.below b1)
  have c0 := A1.2.2 0 _ rfl
  have c1 := A1.2.2 1 _ rfl
  have c2 := A1.2.2 2 _ rfl
  have c3 := A1.2.2 3 _ rfl
  have c4 := A1.2.2 4 _ rfl
  have c5 := A1.2.2 5 _ rfl
  have c6 := A1.2.2 6 _ rfl
  have c7 := A1.2.2 7 _ rfl
  have c8 := A1.2.2 8 _ rfl
  have c9 := A1.2.2 9 _ rfl
  have c10 := A1.2.2 10 _ rfl
  clear hx A1 b1 cC AT
  go_wp2_with fail
  refine (isPlace_any _ _).mono ?_
  rintro e w' ⟨r, rfl, hr, rfl⟩
  rcases r with _ | _
  · have HN := Lib.hid hr
    clear hr c0 c1 c2 c3 c4 c5 c6 c7 c8 c9 c10
    go_wp2_with fail
    go_ret2
    exact .inr ⟨rfl, fun l h => h.2.elim (fun g => HK.out g.1) (fun g => by cases (HN.out.2 g.2.1)), B2.out⟩
  have HN := Lib.hid (hr.1 rfl)
  clear hr
  have cP := layPage_any s p a w1 HF.out HR1.out (place63 HN.out)
  have HL := Lib.hid (page_len (s := s) HF.out)
  go_wp2_with fail
  refine cP.mono ?_
  rintro e w2 ⟨A2, n2, c2', rfl, h2, b2, -⟩
  have cS := summed_any A2 n2 c2' _ w2 h2 (by rw [← h2.len]; exact HL.out)
  have B3 := Lib.hid (B2.out.trans (b2.mono B2.out.size))
  clear h2 b2 cP c0 c1 c2 c3 c4 c5 c6 c7 c8 c9 c10
  go_wp2_with fail
  refine cS.mono ?_
  rintro e w3 ⟨A3, n3, c3, rfl, h3, b3, -⟩
  have B4 := Lib.hid (B3.out.trans (b3.mono B3.out.size))
  have H3 := Lib.hid h3
  clear h3 b3 cS
  go_wp2_with fail
  go_ret2
  exact .inl ⟨_, _, _, _, rfl, H3.out, ⟨HF.out, .inr ⟨HK.out, HN.out, rfl⟩⟩, B4.out⟩
set_option maxRecDepth 100000 in
theorem encode_super (s : Int) (p : Pg) (a : Lay) (w : World) (hok : PgOk p) (hR : PgRows w p a) (hf : Fine p) (hk : p.kind = 4) : Calls Try.prog 12 #[.int .i64 s, pgV p a] w (Encodes s p w) := by
  have B1 := Lib.hid ((Below.refl w.heap.size w).alloc (Nat.le_refl _) (.cells (pgC p a) 28))
  have AT := Lib.hid (pg_box w p a)
  have LT := Lib.hid (alloc_lt w (.cells (pgC p a) 28))
  have cC := check_any p a (w.alloc (.cells (pgC p a) 28)) hok (hR.below ((Below.refl _ _).alloc (Nat.le_refl _) _))
  have HF := Lib.hid hf
  have HR := Lib.hid (hR.below ((Below.refl w.heap.size w).alloc (Nat.le_refl _) (.cells (pgC p a) 28)))
  have k4 : (p.kind == 4) = true := by rw [hk]; rfl
  have k5 : (p.kind != 4) = false := by simp [bne, k4]
  have HK := Lib.hid hk
  have HE := Lib.hid hok.epoch
  clear hok hR hf hk
  unfold pgC at HR
  unfold pgV
  unfold pgC at B1 cC LT
  go_enter Try.func12, Try.ntmps12
  go_wp2_with fail
  refine cC.mono ?_
  rintro e w1 ⟨x, rfl, hx, b1⟩
  have B2 := Lib.hid (B1.out.trans (b1.mono B1.out.size))
  have A1 := AT.out.below b1 LT.out
  obtain ⟨rfl, -⟩ : x = 0 ∧ Fine p := hx.elim id (fun h => absurd HF.out h.2)
  have HR1 := Lib.hid (HR.out.below b1)
  have KS := Lib.hid (pg_keep w1 p a A1)
  have c0 := A1.2.2 0 _ rfl
  have c1 := A1.2.2 1 _ rfl
  have c2 := A1.2.2 2 _ rfl
  have c3 := A1.2.2 3 _ rfl
  have c4 := A1.2.2 4 _ rfl
  have c5 := A1.2.2 5 _ rfl
  have c6 := A1.2.2 6 _ rfl
  have c7 := A1.2.2 7 _ rfl
  have c8 := A1.2.2 8 _ rfl
  have c9 := A1.2.2 9 _ rfl
  have c10 := A1.2.2 10 _ rfl
  clear hx A1 b1 cC AT
  go_wp2_with fail
  refine (leads_any _ _).mono ?_
  rintro e w' ⟨r, rfl, hr, rfl⟩
  rcases r with _ | _
  · have HN := Lib.hid hr
    clear hr
    go_wp2_with fail
    go_ret2
    exact .inr ⟨rfl, fun l h => h.2.elim (fun g => by cases (HN.out.2 g.2.1)) (fun g => g.1 HK.out), B2.out⟩
  have HN := Lib.hid (hr.1 rfl)
  clear hr c0 c1 c2 c3 c4 c5 c6 c7 c8 c9 c10
  have R0 := Lib.hid (Below.refl w1.heap.size w1).drew
  have K0 := Lib.hid (KS.out _ R0.out)
  have cP := Lib.hid (layPage_any s p a w1.drew HF.out (HR1.out.below R0.out) (by have := HN.out; unfold Nat63; omega))
  have HL := Lib.hid (page_len4 (s := s) HK.out)
  go_wp2_with fail
  go_region_held3 (fun w' => w'.cell? ⟨w.heap.size, 0, none⟩ = some (.int .i64 p.kind) ∧ w'.cell? ⟨w.heap.size, 1, none⟩ = some (.slice a.A1 p.pairs.length a.c1) ∧ w'.cell? ⟨w.heap.size, 2, none⟩ = some (.slice a.A2 p.keys.length a.c2) ∧ w'.cell? ⟨w.heap.size, 3, none⟩ = some (.slice a.A3 p.kids.length a.c3) ∧ w'.cell? ⟨w.heap.size, 4, none⟩ = some (.slice a.A4 p.pages.length a.c4) ∧ w'.cell? ⟨w.heap.size, 5, none⟩ = some (.int .i64 p.next) ∧ w'.cell? ⟨w.heap.size, 6, none⟩ = some (.int .u64 (p.epoch : Int)) ∧ w'.cell? ⟨w.heap.size, 7, none⟩ = some (.int .i64 p.root) ∧ w'.cell? ⟨w.heap.size, 8, none⟩ = some (.int .i64 p.depth) ∧ w'.cell? ⟨w.heap.size, 9, none⟩ = some (.int .i64 p.count) ∧ w'.cell? ⟨w.heap.size, 10, none⟩ = some (.int .i64 p.high))
    (with_reducible (first | exact K0.out | exact K2.out | exact K3.out))
    (first
      | (go_at_call 21; (refine cP.out.mono ?_); rintro e w2 ⟨A2, n2, c2', rfl, h2, b2, -⟩; have R2 := Lib.hid (R0.out.trans (b2.mono R0.out.size)); have K2 := Lib.hid (KS.out _ R2.out); have cD := Lib.hid (doubled_any p.epoch A2 n2 c2' _ w2 HE.out h2 (by rw [← h2.len, HL.out]; omega)); clear h2 b2)
      | (go_at_call 20; (with_reducible refine cD.out.mono ?_); rintro e w3 ⟨A3, n3, c3', rfl, h3, b3, -⟩; have R3 := Lib.hid (R2.out.trans (b3.mono R2.out.size)); have K3 := Lib.hid (KS.out _ R3.out); have H3 := Lib.hid h3; clear h3 b3))
  clear K0 K2 K3
  go_wp2_with fail
  go_ret2
  exact .inl ⟨_, _, _, _, rfl, H3.out, ⟨HF.out, .inl ⟨HK.out, HN.out, rfl⟩⟩, B2.out.trans (R3.out.mono B2.out.size)⟩
theorem encode_any (s : Int) (p : Pg) (a : Lay) (w : World) (hok : PgOk p) (hR : PgRows w p a) : Calls Try.prog 12 #[.int .i64 s, pgV p a] w (Encodes s p w) := by
  by_cases hf : Fine p
  · by_cases hk : p.kind = 4
    · exact encode_super s p a w hok hR hf hk
    · exact encode_plain s p a w hok hR hf hk
  · exact encode_not s p a w hok hR hf
end Go.Proofs.Ytiebaeahimeedaa.Page
