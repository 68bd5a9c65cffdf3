/-
  Contracts of page's layPage, doubled, summed, Encode.
-/
import Derived.Test.YtiebaeahimeedaaPEnc3
namespace Go.Proofs.Ytiebaeahimeedaa.Page
open Go.RowKit Gen

noncomputable def bodyOf (p : Pg) : Bs := if p.kind = 1 then bodyLeaf p else if p.kind = 2 then bodyBranch p else if p.kind = 3 then bodyFree p else bodySuper p
noncomputable def pageBs (s : Int) (p : Pg) : Bs := be 1 p.kind.toNat ++ (num2 s ++ bodyOf p)
theorem leaf_len {p : Pg} (h : LeafOk p) : (bodyLeaf p).length ≤ 902 := by
  have h1 := flat_len (fun x : Bs × Bs => txt x.1 ++ txt x.2) 150 p.pairs (fun x hx => by
    have := (h.all x.1 (List.mem_map_of_mem hx)).2
    have := h.vals x hx
    rw [List.length_append, txt_len, txt_len]; omega)
  have := h.len.2
  unfold bodyLeaf
  rw [List.length_append, num2_len]; omega
theorem branch_len {p : Pg} (h : BranchOk p) : (bodyBranch p).length ≤ 616 := by
  have h1 := flat_len (fun x : Bs × Int => txt x.1 ++ num2 x.2) 51 (p.keys.zip p.kids.tail) (fun x hx => by
    have := (h.all x.1 (List.of_mem_zip hx).1).2
    rw [List.length_append, txt_len, num2_len]; omega)
  have := h.len.2
  rw [List.length_zip] at h1
  unfold bodyBranch
  rw [List.length_append, List.length_append, num2_len, num2_len]
  have : min p.keys.length p.kids.tail.length ≤ 12 := by omega
  omega
theorem free_len {p : Pg} (h : FreeOk p) : (bodyFree p).length ≤ 404 := by
  have h1 := flat_len num2 2 p.pages (fun x hx => by rw [num2_len]; omega)
  have := h.len
  unfold bodyFree
  rw [List.length_append, List.length_append, num2_len, num2_len]; omega
theorem super_len (p : Pg) : (bodySuper p).length = 12 := by simp [bodySuper, num2_len, be_len]
theorem place63 {x : Int} (h : Place x) : Nat63 x := by unfold Place at h; unfold Nat63; omega
theorem body_len {p : Pg} (h : Fine p) : (bodyOf p).length ≤ 902 := by
  unfold bodyOf
  rcases h with ⟨h, g, _⟩ | ⟨h, g, _⟩ | ⟨h, g, _⟩ | ⟨h, g, _⟩
  · rw [if_pos h]; exact leaf_len g
  · rw [if_neg (by omega), if_pos h]; have := branch_len g; omega
  · rw [if_neg (by omega), if_neg (by omega), if_pos h]; have := free_len g; omega
  · rw [if_neg (by omega), if_neg (by omega), if_neg (by omega), super_len]; omega
theorem lay_one (x : Int) (w : World) (h : Nat63 x) : Calls Try.prog 46 #[.int .i64 1, .int .u64 x] w (Lays (be 1 x.toNat) w) := by
  have := lay_any 1 x.toNat w (by omega) (by have := h.2; omega)
  rw [Int.toNat_of_nonneg h.1] at this
  exact this
theorem lay_eight (n : Nat) (w : World) (h : n < 18446744073709551616) : Calls Try.prog 46 #[.int .i64 8, .int .u64 (n : Int)] w (Lays (be 8 n) w) := lay_any 8 n w (by omega) h
theorem fill_to (A : Option Addr) (n c : Nat) (l : Bs) (w : World) (h : BytesAt w A n c l) (hn : n ≤ 1016) : Calls Try.prog 47 #[.slice A n c, .int .i64 1016] w (Lays (padTo 1016 l) w) := filled_any A n c l 1016 w h hn (by omega)
theorem fill_half (A : Option Addr) (n c : Nat) (l : Bs) (w : World) (h : BytesAt w A n c l) (hn : n ≤ 496) : Calls Try.prog 47 #[.slice A n c, .int .i64 496] w (Lays (padTo 496 l) w) := filled_any A n c l 496 w h hn (by omega)

set_option maxRecDepth 100000 in
theorem layPage1 (s : Int) (p : Pg) (a : Lay) (w : World) (hk : p.kind = 1) (g : LeafOk p) (hR : PgRows w p a) (hs : Nat63 s) : Calls Try.prog 21 #[.int .i64 s, pgV p a] w (Lays (pageBs s p) w) := by
  have k1 : (p.kind == 1) = true := by rw [hk]; rfl
  have k2 : (p.kind == 2) = false := by rw [hk]; rfl
  have k3 : (p.kind == 3) = false := by rw [hk]; rfl
  have k4 : (p.kind == 4) = false := by rw [hk]; rfl
  have B1 : Below w.heap.size w (w.alloc (.cells (pgC p a) 28)) := (Below.refl _ _).alloc (Nat.le_refl _) _
  have HRR := hR.below B1
  have cL := layLeaf_any p a (w.alloc (.cells (pgC p a) 28)) HRR.r1 (by have := g.len; omega) (fun x hx => ⟨by have := (g.all x.1 (List.mem_map_of_mem hx)).2; omega, g.vals x hx⟩) (by have := leaf_len g; omega)
  have c0 : (w.alloc (.cells (pgC p a) 28)).cell? ⟨w.heap.size, 0, none⟩ = some (.int .i64 p.kind) := by simp [pgC]
  have HB1 := Lib.hid B1
  have hl : (bodyLeaf p).length ≤ 902 := by have := leaf_len g; omega
  have HL := Lib.hid hl
  have G1 := Lib.hid (fun W => lay_one p.kind W (by unfold Nat63; omega))
  have G2 := Lib.hid (fun W => layNumber_num s W hs)
  have e0 : IntKind.u64.wrap p.kind = p.kind := by rw [IntKind.wrap_u64]; omega
  unfold pageBs bodyOf
  rw [if_pos hk]
  clear hR HRR B1 hk g hs hl
  generalize bodyLeaf p = bd at *
  have L1 := Lib.hid (be_len 1 p.kind.toNat)
  have L2 := Lib.hid (num2_len s)
  generalize be 1 p.kind.toNat = t1 at *
  generalize num2 s = t2 at *
  unfold pgV
  unfold pgC at *
  go_enter Try.func21, Try.ntmps21
  go_wp2_with fail
  refine cL.mono ?_
  rintro e w1 ⟨A1, n1, c1, rfl, h1, b1, -⟩
  have d0 := cell_below c0 b1
  have B2 := Lib.hid (HB1.out.trans (b1.mono HB1.out.size))
  have H1 := Lib.hid h1
  clear h1 b1 cL c0
  go_wp2_with fail
  refine (G1.out _).mono ?_
  rintro e w2 ⟨A2, n2, c2, rfl, h2, b2, -⟩
  have B3 := Lib.hid (B2.out.trans (b2.mono B2.out.size))
  have H1 := Lib.hid (H1.out.below b2)
  have H2 := Lib.hid h2
  clear h2 b2 d0
  go_wp2_with fail
  refine (G2.out _).mono ?_
  rintro e w3 ⟨A3, n3, c3, rfl, h3, b3, -⟩
  have B4 := Lib.hid (B3.out.trans (b3.mono B3.out.size))
  have H1 := Lib.hid (H1.out.below b3)
  have H2 := Lib.hid (H2.out.below b3)
  have H3 := Lib.hid h3
  clear h3 b3
  have CJ := Lib.hid (joined_any (some ⟨w3.heap.size, 0, none⟩) 3 3 [(A2, c2, t1), (A3, c3, t2), (A1, c1, bd)] (w3.alloc (.cells #[.slice A2 n2 c2, .slice A3 n3 c3, .slice A1 n1 c1] 30)) rfl (by omega) (lits _ _ _ _ _ (by rw [enc_at H1.out, enc_at H2.out, enc_at H3.out]; rfl)) ((PartsIn.nil _).cons (H1.out.alloc _) |>.cons (H3.out.alloc _) |>.cons (H2.out.alloc _)) (by simp [allOf, L1.out, L2.out]; have := HL.out; omega))
  go_wp2_with fail
  refine CJ.out.mono ?_
  rintro e w4 ⟨A4, n4, c4, rfl, h4, b4, f4⟩
  have B5 := Lib.hid ((B4.out.alloc B4.out.size _).trans (b4.mono (B4.out.alloc B4.out.size _).size))
  have F4 := Lib.hid (fun a ha => Nat.le_trans (B4.out.alloc B4.out.size _).size (f4 a ha))
  have H4 := Lib.hid h4
  clear h4 b4 f4
  go_wp2_with fail
  go_ret
  refine ⟨_, _, _, rfl, ?_, B5.out, F4.out⟩
  have h := H4.out
  simpa [allOf] using h
set_option maxRecDepth 100000 in
theorem layPage2 (s : Int) (p : Pg) (a : Lay) (w : World) (hk : p.kind = 2) (g : BranchOk p) (hR : PgRows w p a) (hs : Nat63 s) : Calls Try.prog 21 #[.int .i64 s, pgV p a] w (Lays (pageBs s p) w) := by
  have k1 : (p.kind == 1) = false := by rw [hk]; rfl
  have k2 : (p.kind == 2) = true := by rw [hk]; rfl
  have k3 : (p.kind == 3) = false := by rw [hk]; rfl
  have k4 : (p.kind == 4) = false := by rw [hk]; rfl
  have B1 : Below w.heap.size w (w.alloc (.cells (pgC p a) 28)) := (Below.refl _ _).alloc (Nat.le_refl _) _
  have HRR := hR.below B1
  have cL := layBranch_any p a (w.alloc (.cells (pgC p a) 28)) HRR.r2 HRR.r3 g.len.2 g.kids (fun x hx => by have := (g.all x hx).2; omega) (fun x hx => place63 (g.places x hx))
  have c0 : (w.alloc (.cells (pgC p a) 28)).cell? ⟨w.heap.size, 0, none⟩ = some (.int .i64 p.kind) := by simp [pgC]
  have HB1 := Lib.hid B1
  have hl : (bodyBranch p).length ≤ 902 := by have := branch_len g; omega
  have HL := Lib.hid hl
  have G1 := Lib.hid (fun W => lay_one p.kind W (by unfold Nat63; omega))
  have G2 := Lib.hid (fun W => layNumber_num s W hs)
  have e0 : IntKind.u64.wrap p.kind = p.kind := by rw [IntKind.wrap_u64]; omega
  unfold pageBs bodyOf
  rw [if_neg (by omega), if_pos hk]
  clear hR HRR B1 hk g hs hl
  generalize bodyBranch p = bd at *
  have L1 := Lib.hid (be_len 1 p.kind.toNat)
  have L2 := Lib.hid (num2_len s)
  generalize be 1 p.kind.toNat = t1 at *
  generalize num2 s = t2 at *
  unfold pgV
  unfold pgC at *
  go_enter Try.func21, Try.ntmps21
  go_wp2_with fail
  refine cL.mono ?_
  rintro e w1 ⟨A1, n1, c1, rfl, h1, b1, -⟩
  have d0 := cell_below c0 b1
  have B2 := Lib.hid (HB1.out.trans (b1.mono HB1.out.size))
  have H1 := Lib.hid h1
  clear h1 b1 cL c0
  go_wp2_with fail
  refine (G1.out _).mono ?_
  rintro e w2 ⟨A2, n2, c2, rfl, h2, b2, -⟩
  have B3 := Lib.hid (B2.out.trans (b2.mono B2.out.size))
  have H1 := Lib.hid (H1.out.below b2)
  have H2 := Lib.hid h2
  clear h2 b2 d0
  go_wp2_with fail
  refine (G2.out _).mono ?_
  rintro e w3 ⟨A3, n3, c3, rfl, h3, b3, -⟩
  have B4 := Lib.hid (B3.out.trans (b3.mono B3.out.size))
  have H1 := Lib.hid (H1.out.below b3)
  have H2 := Lib.hid (H2.out.below b3)
  have H3 := Lib.hid h3
  clear h3 b3
  have CJ := Lib.hid (joined_any (some ⟨w3.heap.size, 0, none⟩) 3 3 [(A2, c2, t1), (A3, c3, t2), (A1, c1, bd)] (w3.alloc (.cells #[.slice A2 n2 c2, .slice A3 n3 c3, .slice A1 n1 c1] 30)) rfl (by omega) (lits _ _ _ _ _ (by rw [enc_at H1.out, enc_at H2.out, enc_at H3.out]; rfl)) ((PartsIn.nil _).cons (H1.out.alloc _) |>.cons (H3.out.alloc _) |>.cons (H2.out.alloc _)) (by simp [allOf, L1.out, L2.out]; have := HL.out; omega))
  go_wp2_with fail
  refine CJ.out.mono ?_
  rintro e w4 ⟨A4, n4, c4, rfl, h4, b4, f4⟩
  have B5 := Lib.hid ((B4.out.alloc B4.out.size _).trans (b4.mono (B4.out.alloc B4.out.size _).size))
  have F4 := Lib.hid (fun a ha => Nat.le_trans (B4.out.alloc B4.out.size _).size (f4 a ha))
  have H4 := Lib.hid h4
  clear h4 b4 f4
  go_wp2_with fail
  go_ret
  refine ⟨_, _, _, rfl, ?_, B5.out, F4.out⟩
  have h := H4.out
  simpa [allOf] using h
set_option maxRecDepth 100000 in
theorem layPage3 (s : Int) (p : Pg) (a : Lay) (w : World) (hk : p.kind = 3) (g : FreeOk p) (hR : PgRows w p a) (hs : Nat63 s) : Calls Try.prog 21 #[.int .i64 s, pgV p a] w (Lays (pageBs s p) w) := by
  have k1 : (p.kind == 1) = false := by rw [hk]; rfl
  have k2 : (p.kind == 2) = false := by rw [hk]; rfl
  have k3 : (p.kind == 3) = true := by rw [hk]; rfl
  have k4 : (p.kind == 4) = false := by rw [hk]; rfl
  have B1 : Below w.heap.size w (w.alloc (.cells (pgC p a) 28)) := (Below.refl _ _).alloc (Nat.le_refl _) _
  have HRR := hR.below B1
  have cL := layFree_any p a (w.alloc (.cells (pgC p a) 28)) HRR.r4 g.len (fun x hx => place63 (g.all x hx)) (by rcases g.next with h | h; omega; exact (place63 h).1) (by rcases g.next with h | h; omega; exact (place63 h).2)
  have c0 : (w.alloc (.cells (pgC p a) 28)).cell? ⟨w.heap.size, 0, none⟩ = some (.int .i64 p.kind) := by simp [pgC]
  have HB1 := Lib.hid B1
  have hl : (bodyFree p).length ≤ 902 := by have := free_len g; omega
  have HL := Lib.hid hl
  have G1 := Lib.hid (fun W => lay_one p.kind W (by unfold Nat63; omega))
  have G2 := Lib.hid (fun W => layNumber_num s W hs)
  have e0 : IntKind.u64.wrap p.kind = p.kind := by rw [IntKind.wrap_u64]; omega
  unfold pageBs bodyOf
  rw [if_neg (by omega), if_neg (by omega), if_pos hk]
  clear hR HRR B1 hk g hs hl
  generalize bodyFree p = bd at *
  have L1 := Lib.hid (be_len 1 p.kind.toNat)
  have L2 := Lib.hid (num2_len s)
  generalize be 1 p.kind.toNat = t1 at *
  generalize num2 s = t2 at *
  unfold pgV
  unfold pgC at *
  go_enter Try.func21, Try.ntmps21
  go_wp2_with fail
  refine cL.mono ?_
  rintro e w1 ⟨A1, n1, c1, rfl, h1, b1, -⟩
  have d0 := cell_below c0 b1
  have B2 := Lib.hid (HB1.out.trans (b1.mono HB1.out.size))
  have H1 := Lib.hid h1
  clear h1 b1 cL c0
  go_wp2_with fail
  refine (G1.out _).mono ?_
  rintro e w2 ⟨A2, n2, c2, rfl, h2, b2, -⟩
  have B3 := Lib.hid (B2.out.trans (b2.mono B2.out.size))
  have H1 := Lib.hid (H1.out.below b2)
  have H2 := Lib.hid h2
  clear h2 b2 d0
  go_wp2_with fail
  refine (G2.out _).mono ?_
  rintro e w3 ⟨A3, n3, c3, rfl, h3, b3, -⟩
  have B4 := Lib.hid (B3.out.trans (b3.mono B3.out.size))
  have H1 := Lib.hid (H1.out.below b3)
  have H2 := Lib.hid (H2.out.below b3)
  have H3 := Lib.hid h3
  clear h3 b3
  have CJ := Lib.hid (joined_any (some ⟨w3.heap.size, 0, none⟩) 3 3 [(A2, c2, t1), (A3, c3, t2), (A1, c1, bd)] (w3.alloc (.cells #[.slice A2 n2 c2, .slice A3 n3 c3, .slice A1 n1 c1] 30)) rfl (by omega) (lits _ _ _ _ _ (by rw [enc_at H1.out, enc_at H2.out, enc_at H3.out]; rfl)) ((PartsIn.nil _).cons (H1.out.alloc _) |>.cons (H3.out.alloc _) |>.cons (H2.out.alloc _)) (by simp [allOf, L1.out, L2.out]; have := HL.out; omega))
  go_wp2_with fail
  refine CJ.out.mono ?_
  rintro e w4 ⟨A4, n4, c4, rfl, h4, b4, f4⟩
  have B5 := Lib.hid ((B4.out.alloc B4.out.size _).trans (b4.mono (B4.out.alloc B4.out.size _).size))
  have F4 := Lib.hid (fun a ha => Nat.le_trans (B4.out.alloc B4.out.size _).size (f4 a ha))
  have H4 := Lib.hid h4
  clear h4 b4 f4
  go_wp2_with fail
  go_ret
  refine ⟨_, _, _, rfl, ?_, B5.out, F4.out⟩
  have h := H4.out
  simpa [allOf] using h
set_option maxRecDepth 100000 in
theorem layPage4 (s : Int) (p : Pg) (a : Lay) (w : World) (hk : p.kind = 4) (g : SuperOk p) (hs : Nat63 s) : Calls Try.prog 21 #[.int .i64 s, pgV p a] w (Lays (pageBs s p) w) := by
  have k1 : (p.kind == 1) = false := by rw [hk]; rfl
  have k2 : (p.kind == 2) = false := by rw [hk]; rfl
  have k3 : (p.kind == 3) = false := by rw [hk]; rfl
  have k4 : (p.kind == 4) = true := by rw [hk]; rfl
  have B1 : Below w.heap.size w (w.alloc (.cells (pgC p a) 28)) := (Below.refl _ _).alloc (Nat.le_refl _) _
  have cL := laySuper_any p a (w.alloc (.cells (pgC p a) 28)) (by rcases g.root with h | h; unfold Nat63; omega; exact place63 h) (by have := g.depth; unfold Nat63; omega) (by have := g.count; unfold Nat63; omega) (by have := g.high; unfold Nat63; omega) (by rcases g.next with h | h; unfold Nat63; omega; exact place63 h)
  have c0 : (w.alloc (.cells (pgC p a) 28)).cell? ⟨w.heap.size, 0, none⟩ = some (.int .i64 p.kind) := by simp [pgC]
  have HB1 := Lib.hid B1
  have hl : (bodySuper p).length ≤ 902 := by have := super_len p; omega
  have HL := Lib.hid hl
  have G1 := Lib.hid (fun W => lay_one p.kind W (by unfold Nat63; omega))
  have G2 := Lib.hid (fun W => layNumber_num s W hs)
  have e0 : IntKind.u64.wrap p.kind = p.kind := by rw [IntKind.wrap_u64]; omega
  unfold pageBs bodyOf
  rw [if_neg (by omega), if_neg (by omega), if_neg (by omega)]
  clear B1 hk g hs hl
  generalize bodySuper p = bd at *
  have L1 := Lib.hid (be_len 1 p.kind.toNat)
  have L2 := Lib.hid (num2_len s)
  generalize be 1 p.kind.toNat = t1 at *
  generalize num2 s = t2 at *
  unfold pgV
  unfold pgC at *
  go_enter Try.func21, Try.ntmps21
  go_wp2_with fail
  refine cL.mono ?_
  rintro e w1 ⟨A1, n1, c1, rfl, h1, b1, -⟩
  have d0 := cell_below c0 b1
  have B2 := Lib.hid (HB1.out.trans (b1.mono HB1.out.size))
  have H1 := Lib.hid h1
  clear h1 b1 cL c0
  go_wp2_with fail
  refine (G1.out _).mono ?_
  rintro e w2 ⟨A2, n2, c2, rfl, h2, b2, -⟩
  have B3 := Lib.hid (B2.out.trans (b2.mono B2.out.size))
  have H1 := Lib.hid (H1.out.below b2)
  have H2 := Lib.hid h2
  clear h2 b2 d0
  go_wp2_with fail
  refine (G2.out _).mono ?_
  rintro e w3 ⟨A3, n3, c3, rfl, h3, b3, -⟩
  have B4 := Lib.hid (B3.out.trans (b3.mono B3.out.size))
  have H1 := Lib.hid (H1.out.below b3)
  have H2 := Lib.hid (H2.out.below b3)
  have H3 := Lib.hid h3
  clear h3 b3
  have CJ := Lib.hid (joined_any (some ⟨w3.heap.size, 0, none⟩) 3 3 [(A2, c2, t1), (A3, c3, t2), (A1, c1, bd)] (w3.alloc (.cells #[.slice A2 n2 c2, .slice A3 n3 c3, .slice A1 n1 c1] 30)) rfl (by omega) (lits _ _ _ _ _ (by rw [enc_at H1.out, enc_at H2.out, enc_at H3.out]; rfl)) ((PartsIn.nil _).cons (H1.out.alloc _) |>.cons (H3.out.alloc _) |>.cons (H2.out.alloc _)) (by simp [allOf, L1.out, L2.out]; have := HL.out; omega))
  go_wp2_with fail
  refine CJ.out.mono ?_
  rintro e w4 ⟨A4, n4, c4, rfl, h4, b4, f4⟩
  have B5 := Lib.hid ((B4.out.alloc B4.out.size _).trans (b4.mono (B4.out.alloc B4.out.size _).size))
  have F4 := Lib.hid (fun a ha => Nat.le_trans (B4.out.alloc B4.out.size _).size (f4 a ha))
  have H4 := Lib.hid h4
  clear h4 b4 f4
  go_wp2_with fail
  go_ret
  refine ⟨_, _, _, rfl, ?_, B5.out, F4.out⟩
  have h := H4.out
  simpa [allOf] using h
theorem layPage_any (s : Int) (p : Pg) (a : Lay) (w : World) (h : Fine p) (hR : PgRows w p a) (hs : Nat63 s) : Calls Try.prog 21 #[.int .i64 s, pgV p a] w (Lays (pageBs s p) w) := by
  rcases h with ⟨h, g, _⟩ | ⟨h, g, _⟩ | ⟨h, g, _⟩ | ⟨h, g, _⟩
  · exact layPage1 s p a w h g hR hs
  · exact layPage2 s p a w h g hR hs
  · exact layPage3 s p a w h g hR hs
  · exact layPage4 s p a w h g hs
theorem page_len {s : Int} {p : Pg} (h : Fine p) : (pageBs s p).length ≤ 1016 := by
  have := body_len h
  simp [pageBs, num2_len, be_len]; omega
theorem page_len4 {s : Int} {p : Pg} (h : p.kind = 4) : (pageBs s p).length = 15 := by
  unfold pageBs bodyOf
  rw [if_neg (by omega), if_neg (by omega), if_neg (by omega), List.length_append, List.length_append, super_len, num2_len, be_len]

def zeros (n : Nat) : Bs := List.replicate n 0
theorem pad_len {n : Nat} {l : Bs} (h : l.length ≤ n) : (padTo n l).length = n := by rw [padTo, List.length_append, List.length_replicate]; omega
/-- A page's bytes with their sum. -/
def summedBs (l : Bs) : Bs := padTo 1016 l ++ be 8 (Crc.more 0 (padTo 1016 l))
/-- A superblock's. -/
def doubledBs (ep : Nat) (l : Bs) : Bs := be 8 ep ++ (padTo 496 l ++ (zeros 8 ++ (padTo 496 l ++ (zeros 8 ++ be 8 ep))))
set_option maxRecDepth 100000 in
theorem summed_any (A : Option Addr) (n c : Nat) (l : Bs) (w : World) (h : BytesAt w A n c l) (hn : n ≤ 1016) : Calls Try.prog 23 #[.slice A n c] w (Lays (summedBs l) w) := by
  have cF := fill_to A n c l w h hn
  have hp : (padTo 1016 l).length = 1016 := pad_len (by rw [h.len]; exact hn)
  have HP := Lib.hid hp
  unfold summedBs
  generalize padTo 1016 l = L at *
  clear h hp
  go_enter Try.func23, Try.ntmps23
  go_wp2_with fail
  refine cF.mono ?_
  rintro e w1 ⟨A1, n1, c1, rfl, h1, b1, -⟩
  have H1 := Lib.hid h1
  have B1 := Lib.hid b1
  have hn1 : n1 = 1016 := by rw [← h1.len]; exact HP.out
  subst hn1
  have cS := Crc.sum_any A1 1016 c1 L w1 h1.len (by omega) h1.row
  clear h1 b1 cF
  go_wp2_with fail
  refine cS.mono ?_
  rintro e w2 ⟨rfl, b2⟩
  have H1 := Lib.hid (H1.out.below b2)
  have B2 := Lib.hid (B1.out.trans (b2.mono B1.out.size))
  have hm : Crc.more 0 L < 18446744073709551616 := Crc.more_lt L (by omega)
  generalize Crc.more 0 L = m at *
  have G := Lib.hid (fun W => lay_eight m W hm)
  have L8 := Lib.hid (be_len 8 m)
  generalize be 8 m = T at *
  clear b2 cS
  go_wp2_with fail
  refine (G.out _).mono ?_
  rintro e w3 ⟨A3, n3, c3, rfl, h3, b3, -⟩
  have H1 := Lib.hid (H1.out.below b3)
  have B3 := Lib.hid (B2.out.trans (b3.mono B2.out.size))
  have H3 := Lib.hid h3
  clear h3 b3
  have CJ := Lib.hid (joined_any (some ⟨w3.heap.size, 0, none⟩) 2 2 [(A1, c1, L), (A3, c3, T)] (w3.alloc (.cells #[.slice A1 1016 c1, .slice A3 n3 c3] 30)) rfl (by omega) (lits _ _ _ _ _ (by rw [enc_at H1.out, enc_at H3.out]; rfl)) ((PartsIn.nil _).cons (H3.out.alloc _) |>.cons (H1.out.alloc _)) (by simp [allOf, L8.out, HP.out]))
  go_wp2_with fail
  refine CJ.out.mono ?_
  rintro e w4 ⟨A4, n4, c4, rfl, h4, b4, f4⟩
  have B5 := Lib.hid ((B3.out.alloc B3.out.size _).trans (b4.mono (B3.out.alloc B3.out.size _).size))
  have F4 := Lib.hid (fun a ha => Nat.le_trans (B3.out.alloc B3.out.size _).size (f4 a ha))
  have H4 := Lib.hid h4
  clear h4 b4 f4
  go_wp2_with fail
  go_ret
  refine ⟨_, _, _, rfl, ?_, B5.out, F4.out⟩
  have h := H4.out
  simpa [allOf] using h
/-- A make whose run is known, in a region that draws its order. -/
theorem step_make_eq {P : Program} {ops : Array Oper} {o : Oper} {a : Act} {K : Act → World → Prop} {Q : Exit → Act → World → Prop} {X : Prop} {w w' : World} {v u u' : Value} (hgd : o.guard = none) (l c : Operand) (t : TypeId)
    (ho : o.op = .makeSlice t l c) (hl : a.eval l = u) (hc : a.eval c = u') (hrun : (Instr.makeSlice t u u').run P w = .ok v w')
    (h : K (a.put o.dst v) w') : if Region.wanted o (yielded ops a.tmps) = true then Oper.wp P o a w K Q else X := by
  have hw : Region.wanted o (yielded ops a.tmps) = true := by simp [Region.wanted, hgd]
  rw [if_pos hw]
  unfold Oper.wp
  simp [execOp, ho, hl, hc, hrun, Result.andThen]
  exact h
theorem doubled_join (T L Z : Bs) (h8 : T.length = 8) (hP : L.length = 496) (hZ : Z.length = 8) (W : World) (m : Nat) (hm : W.heap.size = m) (A1 : Option Addr) (n1 c1 : Nat) (A3 : Option Addr) (n3 c3 b : Nat) (H1 : BytesAt W A1 n1 c1 T) (H3 : BytesAt W A3 n3 c3 L) (HZ : BytesAt W (some ⟨b, 0, none⟩) 8 8 Z) :
    Calls Try.prog 48 #[.slice (some ⟨m, 0, none⟩) 6 6] (W.alloc (.cells #[.slice A1 n1 c1, .slice A3 n3 c3, .slice (some ⟨b, 0, none⟩) 8 8, .slice A3 n3 c3, .slice (some ⟨b, 0, none⟩) 8 8, .slice A1 n1 c1] 30)) (Lays (T ++ (L ++ (Z ++ (L ++ (Z ++ T))))) (W.alloc (.cells #[.slice A1 n1 c1, .slice A3 n3 c3, .slice (some ⟨b, 0, none⟩) 8 8, .slice A3 n3 c3, .slice (some ⟨b, 0, none⟩) 8 8, .slice A1 n1 c1] 30))) := by
  subst hm
  have h := joined_any (some ⟨W.heap.size, 0, none⟩) 6 6 [(A1, c1, T), (A3, c3, L), (some ⟨b, 0, none⟩, 8, Z), (A3, c3, L), (some ⟨b, 0, none⟩, 8, Z), (A1, c1, T)] (W.alloc (.cells #[.slice A1 n1 c1, .slice A3 n3 c3, .slice (some ⟨b, 0, none⟩) 8 8, .slice A3 n3 c3, .slice (some ⟨b, 0, none⟩) 8 8, .slice A1 n1 c1] 30)) rfl (by omega)
    (lits _ _ _ _ _ (by rw [enc_at H1, enc_at HZ, enc_at H3]; rfl)) ((PartsIn.nil _).cons (H1.alloc _) |>.cons (HZ.alloc _) |>.cons (H3.alloc _) |>.cons (HZ.alloc _) |>.cons (H3.alloc _) |>.cons (H1.alloc _)) (by simp [allOf, h8, hP, hZ])
  simpa [allOf] using h
end Go.Proofs.Ytiebaeahimeedaa.Page
