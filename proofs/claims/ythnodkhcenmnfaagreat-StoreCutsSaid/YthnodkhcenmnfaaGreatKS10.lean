/-
  Texts of one family, one behind the other: SCutsWalk, SNums.
-/
import Derived.Test.YthnodkhcenmnfaaGreatKS8
import Derived.Test.YthnodkhcenmnfaaGreatKS7
import Derived.Test.YthnodkhcenmnfaaGreatKP8
import Derived.Deep.WholeRow
import Derived.Deep.OwnRows
import Derived.ProofKit
import Derived.OpenShut
import Derived.ChangeOld
import Derived.Below
import Derived.Deep.Slices
namespace Go.Proofs.YthnodkhcenmnfaaGreat.Store
open Go.RowKit Gen
open Disk (St Dev Mod ptr IRow)
open Page (Pg Lay PgOk PgRows pgC pgV Enc IsDec BytesAt strV CallS callC CallIn Script)
open Pool (Po NAt PoAt La poC poV numV At takeP giveP backP Fresh PoolOk OwnI chunks layAll May)

theorem commit_n {d0 d' : St} {t t' : T} {root depth count x : Int} (h : Safe d0 t) (he : t.sup.epoch + 1 < 18446744073709551616) (c : CommitR d0 t root depth count d' t' x) : d'.n = d0.n := by
  rcases commit_ends h.pre he c with ⟨_, s, _⟩ | ⟨_, m, _⟩ | ⟨_, m⟩
  · exact s.n
  · exact m.n
  · exact m.n
set_option maxRecDepth 100000 in
set_option maxHeartbeats 8000000 in
theorem cuts_walk {A A2 : Option Addr} {n c n2 c2 : Nat} {l : List CallS} {ks : List Int} {key : Disk.Bs} (fuse torn cut : Int) (W : World) (hl : l.length = n) (hn : n ≤ 9223372036854775807) (hs : Script W A l) (hkey : key.length ≤ 140737488355328) (hkl : ks.length = n2) (hkn : n2 ≤ 9223372036854775807) (hR : IRow W A2 ks) (hkb : ∀ x ∈ ks, I64 x) (hf : I64 fuse) (ht : I64 torn) (hc : I64 cut) :
    Calls Tryz.prog 5 #[.slice A n c, strV key, .int .i64 fuse, .slice A2 n2 c2, .int .i64 torn, .int .i64 cut] W fun e W' => e = .returned (.bool true) ∧ Below W.heap.size W W' := by
  have HK := Lib.hid (And.intro hkl (And.intro hkn (And.intro hR (And.intro hkb (And.intro hf (And.intro ht hc))))))
  clear hkl hkn hR hkb
  have cA := awake_any W
  have HL := Lib.hid hl
  have HS := Lib.hid hs
  clear hl hs
  go_enter Tryz.func5, Tryz.ntmps5
  go_wp2_with fail
  refine cA.mono ?_
  rintro e w1 ⟨rfl, b1⟩
  have cN : Calls Tryz.prog 10 #[.int .i64 60] w1 _ := Disk.new_dev 60 w1 (by omega) (by omega)
  have B1 := Lib.hid b1
  clear b1 cA
  go_wp2_with fail
  refine cN.mono ?_
  rintro e w2 ⟨rfl, hd, b2⟩
  have cF := format_any hd (by show 2 ≤ 60; omega)
  have B2 := Lib.hid (B1.out.trans (b2.mono B1.out.size))
  clear b2 hd cN
  go_wp2_with fail
  refine cF.mono ?_
  rintro e w3 ⟨d1, t1, x, hc, m3, hx⟩
  obtain ⟨rfl, rfl, sf1, cm1, n1⟩ := format_ok (n := 60) (by omega) (by omega) hc
  rcases hx with ⟨hx, -⟩ | ⟨-, B, rfl, g1, g2, g3, g4, g5, hs⟩
  · exact absurd rfl hx
  have R3 := Lib.hid (show Run W B 1 w3 from ⟨d1, _, ⟨hs, B2.out.trans (m3.below B2.out.size (fun k hk => by have := B1.out.size; simp at hk; omega)), fun k hk => by
    have := B1.out.size
    have := B2.out.size
    simp only [Blk.all, List.mem_cons, List.not_mem_nil, or_false] at hk
    omega⟩, ⟨sf1, cm1, n1, by show (0 + 1) % 18446744073709551616 ≤ 1; omega⟩⟩)
  have G1 := Lib.hid g1
  clear hc m3 sf1 cm1 n1 g1 g2 g3 g4 g5 hs cF B2 B1
  by_cases h500 : (500 : Int) < (n2 : Int)
  · have FIN := Lib.hid (show Below W.heap.size W w3 from by obtain ⟨d, t, s, g⟩ := R3.out; exact s.below)
    clear R3
    go_wp2_with fail
    go_ret
    exact ⟨rfl, FIN.out⟩
  have cW := done_walk (c := c) R3.out HL.out hn HS.out
  clear R3
  go_wp2_with fail
  refine cW.mono ?_
  rintro e w4 ⟨rfl, d4, t4, s4, G4⟩
  obtain ⟨a4, st4⟩ := s4.has
  have cB := abort_any st4
  have S4 := Lib.hid s4
  have HG4 := Lib.hid G4.abort
  clear s4 G4 st4 cW
  go_wp2_with fail
  refine cB.mono ?_
  rintro e w5 ⟨rfl, h5, m5⟩
  have S5 := Lib.hid (S4.out.mod h5 m5)
  obtain ⟨a5, st5⟩ := h5
  have s5off : ∀ {c : La}, Fresh w5.heap.size c → OffP B.all c := fun h => st5.offP (Nat.le_refl _) h
  have cS := super_any st5
  have RS := Lib.hid (And.intro st5.bare st5.ok)
  obtain ⟨y5, hy5⟩ : ∃ y, a5.s = y := ⟨_, rfl⟩
  rw [hy5] at cS
  clear st5 m5 cB S4 s5off hy5
  obtain ⟨t5, ht5⟩ : ∃ t, abortT t4 = t := ⟨_, rfl⟩
  rw [ht5] at S5 HG4 cS RS
  clear ht5
  go_wp2_with fail
  refine cS.mono ?_
  rintro e w6 ⟨rfl, b6⟩
  have PP := Lib.hid (put_page w6 t5.sup y5)
  have b7 := Pool.below_box w6 (.cells (pgC t5.sup y5) 37)
  have A7 := Lib.hid (at_new w6 (pgC t5.sup y5) 37)
  have S7 := Lib.hid (S5.out.quiet (b6.trans (b7.mono b6.size)))
  have LT := Lib.hid (show ∀ x ∈ B.all, x < w6.heap.size from fun x hx => by
    obtain ⟨a, s⟩ := S5.out.has
    exact Nat.lt_of_lt_of_le (s.lt x hx) b6.size)
  obtain ⟨W7, hW7⟩ : ∃ W7, w6.alloc (.cells (pgC t5.sup y5) 37) = W7 := ⟨_, rfl⟩
  rw [hW7] at PP A7 S7
  have cL := leaf_any (107 :: key) W7
  have hsum : ¬ (({ data := #[107] } : ByteArray).size + (Page.strB key).size > 9223372036854775807) := by
    have e1 : ({ data := #[107] } : ByteArray).size = 1 := rfl
    rw [e1, Page.strB_size]; omega
  have hadd : ({ data := #[107] } : ByteArray) ++ Page.strB key = Page.strB (107 :: key) := by
    rw [show ({ data := #[107] } : ByteArray) = ⟨([107] : List UInt8).toArray⟩ from rfl, Page.strB, ByteArray.mk_append_mk]; rfl
  clear b6 b7 hW7 cS S5
  go_wp2_with (first | ((with_reducible refine Disk.wpList_store_eq rfl 37 (.tmp 18) (.tmp 55) rfl _ _ ?_ ?_ PP.out ?_); (next => rfl); (next => rfl)))
  refine cL.mono ?_
  rintro e v1 ⟨rfl, hr, b1⟩
  have cY := lay_leaf S7.out hr b1 0 ⟨by omega, by omega⟩
  have S8 := Lib.hid (S7.out.quiet b1)
  have A8 := Lib.hid (A7.out.below b1 (by have := A7.out.1; exact this))
  clear hr b1 cL S7 A7
  go_wp2_with fail
  refine cY.mono ?_
  rintro e v2 ⟨d2, t2, n0, x2, rfl, hl2, hs2, m2⟩
  have S9 := Lib.hid (S8.out.mod hs2 m2)
  have A9 := Lib.hid (at_mod A8.out m2 (fun e => by have := LT.out _ e; omega))
  have G2 := Lib.hid (HG4.out.lay hl2)
  have Z2 := Lib.hid (fun e => lay_zero HG4.out hl2 e)
  have HP := Lib.hid (HG4.out.safe.pre.refl.lay HG4.out.safe.pre hl2).part.sup
  clear hs2 m2 cY S8 A8
  by_cases hx : x2 = 0
  rotate_left
  · have FIN := Lib.hid S9.out.below
    clear S9 A9 G2 Z2
    go_wp2_with fail
    go_ret
    exact ⟨rfl, FIN.out⟩
  have ZZ := Lib.hid (Z2.out hx)
  subst hx
  have hN0 : I64 n0 := by obtain ⟨_, z0, z1, _⟩ := ZZ.out; exact ⟨by omega, by omega⟩
  have cU := S9.out.fuse fuse HK.out.2.2.2.2.1.2
  rw [show ptr B.sb = ptr (w1.heap.size + 2) from by rw [G1.out]] at cU
  clear Z2
  go_wp2_with fail
  refine cU.mono ?_
  rintro e v3 ⟨rfl, s3, m3⟩
  have A10 := Lib.hid (at_mod A9.out m3 (fun e => by have := LT.out _ e; omega))
  obtain ⟨a3, st3⟩ := s3.has
  have cC := commit_any st3 n0 1 1 hN0 ⟨by omega, by omega⟩ ⟨by omega, by omega⟩ G2.out.few.1 G2.out.few.2
  have S10 := Lib.hid s3
  clear s3 st3 m3 cU A9 S9
  go_wp2_with fail
  refine cC.mono ?_
  rintro e v4 ⟨d4', t4', x4, rfl, hc4, hs4, m4⟩
  have S11 := Lib.hid (S10.out.mod hs4 m4)
  have A11 := Lib.hid (at_mod A10.out m4 (fun e => by have := LT.out _ e; omega))
  have HC4 := Lib.hid hc4
  clear hs4 m4 hc4 cC S10 A10
  have cR := S11.out.restart A2 n2 c2 torn cut ks HK.out.1 HK.out.2.1 HK.out.2.2.1 HK.out.2.2.2.1 HK.out.2.2.2.2.2.1
  rw [show ptr B.sb = ptr (w1.heap.size + 2) from by rw [G1.out]] at cR
  go_wp2_with fail
  refine cR.mono ?_
  rintro e v5 ⟨rfl, s5, m5⟩
  have S12 := Lib.hid s5
  have A12 := Lib.hid (at_mod A11.out m5 (fun e => by have := LT.out _ e; omega))
  have CE := Lib.hid (cut_ends (G2.out.safe.fuse fuse) (by have := G2.out.ep; omega) HC4.out ks torn cut)
  clear s5 m5 cR S11 A11
  obtain ⟨D, hD⟩ : ∃ D, d4'.restart ks torn cut = D := ⟨_, rfl⟩
  have HD := Lib.hid (show D.off = false ∧ D.n = 60 from by rw [← hD]; exact ⟨rfl, by rw [restart_n, commit_n (G2.out.safe.fuse fuse) (by have := G2.out.ep; show _ + 1 < _; omega) HC4.out]; exact G2.out.n⟩)
  rw [hD] at CE S12
  clear hD
  have S12' := S12.out
  have A12' := A12.out
  clear S12 A12
  obtain ⟨a12, st12⟩ := S12'.has
  have FIN5 := Lib.hid S12'.below
  clear S12'
  obtain ⟨sO, wO, bO, hH, hcase⟩ : ∃ sO wO bO, Holds D.n D.get sO wO bO ∧ ((sO = t5.sup ∧ x4 ≠ 0) ∨ (sO.epoch = t5.sup.epoch + 1 ∧ sO.root = n0 ∧ Enc n0 (leafP (107 :: key)) (D.get n0) ∧ 2 ≤ n0 ∧ n0 < 60)) := by
    rcases CE.out with ⟨hx4, hH⟩ | ⟨pN, ownN, baseN, e1, e2, hH, hF⟩
    · exact ⟨_, _, _, hH, .inl ⟨HP.out, hx4⟩⟩
    · obtain ⟨z0, z1, z2, z3⟩ := ZZ.out
      exact ⟨_, _, _, hH, .inr ⟨by rw [e1, HP.out], e2, by rw [hF _ z0]; exact z3, z1, z2⟩⟩
  have HE5 := Lib.hid HG4.out.ep
  have cO := open_any st12.dev hH HD.out.1
  rw [show ptr B.sb = ptr (w1.heap.size + 2) from by rw [G1.out]] at cO
  have HCS := Lib.hid hcase
  clear hH hcase CE ZZ HP HC4 st12 HS HL HK
  go_wp2_with fail
  refine cO.mono ?_
  rintro e v6 ⟨B2, a6, rfl, -, -, -, -, -, st6, bb6⟩
  have A13 := Lib.hid (A12'.below bb6 A12'.1)
  have FIN6 := Lib.hid (FIN5.out.trans (bb6.mono FIN5.out.size))
  have ST6 := Lib.hid st6
  have KC := Lib.hid (Page.pg_keep v6 t5.sup y5 A13.out)
  have CSU := Lib.hid (fun V (hV : Below v6.heap.size v6 V) => show Calls Tryz.prog 14 #[ptr B2.ss] V (fun e w' => e = .returned (pgV sO a6.s) ∧ Below V.heap.size V w') from super_any (ST6.out.below hV))
  have CSA := Lib.hid (fun V => Page.same_any sO t5.sup a6.s y5 V ST6.out.ok (ST6.out.bare.rows V a6.s) (RS.out.1.rows V y5))
  have HBD := Lib.hid (Below.refl v6.heap.size v6).drew
  have K0 := Lib.hid (KC.out _ HBD.out)
  clear st6 bb6 cO A12' FIN5
  go_wp2_with fail
  go_region_held3 (fun w' => w'.cell? ⟨w6.heap.size, 0, none⟩ = some (.int .i64 t5.sup.kind) ∧ w'.cell? ⟨w6.heap.size, 1, none⟩ = some (.slice y5.A1 t5.sup.pairs.length y5.c1) ∧ w'.cell? ⟨w6.heap.size, 2, none⟩ = some (.slice y5.A2 t5.sup.keys.length y5.c2) ∧ w'.cell? ⟨w6.heap.size, 3, none⟩ = some (.slice y5.A3 t5.sup.kids.length y5.c3) ∧ w'.cell? ⟨w6.heap.size, 4, none⟩ = some (.slice y5.A4 t5.sup.pages.length y5.c4) ∧ w'.cell? ⟨w6.heap.size, 5, none⟩ = some (.int .i64 t5.sup.next) ∧ w'.cell? ⟨w6.heap.size, 6, none⟩ = some (.int .u64 (t5.sup.epoch : Int)) ∧ w'.cell? ⟨w6.heap.size, 7, none⟩ = some (.int .i64 t5.sup.root) ∧ w'.cell? ⟨w6.heap.size, 8, none⟩ = some (.int .i64 t5.sup.depth) ∧ w'.cell? ⟨w6.heap.size, 9, none⟩ = some (.int .i64 t5.sup.count) ∧ w'.cell? ⟨w6.heap.size, 10, none⟩ = some (.int .i64 t5.sup.high))
    (with_reducible (first | exact K0.out | exact K1.out | exact K2.out))
    (first
      | (go_at_call 14; (with_reducible refine (CSU.out _ HBD.out).mono ?_); rintro e v7 ⟨rfl, hb⟩
         have RB1 := Lib.hid (HBD.out.trans (hb.mono HBD.out.size)); have K1 := Lib.hid (KC.out _ RB1.out); clear hb)
      | (go_at_call 24; (with_reducible refine (CSA.out _).mono ?_); rintro e v8 ⟨r, rfl, hr, hb⟩
         have RB2 := Lib.hid (RB1.out.trans (hb.mono RB1.out.size)); have K2 := Lib.hid (KC.out _ RB2.out); have HR := Lib.hid hr; clear hr hb))
  have hwe : IntKind.u64.wrap ((t5.sup.epoch : Int) + 1) = (t5.sup.epoch : Int) + 1 := IntWalk.u64_in _ (by have := HE5.out; omega)
  have HB8 := Lib.hid RB2.out.drew
  have c6 : Hid (v8.drew.cell? ⟨w6.heap.size, 6, none⟩ = some (.int .u64 (t5.sup.epoch : Int))) := Lib.hid (KC.out _ HB8.out).2.2.2.2.2.2.1
  have HB9 := Lib.hid (Below.refl v8.heap.size v8).drew
  have CSV := Lib.hid (fun V (hV : Below v8.heap.size v8 V) => CSU.out V (RB2.out.trans (hV.mono RB2.out.size)))
  have KD := Lib.hid (fun V (hV : Below v8.heap.size v8 V) => (KC.out V (RB2.out.trans (hV.mono RB2.out.size))).2.2.2.2.2.2.1)
  clear K0 K1 K2 RB1
  rcases HCS.out with ⟨hsO, hx4⟩ | ⟨q1, q2, q3, q4, q5⟩
  · have hne : ((sO.epoch : Int) == (t5.sup.epoch : Int) + 1) = false := beq_eq_false_iff_ne.2 (by rw [hsO]; omega)
    have hr1 : r = true := HR.out.2 hsO
    subst hr1
    clear hsO
    have hx6 : (x4 != 0) = true := by simp [hx4]
    have hx5 : (x4 == 0) = false := beq_eq_false_iff_ne.2 hx4
    have hfe := field_epoch sO a6.s
    clear KC CSU CSA HBD hx4
    obtain ⟨Eo, hEo⟩ : ∃ Eo, (sO.epoch : Int) = Eo := ⟨_, rfl⟩
    obtain ⟨Ew, hEw⟩ : ∃ Ew, (t5.sup.epoch : Int) = Ew := ⟨_, rfl⟩
    rw [hEw] at hwe c6 hne KD
    rw [hEo] at hne hfe
    clear hEo hEw
    go_wp2_with fail
    refine wp_region_held (S := (fun w' => w'.cell? ⟨w6.heap.size, 6, none⟩ = some (.int .u64 Ew))) (by kernel_rfl) ?_
    change wpAnyH _ _ _ _ _ _ _ _ v8.drew
    have hSR := c6.out
    refine wpAnyH_take (i := 0) (v := ?_) rfl (by kernel_rfl) (by kernel_rfl) (by kernel_rfl) (fun _ _ _ h => h) (Or.inl ⟨by kernel_rfl, ?_⟩) hSR ?_
    rotate_left
    · (intro w' hSw; (try dsimp only at hSw); go_simp; (try with_reducible rfl))
    (try simp only [List.getElem_toArray]); (try simp only [List.getElem_cons_succ]); (try simp only [List.getElem_cons_zero]); (try simp only [Act.put]); (try simp only [List.setIfInBounds_toArray]); (try simp only [List.set_cons_succ]); (try simp only [List.set_cons_zero])
    refine wpAnyH_take (i := 3) (v := ?_) rfl (by kernel_rfl) (by kernel_rfl) (by kernel_rfl) (fun _ _ _ h => h) (Or.inl ⟨by kernel_rfl, ?_⟩) hSR ?_
    rotate_left
    · (intro w' hSw; (try dsimp only at hSw); go_simp; (try with_reducible rfl))
    (try simp only [List.getElem_toArray]); (try simp only [List.getElem_cons_succ]); (try simp only [List.getElem_cons_zero]); (try simp only [Act.put]); (try simp only [List.setIfInBounds_toArray]); (try simp only [List.set_cons_succ]); (try simp only [List.set_cons_zero])
    refine wpAnyH_take (i := 4) (v := ?_) rfl (by kernel_rfl) (by kernel_rfl) (by kernel_rfl) (fun _ _ _ h => h) (Or.inl ⟨by kernel_rfl, ?_⟩) hSR ?_
    rotate_left
    · (intro w' hSw; (try dsimp only at hSw); go_simp; (try with_reducible rfl))
    (try simp only [List.getElem_toArray]); (try simp only [List.getElem_cons_succ]); (try simp only [List.getElem_cons_zero]); (try simp only [Act.put]); (try simp only [List.setIfInBounds_toArray]); (try simp only [List.set_cons_succ]); (try simp only [List.set_cons_zero])
    refine wpAnyH_take (i := 5) (v := ?_) rfl (by kernel_rfl) (by kernel_rfl) (by kernel_rfl) (fun _ _ _ h => h) (Or.inl ⟨by kernel_rfl, ?_⟩) hSR ?_
    rotate_left
    · (intro w' hSw; (try dsimp only at hSw); go_simp; (try with_reducible rfl))
    (try simp only [List.getElem_toArray]); (try simp only [List.getElem_cons_succ]); (try simp only [List.getElem_cons_zero]); (try simp only [Act.put]); (try simp only [List.setIfInBounds_toArray]); (try simp only [List.set_cons_succ]); (try simp only [List.set_cons_zero])
    refine wpAnyH_ready (rs := [1]) (by kernel_rfl) (by simp) (AllReadyH.cons rfl (fun K hK => ?_) AllReadyH.nil)
    go_simp
    refine (CSV.out _ HB9.out).mono ?_
    rintro e v9 ⟨rfl, hb⟩
    have RB3 := Lib.hid (HB9.out.trans (hb.mono HB9.out.size))
    have L1 := Lib.hid (KD.out _ RB3.out)
    clear hb
    refine hK.out _ _ L1.out (fun hSR => ?_)
    clear hK K
    (try simp only [List.getElem_toArray]); (try simp only [List.getElem_cons_succ]); (try simp only [List.getElem_cons_zero]); (try simp only [Act.put]); (try simp only [List.setIfInBounds_toArray]); (try simp only [List.set_cons_succ]); (try simp only [List.set_cons_zero])
    refine wpAnyH_take (i := 2) (v := ?_) rfl (by kernel_rfl) (by kernel_rfl) (by kernel_rfl) (fun _ _ _ h => h) (Or.inl ⟨by kernel_rfl, ?_⟩) hSR ?_
    rotate_left
    · (intro w' hSw; (try dsimp only at hSw); go_simp; (try with_reducible rfl))
    (try simp only [List.getElem_toArray]); (try simp only [List.getElem_cons_succ]); (try simp only [List.getElem_cons_zero]); (try simp only [Act.put]); (try simp only [List.setIfInBounds_toArray]); (try simp only [List.set_cons_succ]); (try simp only [List.set_cons_zero])
    refine wpAnyH_take (i := 6) (v := ?_) rfl (by kernel_rfl) (by kernel_rfl) (by kernel_rfl) (fun _ _ _ h => h) (Or.inl ⟨by kernel_rfl, ?_⟩) hSR ?_
    rotate_left
    · (intro w' hSw; (try dsimp only at hSw); go_simp; (try with_reducible rfl))
    (try simp only [List.getElem_toArray]); (try simp only [List.getElem_cons_succ]); (try simp only [List.getElem_cons_zero]); (try simp only [Act.put]); (try simp only [List.setIfInBounds_toArray]); (try simp only [List.set_cons_succ]); (try simp only [List.set_cons_zero])
    refine wpAnyH_take (i := 7) (v := ?_) rfl (by kernel_rfl) (by kernel_rfl) (by kernel_rfl) (fun _ _ _ h => h) (Or.inl ⟨by kernel_rfl, ?_⟩) hSR ?_
    rotate_left
    · (intro w' hSw; (try dsimp only at hSw); go_simp; (try with_reducible rfl))
    (try simp only [List.getElem_toArray]); (try simp only [List.getElem_cons_succ]); (try simp only [List.getElem_cons_zero]); (try simp only [Act.put]); (try simp only [List.setIfInBounds_toArray]); (try simp only [List.set_cons_succ]); (try simp only [List.set_cons_zero])
    refine wpAnyH_take (i := 8) (v := undef) rfl (by kernel_rfl) (by kernel_rfl) (by kernel_rfl) (fun _ _ _ h => h) (Or.inr ⟨by kernel_rfl, rfl⟩) hSR ?_
    (try simp only [List.getElem_toArray]); (try simp only [List.getElem_cons_succ]); (try simp only [List.getElem_cons_zero]); (try simp only [Act.put]); (try simp only [List.setIfInBounds_toArray]); (try simp only [List.set_cons_succ]); (try simp only [List.set_cons_zero])
    refine wpAnyH_take (i := 9) (v := undef) rfl (by kernel_rfl) (by kernel_rfl) (by kernel_rfl) (fun _ _ _ h => h) (Or.inr ⟨by kernel_rfl, rfl⟩) hSR ?_
    (try simp only [List.getElem_toArray]); (try simp only [List.getElem_cons_succ]); (try simp only [List.getElem_cons_zero]); (try simp only [Act.put]); (try simp only [List.setIfInBounds_toArray]); (try simp only [List.set_cons_succ]); (try simp only [List.set_cons_zero])
    refine wpAnyH_take (i := 10) (v := undef) rfl (by kernel_rfl) (by kernel_rfl) (by kernel_rfl) (fun _ _ _ h => h) (Or.inr ⟨by kernel_rfl, rfl⟩) hSR ?_
    (try simp only [List.getElem_toArray]); (try simp only [List.getElem_cons_succ]); (try simp only [List.getElem_cons_zero]); (try simp only [Act.put]); (try simp only [List.setIfInBounds_toArray]); (try simp only [List.set_cons_succ]); (try simp only [List.set_cons_zero])
    refine wpAnyH_take (i := 11) (v := undef) rfl (by kernel_rfl) (by kernel_rfl) (by kernel_rfl) (fun _ _ _ h => h) (Or.inr ⟨by kernel_rfl, rfl⟩) hSR ?_
    (try simp only [List.getElem_toArray]); (try simp only [List.getElem_cons_succ]); (try simp only [List.getElem_cons_zero]); (try simp only [Act.put]); (try simp only [List.setIfInBounds_toArray]); (try simp only [List.set_cons_succ]); (try simp only [List.set_cons_zero])
    refine wpAnyH_take (i := 12) (v := undef) rfl (by kernel_rfl) (by kernel_rfl) (by kernel_rfl) (fun _ _ _ h => h) (Or.inr ⟨by kernel_rfl, rfl⟩) hSR ?_
    (try simp only [List.getElem_toArray]); (try simp only [List.getElem_cons_succ]); (try simp only [List.getElem_cons_zero]); (try simp only [Act.put]); (try simp only [List.setIfInBounds_toArray]); (try simp only [List.set_cons_succ]); (try simp only [List.set_cons_zero])
    refine wpAnyH_take (i := 13) (v := ?_) rfl (by kernel_rfl) (by kernel_rfl) (by kernel_rfl) (fun _ _ _ h => h) (Or.inl ⟨by kernel_rfl, ?_⟩) hSR ?_
    rotate_left
    · (intro w' hSw; (try dsimp only at hSw); go_simp; (try with_reducible rfl))
    (try simp only [List.getElem_toArray]); (try simp only [List.getElem_cons_succ]); (try simp only [List.getElem_cons_zero]); (try simp only [Act.put]); (try simp only [List.setIfInBounds_toArray]); (try simp only [List.set_cons_succ]); (try simp only [List.set_cons_zero])
    refine wpAnyH_take (i := 14) (v := ?_) rfl (by kernel_rfl) (by kernel_rfl) (by kernel_rfl) (fun _ _ _ h => h) (Or.inl ⟨by kernel_rfl, ?_⟩) hSR ?_
    rotate_left
    · (intro w' hSw; (try dsimp only at hSw); go_simp; (try with_reducible rfl))
    (try simp only [List.getElem_toArray]); (try simp only [List.getElem_cons_succ]); (try simp only [List.getElem_cons_zero]); (try simp only [Act.put]); (try simp only [List.setIfInBounds_toArray]); (try simp only [List.set_cons_succ]); (try simp only [List.set_cons_zero])
    refine wpAnyH_done (by kernel_rfl) ?_ _
    have FIN9 := Lib.hid (FIN6.out.trans ((RB2.out.trans (RB3.out.mono RB2.out.size)).mono FIN6.out.size))
    clear CSV KD hSR c6 L1
    go_wp2_with fail
    go_ret
    exact ⟨rfl, FIN9.out⟩
  · have hne : ((sO.epoch : Int) == (t5.sup.epoch : Int) + 1) = true := beq_iff_eq.2 (by rw [q1]; omega)
    have hne2 : decide ((sO.epoch : Int) = (t5.sup.epoch : Int) + 1) = true := decide_eq_true (by rw [q1]; omega)
    have hrt : (sO.root == n0) = true := beq_iff_eq.2 q2
    have hfe := field_epoch sO a6.s
    have hfr := field_root sO a6.s
    go_wp2_with fail
    go_region_held3 (fun w' => w'.cell? ⟨w6.heap.size, 6, none⟩ = some (.int .u64 (t5.sup.epoch : Int)))
      (with_reducible (first | exact c6.out | exact L1.out | exact L2.out))
      (first
        | (go_at_call 14; (with_reducible refine (CSV.out _ HB9.out).mono ?_); rintro e v9 ⟨rfl, hb⟩
           have RB3 := Lib.hid (HB9.out.trans (hb.mono HB9.out.size)); have L1 := Lib.hid (KD.out _ RB3.out); clear hb)
        | (go_at_call 14; (with_reducible refine (CSV.out _ RB3.out).mono ?_); rintro e v10 ⟨rfl, hb⟩
           have RB4 := Lib.hid (RB3.out.trans (hb.mono RB3.out.size)); have L2 := Lib.hid (KD.out _ RB4.out); clear hb))
    have RB6 := Lib.hid (RB2.out.trans (RB4.out.mono RB2.out.size))
    have ST10 := ST6.out.below RB6.out
    have rd := on_read HD.out.1 (x := n0) (by omega) (by rw [HD.out.2]; omega)
    have cPg := page_any ST10 n0
    have HQ3 := Lib.hid q3
    have FIN9 := Lib.hid (FIN6.out.trans (RB6.out.mono FIN6.out.size))
    clear CSV KD KC CSU CSA HBD RB2 RB3 RB4 RB6 L1 L2 c6 q1 q2 q3 q4 q5 hwe hne hne2 hrt hfe hfr HCS ST10
    go_wp2_with fail
    refine cPg.mono ?_
    rintro e v11 ⟨b11, ⟨hne, -⟩ | ⟨-, ⟨p, y, rfl, hrow, hok, hdec, hk, hnew⟩ | ⟨rfl, hno⟩⟩⟩
    · exact absurd rd.1 hne
    rotate_left
    · exact absurd (hno _ (by rw [rd.2]; exact Page.dec_of_enc HQ3.out (by show 0 < _; omega))) (by show ¬ (1 : Int) = 4; omega)
    obtain rfl : p = leafP (107 :: key) := Page.dec_fun hdec (by rw [rd.2]; exact Page.dec_of_enc HQ3.out (by show 0 < _; omega))
    have P11 := Lib.hid (put_page v11 (leafP (107 :: key)) y)
    have b12 := Pool.below_box v11 (.cells (pgC (leafP (107 :: key)) y) 37)
    have A12 := at_new v11 (pgC (leafP (107 :: key)) y) 37
    have R12 := hrow.r1.below b12
    have FIN12 := Lib.hid (FIN9.out.trans ((b11.trans (b12.mono b11.size)).mono FIN9.out.size))
    obtain ⟨W12, hW12⟩ : ∃ W, v11.alloc (.cells (pgC (leafP (107 :: key)) y) 37) = W := ⟨_, rfl⟩
    rw [hW12] at P11 A12 R12 FIN12
    obtain ⟨b, off, ey, hbl, hcr⟩ := R12 (by simp [leafP])
    have q1 : W12.cell? ⟨v11.heap.size, 1, none⟩ = some (.slice y.A1 1 y.c1) := A12.2.2 1 _ rfl
    have q0 := (hcr 0 (by simp [leafP])).1
    have q0' : W12.cell? ⟨b, off, none⟩ = some (.string (Page.strB (107 :: key))) := by rw [show off + 0 * 2 = off by omega] at q0; exact q0
    rw [ey] at q1
    rw [← hadd] at q0'
    clear b11 b12 A12 R12 hW12 hrow hok hdec hk hnew cPg rd HQ3 FIN9 FIN6 q0 hcr ey hadd
    obtain ⟨KK, hKK⟩ : ∃ KK, ({ data := #[107] } : ByteArray) ++ Page.strB key = KK := ⟨_, rfl⟩
    rw [hKK] at q0'
    go_wp2_with (first | ((with_reducible refine Disk.wpList_store_eq rfl 37 (.tmp 26) (.tmp 111) rfl _ _ ?_ ?_ P11.out ?_); (next => rfl); (next => rfl)))
    go_ret
    exact ⟨rfl, FIN12.out⟩
end Go.Proofs.YthnodkhcenmnfaaGreat.Store
namespace Go.Proofs.YthnodkhcenmnfaaGreat.Nums
open Go.ChangeShapes Go.WideShapes Go.ChangeAt Go.WideMaps Go.WideElems Go.RowKit Go.Deep Gen
open Disk (IRow)
section
variable {H : Type} {enc : TypeId × Value → H} {W : World} {fuel : Nat} {cs : List Value} {x : DataW H × List MemPlace}
set_option maxRecDepth 100000 in
theorem open_ints1 (hf : DataW.trod enc Tryz.prog W 0 (fun _ => true) true fuel 34 cs = some x) : ∃ (A : Option Addr) (c : Nat) (l : List Int), cs = [.slice A l.length c] ∧ l.length ≤ c ∧ c ≤ maxLen ∧ (A = none → c = 0) ∧ IRow W A l ∧ ∀ z ∈ l, -9223372036854775808 ≤ z ∧ z ≤ 9223372036854775807 := by
  rcases open_ints Tryz.underlying34 Tryz.underlying3 (by kernel_rfl) hf with ⟨rfl, _⟩ | ⟨x, len, cap, zs, rfl, _, hl, hm, hz, _, hcell, hwz⟩
  · exact ⟨none, 0, [], rfl, Nat.le_refl _, Nat.zero_le _, fun _ => rfl, fun h => absurd rfl h, fun z h => by cases h⟩
  · have hz' : zs.length = cap := by simpa using hz
    have hlen : (zs.take len).length = len := by rw [List.length_take]; omega
    refine ⟨some x, cap, zs.take len, by rw [hlen], by omega, hm, fun h => (by cases h), fun hne => ?_, fun z hz => bounds_i64 (hwz z (List.mem_of_mem_take hz))⟩
    have hl0 : 0 < len := by
      rcases Nat.eq_zero_or_pos len with h0 | h0
      · subst h0; simp at hne
      · exact h0
    obtain ⟨b, off, spot⟩ := x
    have hspot : spot = none := by simpa [Addr.add] using World.cell?_spot (hcell 0 (by omega))
    subst hspot
    have hadd : ∀ j, (⟨b, off, none⟩ : Addr).add j = ⟨b, off + j, none⟩ := fun j => by unfold Addr.add; split <;> simp_all
    refine ⟨b, off, rfl, ?_, fun k hk => ?_⟩
    · have h0 := hcell 0 (by omega)
      rw [hadd] at h0
      exact block_lt_of_cell h0
    · rw [hlen] at hk
      have h1 := hcell k (by omega)
      rw [hadd] at h1
      rw [h1]
      have hk' : k < zs.length := by omega
      simp only [List.getElem_take, List.getD_eq_getElem?_getD, List.getElem?_eq_getElem hk', Option.getD_some]
end
set_option maxRecDepth 100000 in
theorem open_numbers {H : Type} {enc : TypeId × Value → H} {W : World} {base : Nat} {v : Value} {d : DataW H} {ps : List MemPlace} (hval : Value.okWide Tryz.prog W .any base 34 v)
    (h : DataW.Trod enc Tryz.prog W 0 (fun _ => true) true 34 v d ps) : ∃ (A : Option Addr) (n c : Nat) (l : List Int), v = .slice A n c ∧ l.length = n ∧ n ≤ c ∧ c ≤ maxLen ∧ IRow W A l ∧ ∀ z ∈ l, -9223372036854775808 ≤ z ∧ z ≤ 9223372036854775807 := by
  obtain ⟨a0, len, cap, rfl⟩ := okWide_slice Tryz.underlying34 hval
  obtain ⟨fuel, hf⟩ := h
  obtain ⟨A, c, l, e, h1, h2, _, h4, h5⟩ := open_ints1 hf
  simp [Value.cells] at e
  obtain ⟨rfl, rfl, rfl⟩ := e
  exact ⟨_, _, _, l, rfl, rfl, h1, h2, h4, h5⟩
end Go.Proofs.YthnodkhcenmnfaaGreat.Nums
