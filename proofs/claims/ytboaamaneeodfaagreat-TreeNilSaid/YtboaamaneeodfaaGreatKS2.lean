/-
  Texts of one family, one behind the other: SPage, SPlace, SLay, STold, STold2.
-/
import Derived.Test.YtboaamaneeodfaaGreatKS1
namespace Go.Proofs.YtboaamaneeodfaaGreat.Store
open Go.RowKit Gen
open Disk (St Dev Mod ptr)
open Page (Pg Lay PgOk PgRows pgC pgV Enc IsDec BytesAt)
open Pool (Po NAt PoAt La poC poV numV At takeP giveP backP Fresh PoolOk)

/-- Bytes lie apart from a device. -/
theorem dev_no_bytes {w : World} {sb bl bc : Nat} {s : St} (h : Dev w sb bl bc s) {b off : Nat} {v : Value} (hc : w.cell? ⟨b, off, none⟩ = some v) (hv : ∀ n, v ≠ .int .i64 n) (hm : ∀ m, v ≠ .map m) (hb : ∀ x, v ≠ .bool x) : b ≠ sb ∧ b ≠ bl ∧ b ≠ bc := by
  refine ⟨fun e => ?_, fun e => ?_, fun e => ?_⟩
  · subst e
    rw [cell_of_row w b off _ _ _ h.box] at hc
    match off, hc with
    | 0, hc => cases hc; exact hv _ rfl
    | 1, hc => cases hc; exact hm _ rfl
    | 2, hc => cases hc; exact hm _ rfl
    | 3, hc => cases hc; exact hb _ rfl
    | 4, hc => cases hc; exact hb _ rfl
    | 5, hc => cases hc; exact hv _ rfl
    | k + 6, hc => simp at hc
  · subst e
    obtain ⟨es, c, hh⟩ := h.last.isMap
    simp [World.cell?, hh] at hc
  · subst e
    obtain ⟨es, c, hh⟩ := h.cache.isMap
    simp [World.cell?, hh] at hc
theorem bytes_apart {w : World} {sb bl bc : Nat} {s : St} (h : Dev w sb bl bc s) {A : Option Addr} {n c : Nat} {l : Disk.Bs} (hR : BytesAt w A n c l) (hne : l ≠ []) : ∀ a, A = some a → a.block ≠ sb ∧ a.block ≠ bl ∧ a.block ≠ bc := fun a ha => by
  obtain ⟨b, off, e, _, hc⟩ := hR.row hne
  rw [ha] at e
  cases e
  exact dev_no_bytes h (hc 0 (List.length_pos_iff.2 hne)) (fun n e => by cases e) (fun n e => by cases e) (fun n e => by cases e)
theorem writeD_n (s : St) (n : Int) (l : Disk.Bs) : (s.write n l).n = s.n := by
  unfold St.write
  split
  · rfl
  · split
    · rfl
    · split
      · exact Disk.act_n s
      · exact Disk.act_n s
/-- What a page's writing does to a device, and what it tells. -/
def WriteR (d : St) (n : Int) (p : Pg) (d' : St) (x : Int) : Prop := (∃ l, Enc n p l ∧ d' = d.write n l ∧ x = d.writeE n l) ∨ ((∀ l, ¬ Enc n p l) ∧ d' = d ∧ x = 50)
/-- An answer that tells a number, and the store and its device behind it. -/
def Doing (B : Blk) (R : St → T → Int → Prop) (w : World) (e : Ending) (w' : World) : Prop := ∃ d' t' x, e = .returned (numV x) ∧ R d' t' x ∧ Has w' B d' t' ∧ Mod B.all w w'
/-- A page's writing: its error, the device behind it; all else lies where it lay. -/
def Wrote (B : Blk) (d : St) (t : T) (a : Lys) (n : Int) (p : Pg) (w : World) (e : Ending) (w' : World) : Prop := ∃ d' x, e = .returned (numV x) ∧ WriteR d n p d' x ∧ Sto w' B d' t a ∧ Mod B.all w w'
set_option maxRecDepth 100000 in
theorem write_any {w : World} {B : Blk} {d : St} {t : T} {a : Lys} (h : Sto w B d t a) (n : Int) (p : Pg) (y : Lay) (hok : PgOk p) (hR : PgRows w p y) :
    Calls Tryz.prog 102 #[ptr B.ss, .int .i64 n, pgV p y] w (Wrote B d t a n p w) := by
  have b1 := Pool.below_box w (.cells (pgC p y) 82)
  have cE := Page.encode_any n p y (w.alloc (.cells (pgC p y) 82)) hok (hR.below b1)
  have LP := Lib.hid (load_page (o := 0) (at_new w (pgC p y) 82) p y rfl)
  have B1 := Lib.hid b1
  have H := Lib.hid h
  clear b1 h hok hR
  unfold pgV at *
  generalize pgC p y = C at *
  go_enter Tryz.func102, Tryz.ntmps102
  go_wp2_with (first | ((with_reducible refine Disk.wpList_load_eq rfl 82 (.tmp 5) rfl _ ?_ LP.out ?_); (next => rfl)))
  refine cE.mono ?_
  rintro e w1 (⟨A, k, c, l, rfl, hb, henc, b2⟩ | ⟨rfl, hno, b2⟩)
  · have hB := B1.out.trans (b2.mono B1.out.size)
    have S1 := Lib.hid (H.out.below hB)
    have c0 := S1.out.cells.1
    have cW := Disk.write_dev w1 B.sb B.bl B.bc d n A k c l hb.len hb.row (fun hne => bytes_apart S1.out.dev hb hne) S1.out.dev
    have M1 := Lib.hid (mod_below (B := B) hB)
    have HE := Lib.hid henc
    clear hb henc b2 hB cE LP B1 H
    go_wp2_with fail
    refine cW.mono ?_
    rintro e w2 ⟨rfl, hd, hm⟩
    have FIN := Lib.hid (show Sto w2 B (d.write n l) t a ∧ Mod B.all w w2 from ⟨S1.out.withDev hd hm (writeD_n _ _ _), M1.out.trans (hm.mono (by
      intro x hx
      simp only [Blk.all, List.mem_cons, List.not_mem_nil, or_false] at hx ⊢
      rcases hx with h | h | h <;> simp [h]))⟩)
    clear hd hm S1 M1 c0 cW
    go_wp2_with fail
    go_ret
    exact ⟨_, _, rfl, .inl ⟨l, HE.out, rfl, rfl⟩, FIN.out⟩
  · have hB := B1.out.trans (b2.mono B1.out.size)
    have FIN := Lib.hid (show Sto w1 B d t a ∧ Mod B.all w w1 from ⟨H.out.below hB, mod_below hB⟩)
    have HN := Lib.hid hno
    clear b2 hB cE LP B1 H hno
    go_wp2_with fail
    go_ret
    exact ⟨_, _, rfl, .inr ⟨HN.out, rfl, rfl⟩, FIN.out⟩
/-- What is read of a sector. -/
def ReadR (d : St) (n : Int) (w : World) (e : Ending) (w' : World) : Prop := Below w.heap.size w w' ∧
  ((d.readE n ≠ 0 ∧ e = .returned (.tuple #[zeroPg, numV (d.readE n)])) ∨
   (d.readE n = 0 ∧ ((∃ p y, e = .returned (.tuple #[pgV p y, numV 0]) ∧ PgRows w' p y ∧ PgOk p ∧ IsDec n (d.readB n) p ∧ Page.New p y w.heap.size) ∨ (e = .returned (.tuple #[zeroPg, numV 50]) ∧ ∀ p, ¬ IsDec n (d.readB n) p))))
theorem read_bytes {w' : World} {l : Disk.Bs} {A : Option Addr} (hl : l.length ≤ 1024) (hR : Disk.BRow w' A l) (hA : A = none → l = []) : BytesAt w' A l.length l.length l :=
  ⟨rfl, Nat.le_refl _, by unfold maxLen; omega, fun e => by rw [hA e]; rfl, hR⟩
theorem readB_len {w : World} {sb bl bc : Nat} {s : St} (h : Dev w sb bl bc s) (n : Int) : (s.readB n).length ≤ 1024 := by
  unfold St.readB
  split
  · simp
  · split
    · unfold St.get
      cases e : s.C n with
      | none => exact Nat.le_of_eq (h.last.getD_len n)
      | some l => exact Nat.le_of_eq (h.cache.fit n l e).2.2
    · simp
set_option maxRecDepth 100000 in
set_option maxHeartbeats 4000000 in
theorem read_any {w : World} {sb bl bc : Nat} {d : St} (h : Dev w sb bl bc d) (n : Int) : Calls Tryz.prog 73 #[ptr sb, .int .i64 n] w (ReadR d n w) := by
  have b1 := Pool.below_box w (.cells pgZ 82)
  have cR := Disk.read_dev (w.alloc (.cells pgZ 82)) sb bl bc d n (h.below b1)
  have BL := Lib.hid (readB_len h n)
  have B1 := Lib.hid b1
  have AZ := Lib.hid (at_new w pgZ 82)
  clear b1 h
  obtain ⟨W0, hW0⟩ : ∃ W0, w.alloc (.cells pgZ 82) = W0 := ⟨_, rfl⟩
  rw [hW0] at cR B1 AZ
  unfold pgZ at hW0
  unfold ReadR
  generalize d.readB n = l at *
  generalize d.readE n = er at *
  go_enter Tryz.func73, Tryz.ntmps73
  go_wp2_with fail
  refine cR.mono ?_
  rintro e w1 ⟨A, rfl, hr, hA, hnew, b2⟩
  have AZ1 := Lib.hid (AZ.out.below b2 AZ.out.1)
  have B2 := Lib.hid (B1.out.trans (b2.mono B1.out.size))
  by_cases he : er = 0
  · have d1 : (er != 0) = false := by simp [he]
    have cD := Page.decode_any n A l.length l.length l w1 (read_bytes BL.out hr hA)
    have HE := Lib.hid he
    clear he hr hA hnew b2 cR BL AZ B1 hW0
    go_wp2_with fail
    refine cD.mono ?_
    rintro e w2 ⟨b3, hd⟩
    have B3 := Lib.hid (B2.out.trans (b3.mono B2.out.size))
    have AZ2 := Lib.hid (AZ1.out.below b3 AZ1.out.1)
    rcases hd with ⟨p, y, rfl, hr, ho, hq, hw⟩ | ⟨rfl, hno⟩
    · have R := Lib.hid (store_page (o := 0) AZ2.out p y (by simp))
      have A4 := Lib.hid (show At (w2.setCells w.heap.size 0 (pgC p y).toList) w.heap.size (pgC p y) from at_over AZ2.out (by simp) rfl)
      have B4 := Lib.hid (B3.out.grown (grown_puts (pgC p y).toList 0 w2 w.heap.size) B3.out.size (fun k hk => by cases hk; exact Nat.le_refl _))
      have NB := Lib.hid (show PgRows (w2.setCells w.heap.size 0 (pgC p y).toList) p y from hr.apart (grown_puts (pgC p y).toList 0 w2 w.heap.size) hw AZ1.out.1)
      have L := Lib.hid (var_page (o := 0) A4.out p y rfl)
      have HO := Lib.hid ho
      have HQ := Lib.hid hq
      have HW := Lib.hid (hw.mono B2.out.size)
      obtain ⟨pv, hpv⟩ : ∃ pv, pgV p y = pv := ⟨_, rfl⟩
      rw [hpv] at R L ⊢
      have PV := Lib.hid hpv
      clear hr ho hq hw b3 cD AZ1 AZ2 B2 A4 B3 hpv
      generalize w2.setCells w.heap.size 0 (pgC p y).toList = W9 at *
      go_wp2_with (first | ((with_reducible refine Disk.wpList_store_eq rfl 82 (.tmp 4) (.tmp 21) rfl _ _ ?_ ?_ R.out ?_); (next => rfl); (next => rfl)))
      refine bodyPost_ret (results_ct rfl rfl L.out) rfl ?_
      exact ⟨B4.out, .inr ⟨HE.out, .inl ⟨p, y, by rw [PV.out]; rfl, NB.out, HO.out, HQ.out, HW.out⟩⟩⟩
    · have R := Lib.hid (store_page (o := 0) AZ2.out { kind := 0 } {} (by simp))
      have A4 := Lib.hid (show At (w2.setCells w.heap.size 0 (pgC { kind := 0 } {}).toList) w.heap.size (pgC { kind := 0 } {}) from at_over AZ2.out (by simp) rfl)
      have B4 := Lib.hid (B3.out.grown (grown_puts (pgC { kind := 0 } {}).toList 0 w2 w.heap.size) B3.out.size (fun k hk => by cases hk; exact Nat.le_refl _))
      have L := Lib.hid (var_page (o := 0) A4.out { kind := 0 } {} rfl)
      have HN := Lib.hid hno
      obtain ⟨pv, hpv⟩ : ∃ pv, zeroPg = pv := ⟨_, rfl⟩
      have hpv' : pgV { kind := 0 } {} = pv := hpv
      rw [hpv'] at R L ⊢
      have PV := Lib.hid hpv
      clear hno b3 cD AZ1 AZ2 B2 A4 B3 hpv hpv'
      generalize w2.setCells w.heap.size 0 (pgC { kind := 0 } {}).toList = W9 at *
      go_wp2_with (first | ((with_reducible refine Disk.wpList_store_eq rfl 82 (.tmp 4) (.tmp 21) rfl _ _ ?_ ?_ R.out ?_); (next => rfl); (next => rfl)))
      refine bodyPost_ret (results_ct rfl rfl L.out) rfl ?_
      exact ⟨B4.out, .inr ⟨HE.out, .inr ⟨by rw [PV.out]; rfl, HN.out⟩⟩⟩
  · have d1 : (er != 0) = true := by simp [he]
    have R := Lib.hid (store_page (o := 0) AZ1.out { kind := 0 } {} (by simp))
    have A4 := Lib.hid (show At (w1.setCells w.heap.size 0 (pgC { kind := 0 } {}).toList) w.heap.size (pgC { kind := 0 } {}) from at_over AZ1.out (by simp) rfl)
    have B4 := Lib.hid (B2.out.grown (grown_puts (pgC { kind := 0 } {}).toList 0 w1 w.heap.size) B2.out.size (fun k hk => by cases hk; exact Nat.le_refl _))
    have L := Lib.hid (var_page (o := 0) A4.out { kind := 0 } {} rfl)
    have HE := Lib.hid he
    clear he hr hA hnew b2 cR BL AZ B1 hW0 AZ1 A4 B2
    generalize w1.setCells w.heap.size 0 (pgC { kind := 0 } {}).toList = W9 at *
    go_wp2_with (first | ((with_reducible refine Disk.wpList_store_eq rfl 82 (.tmp 4) (.tmp 16) rfl _ _ ?_ ?_ R.out ?_); (next => rfl); (next => rfl)))
    refine bodyPost_ret (results_ct rfl rfl L.out) rfl ?_
    exact ⟨B4.out, .inl ⟨HE.out, rfl⟩⟩
end Go.Proofs.YtboaamaneeodfaaGreat.Store
namespace Go.Proofs.YtboaamaneeodfaaGreat.Store
open Go.RowKit Gen
open Disk (St Dev Mod ptr)
open Page (Pg Lay PgOk PgRows pgC pgV Enc IsDec BytesAt)
open Pool (Po NAt PoAt La poC poV numV At takeP giveP backP Fresh PoolOk)

def I64 (n : Int) : Prop := -9223372036854775808 ≤ n ∧ n ≤ 9223372036854775807
theorem takeT_at {t : T} {N : Int} (h : PoolOk t.pool N) (he : (takeT t N).2.2 = 0) : 2 ≤ (takeT t N).2.1 ∧ (takeT t N).2.1 < N := by
  by_cases h0 : (takeP t.pool N).2.2 = 0
  · have e : (takeT t N).2.1 = (takeP t.pool N).2.1 := by rw [takeT, if_pos h0]
    rw [e]
    have := take_what h h0
    exact ⟨this.1, this.2.1⟩
  · rw [takeT, if_neg h0] at he
    exact absurd he h0
/-- One page is fresh, or is so no more. -/
theorem Sto.put {w : World} {B : Blk} {d : St} {t : T} {a : Lys} (h : Sto w B d t a) (n : Int) (h0 : 2 ≤ n) (h1 : n < d.n) :
    ∃ w', (Instr.mapUpdate 85 (.map (some B.bf)) (.int .i64 n) nothing).run Tryz.prog w = .ok () w' ∧ Has w' B d (frT t n true) ∧ Mod B.all w w' := by
  obtain ⟨w', r, f, g⟩ := h.fr.store h.dev.nle n (by omega) h1
  exact ⟨w', r, ⟨a, h.withFresh f g⟩, mod_of_grown (by simp [Blk.all]) g⟩
theorem Sto.cut {w : World} {B : Blk} {d : St} {t : T} {a : Lys} (h : Sto w B d t a) (n : Int) (hn : I64 n) :
    ∃ w', (Builtin.delete_ #[85, 3] 0 #[.map (some B.bf), .int .i64 n]).run Tryz.prog w = .ok (.tuple #[]) w' ∧ Has w' B d (frT t n false) ∧ Mod B.all w w' := by
  obtain ⟨w', r, f, g⟩ := h.fr.drop n hn.1 hn.2 0
  exact ⟨w', r, ⟨a, h.withFresh f g⟩, mod_of_grown (by simp [Blk.all]) g⟩
set_option maxRecDepth 100000 in
set_option maxHeartbeats 4000000 in
theorem place_any {w : World} {B : Blk} {d : St} {t : T} {a : Lys} (h : Sto w B d t a) (old : Int) (ho : I64 old) : Calls Tryz.prog 167 #[ptr B.ss, .int .i64 old] w (Ans (.tuple #[numV (placeT t d.n old).2.1, numV (placeT t d.n old).2.2]) B d (placeT t d.n old).1 w) := by
  have cL := laid_any h old ho.1 ho.2
  have H := Lib.hid h
  have HO := Lib.hid ho
  obtain ⟨r, hr⟩ : ∃ r, placeT t d.n old = r := ⟨_, rfl⟩
  rw [hr]
  have HR := Lib.hid hr
  clear hr h ho
  by_cases hf : t.fresh old = true
  · have EQ := Lib.hid (show r = (t, old, 0) from by rw [← HR.out, placeT, if_pos hf])
    rw [hf] at cL
    clear hf HR
    go_enter Tryz.func167, Tryz.ntmps167
    go_wp2_with fail
    refine cL.mono ?_
    rintro e w1 ⟨rfl, b1⟩
    have FIN := Lib.hid (show Has w1 B d t ∧ Mod B.all w w1 from ⟨⟨a, H.out.below b1⟩, mod_below b1⟩)
    clear b1 cL H
    go_wp2_with fail
    go_ret2
    exact ⟨by rw [EQ.out]; rfl, by rw [EQ.out]; exact FIN.out⟩
  have hf' : t.fresh old = false := by simpa using hf
  rw [hf'] at cL
  have HF := Lib.hid hf
  clear hf hf'
  go_enter Tryz.func167, Tryz.ntmps167
  go_wp2_with fail
  refine cL.mono ?_
  rintro e w1 ⟨rfl, b1⟩
  have S1 := Lib.hid (H.out.below b1)
  have M1 := Lib.hid (mod_below (B := B) b1)
  have cT := take_any S1.out
  have PK := Lib.hid H.out.pk
  clear b1 cL H
  obtain ⟨n1, hn1⟩ : ∃ n1, (takeT t d.n).2.1 = n1 := ⟨_, rfl⟩
  obtain ⟨e1, he1⟩ : ∃ e1, (takeT t d.n).2.2 = e1 := ⟨_, rfl⟩
  obtain ⟨t1, ht1⟩ : ∃ t1, (takeT t d.n).1 = t1 := ⟨_, rfl⟩
  rw [hn1, he1, ht1] at cT
  have AT := Lib.hid (show e1 = 0 → 2 ≤ n1 ∧ n1 < d.n from fun e => by
    have := takeT_at PK.out (he1.trans e)
    rwa [hn1] at this)
  have HP := Lib.hid (show placeT t d.n old = if e1 = 0 then (if old = 0 then (frT t1 n1 true, n1, 0) else if (giveT t1 old).2 = 0 then (frT (giveT t1 old).1 n1 true, n1, 0) else ((backT (giveT t1 old).1 n1).1, 0, (giveT t1 old).2)) else (t1, 0, e1) from by
    rw [placeT, if_neg HF.out, hn1, he1, ht1])
  clear hn1 he1 ht1 PK HF
  go_wp2_with fail
  refine cT.mono ?_
  rintro e w2 ⟨rfl, ⟨a2, s2⟩, m2⟩
  have S2 := Lib.hid s2
  have M2 := Lib.hid (M1.out.trans m2)
  clear s2 m2 cT S1 M1
  by_cases h1 : e1 = 0
  · have d1 : (e1 != 0) = false := by simp [h1]
    have hat := AT.out h1
    by_cases h2 : old = 0
    · have d2 : (old != 0) = false := by simp [h2]
      have EQ := Lib.hid (show r = (frT t1 n1 true, n1, 0) from by rw [← HR.out, HP.out, if_pos h1, if_pos h2])
      obtain ⟨w3, r3, s3, m3⟩ := S2.out.put n1 hat.1 hat.2
      have FIN := Lib.hid (show Has w3 B d (frT t1 n1 true) ∧ Mod B.all w w3 from ⟨s3, M2.out.trans m3⟩)
      have R3 := Lib.hid r3
      have c19 := S2.out.cells.2.2.2.2
      clear s3 m3 r3 h1 h2 hat AT HR HP S2 M2 HO
      go_wp2_with (first | ((with_reducible refine Disk.wpList_mapUpdate_eq rfl 85 (.tmp 35) (.tmp 36) (.tmp 37) rfl _ _ _ ?_ ?_ ?_ R3.out ?_); (next => rfl); (next => rfl); (next => rfl)))
      go_ret2
      exact ⟨by rw [EQ.out]; rfl, by rw [EQ.out]; exact FIN.out⟩
    · have d2 : (old != 0) = true := by simp [h2]
      have cG := bring_give S2.out old
      have HP2 := Lib.hid (show placeT t d.n old = (if (giveT t1 old).2 = 0 then (frT (giveT t1 old).1 n1 true, n1, 0) else ((backT (giveT t1 old).1 n1).1, 0, (giveT t1 old).2)) from by rw [HP.out, if_pos h1, if_neg h2])
      clear h1 h2 HP AT
      obtain ⟨e2, he2⟩ : ∃ e2, (giveT t1 old).2 = e2 := ⟨_, rfl⟩
      obtain ⟨t2, ht2⟩ : ∃ t2, (giveT t1 old).1 = t2 := ⟨_, rfl⟩
      rw [he2, ht2] at cG HP2
      clear he2 ht2
      go_wp2_with fail
      refine cG.mono ?_
      rintro e w3 ⟨rfl, ⟨a3, s3⟩, m3⟩
      have S3 := Lib.hid s3
      have M3 := Lib.hid (M2.out.trans m3)
      clear s3 m3 cG S2 M2
      by_cases h2 : e2 = 0
      · have d3 : (e2 != 0) = false := by simp [h2]
        have EQ := Lib.hid (show r = (frT t2 n1 true, n1, 0) from by rw [← HR.out, HP2.out, if_pos h2])
        obtain ⟨w4, r4, s4, m4⟩ := S3.out.put n1 hat.1 hat.2
        have FIN := Lib.hid (show Has w4 B d (frT t2 n1 true) ∧ Mod B.all w w4 from ⟨s4, M3.out.trans m4⟩)
        have R4 := Lib.hid r4
        have c19 := S3.out.cells.2.2.2.2
        clear s4 m4 r4 h2 hat HR HP2 S3 M3 HO
        go_wp2_with (first | ((with_reducible refine Disk.wpList_mapUpdate_eq rfl 85 (.tmp 35) (.tmp 36) (.tmp 37) rfl _ _ _ ?_ ?_ ?_ R4.out ?_); (next => rfl); (next => rfl); (next => rfl)))
        go_ret2
        exact ⟨by rw [EQ.out]; rfl, by rw [EQ.out]; exact FIN.out⟩
      · have d3 : (e2 != 0) = true := by simp [h2]
        have EQ := Lib.hid (show r = ((backT t2 n1).1, 0, e2) from by rw [← HR.out, HP2.out, if_neg h2])
        have cB := bring_back S3.out n1
        clear h2 hat HR HP2
        go_wp2_with fail
        refine cB.mono ?_
        rintro e w4 ⟨rfl, s4, m4⟩
        have FIN := Lib.hid (show Has w4 B d (backT t2 n1).1 ∧ Mod B.all w w4 from ⟨s4, M3.out.trans m4⟩)
        clear s4 m4 cB S3 M3
        go_wp2_with fail
        go_ret2
        exact ⟨by rw [EQ.out]; rfl, by rw [EQ.out]; exact FIN.out⟩
  · have d1 : (e1 != 0) = true := by simp [h1]
    have EQ := Lib.hid (show r = (t1, 0, e1) from by rw [← HR.out, HP.out, if_neg h1])
    have FIN := Lib.hid (show Has w2 B d t1 ∧ Mod B.all w w2 from ⟨⟨a2, S2.out⟩, M2.out⟩)
    clear h1 AT HR HP S2 M2 HO
    go_wp2_with fail
    go_ret2
    exact ⟨by rw [EQ.out]; rfl, by rw [EQ.out]; exact FIN.out⟩
set_option maxRecDepth 100000 in
set_option maxHeartbeats 4000000 in
theorem drop_any {w : World} {B : Blk} {d : St} {t : T} {a : Lys} (h : Sto w B d t a) (n : Int) (hn : I64 n) : Calls Tryz.prog 64 #[ptr B.ss, .int .i64 n] w (Ans (numV (dropT t n).2) B d (dropT t n).1 w) := by
  have cL := laid_any h n hn.1 hn.2
  have H := Lib.hid h
  have HN := Lib.hid hn
  obtain ⟨r, hr⟩ : ∃ r, dropT t n = r := ⟨_, rfl⟩
  rw [hr]
  have HR := Lib.hid hr
  clear hr h hn
  cases hf : t.fresh n
  · have EQ := Lib.hid (show giveT t n = r from by rw [← HR.out, dropT, if_neg (by simp [hf])])
    rw [hf] at cL
    clear hf HR
    go_enter Tryz.func64, Tryz.ntmps64
    go_wp2_with fail
    refine cL.mono ?_
    rintro e w1 ⟨rfl, b1⟩
    have cG := bring_give (H.out.below b1) n
    rw [EQ.out] at cG
    have M1 := Lib.hid (mod_below (B := B) b1)
    clear b1 cL H EQ
    go_wp2_with fail
    refine cG.mono ?_
    rintro e w2 ⟨rfl, s2, m2⟩
    go_wp2_with fail
    go_ret
    exact ⟨rfl, s2, M1.out.trans m2⟩
  · have HP := Lib.hid (show r = (if (backT t n).2 = 0 then (frT (backT t n).1 n false, 0) else backT t n) from by rw [← HR.out, dropT, if_pos hf])
    rw [hf] at cL
    clear hf HR
    go_enter Tryz.func64, Tryz.ntmps64
    go_wp2_with fail
    refine cL.mono ?_
    rintro e w1 ⟨rfl, b1⟩
    have cB := bring_back (H.out.below b1) n
    have M1 := Lib.hid (mod_below (B := B) b1)
    obtain ⟨e2, he2⟩ : ∃ e2, (backT t n).2 = e2 := ⟨_, rfl⟩
    obtain ⟨t2, ht2⟩ : ∃ t2, (backT t n).1 = t2 := ⟨_, rfl⟩
    have hbt : backT t n = (t2, e2) := by rw [← he2, ← ht2]
    rw [hbt] at HP cB
    clear b1 cL H he2 ht2 hbt
    go_wp2_with fail
    refine cB.mono ?_
    rintro e w2 ⟨rfl, ⟨a2, s2⟩, m2⟩
    by_cases h2 : e2 = 0
    · have d3 : (e2 != 0) = false := by simp [h2]
      have EQ := Lib.hid (show r = (frT t2 n false, 0) from by rw [HP.out, if_pos h2])
      obtain ⟨w4, r4, s4, m4⟩ := s2.cut n HN.out
      have FIN := Lib.hid (show Has w4 B d (frT t2 n false) ∧ Mod B.all w w4 from ⟨s4, (M1.out.trans m2).trans m4⟩)
      have R4 := Lib.hid r4
      have c19 := s2.cells.2.2.2.2
      clear s4 m4 r4 h2 HP s2 m2 M1 HN cB
      go_wp2_with (first | ((with_reducible refine Disk.wpList_delete_eq rfl 85 3 (.tmp 24) (.tmp 25) rfl _ _ ?_ ?_ R4.out ?_); (next => rfl); (next => rfl)))
      go_ret
      exact ⟨by rw [EQ.out]; rfl, by rw [EQ.out]; exact FIN.out⟩
    · have d3 : (e2 != 0) = true := by simp [h2]
      have EQ := Lib.hid (show r = (t2, e2) from by rw [HP.out, if_neg h2])
      have FIN := Lib.hid (show Has w2 B d t2 ∧ Mod B.all w w2 from ⟨⟨a2, s2⟩, M1.out.trans m2⟩)
      clear h2 HP s2 m2 M1 HN cB
      go_wp2_with fail
      go_ret
      exact ⟨by rw [EQ.out]; rfl, by rw [EQ.out]; exact FIN.out⟩
theorem drop_nil (n : Int) (w : World) : Calls Tryz.prog 64 #[.pointer none, .int .i64 n] w fun e w' => e = .returned (numV 1) ∧ w = w' := by
  go_enter Tryz.func64, Tryz.ntmps64
  go_wp2_with fail
  go_ret
  exact ⟨rfl, rfl⟩
end Go.Proofs.YtboaamaneeodfaaGreat.Store
namespace Go.Proofs.YtboaamaneeodfaaGreat.Store
open Go.RowKit Gen
open Disk (St Dev Mod ptr)
open Page (Pg Lay PgOk PgRows pgC pgV Enc IsDec BytesAt)
open Pool (Po NAt PoAt La poC poV numV At takeP giveP backP Fresh PoolOk)

/-- A page's lists lie apart from some blocks. -/
structure Apart (S : List Nat) (p : Pg) (y : Lay) : Prop where
  o1 : p.pairs ≠ [] → Off S y.A1
  o2 : p.keys ≠ [] → Off S y.A2
  o3 : p.kids ≠ [] → Off S y.A3
  o4 : p.pages ≠ [] → Off S y.A4
theorem row_mod' {α : Type} {enc : α → Value} {w w' : World} {S : List Nat} {A : Option Addr} {l : List α} (h : RowG w enc A l) (m : Mod S w w') (hA : l ≠ [] → Off S A) : RowG w' enc A l := fun hne => by
  obtain ⟨b, o, e, hlt, hc⟩ := h hne
  exact ⟨b, o, e, Nat.lt_of_lt_of_le hlt m.size, fun j hj => (m.cell (p := ⟨b, o + j, none⟩) hlt (hA hne ⟨b, o, none⟩ e)).trans (hc j hj)⟩
theorem row_mod {α : Type} {enc : α → Value} {w w' : World} {S : List Nat} {A : Option Addr} {l : List α} (h : RowG w enc A l) (m : Mod S w w') (hA : Off S A) : RowG w' enc A l := fun hne => by
  obtain ⟨b, o, e, hlt, hc⟩ := h hne
  exact ⟨b, o, e, Nat.lt_of_lt_of_le hlt m.size, fun j hj => (m.cell (p := ⟨b, o + j, none⟩) hlt (hA ⟨b, o, none⟩ e)).trans (hc j hj)⟩
theorem pg_mod {w w' : World} {S : List Nat} {p : Pg} {y : Lay} (h : PgRows w p y) (m : Mod S w w') (ha : Apart S p y) : PgRows w' p y :=
  ⟨fun hne => by
    obtain ⟨b, o, e, hlt, hc⟩ := h.r1 hne
    exact ⟨b, o, e, Nat.lt_of_lt_of_le hlt m.size, fun j hj => ⟨(m.cell (p := ⟨b, o + j * 2, none⟩) hlt (ha.o1 hne ⟨b, o, none⟩ e)).trans (hc j hj).1, (m.cell (p := ⟨b, o + j * 2 + 1, none⟩) hlt (ha.o1 hne ⟨b, o, none⟩ e)).trans (hc j hj).2⟩⟩,
   row_mod' h.r2 m ha.o2, row_mod' h.r3 m ha.o3, row_mod' h.r4 m ha.o4⟩
/-- What Lay does: where a page is laid, and its error. -/
def LayR (d : St) (t : T) (old : Int) (p : Pg) (d' : St) (t' : T) (n e : Int) : Prop :=
  ((∀ l, ¬ Enc 2 p l) ∧ d' = d ∧ t' = t ∧ n = 0 ∧ e = 50) ∨
  ((∃ l, Enc 2 p l) ∧ (((placeT t d.n old).2.2 ≠ 0 ∧ d' = d ∧ t' = endT (placeT t d.n old).1 (placeT t d.n old).2.2 ∧ n = 0 ∧ e = (placeT t d.n old).2.2) ∨
    ((placeT t d.n old).2.2 = 0 ∧ ∃ x, WriteR d (placeT t d.n old).2.1 p d' x ∧ (x = 0 ∧ t' = (placeT t d.n old).1 ∧ n = (placeT t d.n old).2.1 ∧ e = 0 ∨ x ≠ 0 ∧ t' = endT (placeT t d.n old).1 x ∧ n = 0 ∧ e = x))))
def Laid (B : Blk) (R : St → T → Int → Int → Prop) (w : World) (e : Ending) (w' : World) : Prop := ∃ d' t' n x, e = .returned (.tuple #[numV n, numV x]) ∧ R d' t' n x ∧ Has w' B d' t' ∧ Mod B.all w w'
set_option maxRecDepth 100000 in
set_option maxHeartbeats 4000000 in
theorem lay_any {w : World} {B : Blk} {d : St} {t : T} {a : Lys} (h : Sto w B d t a) (old : Int) (ho : I64 old) (p : Pg) (y : Lay) (hok : PgOk p) (hR : PgRows w p y) (hap : Apart B.all p y) :
    Calls Tryz.prog 147 #[ptr B.ss, .int .i64 old, pgV p y] w (Laid B (LayR d t old p) w) := by
  have b1 := Pool.below_box w (.cells (pgC p y) 82)
  have cE := Page.encode_any 2 p y (w.alloc (.cells (pgC p y) 82)) hok (hR.below b1)
  have LP := Lib.hid (load_page (o := 0) (at_new w (pgC p y) 82) p y rfl)
  have AP := Lib.hid (at_new w (pgC p y) 82)
  have RW := Lib.hid (hR.below b1)
  have S1 := Lib.hid (h.below b1)
  have M1 := Lib.hid (mod_below (B := B) b1)
  have NB := Lib.hid (show w.heap.size ∉ B.all from fun e => Nat.lt_irrefl _ (h.lt _ e))
  have HO := Lib.hid ho
  have HK := Lib.hid hok
  have HA := Lib.hid hap
  clear b1 h hok hR hap ho
  obtain ⟨pv, hpv⟩ : ∃ pv, pgC p y = pv := ⟨_, rfl⟩
  have hpv' : pgV p y = .agg pv := by rw [← hpv]
  have HV := Lib.hid hpv'
  rw [hpv'] at cE LP ⊢
  rw [hpv] at LP AP RW S1 M1 cE
  clear hpv hpv'
  obtain ⟨W1, hW1⟩ : ∃ W1, w.alloc (.cells pv 82) = W1 := ⟨_, rfl⟩
  rw [hW1] at cE LP AP RW S1 M1
  go_enter Tryz.func147, Tryz.ntmps147
  go_wp2_with (first | ((with_reducible refine Disk.wpList_load_eq rfl 82 (.tmp 5) rfl _ ?_ LP.out ?_); (next => rfl)))
  refine cE.mono ?_
  rintro e w2 (⟨A, k, c, l, rfl, -, henc, b2⟩ | ⟨rfl, hno, b2⟩)
  · have S2 := Lib.hid (S1.out.below b2)
    have M2 := Lib.hid (M1.out.trans (mod_below b2))
    have A2 := Lib.hid (AP.out.below b2 AP.out.1)
    have R2 := Lib.hid (RW.out.below b2)
    have cP := place_any S2.out old HO.out
    have HE := Lib.hid (show ∃ l, Enc 2 p l from ⟨l, henc⟩)
    obtain ⟨n1, hn1⟩ : ∃ n1, (placeT t d.n old).2.1 = n1 := ⟨_, rfl⟩
    obtain ⟨e1, he1⟩ : ∃ e1, (placeT t d.n old).2.2 = e1 := ⟨_, rfl⟩
    obtain ⟨t1, ht1⟩ : ∃ t1, (placeT t d.n old).1 = t1 := ⟨_, rfl⟩
    rw [hn1, he1, ht1] at cP
    have HP := Lib.hid (show (placeT t d.n old).1 = t1 ∧ (placeT t d.n old).2.1 = n1 ∧ (placeT t d.n old).2.2 = e1 from ⟨ht1, hn1, he1⟩)
    clear henc b2 cE hW1 hn1 he1 ht1 LP AP RW S1 M1
    go_wp2_with fail
    refine cP.mono ?_
    rintro e w3 ⟨rfl, ⟨a3, s3⟩, m3⟩
    have S3 := Lib.hid s3
    have M3 := Lib.hid (M2.out.trans m3)
    have A3 := Lib.hid (at_mod A2.out m3 NB.out)
    have R3 := Lib.hid (pg_mod R2.out m3 HA.out)
    clear s3 m3 cP S2 M2 A2 R2
    by_cases h1 : e1 = 0
    · have d1 : (e1 == 0) = true := by simp [h1]
      have L3 := Lib.hid (show (Instr.loadAt 82 (.pointer (some ⟨w.heap.size, 0, none⟩))).run Tryz.prog w3 = .ok (.agg pv) w3 from by
        have e := HV.out
        have e2 : pgC p y = pv := by injection e
        rw [← e2] at A3
        rw [← e]
        exact load_page (o := 0) A3.out p y rfl)
      have cW := write_any S3.out n1 p y HK.out R3.out
      rw [HV.out] at cW
      clear A3 R3 S3
      go_wp2_with (first | ((with_reducible refine Disk.wpList_load_eq rfl 82 (.tmp 5) rfl _ ?_ L3.out ?_); (next => rfl)))
      refine cW.mono ?_
      rintro e w4 ⟨d', x, rfl, hw, s4, m4⟩
      have M4 := Lib.hid (M3.out.trans m4)
      have HW := Lib.hid hw
      have H1 := Lib.hid h1
      by_cases h2 : x = 0
      · have d2 : (x != 0) = false := by simp [h2]
        have FIN := Lib.hid (show Has w4 B d' t1 ∧ LayR d t old p d' t1 n1 0 from ⟨⟨a3, s4⟩, .inr ⟨HE.out, .inr ⟨HP.out.2.2.trans H1.out, x, by rw [HP.out.2.1]; exact HW.out, .inl ⟨h2, HP.out.1.symm, HP.out.2.1.symm, rfl⟩⟩⟩⟩)
        clear h1 h2 hw s4 m4 cW M3 HP HE HW H1 HO HK HA
        go_wp2_with fail
        go_ret2
        exact ⟨d', t1, n1, 0, rfl, FIN.out.2, FIN.out.1, M4.out⟩
      · have d2 : (x != 0) = true := by simp [h2]
        have cD := ended_any s4 x
        have FIN := Lib.hid (show LayR d t old p d' (endT t1 x) 0 x from .inr ⟨HE.out, .inr ⟨HP.out.2.2.trans H1.out, x, by rw [HP.out.2.1]; exact HW.out, .inr ⟨h2, by rw [HP.out.1], rfl, rfl⟩⟩⟩)
        clear h1 h2 hw s4 m4 cW M3 HP HE HW H1 HO HK HA
        go_wp2_with fail
        refine cD.mono ?_
        rintro e w5 ⟨rfl, s5, m5⟩
        go_wp2_with fail
        go_ret2
        exact ⟨d', _, 0, x, rfl, FIN.out, s5, M4.out.trans m5⟩
    · have d1 : (e1 == 0) = false := by simp [h1]
      have d2 : (e1 != 0) = true := by simp [h1]
      have cD := ended_any S3.out e1
      have FIN := Lib.hid (show LayR d t old p d (endT t1 e1) 0 e1 from .inr ⟨HE.out, .inl ⟨by rw [HP.out.2.2]; exact h1, rfl, by rw [HP.out.1, HP.out.2.2], rfl, HP.out.2.2.symm⟩⟩)
      clear h1 A3 R3 S3 HP HE HO HK HA
      go_wp2_with fail
      refine cD.mono ?_
      rintro e w5 ⟨rfl, s5, m5⟩
      go_wp2_with fail
      go_ret2
      exact ⟨d, _, 0, e1, rfl, FIN.out, s5, M3.out.trans m5⟩
  · have FIN := Lib.hid (show Has w2 B d t ∧ Mod B.all w w2 ∧ LayR d t old p d t 0 50 from ⟨⟨a, S1.out.below b2⟩, M1.out.trans (mod_below b2), .inl ⟨hno, rfl, rfl, rfl, rfl⟩⟩)
    clear b2 hno cE hW1 LP AP RW S1 M1 HO HK HA
    go_wp2_with fail
    go_ret2
    exact ⟨d, t, 0, 50, rfl, FIN.out.2.2, FIN.out.1, FIN.out.2.1⟩
set_option maxRecDepth 100000 in
theorem lay_nil (old : Int) (p : Pg) (y : Lay) (w : World) : Calls Tryz.prog 147 #[.pointer none, .int .i64 old, pgV p y] w fun e w' => e = .returned (.tuple #[numV 0, numV 1]) ∧ Below w.heap.size w w' := by
  unfold pgV
  generalize pgC p y = C
  go_enter Tryz.func147, Tryz.ntmps147
  go_wp2_with fail
  go_ret2
  exact ⟨rfl, Pool.below_box w _⟩
end Go.Proofs.YtboaamaneeodfaaGreat.Store
namespace Go.Proofs.YtboaamaneeodfaaGreat.Store
open Go.RowKit Gen
open Disk (St Dev Mod ptr)
open Page (Pg Lay PgOk PgRows pgC pgV Enc IsDec BytesAt)
open Pool (Po NAt PoAt La poC poV numV At takeP giveP backP Fresh PoolOk OwnI)

theorem device_nil (w : World) : Calls Tryz.prog 20 #[.pointer none] w fun e w' => e = .returned (.pointer none) ∧ w = w' := by
  go_enter Tryz.func20, Tryz.ntmps20
  go_wp2_with fail
  go_ret
  exact ⟨rfl, rfl⟩
theorem device_any {w : World} {B : Blk} {d : St} {t : T} {a : Lys} (h : Sto w B d t a) : Calls Tryz.prog 20 #[ptr B.ss] w fun e w' => e = .returned (ptr B.sb) ∧ w = w' := by
  have c0 := h.cells.1
  clear h
  go_enter Tryz.func20, Tryz.ntmps20
  go_wp2_with fail
  go_ret
  exact ⟨rfl, rfl⟩
theorem lists_nil (w : World) : Calls Tryz.prog 36 #[.pointer none] w fun e w' => e = .returned (.slice none 0 0) ∧ w = w' := by
  go_enter Tryz.func36, Tryz.ntmps36
  go_wp2_with fail
  go_ret
  exact ⟨rfl, rfl⟩
/-- Numbers are handed back, in memory of the call's own. -/
def NumsN (l : List Int) (w : World) (e : Ending) (w' : World) : Prop := ∃ A n c, e = .returned (.slice A n c) ∧ NAt w' A n c l ∧ Below w.heap.size w w' ∧ ∀ x, A = some x → w.heap.size ≤ x.block
theorem eql_nil (w : World) : (binOp .eql 68 (.slice none 0 0) (.slice none 0 0)).run Tryz.prog w = .ok (.bool true) w := by kernel_rfl
theorem eql_some (x : Addr) (n c : Nat) (w : World) : (binOp .eql 68 (.slice (some x) n c) (.slice none 0 0)).run Tryz.prog w = .ok (.bool false) w := by kernel_rfl
set_option maxRecDepth 100000 in
theorem clone_any (A : Option Addr) (n c : Nat) (l : List Int) (w : World) (h : NAt w A n c l) (hn : n ≤ 100000) : Calls Tryz.prog 60 #[.slice A n c] w (NumsN l w) := by
  rcases A with _ | x
  · have e : l = [] := by
      rcases l with _ | ⟨y, l⟩
      · rfl
      · obtain ⟨b, o, e, _⟩ := h.row (by simp)
        cases e
    obtain rfl := e
    have hc := h.nil rfl
    have hl := h.len
    have hcap := h.cap
    obtain rfl : n = 0 := by omega
    obtain rfl := hc
    have hq := eql_nil w
    clear h hl hcap hn
    go_enter Tryz.func60, Tryz.ntmps60
    go_wp2_with fail
    go_ret
    exact ⟨none, 0, 0, rfl, NAt.none _, Below.refl _ _, fun x e => by cases e⟩
  · have b1 := Pool.below_box w (.cells #[] 3)
    have hown : OwnI (w.alloc (.cells #[] 3)) w.heap.size (.slice (some ⟨w.heap.size, 0, none⟩) 0 0) [] := ⟨rfl, .inr ⟨w.heap.size, 0, #[], rfl, Nat.le_refl _, heap_alloc_last w _, Nat.le_refl _, Nat.zero_le _, rfl, rfl⟩⟩
    have h1 := h.below b1
    obtain ⟨v', W', hrun, ho, hg, hv⟩ := append_row Pool.ints_elem (w.alloc (.cells #[] 3)) w.heap.size _ [] hown (some x) n c l h1.len h1.nil h1.row (by simp; omega) b1.size
    have R := Lib.hid hrun
    have HO := Lib.hid ho
    have B2 := Lib.hid (below_grown b1 hown hg b1.size)
    have hq := eql_some x n c w
    clear h h1 hown hrun ho hg hv b1
    go_enter Tryz.func60, Tryz.ntmps60
    go_wp2_with (first | ((with_reducible refine wpList_append_eq rfl (.tmp 5) (.tmp 6) 68 rfl ?_ ?_ R.out ?_); (next => rfl); (next => rfl)))
    go_ret
    obtain ⟨A', n', c', e, hN, hlo⟩ := Pool.own_nums HO.out
    exact ⟨A', n', c', congrArg Ending.returned e, by simpa using hN, B2.out, hlo⟩
theorem lists_told {w : World} {B : Blk} {d : St} {t : T} {a : Lys} (h : Sto w B d t a) (hn : t.own.length ≤ 100000) : Calls Tryz.prog 36 #[ptr B.ss] w (NumsN t.own w) := by
  have c12 := h.commit.1
  have cC := clone_any a.o _ a.oc t.own w h.own hn
  clear h
  go_enter Tryz.func36, Tryz.ntmps36
  go_wp2_with fail
  refine cC.mono ?_
  rintro e w1 ⟨A, n, c, rfl, h1, h2, h3⟩
  go_wp2_with fail
  go_ret
  exact ⟨A, n, c, rfl, h1, h2, h3⟩
set_option maxRecDepth 100000 in
theorem super_nil (w : World) : Calls Tryz.prog 82 #[.pointer none] w fun e w' => e = .returned zeroPg ∧ Below w.heap.size w w' := by
  have P := Lib.hid (put_page w { kind := 0 } {})
  have L := Lib.hid (var_page (o := 0) (at_new w (pgC { kind := 0 } {}) 82) { kind := 0 } {} rfl)
  go_enter Tryz.func82, Tryz.ntmps82
  go_wp2_with (first | ((with_reducible refine Disk.wpList_store_eq rfl 82 (.tmp 2) (.tmp 5) rfl _ _ ?_ ?_ P.out ?_); (next => rfl); (next => rfl)))
  (try simp only [Exit.inBlock, Exit.then])
  refine bodyPost_ret (results_c rfl rfl L.out) rfl ?_
  exact ⟨rfl, Pool.below_box w _⟩
set_option maxRecDepth 100000 in
theorem super_any {w : World} {B : Blk} {d : St} {t : T} {a : Lys} (h : Sto w B d t a) : Calls Tryz.prog 82 #[ptr B.ss] w fun e w' => e = .returned (pgV t.sup a.s) ∧ Below w.heap.size w w' := by
  have LS := Lib.hid ((h.alloc (.cells pgZ 82)).loadSup)
  have P := Lib.hid (put_page w t.sup a.s)
  have L := Lib.hid (var_page (o := 0) (at_new w (pgC t.sup a.s) 82) t.sup a.s rfl)
  have BL := Lib.hid (Pool.below_box w (.cells (pgC t.sup a.s) 82))
  obtain ⟨pv, hpv⟩ : ∃ pv, pgV t.sup a.s = pv := ⟨_, rfl⟩
  rw [hpv] at LS P L ⊢
  clear h hpv
  generalize pgC t.sup a.s = C at *
  go_enter Tryz.func82, Tryz.ntmps82
  go_wp2_with (first | ((with_reducible refine Disk.wpList_load_eq rfl 82 (.tmp 9) rfl _ ?_ LS.out ?_); (next => rfl)) | ((with_reducible refine Disk.wpList_store_eq rfl 82 (.tmp 2) (.tmp 10) rfl _ _ ?_ ?_ P.out ?_); (next => rfl); (next => rfl)))
  (try simp only [Exit.inBlock, Exit.then])
  refine bodyPost_ret (results_c rfl rfl L.out) rfl ?_
  exact ⟨rfl, BL.out⟩
set_option maxRecDepth 100000 in
theorem pool_nil (w : World) : Calls Tryz.prog 37 #[.pointer none] w fun e w' => e = .returned (poV { high := 0 } {}) ∧ Below w.heap.size w w' := by
  have P := Lib.hid (put_pool w { high := 0 } {})
  have L := Lib.hid (var_pool (o := 0) (at_new w (poC { high := 0 } {}) 73) { high := 0 } {} rfl)
  go_enter Tryz.func37, Tryz.ntmps37
  go_wp2_with (first | ((with_reducible refine Disk.wpList_store_eq rfl 73 (.tmp 2) (.tmp 5) rfl _ _ ?_ ?_ P.out ?_); (next => rfl); (next => rfl)))
  (try simp only [Exit.inBlock, Exit.then])
  refine bodyPost_ret (results_c rfl rfl L.out) rfl ?_
  exact ⟨rfl, Pool.below_box w _⟩
set_option maxRecDepth 100000 in
theorem page_nil (n : Int) (w : World) : Calls Tryz.prog 59 #[.pointer none, .int .i64 n] w fun e w' => e = .returned (.tuple #[zeroPg, numV 1]) ∧ Below w.heap.size w w' := by
  have P := Lib.hid (put_page w { kind := 0 } {})
  have L := Lib.hid (var_page (o := 0) (at_new w (pgC { kind := 0 } {}) 82) { kind := 0 } {} rfl)
  go_enter Tryz.func59, Tryz.ntmps59
  go_wp2_with (first | ((with_reducible refine Disk.wpList_store_eq rfl 82 (.tmp 4) (.tmp 10) rfl _ _ ?_ ?_ P.out ?_); (next => rfl); (next => rfl)))
  (try simp only [Exit.inBlock, Exit.then])
  refine bodyPost_ret (results_ct rfl rfl L.out) rfl ?_
  exact ⟨rfl, Pool.below_box w _⟩
theorem commit_nil (x y z : Int) (w : World) : Calls Tryz.prog 40 #[.pointer none, .int .i64 x, .int .i64 y, .int .i64 z] w fun e w' => e = .returned (numV 1) ∧ w = w' := by
  go_enter Tryz.func40, Tryz.ntmps40
  go_wp2_with fail
  go_ret
  exact ⟨rfl, rfl⟩
theorem open_nil (w : World) : Calls Tryz.prog 22 #[.pointer none] w fun e w' => e = .returned (.tuple #[.pointer none, numV 1]) ∧ w = w' := by
  go_enter Tryz.func22, Tryz.ntmps22
  go_wp2_with fail
  go_ret2
  exact ⟨rfl, rfl⟩
theorem format_nil (w : World) : Calls Tryz.prog 34 #[.pointer none] w fun e w' => e = .returned (.tuple #[.pointer none, numV 1]) ∧ w = w' := by
  go_enter Tryz.func34, Tryz.ntmps34
  go_wp2_with fail
  go_ret2
  exact ⟨rfl, rfl⟩
end Go.Proofs.YtboaamaneeodfaaGreat.Store
namespace Go.Proofs.YtboaamaneeodfaaGreat.Store
open Go.RowKit Gen
open Disk (St Dev Mod ptr)
open Page (Pg Lay PgOk PgRows pgC pgV Enc IsDec BytesAt)
open Pool (Po NAt PoAt La poC poV numV At takeP giveP backP Fresh PoolOk OwnI)

set_option maxRecDepth 100000 in
set_option maxHeartbeats 4000000 in
theorem pool_any {w : World} {B : Blk} {d : St} {t : T} {a : Lys} (h : Sto w B d t a) : Calls Tryz.prog 37 #[ptr B.ss] w fun e w' => ∃ c, e = .returned (poV t.pool c) ∧ PoAt w' t.pool c ∧ Below w.heap.size w w' ∧ Fresh w.heap.size c := by
  have b1 := Pool.below_box w (.cells poZ 73)
  have AZ := Lib.hid (at_new w poZ 73)
  have HF := Lib.hid h.few
  have S1 := Lib.hid (h.below b1)
  obtain ⟨W1, hW1⟩ : ∃ W1, w.alloc (.cells poZ 73) = W1 := ⟨_, rfl⟩
  rw [hW1] at AZ S1 b1
  have B1 := Lib.hid b1
  have bD : Below W1.heap.size W1 W1.drew := (Below.refl _ _).drew
  have BD := Lib.hid bD
  have KS : ∀ w', Below W1.heap.size W1 w' → w'.cell? ⟨B.ss, 16, none⟩ = some (.int .i64 t.pool.high) ∧ w'.cell? ⟨B.ss, 17, none⟩ = some (.slice a.p.A1 t.pool.free.length a.p.c1) ∧ w'.cell? ⟨B.ss, 18, none⟩ = some (.slice a.p.A2 t.pool.limbo.length a.p.c2) := fun w' hb => by
    have := (S1.out.below hb).cells
    exact ⟨this.2.1, this.2.2.1, this.2.2.2.1⟩
  have HK := Lib.hid KS
  have K0 := Lib.hid (KS _ bD)
  have c1 := clone_any a.p.A1 _ a.p.c1 t.pool.free W1.drew (S1.out.pool.f.below bD) HF.out.1
  have C2 := Lib.hid (show ∀ w', Below W1.heap.size W1 w' → Calls Tryz.prog 60 #[.slice a.p.A2 t.pool.limbo.length a.p.c2] w' (NumsN t.pool.limbo w') from fun w' hb => clone_any a.p.A2 _ a.p.c2 t.pool.limbo w' (S1.out.pool.l.below hb) HF.out.2)
  have NB := Lib.hid (show w.heap.size ≠ B.ss from fun e => Nat.lt_irrefl w.heap.size (by rw (occs := .pos [1]) [e]; exact h.box.1))
  have SZ := Lib.hid (show w.heap.size < W1.heap.size from AZ.out.1)
  unfold poZ at hW1
  clear KS bD b1 h
  go_enter Tryz.func37, Tryz.ntmps37
  go_wp2_with fail
  clear hW1
  go_region_held3 (fun w' => w'.cell? ⟨B.ss, 16, none⟩ = some (.int .i64 t.pool.high) ∧ w'.cell? ⟨B.ss, 17, none⟩ = some (.slice a.p.A1 t.pool.free.length a.p.c1) ∧ w'.cell? ⟨B.ss, 18, none⟩ = some (.slice a.p.A2 t.pool.limbo.length a.p.c2))
    (with_reducible (first | exact K0.out | exact K1.out | exact K2.out | exact K3.out))
    (first
      | (go_at_call 60; (with_reducible refine c1.mono ?_); rintro e w1 ⟨X1, n1, d1, rfl, hN1, hb1, hf1⟩
         have Bw1 := Lib.hid (BD.out.trans hb1)
         have K1 := Lib.hid (HK.out _ Bw1.out)
         have HN1 := Lib.hid hN1
         have HF1 := Lib.hid hf1
         have c2 := C2.out w1 Bw1.out
         clear hN1 hb1 hf1 c1)
      | (go_at_call 60; (with_reducible refine c2.mono ?_); rintro e w2 ⟨X2, n2, d2, rfl, hN2, hb2, hf2⟩
         have Bw2 := Lib.hid (Bw1.out.trans (hb2.mono Bw1.out.size))
         have K2 := Lib.hid (HK.out _ Bw2.out)
         have AZ2 := Lib.hid (AZ.out.below Bw2.out AZ.out.1)
         have r0 := AZ2.out.2.2 0 _ rfl
         have r1 := AZ2.out.2.2 1 _ rfl
         have r2 := AZ2.out.2.2 2 _ rfl
         have fz := AZ2.out.2.1
         have A3 := Lib.hid (Pool.set3_at AZ2.out rfl (.int .i64 t.pool.high) (.slice X1 n1 d1) (.slice X2 n2 d2))
         have B3 := Lib.hid (Pool.set3_below (B1.out.trans (Bw2.out.mono B1.out.size)) (Nat.le_refl _) (.int .i64 t.pool.high) (.slice X1 n1 d1) (.slice X2 n2 d2))
         have G3 := Lib.hid ((Mod.refl [w.heap.size] w2).grown (Pool.set3_grown w2 w.heap.size (.int .i64 t.pool.high) (.slice X1 n1 d1) (.slice X2 n2 d2)) (fun k e => .inl (by cases e; simp)))
         have K3 := Lib.hid (show _ ∧ _ ∧ _ from ⟨(G3.out.cell (p := ⟨B.ss, 16, none⟩) (Nat.lt_of_lt_of_le S1.out.box.1 Bw2.out.size) (by have := NB.out; simp; omega)).trans K2.out.1, (G3.out.cell (p := ⟨B.ss, 17, none⟩) (Nat.lt_of_lt_of_le S1.out.box.1 Bw2.out.size) (by have := NB.out; simp; omega)).trans K2.out.2.1, (G3.out.cell (p := ⟨B.ss, 18, none⟩) (Nat.lt_of_lt_of_le S1.out.box.1 Bw2.out.size) (by have := NB.out; simp; omega)).trans K2.out.2.2⟩)
         have hof : ∀ {A : Option Addr} {m : Nat}, W1.heap.size ≤ m → (∀ x, A = some x → m ≤ x.block) → Off [w.heap.size] A := fun hm hA x e hx => by
           have h1 := hA x e
           have h2 : x.block = w.heap.size := by simpa using hx
           have := SZ.out
           omega
         obtain rfl := hN2.len
         obtain rfl := HN1.out.len
         have HP := Lib.hid (show PoAt _ t.pool { A1 := X1, c1 := d1, A2 := X2, c2 := d2 } from ⟨nat_mod (HN1.out.below hb2) G3.out (hof BD.out.size HF1.out), nat_mod hN2 G3.out (hof Bw1.out.size hf2)⟩)
         have HFr := Lib.hid (show Fresh w.heap.size { A1 := X1, c1 := d1, A2 := X2, c2 := d2 } from ⟨fun x e => Nat.le_trans (Nat.le_of_lt (Nat.lt_of_lt_of_le SZ.out BD.out.size)) (HF1.out x e), fun x e => Nat.le_trans (Nat.le_of_lt (Nat.lt_of_lt_of_le SZ.out Bw1.out.size)) (hf2 x e)⟩)
         unfold Pool.set3 at K3
         clear hN2 hb2 hf2 hof))
  have L := Lib.hid (var_pool (o := 0) A3.out t.pool { A1 := X1, c1 := d1, A2 := X2, c2 := d2 } rfl)
  unfold Pool.set3 at L HP B3
  clear r0 r1 r2 fz K0 K1 K2 K3 c2
  go_wp2_with fail
  (try simp only [Exit.inBlock, Exit.then])
  refine bodyPost_ret (results_c rfl rfl L.out) rfl ?_
  exact ⟨_, rfl, HP.out, B3.out, HFr.out⟩
/-- What Page tells. -/
def PageR (d : St) (n : Int) (w : World) (e : Ending) (w' : World) : Prop := Below w.heap.size w w' ∧
  ((d.readE n ≠ 0 ∧ e = .returned (.tuple #[zeroPg, numV (d.readE n)])) ∨
   (d.readE n = 0 ∧ ((∃ p y, e = .returned (.tuple #[pgV p y, numV 0]) ∧ PgRows w' p y ∧ PgOk p ∧ IsDec n (d.readB n) p ∧ p.kind ≠ 4 ∧ Page.New p y w.heap.size) ∨ (e = .returned (.tuple #[zeroPg, numV 50]) ∧ ∀ p, IsDec n (d.readB n) p → p.kind = 4))))
set_option maxRecDepth 100000 in
set_option maxHeartbeats 4000000 in
theorem page_any {w : World} {B : Blk} {d : St} {t : T} {a : Lys} (h : Sto w B d t a) (n : Int) : Calls Tryz.prog 59 #[ptr B.ss, .int .i64 n] w (PageR d n w) := by
  have b1 := Pool.below_box w (.cells pgZ 82)
  have AZ := Lib.hid (at_new w pgZ 82)
  have S1 := h.below b1
  have B1 := Lib.hid b1
  obtain ⟨W1, hW1⟩ : ∃ W1, w.alloc (.cells pgZ 82) = W1 := ⟨_, rfl⟩
  rw [hW1] at AZ S1 B1
  have cR := read_any S1.dev n
  have c0 := S1.cells.1
  unfold pgZ at hW1
  clear b1 h S1
  go_enter Tryz.func59, Tryz.ntmps59
  go_wp2_with fail
  refine cR.mono ?_
  rintro e w1 ⟨b2, hd⟩
  have B2 := Lib.hid (B1.out.trans (b2.mono B1.out.size))
  have AZ2 := Lib.hid (AZ.out.below b2 AZ.out.1)
  have SZ := Lib.hid AZ.out.1
  clear b2 cR hW1 c0 AZ B1
  rcases hd with ⟨he, rfl⟩ | ⟨he, ⟨p, y, rfl, hr, hok, hq, hw⟩ | ⟨rfl, hno⟩⟩
  · have HE := Lib.hid he
    have d1 : (d.readE n != 0) = true := by simp [he]
    have b3 := Pool.below_box w1 (.cells (pgC { kind := 0 } {}) 82)
    have P1 := Lib.hid (put_page w1 { kind := 0 } {})
    have AZ3 := AZ2.out.below b3 AZ2.out.1
    have R := Lib.hid (store_page (o := 0) AZ3 { kind := 0 } {} (by simp))
    have A4 := show At _ w.heap.size (pgC { kind := 0 } {}) from at_over AZ3 (vs := (pgC { kind := 0 } {}).toList) (o := 0) (by simp) rfl
    have L := Lib.hid (var_page (o := 0) A4 { kind := 0 } {} rfl)
    have B4 := Lib.hid ((B2.out.trans (b3.mono B2.out.size)).grown (grown_puts (pgC { kind := 0 } {}).toList 0 _ w.heap.size) (Nat.le_trans B2.out.size b3.size) (fun k hk => by cases hk; exact Nat.le_refl _))
    obtain ⟨er, her⟩ : ∃ er, d.readE n = er := ⟨_, rfl⟩
    rw [her] at d1 ⊢
    have HER := Lib.hid her
    clear her
    obtain ⟨pv, hpv⟩ : ∃ pv, zeroPg = pv := ⟨_, rfl⟩
    rw [show pgV { kind := 0 } {} = pv from hpv] at P1
    rw [hpv]
    have PV := Lib.hid hpv
    clear he b3 AZ3 A4 AZ2 B2 hpv
    generalize (w1.alloc (.cells (pgC { kind := 0 } {}) 82)).setCells w.heap.size 0 (pgC { kind := 0 } {}).toList = W9 at *
    go_wp2_with (first | ((with_reducible refine Disk.wpList_store_eq rfl 82 (.tmp 6) (.tmp 18) rfl _ _ ?_ ?_ P1.out ?_); (next => rfl); (next => rfl)) | ((with_reducible refine Disk.wpList_store_eq rfl 82 (.tmp 4) (.tmp 22) rfl _ _ ?_ ?_ R.out ?_); (next => rfl); (next => rfl)))
    refine bodyPost_ret (results_ct rfl rfl L.out) rfl ?_
    exact ⟨B4.out, .inl ⟨HE.out, by rw [HER.out]; rfl⟩⟩
  · have HE := Lib.hid he
    have b3 := Pool.below_box w1 (.cells (pgC p y) 82)
    have P1 := Lib.hid (put_page w1 p y)
    have AZ3 := AZ2.out.below b3 AZ2.out.1
    have ck : (w1.alloc (.cells (pgC p y) 82)).cell? ⟨w1.heap.size, 0, none⟩ = some (.int .i64 p.kind) := (at_new w1 (pgC p y) 82).2.2 0 _ rfl
    have HQ := Lib.hid hq
    by_cases hk : p.kind = 4
    · have d2 : (p.kind == 4) = true := by simp [hk]
      have R := Lib.hid (store_page (o := 0) AZ3 { kind := 0 } {} (by simp))
      have A4 := show At _ w.heap.size (pgC { kind := 0 } {}) from at_over AZ3 (vs := (pgC { kind := 0 } {}).toList) (o := 0) (by simp) rfl
      have L := Lib.hid (var_page (o := 0) A4 { kind := 0 } {} rfl)
      have B4 := Lib.hid ((B2.out.trans (b3.mono B2.out.size)).grown (grown_puts (pgC { kind := 0 } {}).toList 0 _ w.heap.size) (Nat.le_trans B2.out.size b3.size) (fun k hk => by cases hk; exact Nat.le_refl _))
      have FIN := Lib.hid (show ∀ q, IsDec n (d.readB n) q → q.kind = 4 from fun q hq' => by
        obtain rfl := Page.dec_fun hq hq'
        exact hk)
      obtain ⟨pv, hpv⟩ : ∃ pv, pgV p y = pv := ⟨_, rfl⟩
      obtain ⟨kd, hkd⟩ : ∃ kd, p.kind = kd := ⟨_, rfl⟩
      rw [hpv] at P1 ⊢
      rw [hkd] at ck d2
      clear he hr hok hq hw b3 AZ3 A4 AZ2 B2 hk hpv hkd HQ
      generalize (w1.alloc (.cells (pgC p y) 82)).setCells w.heap.size 0 (pgC { kind := 0 } {}).toList = W9 at *
      generalize w1.alloc (.cells (pgC p y) 82) = W8 at *
      go_wp2_with (first | ((with_reducible refine Disk.wpList_store_eq rfl 82 (.tmp 6) (.tmp 18) rfl _ _ ?_ ?_ P1.out ?_); (next => rfl); (next => rfl)) | ((with_reducible refine Disk.wpList_store_eq rfl 82 (.tmp 4) (.tmp 27) rfl _ _ ?_ ?_ R.out ?_); (next => rfl); (next => rfl)))
      refine bodyPost_ret (results_ct rfl rfl L.out) rfl ?_
      exact ⟨B4.out, .inr ⟨HE.out, .inr ⟨rfl, FIN.out⟩⟩⟩
    · have d2 : (p.kind == 4) = false := by simp [hk]
      have LD := Lib.hid (load_page (o := 0) (at_new w1 (pgC p y) 82) p y rfl)
      have R := Lib.hid (store_page (o := 0) AZ3 p y (by simp))
      have A4 := show At _ w.heap.size (pgC p y) from at_over AZ3 (vs := (pgC p y).toList) (o := 0) (by simp) rfl
      have L := Lib.hid (var_page (o := 0) A4 p y rfl)
      have B4 := Lib.hid ((B2.out.trans (b3.mono B2.out.size)).grown (grown_puts (pgC p y).toList 0 _ w.heap.size) (Nat.le_trans B2.out.size b3.size) (fun k hk => by cases hk; exact Nat.le_refl _))
      have FIN := Lib.hid (show PgRows ((w1.alloc (.cells (pgC p y) 82)).setCells w.heap.size 0 (pgC p y).toList) p y ∧ PgOk p ∧ p.kind ≠ 4 ∧ Page.New p y w.heap.size from
        ⟨(hr.below b3).apart (grown_puts (pgC p y).toList 0 _ w.heap.size) hw SZ.out, hok, hk, hw.mono (Nat.le_of_lt SZ.out)⟩)
      obtain ⟨pv, hpv⟩ : ∃ pv, pgV p y = pv := ⟨_, rfl⟩
      obtain ⟨kd, hkd⟩ : ∃ kd, p.kind = kd := ⟨_, rfl⟩
      rw [hpv] at P1 LD R L ⊢
      rw [hkd] at ck d2
      have PV := Lib.hid hpv
      clear he hr hok hq hw b3 AZ3 A4 AZ2 B2 hk hpv hkd
      generalize (w1.alloc (.cells (pgC p y) 82)).setCells w.heap.size 0 (pgC p y).toList = W9 at *
      generalize w1.alloc (.cells (pgC p y) 82) = W8 at *
      go_wp2_with (first | ((with_reducible refine Disk.wpList_store_eq rfl 82 (.tmp 6) (.tmp 18) rfl _ _ ?_ ?_ P1.out ?_); (next => rfl); (next => rfl)) | ((with_reducible refine Disk.wpList_load_eq rfl 82 (.tmp 6) rfl _ ?_ LD.out ?_); (next => rfl)) | ((with_reducible refine Disk.wpList_store_eq rfl 82 (.tmp 4) (.tmp 28) rfl _ _ ?_ ?_ R.out ?_); (next => rfl); (next => rfl)))
      refine bodyPost_ret (results_ct rfl rfl L.out) rfl ?_
      exact ⟨B4.out, .inr ⟨HE.out, .inl ⟨p, y, by rw [PV.out]; rfl, FIN.out.1, FIN.out.2.1, HQ.out, FIN.out.2.2⟩⟩⟩
  · have HE := Lib.hid he
    have b3 := Pool.below_box w1 (.cells (pgC { kind := 0 } {}) 82)
    have P1 := Lib.hid (put_page w1 { kind := 0 } {})
    have AZ3 := AZ2.out.below b3 AZ2.out.1
    have R := Lib.hid (store_page (o := 0) AZ3 { kind := 0 } {} (by simp))
    have A4 := show At _ w.heap.size (pgC { kind := 0 } {}) from at_over AZ3 (vs := (pgC { kind := 0 } {}).toList) (o := 0) (by simp) rfl
    have L := Lib.hid (var_page (o := 0) A4 { kind := 0 } {} rfl)
    have B4 := Lib.hid ((B2.out.trans (b3.mono B2.out.size)).grown (grown_puts (pgC { kind := 0 } {}).toList 0 _ w.heap.size) (Nat.le_trans B2.out.size b3.size) (fun k hk => by cases hk; exact Nat.le_refl _))
    have HN := Lib.hid hno
    obtain ⟨pv, hpv⟩ : ∃ pv, zeroPg = pv := ⟨_, rfl⟩
    rw [show pgV { kind := 0 } {} = pv from hpv] at P1
    rw [hpv]
    have PV := Lib.hid hpv
    clear he b3 AZ3 A4 AZ2 B2 hno hpv
    generalize (w1.alloc (.cells (pgC { kind := 0 } {}) 82)).setCells w.heap.size 0 (pgC { kind := 0 } {}).toList = W9 at *
    go_wp2_with (first | ((with_reducible refine Disk.wpList_store_eq rfl 82 (.tmp 6) (.tmp 18) rfl _ _ ?_ ?_ P1.out ?_); (next => rfl); (next => rfl)) | ((with_reducible refine Disk.wpList_store_eq rfl 82 (.tmp 4) (.tmp 22) rfl _ _ ?_ ?_ R.out ?_); (next => rfl); (next => rfl)))
    refine bodyPost_ret (results_ct rfl rfl L.out) rfl ?_
    exact ⟨B4.out, .inr ⟨HE.out, .inr ⟨rfl, fun p hp => absurd hp (HN.out p)⟩⟩⟩
end Go.Proofs.YtboaamaneeodfaaGreat.Store
