/-
  Write, Fuse.
-/
import Derived.Test.YtoldkhfnebjacaaDRead
namespace Go.Proofs.Ytoldkhfnebjacaa.Disk
open Go.RowKit Go.Maps Gen

/-- What is laid over a sector's first bytes. -/
def over (l m : Bs) : Bs := l ++ m.drop l.length
theorem over_len {l m : Bs} (h : l.length ≤ m.length) : (over l m).length = m.length := by simp [over]; omega
theorem over_zeros (l : Bs) : over l zeros = pad l := by rw [over, pad, zeros, List.drop_replicate]
theorem copy_run (w : World) (g : Nat) (m l : Bs) (A : Option Addr) (k c dl cp : Nat) (ty : TypeId) (t : TypeId) (hg : w.heap[g]? = some (.cells (secC m) t (0, 0))) (hl : l.length = k) (hk : k ≤ dl) (hd : dl ≤ m.length) (hR : BRow w A l) :
    (Builtin.copy_ #[32, 32] ty #[.slice (some ⟨g, 0, none⟩) dl cp, .slice A k c]).run Try.prog w = .ok (goInt k) (w.setRow g (secC (over l m))) := by
  have hmin : Nat.min k dl = k := Nat.min_eq_left hk
  by_cases h0 : l = []
  · subst h0
    obtain rfl : k = 0 := by simpa using hl.symm
    rw [run_copy_none (P := Try.prog) w _ _ ty 5 _ A dl cp 0 c Try.underlying32 (by kernel_rfl) hmin]
    rw [show over [] m = m by simp [over], setRow_self w g _ _ _ hg]; rfl
  · obtain ⟨b, off, rfl, _, hc⟩ := hR h0
    have := run_copy_row (P := Try.prog) w 32 32 ty 5 g 0 dl cp ⟨b, off, none⟩ k c (secC m) t (l.map byteV) Try.underlying32 (by kernel_rfl) hg (by simp [hl]; omega) (fun j v hv => by
      have e : (⟨b, off, none⟩ : Addr).add j = ⟨b, off + j, none⟩ := by unfold Addr.add; split <;> simp_all
      rw [List.getElem?_map, Option.map_eq_some_iff] at hv
      obtain ⟨x, hx, rfl⟩ := hv
      obtain ⟨hj, hx⟩ := List.getElem?_eq_some_iff.1 hx
      rw [e, hc j hj, hx]) (by rw [secC_size]; simp; omega) (fun v hv => by
        obtain ⟨x, _, rfl⟩ := List.mem_map.1 hv; rfl)
    rw [this]
    have e2 : ((secC m).toList.take 0 ++ l.map byteV ++ (secC m).toList.drop (0 + (l.map byteV).length)).toArray = secC (over l m) := by
      simp [secC, over, List.map_drop]
    rw [e2]
    simp [hl]
theorem wpList_copy_eq {P : Program} {ops : Array Oper} {rest : List Oper} {o : Oper} {a : Act} {Q : Exit → Act → World → Prop} {w w' : World} {v : Value} (hgd : o.guard = none) (t t' : TypeId) (x y : Operand) (ho : o.op = .call { callee := .builtin .copy, args := #[x, y], argTypes := #[t, t'] }) (p u : Value) (hx : a.eval x = p) (hy : a.eval y = u)
    (hrun : (Builtin.copy_ #[t, t'] o.type #[p, u]).run P w = .ok v w') (h : wpList P ops Q rest (a.put o.dst v) w') : wpList P ops Q (o :: rest) a w := by
  refine wpList_plain hgd fun K hK => ?_
  unfold Oper.wp
  simp [execOp, ho, resolve, invoke, builtin, hx, hy, hrun, Result.andThen]
  exact hK _ _ h

def St.bad (s : St) (n : Int) (k : Nat) : Bool := !s.has n || decide (1024 < k)
def St.writeE (s : St) (n : Int) (l : Bs) : Int := if s.off then 40 else if s.bad n l.length then 41 else s.actE
def St.write (s : St) (n : Int) (l : Bs) : St := if s.off then s else if s.bad n l.length then s else if s.actE = 0 then { s.act with C := upd s.act.C n (some (pad l)) } else s.act
theorem act_n (s : St) : s.act.n = s.n := by unfold St.act; split <;> (try split) <;> rfl
theorem act_C (s : St) : s.act.C = s.C := by unfold St.act; split <;> (try split) <;> rfl
theorem act_L (s : St) : s.act.L = s.L := by unfold St.act; split <;> (try split) <;> rfl

theorem write_nil (n : Int) (A : Option Addr) (k c : Nat) (w : World) : Calls Try.prog 19 #[.pointer none, .int .i64 n, .slice A k c] w fun e w' => e = .returned (.int .i64 1) ∧ w = w' := by
  go_enter Try.func19, Try.ntmps19
  go_wp2_with fail
  refine (awake_nil _).mono ?_
  rintro e w' ⟨rfl, rfl⟩
  go_wp2_with fail
  go_ret
  exact ⟨rfl, rfl⟩
theorem write_off (w : World) (sb bl bc : Nat) (s : St) (n : Int) (A : Option Addr) (k c : Nat) (h : Dev w sb bl bc s) (ho : s.off = true) : Calls Try.prog 19 #[ptr sb, .int .i64 n, .slice A k c] w fun e w' => e = .returned (.int .i64 40) ∧ w = w' := by
  have cA := awake_dev w sb bl bc s h
  rw [show s.awE = 40 by simp [St.awE, ho]] at cA
  clear h ho
  go_enter Try.func19, Try.ntmps19
  go_wp2_with fail
  refine cA.mono ?_
  rintro e w' ⟨rfl, rfl⟩
  go_wp2_with fail
  go_ret
  exact ⟨rfl, rfl⟩
theorem write_bad (w : World) (sb bl bc : Nat) (s : St) (n : Int) (A : Option Addr) (k c : Nat) (h : Dev w sb bl bc s) (ho : s.off = false) (hb : s.bad n k = true) : Calls Try.prog 19 #[ptr sb, .int .i64 n, .slice A k c] w fun e w' => e = .returned (.int .i64 41) ∧ w = w' := by
  have cA := awake_dev w sb bl bc s h
  rw [show s.awE = 0 by simp [St.awE, ho]] at cA
  have cH := has_dev w sb bl bc s n h
  cases hh : s.has n
  · rw [hh] at cH
    clear h ho hh hb
    go_enter Try.func19, Try.ntmps19
    go_wp2_with fail
    refine cA.mono ?_
    rintro e w' ⟨rfl, rfl⟩
    go_wp2_with fail
    refine cH.mono ?_
    rintro e w' ⟨rfl, rfl⟩
    go_wp2_with fail
    go_ret
    exact ⟨rfl, rfl⟩
  · rw [hh] at cH
    have hk : 1024 < k := by simpa [St.bad, hh] using hb
    have hk' : decide (1024 < (k : Int)) = true := by simp; omega
    clear h ho hh hb
    go_enter Try.func19, Try.ntmps19
    go_wp2_with fail
    refine cA.mono ?_
    rintro e w' ⟨rfl, rfl⟩
    go_wp2_with fail
    refine cH.mono ?_
    rintro e w' ⟨rfl, rfl⟩
    go_wp2_with fail
    go_ret
    exact ⟨rfl, rfl⟩
theorem write_out (w : World) (sb bl bc : Nat) (s : St) (n : Int) (A : Option Addr) (k c : Nat) (h : Dev w sb bl bc s) (ho : s.off = false) (hb : s.bad n k = false) (hA : s.actE = 40) : Calls Try.prog 19 #[ptr sb, .int .i64 n, .slice A k c] w fun e w' =>
    e = .returned (.int .i64 40) ∧ Dev w' sb bl bc s.act ∧ Mod [sb, bl, bc] w w' := by
  have cA := awake_dev w sb bl bc s h
  rw [show s.awE = 0 by simp [St.awE, ho]] at cA
  have cH := has_dev w sb bl bc s n h
  have cT := act_dev w sb bl bc s h
  rw [hA] at cT
  obtain ⟨hh, hk⟩ : s.has n = true ∧ k ≤ 1024 := by simpa [St.bad] using hb
  rw [hh] at cH
  have hk' : decide (1024 < (k : Int)) = false := by simp; omega
  clear h ho hh hb hA
  go_enter Try.func19, Try.ntmps19
  go_wp2_with fail
  refine cA.mono ?_
  rintro e w' ⟨rfl, rfl⟩
  go_wp2_with fail
  refine cH.mono ?_
  rintro e w' ⟨rfl, rfl⟩
  go_wp2_with fail
  refine cT.mono ?_
  rintro e w' ⟨rfl, HD, HM⟩
  go_wp2_with fail
  go_ret
  exact ⟨rfl, HD, HM⟩
set_option maxRecDepth 100000 in
theorem write_ok (w : World) (sb bl bc : Nat) (s : St) (n : Int) (A : Option Addr) (k c : Nat) (l : Bs) (hl : l.length = k) (hR : BRow w A l) (hAS : l ≠ [] → ∀ a, A = some a → a.block ≠ sb ∧ a.block ≠ bl ∧ a.block ≠ bc) (h : Dev w sb bl bc s) (ho : s.off = false) (hb : s.bad n k = false) (hA : s.actE = 0) :
    Calls Try.prog 19 #[ptr sb, .int .i64 n, .slice A k c] w fun e w' =>
    e = .returned (.int .i64 0) ∧ Dev w' sb bl bc { s.act with C := upd s.act.C n (some (pad l)) } ∧ Mod [sb, bl, bc] w w' := by
  have cA := awake_dev w sb bl bc s h
  rw [show s.awE = 0 by simp [St.awE, ho]] at cA
  have cH := has_dev w sb bl bc s n h
  have cT := act_dev w sb bl bc s h
  rw [hA] at cT
  obtain ⟨hh, hk⟩ : s.has n = true ∧ k ≤ 1024 := by simpa [St.bad] using hb
  rw [hh] at cH
  have HN := Lib.hid (show 0 ≤ n ∧ n < s.act.n by rw [act_n]; exact has_bounds hh)
  have hk' : decide (1024 < (k : Int)) = false := by simp; omega
  have HR := Lib.hid hR
  have HL := Lib.hid hl
  have HAS := Lib.hid hAS
  clear h ho hh hb hA hR hl hAS
  go_enter Try.func19, Try.ntmps19
  go_wp2_with fail
  refine cA.mono ?_
  rintro e w' ⟨rfl, rfl⟩
  go_wp2_with fail
  refine cH.mono ?_
  rintro e w' ⟨rfl, rfl⟩
  go_wp2_with fail
  refine cT.mono ?_
  rintro e w1 ⟨rfl, HD, HM⟩
  have hD2 := HD.alloc (.cells (secC zeros) 66)
  have hg := heap_alloc_last w1 (.cells (secC zeros) 66)
  have hR2 : BRow (w1.alloc (.cells (secC zeros) 66)) A l := (HR.out.mod HM (fun hne a ha => by obtain ⟨h1, h2, h3⟩ := HAS.out hne a ha; simp [h1, h2, h3])).below (by exact (Below.refl _ _).alloc (Nat.le_refl _) _)
  have CR := copy_run (w1.alloc (.cells (secC zeros) 66)) w1.heap.size zeros l A k c 1024 1024 3 _ hg HL.out hk (by rw [zeros_len]; exact Nat.le_refl _) hR2
  rw [World.setRow_alloc_new, over_zeros] at CR
  have CR := Lib.hid CR
  have ZZ := Lib.hid (zero_sec w1)
  have hpl : (pad l).length = 1024 := pad_len (by have := HL.out; omega)
  have hD3 := HD.alloc (.cells (secC (pad l)) 66)
  have HR3 : Hid (∃ w2, (Instr.mapUpdate 58 (.map (some bc)) (.int .i64 n) (.agg (secC (pad l)))).run Try.prog (w1.alloc (.cells (secC (pad l)) 66)).drew = .ok () w2 ∧ Dev w2 sb bl bc { s.act with C := upd s.act.C n (some (pad l)) } ∧ Mod [sb, bl, bc] w w2) := Lib.hid <| by
    have h2 := hD3.kept (Mod.refl [] _).drew (by simp) (by simp) (by simp)
    obtain ⟨w2, hrun, hm, hg2⟩ := h2.cache.store h2.nle n HN.out.1 HN.out.2 (pad l) hpl
    exact ⟨w2, hrun, h2.withC hg2 hm, (HM.alloc _).drew.grown hg2 (fun k e => .inl (by cases e; simp))⟩
  have LD2 := Lib.hid (load_sec (w := (w1.alloc (.cells (secC (pad l)) 66)).drew) (b := w1.heap.size) hpl (heap_alloc_last _ _))
  obtain ⟨c0, c1, c2, c3, c4, c5⟩ := hD3.cells
  clear hD2 hg hR2 hpl hD3 HR HAS HN HL c0 c1 c3 c4 c5 HM HD cA cH cT
  generalize zeros = z at *
  go_wp2_with (first
    | (refine wpList_alloc_eq rfl 66 rfl _ ZZ.out ?_)
    | (refine wpList_copy_eq rfl 32 32 (.tmp 29) (.tmp 30) rfl _ _ rfl rfl CR.out ?_))
  refine region_tail 6 (by kernel_rfl) (by kernel_rfl) ?_
  intro w2 hw2
  simp only [List.take_succ_cons, List.take_zero, List.drop_succ_cons, List.drop_zero]
  have hc2 : w2.cell? ⟨sb, 2, none⟩ = some (.map (some bc)) := by rw [hw2]; exact c2
  obtain ⟨w3, hrun, HD⟩ := HR3.out
  have HD' := Lib.hid HD
  rw [← hw2] at hrun
  have R := Lib.hid hrun
  have LD3 := LD2.out
  rw [← hw2] at LD3
  have LD4 := Lib.hid LD3
  clear hrun c2 CR ZZ HR3 HD hw2 LD2 LD3
  repeat (first | (refine wpStill_load_eq rfl 66 (.tmp 9) rfl _ rfl LD4.out ?_) | still_step)
  refine wpStill_nil ?_
  go_wp2_with (refine wpList_mapUpdate_eq rfl 58 (.tmp 35) (.tmp 36) (.tmp 37) rfl _ _ _ rfl rfl rfl R.out ?_)
  go_ret
  exact ⟨rfl, HD'.out⟩
theorem write_dev (w : World) (sb bl bc : Nat) (s : St) (n : Int) (A : Option Addr) (k c : Nat) (l : Bs) (hl : l.length = k) (hR : BRow w A l) (hAS : l ≠ [] → ∀ a, A = some a → a.block ≠ sb ∧ a.block ≠ bl ∧ a.block ≠ bc) (h : Dev w sb bl bc s) :
    Calls Try.prog 19 #[ptr sb, .int .i64 n, .slice A k c] w fun e w' => e = .returned (.int .i64 (s.writeE n l)) ∧ Dev w' sb bl bc (s.write n l) ∧ Mod [sb, bl, bc] w w' := by
  subst hl
  unfold St.writeE St.write
  cases ho : s.off
  · cases hb : s.bad n l.length
    · rcases actE_or s with hA | hA
      · rw [hA]
        exact write_ok w sb bl bc s n A _ c l rfl hR hAS h ho hb hA
      · rw [hA]
        exact write_out w sb bl bc s n A _ c h ho hb hA
    · refine (write_bad w sb bl bc s n A _ c h ho hb).mono ?_
      rintro e w' ⟨rfl, rfl⟩
      exact ⟨rfl, h, Mod.refl _ _⟩
  · refine (write_off w sb bl bc s n A _ c h ho).mono ?_
    rintro e w' ⟨rfl, rfl⟩
    exact ⟨rfl, h, Mod.refl _ _⟩
theorem fuse_nil (k : Int) (w : World) : Calls Try.prog 24 #[.pointer none, .int .i64 k] w fun e w' => e = .returned (.tuple #[]) ∧ w = w' := by
  go_enter Try.func24, Try.ntmps24
  go_wp2_with fail
  refine bodyPost_ret (results_none rfl _ _ _) rfl ?_
  exact ⟨rfl, rfl⟩
def St.setFuse (s : St) (k : Int) : St := { s with fused := decide (0 ≤ k), fuse := max k 0 }
theorem Dev.fused {w : World} {sb bl bc : Nat} {s : St} (h : Dev w sb bl bc s) (b : Bool) (k : Int) (h0 : 0 ≤ k) (h1 : k ≤ 9223372036854775807) : Dev ((w.setCell ⟨sb, 4, none⟩ (.bool b)).setCell ⟨sb, 5, none⟩ (.int .i64 k)) sb bl bc { s with fused := b, fuse := k } := by
  have h2 := heap_setCell_box (heap_setCell_box h.box 4 (.bool b)) 5 (.int .i64 k)
  refine ⟨h2, h.last.of_block ?_, h.cache.of_block ?_, h.ne, h.nz, h.nle, h0, h1⟩
  · rw [Below.heap_setCell _ _ _ _ h.sbl.symm, Below.heap_setCell _ _ _ _ h.sbl.symm]
  · rw [Below.heap_setCell _ _ _ _ h.sbc.symm, Below.heap_setCell _ _ _ _ h.sbc.symm]
theorem fuse_dev (w : World) (sb bl bc : Nat) (s : St) (k : Int) (h : Dev w sb bl bc s) (k1 : k ≤ 9223372036854775807) : Calls Try.prog 24 #[ptr sb, .int .i64 k] w fun e w' =>
    e = .returned (.tuple #[]) ∧ Dev w' sb bl bc (s.setFuse k) ∧ Mod [sb, bl, bc] w w' := by
  obtain ⟨c0, c1, c2, c3, c4, c5⟩ := h.cells
  have f4 := h.free 4
  have f5 := h.free 5
  unfold St.setFuse
  by_cases hk : 0 ≤ k
  · have b0 : decide (0 ≤ k) = true := by simpa using hk
    have HD := Lib.hid (h.fused true (max k 0) (by omega) (by omega))
    rw [b0]
    clear h c0 c1 c2 c3
    go_enter Try.func24, Try.ntmps24
    go_wp2_with fail
    go_end0
    exact ⟨rfl, HD.out, ((Mod.refl _ _).setCell _ _ (.inl (by simp))).setCell _ _ (.inl (by simp))⟩
  · have b0 : decide (0 ≤ k) = false := by simpa using hk
    have HD := Lib.hid (h.fused false (max k 0) (by omega) (by omega))
    rw [b0]
    clear h c0 c1 c2 c3
    go_enter Try.func24, Try.ntmps24
    go_wp2_with fail
    go_end0
    exact ⟨rfl, HD.out, ((Mod.refl _ _).setCell _ _ (.inl (by simp))).setCell _ _ (.inl (by simp))⟩
theorem sectors_nil (w : World) : Calls Try.prog 27 #[.pointer none] w fun e w' => e = .returned (.int .i64 0) ∧ w = w' := by
  go_enter Try.func27, Try.ntmps27
  go_wp2_with fail
  go_ret
  exact ⟨rfl, rfl⟩
theorem sectors_dev (w : World) (sb bl bc : Nat) (s : St) (h : Dev w sb bl bc s) : Calls Try.prog 27 #[ptr sb] w fun e w' => e = .returned (.int .i64 (s.n : Int)) ∧ w = w' := by
  obtain ⟨c0, c1, c2, c3, c4, c5⟩ := h.cells
  clear h c1 c2 c3 c4 c5
  go_enter Try.func27, Try.ntmps27
  go_wp2_with fail
  go_ret
  exact ⟨rfl, rfl⟩
theorem off_nil (w : World) : Calls Try.prog 25 #[.pointer none] w fun e w' => e = .returned (.bool false) ∧ w = w' := by
  go_enter Try.func25, Try.ntmps25
  go_wp2_with fail
  go_ret
  exact ⟨rfl, rfl⟩
theorem off_dev (w : World) (sb bl bc : Nat) (s : St) (h : Dev w sb bl bc s) : Calls Try.prog 25 #[ptr sb] w fun e w' => e = .returned (.bool s.off) ∧ w = w' := by
  obtain ⟨c0, c1, c2, c3, c4, c5⟩ := h.cells
  clear h c0 c1 c2 c4 c5
  go_enter Try.func25, Try.ntmps25
  go_wp2_with fail
  go_ret
  exact ⟨rfl, rfl⟩
end Go.Proofs.Ytoldkhfnebjacaa.Disk
