/-
  Texts of one family, one behind the other: DWrite, DSync, DTear, DRestart.
-/
import Derived.Test.YtboaamaneeodfaaGreatKD1
import Derived.Deep.LoopGhost
namespace Go.Proofs.YtboaamaneeodfaaGreat.Disk
open Go.RowKit Go.Maps Gen

/-- What is laid over a sector's first bytes. -/
def over (l m : Bs) : Bs := l ++ m.drop l.length
theorem over_len {l m : Bs} (h : l.length ≤ m.length) : (over l m).length = m.length := by simp [over]; omega
theorem over_zeros (l : Bs) : over l zeros = pad l := by rw [over, pad, zeros, List.drop_replicate]
theorem copy_run (w : World) (g : Nat) (m l : Bs) (A : Option Addr) (k c dl cp : Nat) (ty : TypeId) (t : TypeId) (hg : w.heap[g]? = some (.cells (secC m) t (0, 0))) (hl : l.length = k) (hk : k ≤ dl) (hd : dl ≤ m.length) (hR : BRow w A l) :
    (Builtin.copy_ #[129, 129] ty #[.slice (some ⟨g, 0, none⟩) dl cp, .slice A k c]).run Tryz.prog w = .ok (goInt k) (w.setRow g (secC (over l m))) := by
  have hmin : Nat.min k dl = k := Nat.min_eq_left hk
  by_cases h0 : l = []
  · subst h0
    obtain rfl : k = 0 := by simpa using hl.symm
    rw [run_copy_none (P := Tryz.prog) w _ _ ty 5 _ A dl cp 0 c Tryz.underlying129 (by kernel_rfl) hmin]
    rw [show over [] m = m by simp [over], setRow_self w g _ _ _ hg]; rfl
  · obtain ⟨b, off, rfl, _, hc⟩ := hR h0
    have := run_copy_row (P := Tryz.prog) w 129 129 ty 5 g 0 dl cp ⟨b, off, none⟩ k c (secC m) t (l.map byteV) Tryz.underlying129 (by kernel_rfl) hg (by simp [hl]; omega) (fun j v hv => by
      have e : (⟨b, off, none⟩ : Addr).add j = ⟨b, off + j, none⟩ := by unfold Addr.add; split <;> simp_all
      rw [List.getElem?_map, Option.map_eq_some_iff] at hv
      obtain ⟨x, hx, rfl⟩ := hv
      obtain ⟨hj, hx⟩ := List.getElem?_eq_some_iff.1 hx
      rw [e, hc j hj, hx]) (by rw [secC_size]; simp; omega) (fun v hv => by
        obtain ⟨x, _, rfl⟩ := List.mem_map.1 hv; rfl)
    rw [this]
    have e2 : ((secC m).toList.take 0 ++ l.map byteV ++ (secC m).toList.drop (0 + (l.map byteV).length)).toArray = secC (over l m) := by
      simp [secC, over, List.map_drop]
    rw [e2]
    simp [hl]
theorem wpList_copy_eq {P : Program} {ops : Array Oper} {rest : List Oper} {o : Oper} {a : Act} {Q : Exit → Act → World → Prop} {w w' : World} {v : Value} (hgd : o.guard = none) (t t' : TypeId) (x y : Operand) (ho : o.op = .call { callee := .builtin .copy, args := #[x, y], argTypes := #[t, t'] }) (p u : Value) (hx : a.eval x = p) (hy : a.eval y = u)
    (hrun : (Builtin.copy_ #[t, t'] o.type #[p, u]).run P w = .ok v w') (h : wpList P ops Q rest (a.put o.dst v) w') : wpList P ops Q (o :: rest) a w := by
  refine wpList_plain hgd fun K hK => ?_
  unfold Oper.wp
  simp [execOp, ho, resolve, invoke, builtin, hx, hy, hrun, Result.andThen]
  exact hK _ _ h

def St.bad (s : St) (n : Int) (k : Nat) : Bool := !s.has n || decide (1024 < k)
def St.writeE (s : St) (n : Int) (l : Bs) : Int := if s.off then 40 else if s.bad n l.length then 41 else s.actE
def St.write (s : St) (n : Int) (l : Bs) : St := if s.off then s else if s.bad n l.length then s else if s.actE = 0 then { s.act with C := upd s.act.C n (some (pad l)) } else s.act
theorem act_n (s : St) : s.act.n = s.n := by unfold St.act; split <;> (try split) <;> rfl
theorem act_C (s : St) : s.act.C = s.C := by unfold St.act; split <;> (try split) <;> rfl
theorem act_L (s : St) : s.act.L = s.L := by unfold St.act; split <;> (try split) <;> rfl

theorem write_nil (n : Int) (A : Option Addr) (k c : Nat) (w : World) : Calls Tryz.prog 132 #[.pointer none, .int .i64 n, .slice A k c] w fun e w' => e = .returned (.int .i64 1) ∧ w = w' := by
  go_enter Tryz.func132, Tryz.ntmps132
  go_wp2_with fail
  refine (awake_nil _).mono ?_
  rintro e w' ⟨rfl, rfl⟩
  go_wp2_with fail
  go_ret
  exact ⟨rfl, rfl⟩
theorem write_off (w : World) (sb bl bc : Nat) (s : St) (n : Int) (A : Option Addr) (k c : Nat) (h : Dev w sb bl bc s) (ho : s.off = true) : Calls Tryz.prog 132 #[ptr sb, .int .i64 n, .slice A k c] w fun e w' => e = .returned (.int .i64 40) ∧ w = w' := by
  have cA := awake_dev w sb bl bc s h
  rw [show s.awE = 40 by simp [St.awE, ho]] at cA
  clear h ho
  go_enter Tryz.func132, Tryz.ntmps132
  go_wp2_with fail
  refine cA.mono ?_
  rintro e w' ⟨rfl, rfl⟩
  go_wp2_with fail
  go_ret
  exact ⟨rfl, rfl⟩
theorem write_bad (w : World) (sb bl bc : Nat) (s : St) (n : Int) (A : Option Addr) (k c : Nat) (h : Dev w sb bl bc s) (ho : s.off = false) (hb : s.bad n k = true) : Calls Tryz.prog 132 #[ptr sb, .int .i64 n, .slice A k c] w fun e w' => e = .returned (.int .i64 41) ∧ w = w' := by
  have cA := awake_dev w sb bl bc s h
  rw [show s.awE = 0 by simp [St.awE, ho]] at cA
  have cH := has_dev w sb bl bc s n h
  cases hh : s.has n
  · rw [hh] at cH
    clear h ho hh hb
    go_enter Tryz.func132, Tryz.ntmps132
    go_wp2_with fail
    refine cA.mono ?_
    rintro e w' ⟨rfl, rfl⟩
    go_wp2_with fail
    refine cH.mono ?_
    rintro e w' ⟨rfl, rfl⟩
    go_wp2_with fail
    go_ret
    exact ⟨rfl, rfl⟩
  · rw [hh] at cH
    have hk : 1024 < k := by simpa [St.bad, hh] using hb
    have hk' : decide (1024 < (k : Int)) = true := by simp; omega
    clear h ho hh hb
    go_enter Tryz.func132, Tryz.ntmps132
    go_wp2_with fail
    refine cA.mono ?_
    rintro e w' ⟨rfl, rfl⟩
    go_wp2_with fail
    refine cH.mono ?_
    rintro e w' ⟨rfl, rfl⟩
    go_wp2_with fail
    go_ret
    exact ⟨rfl, rfl⟩
theorem write_out (w : World) (sb bl bc : Nat) (s : St) (n : Int) (A : Option Addr) (k c : Nat) (h : Dev w sb bl bc s) (ho : s.off = false) (hb : s.bad n k = false) (hA : s.actE = 40) : Calls Tryz.prog 132 #[ptr sb, .int .i64 n, .slice A k c] w fun e w' =>
    e = .returned (.int .i64 40) ∧ Dev w' sb bl bc s.act ∧ Mod [sb, bl, bc] w w' := by
  have cA := awake_dev w sb bl bc s h
  rw [show s.awE = 0 by simp [St.awE, ho]] at cA
  have cH := has_dev w sb bl bc s n h
  have cT := act_dev w sb bl bc s h
  rw [hA] at cT
  obtain ⟨hh, hk⟩ : s.has n = true ∧ k ≤ 1024 := by simpa [St.bad] using hb
  rw [hh] at cH
  have hk' : decide (1024 < (k : Int)) = false := by simp; omega
  clear h ho hh hb hA
  go_enter Tryz.func132, Tryz.ntmps132
  go_wp2_with fail
  refine cA.mono ?_
  rintro e w' ⟨rfl, rfl⟩
  go_wp2_with fail
  refine cH.mono ?_
  rintro e w' ⟨rfl, rfl⟩
  go_wp2_with fail
  refine cT.mono ?_
  rintro e w' ⟨rfl, HD, HM⟩
  go_wp2_with fail
  go_ret
  exact ⟨rfl, HD, HM⟩
set_option maxRecDepth 100000 in
theorem write_ok (w : World) (sb bl bc : Nat) (s : St) (n : Int) (A : Option Addr) (k c : Nat) (l : Bs) (hl : l.length = k) (hR : BRow w A l) (hAS : l ≠ [] → ∀ a, A = some a → a.block ≠ sb ∧ a.block ≠ bl ∧ a.block ≠ bc) (h : Dev w sb bl bc s) (ho : s.off = false) (hb : s.bad n k = false) (hA : s.actE = 0) :
    Calls Tryz.prog 132 #[ptr sb, .int .i64 n, .slice A k c] w fun e w' =>
    e = .returned (.int .i64 0) ∧ Dev w' sb bl bc { s.act with C := upd s.act.C n (some (pad l)) } ∧ Mod [sb, bl, bc] w w' := by
  have cA := awake_dev w sb bl bc s h
  rw [show s.awE = 0 by simp [St.awE, ho]] at cA
  have cH := has_dev w sb bl bc s n h
  have cT := act_dev w sb bl bc s h
  rw [hA] at cT
  obtain ⟨hh, hk⟩ : s.has n = true ∧ k ≤ 1024 := by simpa [St.bad] using hb
  rw [hh] at cH
  have HN := Lib.hid (show 0 ≤ n ∧ n < s.act.n by rw [act_n]; exact has_bounds hh)
  have hk' : decide (1024 < (k : Int)) = false := by simp; omega
  have HR := Lib.hid hR
  have HL := Lib.hid hl
  have HAS := Lib.hid hAS
  clear h ho hh hb hA hR hl hAS
  go_enter Tryz.func132, Tryz.ntmps132
  go_wp2_with fail
  refine cA.mono ?_
  rintro e w' ⟨rfl, rfl⟩
  go_wp2_with fail
  refine cH.mono ?_
  rintro e w' ⟨rfl, rfl⟩
  go_wp2_with fail
  refine cT.mono ?_
  rintro e w1 ⟨rfl, HD, HM⟩
  have hD2 := HD.alloc (.cells (secC zeros) 89)
  have hg := heap_alloc_last w1 (.cells (secC zeros) 89)
  have hR2 : BRow (w1.alloc (.cells (secC zeros) 89)) A l := (HR.out.mod HM (fun hne a ha => by obtain ⟨h1, h2, h3⟩ := HAS.out hne a ha; simp [h1, h2, h3])).below (by exact (Below.refl _ _).alloc (Nat.le_refl _) _)
  have CR := copy_run (w1.alloc (.cells (secC zeros) 89)) w1.heap.size zeros l A k c 1024 1024 3 _ hg HL.out hk (by rw [zeros_len]; exact Nat.le_refl _) hR2
  rw [World.setRow_alloc_new, over_zeros] at CR
  have CR := Lib.hid CR
  have ZZ := Lib.hid (zero_sec w1)
  have hpl : (pad l).length = 1024 := pad_len (by have := HL.out; omega)
  have hD3 := HD.alloc (.cells (secC (pad l)) 89)
  have HR3 : Hid (∃ w2, (Instr.mapUpdate 91 (.map (some bc)) (.int .i64 n) (.agg (secC (pad l)))).run Tryz.prog (w1.alloc (.cells (secC (pad l)) 89)).drew = .ok () w2 ∧ Dev w2 sb bl bc { s.act with C := upd s.act.C n (some (pad l)) } ∧ Mod [sb, bl, bc] w w2) := Lib.hid <| by
    have h2 := hD3.kept (Mod.refl [] _).drew (by simp) (by simp) (by simp)
    obtain ⟨w2, hrun, hm, hg2⟩ := h2.cache.store h2.nle n HN.out.1 HN.out.2 (pad l) hpl
    exact ⟨w2, hrun, h2.withC hg2 hm, (HM.alloc _).drew.grown hg2 (fun k e => .inl (by cases e; simp))⟩
  have LD2 := Lib.hid (load_sec (w := (w1.alloc (.cells (secC (pad l)) 89)).drew) (b := w1.heap.size) hpl (heap_alloc_last _ _))
  obtain ⟨c0, c1, c2, c3, c4, c5⟩ := hD3.cells
  clear hD2 hg hR2 hpl hD3 HR HAS HN HL c0 c1 c3 c4 c5 HM HD cA cH cT
  generalize zeros = z at *
  go_wp2_with (first
    | (refine wpList_alloc_eq rfl 89 rfl _ ZZ.out ?_)
    | (refine wpList_copy_eq rfl 129 129 (.tmp 29) (.tmp 30) rfl _ _ rfl rfl CR.out ?_))
  refine region_tail 6 (by kernel_rfl) (by kernel_rfl) ?_
  intro w2 hw2
  simp only [List.take_succ_cons, List.take_zero, List.drop_succ_cons, List.drop_zero]
  have hc2 : w2.cell? ⟨sb, 2, none⟩ = some (.map (some bc)) := by rw [hw2]; exact c2
  obtain ⟨w3, hrun, HD⟩ := HR3.out
  have HD' := Lib.hid HD
  rw [← hw2] at hrun
  have R := Lib.hid hrun
  have LD3 := LD2.out
  rw [← hw2] at LD3
  have LD4 := Lib.hid LD3
  clear hrun c2 CR ZZ HR3 HD hw2 LD2 LD3
  repeat (first | (refine wpStill_load_eq rfl 89 (.tmp 9) rfl _ rfl LD4.out ?_) | still_step)
  refine wpStill_nil ?_
  go_wp2_with (refine wpList_mapUpdate_eq rfl 91 (.tmp 35) (.tmp 36) (.tmp 37) rfl _ _ _ rfl rfl rfl R.out ?_)
  go_ret
  exact ⟨rfl, HD'.out⟩
theorem write_dev (w : World) (sb bl bc : Nat) (s : St) (n : Int) (A : Option Addr) (k c : Nat) (l : Bs) (hl : l.length = k) (hR : BRow w A l) (hAS : l ≠ [] → ∀ a, A = some a → a.block ≠ sb ∧ a.block ≠ bl ∧ a.block ≠ bc) (h : Dev w sb bl bc s) :
    Calls Tryz.prog 132 #[ptr sb, .int .i64 n, .slice A k c] w fun e w' => e = .returned (.int .i64 (s.writeE n l)) ∧ Dev w' sb bl bc (s.write n l) ∧ Mod [sb, bl, bc] w w' := by
  subst hl
  unfold St.writeE St.write
  cases ho : s.off
  · cases hb : s.bad n l.length
    · rcases actE_or s with hA | hA
      · rw [hA]
        exact write_ok w sb bl bc s n A _ c l rfl hR hAS h ho hb hA
      · rw [hA]
        exact write_out w sb bl bc s n A _ c h ho hb hA
    · refine (write_bad w sb bl bc s n A _ c h ho hb).mono ?_
      rintro e w' ⟨rfl, rfl⟩
      exact ⟨rfl, h, Mod.refl _ _⟩
  · refine (write_off w sb bl bc s n A _ c h ho).mono ?_
    rintro e w' ⟨rfl, rfl⟩
    exact ⟨rfl, h, Mod.refl _ _⟩
theorem sectors_nil (w : World) : Calls Tryz.prog 45 #[.pointer none] w fun e w' => e = .returned (.int .i64 0) ∧ w = w' := by
  go_enter Tryz.func45, Tryz.ntmps45
  go_wp2_with fail
  go_ret
  exact ⟨rfl, rfl⟩
theorem sectors_dev (w : World) (sb bl bc : Nat) (s : St) (h : Dev w sb bl bc s) : Calls Tryz.prog 45 #[ptr sb] w fun e w' => e = .returned (.int .i64 (s.n : Int)) ∧ w = w' := by
  obtain ⟨c0, c1, c2, c3, c4, c5⟩ := h.cells
  clear h c1 c2 c3 c4 c5
  go_enter Tryz.func45, Tryz.ntmps45
  go_wp2_with fail
  go_ret
  exact ⟨rfl, rfl⟩
end Go.Proofs.YtboaamaneeodfaaGreat.Disk
namespace Go.Proofs.YtboaamaneeodfaaGreat.Disk
open Go.RowKit Go.Maps Gen

def laid (l : Bs) : Option Bs := if l = zeros then none else some l
/-- What lasts, where the sectors of the cache that are no longer left have been laid. -/
def merged (s : St) (left : Lit → Bool) : Int → Option Bs := fun x => match s.C x with
  | some l => if left (keyL x) then s.L x else laid l
  | none => s.L x
def St.synced (s : St) : St := { s with L := merged s (fun _ => false), C := fun _ => none }
def St.syncE (s : St) : Int := if s.off then 40 else s.actE
def St.sync (s : St) : St := if s.off then s else if s.actE = 0 then s.act.synced else s.act

theorem merged_start (s : St) (left : Lit → Bool) (h : ∀ x l, s.C x = some l → left (keyL x) = true) : merged s left = s.L := by
  funext x
  unfold merged
  split
  · rename_i l hl
    rw [if_pos (h x l hl)]
  · rfl
theorem merged_step (s : St) (left : Lit → Bool) (x : Int) (c : Bs) (hc : s.C x = some c) : upd (merged s left) x (laid c) = merged s (fun z => left z && !z.sameKey (keyL x)) := by
  funext y
  by_cases e : y = x
  · subst e
    rw [upd_same]
    unfold merged
    simp [hc, WideAt.sameKey_self (isKey y)]
  · rw [upd_other _ _ e]
    unfold merged
    simp [Maps.sameKey_ne (keyL_ne e)]
theorem laid_ne (l : Bs) : laid l ≠ some zeros := by unfold laid; split <;> simp_all

theorem sync_nil (w : World) : Calls Tryz.prog 68 #[.pointer none] w fun e w' => e = .returned (.int .i64 1) ∧ w = w' := by
  go_enter Tryz.func68, Tryz.ntmps68
  go_wp2_with fail
  refine (awake_nil _).mono ?_
  rintro e w' ⟨rfl, rfl⟩
  go_wp2_with fail
  go_ret
  exact ⟨rfl, rfl⟩
theorem sync_off (w : World) (sb bl bc : Nat) (s : St) (h : Dev w sb bl bc s) (ho : s.off = true) : Calls Tryz.prog 68 #[ptr sb] w fun e w' => e = .returned (.int .i64 40) ∧ w = w' := by
  have cA := awake_dev w sb bl bc s h
  rw [show s.awE = 40 by simp [St.awE, ho]] at cA
  clear h ho
  go_enter Tryz.func68, Tryz.ntmps68
  go_wp2_with fail
  refine cA.mono ?_
  rintro e w' ⟨rfl, rfl⟩
  go_wp2_with fail
  go_ret
  exact ⟨rfl, rfl⟩
theorem sync_out (w : World) (sb bl bc : Nat) (s : St) (h : Dev w sb bl bc s) (ho : s.off = false) (hA : s.actE = 40) : Calls Tryz.prog 68 #[ptr sb] w fun e w' =>
    e = .returned (.int .i64 40) ∧ Dev w' sb bl bc s.act ∧ Mod [sb, bl, bc] w w' := by
  have cA := awake_dev w sb bl bc s h
  rw [show s.awE = 0 by simp [St.awE, ho]] at cA
  have cT := act_dev w sb bl bc s h
  rw [hA] at cT
  clear h ho hA
  go_enter Tryz.func68, Tryz.ntmps68
  go_wp2_with fail
  refine cA.mono ?_
  rintro e w' ⟨rfl, rfl⟩
  go_wp2_with fail
  refine cT.mono ?_
  rintro e w' ⟨rfl, HD, HM⟩
  go_wp2_with fail
  go_ret
  exact ⟨rfl, HD, HM⟩
/-- Between two rounds of the loop over the cache. -/
def SyncRel (w : World) (sb bl bc r N : Nat) (s : St) (D : DataW Unit) (wr : World) : Prop :=
  ∃ left cnt, wr.ranges Tryz.prog 3 SecR bc r N D left cnt ∧ Dev wr sb bl bc { s with L := merged s left } ∧ Mod [sb, bl, bc] w wr ∧ r ≠ bl
/-- What the step of the loop gives. -/
theorem sync_step {w wr w' : World} {sb bl bc r N : Nat} {s : St} {D : DataW Unit} {left : Lit → Bool} {cnt : Nat} (hD : ∀ x, look D x = s.C x) (hdev : Dev wr sb bl bc { s with L := merged s left }) (hm : Mod [sb, bl, bc] w wr) (hrb : r ≠ bl) (hrs : w.heap.size ≤ r)
    {x : Int} {c : Bs} {kl : Lit} {yd : DataW Unit} {yp : List MemPlace} (hkey : keyOf Tryz.prog 3 (.int .i64 x) = some kl) (hv : SecR (.agg (secC c)) = some (yd, yp)) (hat : ∀ zd, D.atKey kl zd = yd)
    (hrg : wr.ranges Tryz.prog 3 SecR bc r N D left cnt) (hg : wr.grownBy w' (some r)) :
    kl = keyL x ∧ c.length = 1024 ∧ s.C x = some c ∧ 0 ≤ x ∧ x < s.n ∧ Dev w' sb bl bc { s with L := merged s left } ∧ Mod [sb, bl, bc] w w' := by
  obtain ⟨x', e1, e2, _⟩ := Maps.keyOf_int_inv Tryz.underlying3 hkey
  injection e1 with _ e1
  subst e1
  obtain ⟨l, hl, e3, e4⟩ := secR_inv hv
  injection e3 with e3
  obtain rfl := secC_inj e3
  injection e4 with e4 _
  subst e4 e2
  have hh := Maps.has_true_of_atKey hat
  have hC : s.C x = some c := by
    rw [← hD, look, hh, if_pos rfl, hat]; rfl
  have hf := hdev.cache.fit x c hC
  have hrsb : sb ≠ r := fun e => by
    obtain ⟨es, clock, since, seen, c0, _, _, _, _, hr, _⟩ := hrg
    have := hdev.box
    rw [e, hr] at this; cases this
  have hrbc : bc ≠ r := fun e => hrg.ne e.symm
  have m1 : Mod [r] wr w' := (Mod.refl [r] wr).grown hg (fun k e => .inl (by cases e; simp))
  refine ⟨rfl, hl, hC, hf.1, hf.2.1, hdev.kept m1 (by simpa using hrsb) (by simpa using hrb.symm) (by simpa using hrbc), hm.grown hg (fun k e => .inr (by cases e; exact hrs))⟩
theorem Dev.recache {w : World} {sb bl bc : Nat} {s : St} (h : Dev w sb bl bc s) {f : Int → Option Bs} (e : ∀ x, s.L x = f x) : Dev w sb bl bc { s with L := f } := by
  obtain rfl : s.L = f := funext e
  exact h
/-- One round: a sector is laid. -/
theorem sync_round {w w1 w2 : World} {sb bl bc r N : Nat} {s : St} {D : DataW Unit} {left : Lit → Bool} {cnt' : Nat} {x : Int} {c : Bs} (hC : s.C x = some c) (hm : Mod [sb, bl, bc] w w1) (hrb : r ≠ bl) (hne : bl ≠ bc)
    (hrg : w1.ranges Tryz.prog 3 SecR bc r N D (fun z => left z && !z.sameKey (keyL x)) cnt') (HD : Dev w2 sb bl bc (({ s with L := merged s left } : St).lay x c)) (HM : Mod [bl] w1 w2) :
    w2.ranges Tryz.prog 3 SecR bc r N D (fun z => left z && !z.sameKey (keyL x)) cnt' ∧ SyncRel w sb bl bc r N s D w2 := by
  have hr2 : w2.ranges Tryz.prog 3 SecR bc r N D (fun z => left z && !z.sameKey (keyL x)) cnt' := by
    have h1 := hrg.owns.lt
    have h2 := hrg.lt
    obtain ⟨es, clock, since, seen, c0, hb, F, hs, hD, hr, rest⟩ := hrg
    exact ⟨es, clock, since, seen, c0, (HM.block bc h1 (by simpa using hne.symm)).trans hb, F, hs, hD, (HM.block r h2 (by simpa using hrb)).trans hr, rest⟩
  refine ⟨hr2, _, cnt', hr2, HD.recache (fun y => ?_), hm.trans (HM.mono (by simp)), hrb⟩
  exact congrFun (merged_step s left x c hC) y
set_option maxRecDepth 100000 in
set_option maxHeartbeats 1000000 in
theorem sync_core (w0 : World) (sb bl bc : Nat) (s0 s : St) (h0 : Dev w0 sb bl bc s0) (ho : s0.off = false) (hA : s0.actE = 0) (hs : s0.act = s) : Calls Tryz.prog 68 #[ptr sb] w0 fun e w' =>
    e = .returned (.int .i64 0) ∧ Dev w' sb bl bc s.synced ∧ Mod [sb, bl, bc] w0 w' := by
  have cA := awake_dev w0 sb bl bc s0 h0
  rw [show s0.awE = 0 by simp [St.awE, ho]] at cA
  have cT := act_dev w0 sb bl bc s0 h0
  rw [hA, hs] at cT
  clear h0 ho hA hs
  go_enter Tryz.func68, Tryz.ntmps68
  go_wp2_with fail
  refine cA.mono ?_
  rintro e w' ⟨rfl, rfl⟩
  go_wp2_with fail
  refine cT.mono ?_
  rintro e w ⟨rfl, h, HM0⟩
  clear cA cT
  obtain ⟨c0, c1, c2, c3, c4, c5⟩ := h.cells
  obtain ⟨D, hown, _, hlook, hkeys⟩ := h.cache.size
  have hlt := h.lt
  clear c0 c1 c3 c4 c5
  go_wp2_with (first
    | (at_range; refine wpList_range_own _ rfl _ 91 rfl 3 89 intKeyed Tryz.underlying91 _ bc s.n D rfl hown ?_; intro w1 hrg1 hg1 hs1))
  go_frame
  have hst : SyncRel w0 sb bl bc w.heap.size s.n s D w1 := by
    have m1 : Mod [] w w1 := (Mod.refl [] w).grown hg1 (fun k e => by cases e)
    refine ⟨_, _, hrg1, ?_, HM0.grown hg1 (fun k e => by cases e), fun e => ?_⟩
    · refine (h.kept m1 (by simp) (by simp) (by simp)).recache (fun x => ?_)
      rw [merged_start s _ (fun x l hx => ?_)]
      have := hlook x
      rw [hx, look] at this
      revert this
      cases Maps.has D (keyL x) <;> simp
    · have := h.last.lt
      omega
  have hsz : w0.heap.size ≤ w.heap.size := HM0.size
  have HLOOK := Lib.hid hlook
  have HST := Lib.hid hst
  have hne := h.ne
  clear hst hlook hkeys hown h HM0 hg1 hs1 hrg1 c2 hlt
  generalize hr : w.heap.size = r at *
  clear hr
  go_loopw [5] (fun _ wr => SyncRel w0 sb bl bc r s.n s D wr) (fun _ wr => wr.rangeLeft bc r)
  case atStart => exact HST.out
  case round =>
    obtain ⟨left, cnt, hrg, hdev, hm, hrb⟩ := hrel
    obtain ⟨c0, c1, c2, c3, c4, c5⟩ := hdev.cells
    have HDV := Lib.hid hdev
    clear c0 c1 c3 c4 c5 hdev
    go_wp2_with (first
      | (at_next; refine wpList_next_ranges _ rfl _ rfl 3 intKeyed SecR (Value.int .i64) (fun c : Bs => .agg (secC c)) (fun key kl hk => by obtain ⟨x, hx, _⟩ := Maps.keyOf_int_inv Tryz.underlying3 hk; exact ⟨x, hx⟩) (fun v y hv => by obtain ⟨l, _, e, _⟩ := secR_inv hv; exact ⟨l, e⟩) bc r s.n _ _ _ rfl hrg ?_ ?_))
    · intro hc0 hl0
      obtain ⟨w3, hrun, hm3, hg3⟩ := HDV.out.cache.clear 0
      have hfin : Dev w3 sb bl bc s.synced := (HDV.out.recache (f := merged s (fun _ => false)) (fun x => by
        show merged s left x = _
        rw [show left = fun _ => false from funext hl0])).withC hg3 hm3
      have HF := Lib.hid (show Dev w3 sb bl bc s.synced ∧ Mod [sb, bl, bc] w0 w3 from ⟨hfin, hm.grown hg3 (fun k e => .inl (by cases e; simp))⟩)
      have R := Lib.hid hrun
      clear hl0 hrg hfin hrun hm3 hg3 hm hc0 HDV
      go_wp2_with ((with_reducible refine wpList_clear_eq rfl 91 (.tmp 34) rfl _ ?_ R.out ?_); (next => rfl))
      go_ret
      exact ⟨rfl, HF.out⟩
    · intro x c kl yd yp w2 cnt2 hkey hlk hv hat hrg2 hlt hg2 hs2 hen
      obtain ⟨rfl, hcl, hC, hx0, hx1, hd2, hm2⟩ := sync_step HLOOK.out HDV.out hm hrb hsz hkey hv hat hrg hg2
      have ZZ := Lib.hid (zero_sec w2)
      have SS := Lib.hid (store_sec_new w2 (secC zeros) c hcl zeros_size)
      have LD := Lib.hid (load_sec (w := w2.alloc (.cells (secC c) 89)) (b := w2.heap.size) hcl (heap_alloc_last _ _))
      have cY := Lib.hid (lay_dev _ sb bl bc _ x c hcl (hd2.alloc (.cells (secC c) 89)) hx0 hx1)
      have hrg3 := hrg2.alloc (.cells (secC c) 89)
      have HR3 := Lib.hid hrg3
      have HM3 := Lib.hid (hm2.alloc (.cells (secC c) 89))
      have HC := Lib.hid hC
      have HLE := Lib.hid hrg.left_eq
      clear hv hg2 hs2 hkey hlk hat hrg2 hC hx0 hx1 hd2 hm2 hrg3 hm hrg HDV hcl
      generalize zeros = z at *
      go_wp2_with (first
        | ((with_reducible refine wpList_alloc_eq (o := ⟨some 6, _, _, _, _, _⟩) rfl 89 rfl _ ZZ.out ?_))
        | ((with_reducible refine wpList_store_eq rfl 89 (.tmp 6) (.tmp 26) rfl _ _ ?_ ?_ SS.out ?_); (next => rfl); (next => rfl))
        | ((with_reducible refine wpList_load_eq rfl 89 (.tmp 6) rfl _ ?_ LD.out ?_); (next => rfl))
        | (go_at_call 41; refine cY.out.mono ?_; rintro e w3 ⟨rfl, HD, HM⟩))
      obtain ⟨hrg4, hrel4⟩ := sync_round HC.out HM3.out hrb hne HR3.out HD HM
      have HRL := Lib.hid hrel4
      have HR4 := Lib.hid hrg4.left_eq
      clear hrg4 hrel4 HD HM hen
      go_roundw
      case rel => exact HRL.out
      case measure => rw [HR4.out, HLE.out]; exact hlt
theorem sync_dev (w : World) (sb bl bc : Nat) (s : St) (h : Dev w sb bl bc s) : Calls Tryz.prog 68 #[ptr sb] w fun e w' => e = .returned (.int .i64 s.syncE) ∧ Dev w' sb bl bc s.sync ∧ Mod [sb, bl, bc] w w' := by
  unfold St.syncE St.sync
  cases ho : s.off
  · rcases actE_or s with hA | hA
    · rw [hA]
      exact sync_core w sb bl bc s _ h ho hA rfl
    · rw [hA]
      exact sync_out w sb bl bc s h ho hA
  · refine (sync_off w sb bl bc s h ho).mono ?_
    rintro e w' ⟨rfl, rfl⟩
    exact ⟨rfl, h, Mod.refl _ _⟩
end Go.Proofs.YtboaamaneeodfaaGreat.Disk
namespace Go.Proofs.YtboaamaneeodfaaGreat.Disk
open Go.RowKit Go.Maps Gen

/-- A sector of which the first k bytes are those that were written. -/
def torn (l m : Bs) (k : Nat) : Bs := over (l.take k) m
theorem torn_len {l m : Bs} {k : Nat} (hl : l.length = 1024) (hm : m.length = 1024) (hk : k ≤ 1024) : (torn l m k).length = 1024 := by
  rw [torn, over_len (by simp; omega), hm]
theorem BRow.take {w : World} {A : Option Addr} {l : Bs} (h : BRow w A l) (k : Nat) : BRow w A (l.take k) := fun hne => by
  obtain ⟨b, off, e, hlt, hc⟩ := h (fun e => hne (by rw [e]; simp))
  refine ⟨b, off, e, hlt, fun j hj => ?_⟩
  rw [List.length_take] at hj
  rw [hc j (by omega), List.getElem_take]
theorem wpStill_slice_eq {P : Program} {ops : Array Oper} {rest : List Oper} {o : Oper} {a : Act} {Q : Act → Prop} {w : World} {v : Value} (hgd : o.guard = none) (t : TypeId) (x y : Operand) (ho : o.op = .slice t x none (some y) none) (p u : Value) (hx : a.eval x = p) (hy : a.eval y = u) (hrun : (Instr.sliceAt t p none (some u) none).run P w = .ok v w)
    (h : wpStill P ops w Q rest (a.put o.dst v)) : wpStill P ops w Q (o :: rest) a := by
  have hw : Region.wanted o (yielded ops a.tmps) = true := by simp [Region.wanted, hgd]
  refine wpStill_step (fun K hK => ?_)
  rw [if_pos hw]
  simp [Oper.still, Oper.stillUpon, execOp, ho, hx, hy, hrun, Result.andThen]
  exact hK _ h
theorem slice_run (b k : Nat) (hk : k ≤ 1024) (w : World) : (Instr.sliceAt 89 (.pointer (some ⟨b, 0, none⟩)) none (some (.int .i64 (k : Int))) none).run Tryz.prog w = .ok (.slice (some ⟨b, 0, none⟩) k 1024) w := by
  have eh : ∀ code, (Instr.sliceBound (.int .i64 (k : Int)) 1024 code).run Tryz.prog w = .ok k w := fun code => by
    have h0 : (0 : Int) ≤ (k : Int) := by omega
    have h1 : ¬ (1024 : Int) < (k : Int) := by omega
    have := (show (Instr.sliceBound (.int .i64 (k : Int)) 1024 code).run Tryz.prog w = .ok (k : Int).toNat w by simp [Instr.sliceBound, asIntOf, h0, h1, go_sem])
    simpa using this
  have e0 : (⟨b, 0, none⟩ : Addr).add 0 = ⟨b, 0, none⟩ := by unfold Addr.add; split <;> simp_all
  simp [Instr.sliceAt, run_underlying Tryz.underlying89, Instr.sureAddr, Instr.sliceBounds, eh, Tryz.sizeOf5, Result.andThen, e0]
set_option maxRecDepth 100000 in
set_option maxHeartbeats 1000000 in
theorem tear_dev (w : World) (sb bl bc : Nat) (s : St) (n : Int) (l m : Bs) (k : Nat) (hl : l.length = 1024) (hk : k ≤ 1024) (h : Dev w sb bl bc s) (h0 : 0 ≤ n) (h1 : n < s.n) (hm : (s.L n).getD zeros = m) : Calls Tryz.prog 42 #[ptr sb, .int .i64 n, .agg (secC l), .int .i64 (k : Int)] w fun e w' =>
    e = .returned (.tuple #[]) ∧ Dev w' sb bl bc (s.lay n (torn l m k)) ∧ Mod [sb, bl, bc] w w' := by
  have hle := h.nle
  have hml := h.last.getD_len n
  rw [hm] at hml
  have hD1 := h.alloc (.cells (secC l) 89)
  have LL := hD1.last.lookup n (by omega) (by omega)
  rw [hm] at LL
  have LL := Lib.hid LL
  have ZZ := Lib.hid (zero_sec (w.alloc (.cells (secC l) 89)))
  have hlen : (w.alloc (.cells (secC l) 89)).heap.size = w.heap.size + 1 := by simp
  have SS := Lib.hid (store_sec_new (w.alloc (.cells (secC l) 89)) (secC zeros) m hml zeros_size)
  have SS2 := SS
  rw [hlen] at SS2
  have hg1 : ((w.alloc (.cells (secC l) 89)).alloc (.cells (secC m) 89)).heap[w.heap.size]? = some (.cells (secC l) 89 (0, 0)) :=
    (Below.heap_alloc _ _ _ (by simp)).trans (heap_alloc_last w _)
  have hg2 := heap_alloc_last (w.alloc (.cells (secC l) 89)) (.cells (secC m) 89)
  rw [hlen] at hg2
  have CR := copy_run ((w.alloc (.cells (secC l) 89)).alloc (.cells (secC m) 89)).drew (w.heap.size + 1) m (l.take k) (some ⟨w.heap.size, 0, none⟩) k 1024 k 1024 3 _ hg2 (by simp; omega) (Nat.le_refl _) (by omega) (BRow.take (sec_row hg1) k)
  have e2 : ((w.alloc (.cells (secC l) 89)).alloc (.cells (secC m) 89)).drew.setRow (w.heap.size + 1) (secC (over (l.take k) m)) = ((w.alloc (.cells (secC l) 89)).alloc (.cells (secC (over (l.take k) m)) 89)).drew := by
    have := World.setRow_alloc_new (w.alloc (.cells (secC l) 89)) (secC m) (secC (over (l.take k) m)) 89
    rw [hlen] at this
    rw [← this]; rfl
  rw [e2] at CR
  have CR := Lib.hid CR
  have htl : (over (l.take k) m).length = 1024 := torn_len hl hml hk
  have hg3 := heap_alloc_last (w.alloc (.cells (secC l) 89)) (.cells (secC (over (l.take k) m)) 89)
  rw [hlen] at hg3
  have LD := Lib.hid (load_sec (w := ((w.alloc (.cells (secC l) 89)).alloc (.cells (secC (over (l.take k) m)) 89)).drew) (b := w.heap.size + 1) htl hg3)
  have hD2 := (hD1.alloc (.cells (secC (over (l.take k) m)) 89)).kept (Mod.refl [] _).drew (by simp) (by simp) (by simp)
  have cY := Lib.hid (lay_dev _ sb bl bc s n _ htl hD2 h0 h1)
  have MM := Lib.hid (((Mod.refl [sb, bl, bc] w).alloc (.cells (secC l) 89)).alloc (.cells (secC (over (l.take k) m)) 89)).drew
  have S1 := Lib.hid (slice_run w.heap.size k hk)
  have S2 := Lib.hid (slice_run (w.heap.size + 1) k hk)
  obtain ⟨c0, c1, c2, c3, c4, c5⟩ := h.cells
  have hlt := h.lt
  clear h h0 h1 hle hml hm hD1 hD2 hlen hg1 hg2 hg3 htl c0 c2 c3 c4 c5 e2 hl
  unfold torn
  generalize over (l.take k) m = u at *
  generalize zeros = z at *
  go_enter Tryz.func42, Tryz.ntmps42
  go_wp2_with (first
    | ((with_reducible refine wpList_box_eq rfl 89 (.tmp 2) rfl (secC l) ?_ ?_); (next => rfl))
    | ((with_reducible refine wpList_lookup_eq rfl 91 (.tmp 12) (.tmp 13) false rfl _ _ ?_ ?_ LL.out ?_); (next => rfl); (next => rfl))
    | ((with_reducible refine wpList_alloc_eq (o := ⟨some 8, _, _, _, _, _⟩) rfl 89 rfl _ ZZ.out ?_))
    | ((with_reducible refine wpList_store_eq rfl 89 (.tmp 8) (.tmp 14) rfl _ _ ?_ ?_ SS.out ?_); (next => rfl); (next => rfl))
    | ((with_reducible refine wpList_store_eq rfl 89 (.tmp 8) (.tmp 14) rfl _ _ ?_ ?_ SS2.out ?_); (next => rfl); (next => rfl)))
  refine region_tail 4 (by kernel_rfl) (by kernel_rfl) ?_
  intro w2 hw2
  simp only [List.take_succ_cons, List.take_zero, List.drop_succ_cons, List.drop_zero]
  have CR2 := CR.out
  rw [← hw2] at CR2
  have CR3 := Lib.hid CR2
  clear CR CR2 hw2 c1 LL ZZ SS SS2
  repeat (first | (refine wpStill_slice_eq rfl 89 (.tmp 8) (.tmp 15) rfl _ _ rfl rfl (S2.out _) ?_) | (refine wpStill_slice_eq rfl 89 (.tmp 6) (.tmp 17) rfl _ _ rfl rfl (S1.out _) ?_) | still_step)
  refine wpStill_nil ?_
  go_wp2_with (first
    | ((with_reducible refine wpList_copy_eq rfl 129 129 (.tmp 16) (.tmp 18) rfl _ _ ?_ ?_ CR3.out ?_); (next => rfl); (next => rfl))
    | ((with_reducible refine wpList_load_eq rfl 89 (.tmp 8) rfl _ ?_ LD.out ?_); (next => rfl))
    | (go_at_call 41; refine cY.out.mono ?_; rintro e w3 ⟨rfl, HD, HM⟩))
  go_end0
  exact ⟨rfl, HD, MM.out.trans (HM.mono (by simp))⟩
end Go.Proofs.YtboaamaneeodfaaGreat.Disk
namespace Go.Proofs.YtboaamaneeodfaaGreat.Disk
open Go.RowKit Go.Maps Gen

def St.keep1 (s : St) (n : Int) : St := match s.C n with
  | some l => { s.lay n l with C := upd s.C n none }
  | none => s
def St.keeps (s : St) (ks : List Int) : St := ks.foldl St.keep1 s
def cutN (cut : Int) : Nat := (min (max cut 0) 1024).toNat
def St.tear1 (s : St) (n : Int) (k : Nat) : St := match s.C n with
  | some l => s.lay n (torn l ((s.L n).getD zeros) k)
  | none => s
def St.reset (s : St) : St := { s with C := fun _ => none, off := false, fused := false, fuse := 0 }
def St.restart (s : St) (ks : List Int) (t : Int) (cut : Int) : St := ((s.keeps ks).tear1 t (cutN cut)).reset
theorem keeps_snoc (s : St) (ks : List Int) (k : Nat) (h : k < ks.length) : s.keeps (ks.take (k + 1)) = (s.keeps (ks.take k)).keep1 ks[k] := by
  rw [List.take_succ_eq_append_getElem h, St.keeps, List.foldl_append]; rfl
abbrev intV (x : Int) : Value := .int .i64 x
abbrev IRow (w : World) (A : Option Addr) (l : List Int) : Prop := RowG w intV A l

theorem restart_nil (A : Option Addr) (k c : Nat) (t cut : Int) (w : World) : Calls Tryz.prog 21 #[.pointer none, .slice A k c, .int .i64 t, .int .i64 cut] w fun e w' => e = .returned (.tuple #[]) ∧ w = w' := by
  go_enter Tryz.func21, Tryz.ntmps21
  go_wp2_with fail
  refine bodyPost_ret (results_none rfl _ _ _) rfl ?_
  exact ⟨rfl, rfl⟩
theorem Dev.reset {w : World} {sb bl bc : Nat} {s : St} (h : Dev w sb bl bc { s with C := fun _ => none }) : Dev (((w.setCell ⟨sb, 3, none⟩ (.bool false)).setCell ⟨sb, 4, none⟩ (.bool false)).setCell ⟨sb, 5, none⟩ (.int .i64 0)) sb bl bc s.reset := by
  have h1 := heap_setCell_box (heap_setCell_box (heap_setCell_box h.box 3 (.bool false)) 4 (.bool false)) 5 (.int .i64 0)
  refine ⟨h1, h.last.of_block ?_, h.cache.of_block ?_, h.ne, h.nz, h.nle, Int.le_refl _, by simp [St.reset]⟩
  · rw [Below.heap_setCell _ _ _ _ h.sbl.symm, Below.heap_setCell _ _ _ _ h.sbl.symm, Below.heap_setCell _ _ _ _ h.sbl.symm]
  · rw [Below.heap_setCell _ _ _ _ h.sbc.symm, Below.heap_setCell _ _ _ _ h.sbc.symm, Below.heap_setCell _ _ _ _ h.sbc.symm]
def Dev.reset_of (s1 : St) (t cut : Int) (l m : Bs) (s2 : St) : Prop := ∀ {sb bl bc : Nat} (w' : World), Dev w' sb bl bc (s1.lay t (torn l m (cutN cut))).reset → Dev w' sb bl bc s2
theorem cut_eq (cut : Int) : min (max cut 0) 1024 = ((cutN cut : Nat) : Int) := by unfold cutN; omega
theorem tear_cut (w : World) (sb bl bc : Nat) (s : St) (n : Int) (l : Bs) (cut : Int) (m : Bs) (hm : (s.L n).getD zeros = m) (hl : l.length = 1024) (h : Dev w sb bl bc s) (h0 : 0 ≤ n) (h1 : n < s.n) (cv : Int) (hc : cv = ((cutN cut : Nat) : Int)) : Calls Tryz.prog 42 #[ptr sb, .int .i64 n, .agg (secC l), .int .i64 cv] w fun e w' =>
    e = .returned (.tuple #[]) ∧ Dev w' sb bl bc (s.lay n (torn l m (cutN cut))) ∧ Mod [sb, bl, bc] w w' := by
  subst hc
  exact tear_dev w sb bl bc s n l _ _ hl (by unfold cutN; omega) h h0 h1 hm
/-- What holds at the head of each round over keep. -/
def KeepRel (w : World) (sb bl bc : Nat) (s : St) (ks : List Int) (i : Value) (wr : World) : Prop :=
  ∃ k : Nat, k ≤ ks.length ∧ i = .int .i64 (k : Int) ∧ Dev wr sb bl bc (s.keeps (ks.take k)) ∧ Mod [sb, bl, bc] w wr
set_option maxRecDepth 100000 in
set_option maxHeartbeats 4000000 in
theorem restart_dev (w : World) (sb bl bc : Nat) (s : St) (A : Option Addr) (n c : Nat) (t cut : Int) (ks : List Int) (hks : ks.length = n) (hn : n ≤ 9223372036854775807) (hR : IRow w A ks) (hA : ks ≠ [] → ∀ a, A = some a → a.block ≠ sb ∧ a.block ≠ bl ∧ a.block ≠ bc)
    (hkb : ∀ x ∈ ks, -9223372036854775808 ≤ x ∧ x ≤ 9223372036854775807) (ht0 : -9223372036854775808 ≤ t) (ht1 : t ≤ 9223372036854775807) (h : Dev w sb bl bc s) :
    Calls Tryz.prog 21 #[ptr sb, .slice A n c, .int .i64 t, .int .i64 cut] w fun e w' =>
    e = .returned (.tuple #[]) ∧ Dev w' sb bl bc (s.restart ks t cut) ∧ Mod [sb, bl, bc] w w' := by
  have HR := Lib.hid hR
  have HA := Lib.hid hA
  have HK := Lib.hid hks
  have HB := Lib.hid hkb
  have HST := Lib.hid (show KeepRel w sb bl bc s ks (.int .i64 0) w from ⟨0, Nat.zero_le _, rfl, h, Mod.refl _ _⟩)
  clear hR hA hks hkb h
  go_enter Tryz.func21, Tryz.ntmps21
  go_wp2_with fail
  go_loopw [18] (fun i wr => KeepRel w sb bl bc s ks i wr) (fun i _ => n - (intOf i).toNat)
  case atStart => exact HST.out
  case round =>
    obtain ⟨k, hk, rfl, hdev, hm⟩ := hrel
    have hkn : k ≤ n := by have := HK.out; omega
    by_cases hlt : k < n
    · have hlk : k < ks.length := by have := HK.out; omega
      obtain ⟨b, off, rfl, hb, hc⟩ := HR.out (fun e => by rw [e] at hlk; simp at hlk)
      have hcell := hc k hlk
      have hnot := HA.out (fun e => by rw [e] at hlk; simp at hlk) _ rfl
      have hcw : wr.cell? ⟨b, off + k, none⟩ = some (.int .i64 ks[k]) := (hm.cell (p := ⟨b, off + k, none⟩) hb (by simp; exact hnot)).trans hcell
      have hbk := HB.out ks[k] (List.getElem_mem hlk)
      have HSN := Lib.hid (keeps_snoc s ks k hlk)
      clear hcell hnot hc hb
      generalize ks[k] = x at *
      generalize s.keeps (ks.take k) = s1 at *
      obtain ⟨c0, c1, c2, c3, c4, c5⟩ := hdev.cells
      have ZZ := Lib.hid (zero_sec wr)
      have LK := hdev.cache.lookup_ok x hbk.1 hbk.2
      clear c0 c1 c3 c4 c5
      have HM := Lib.hid hm
      have HKL := Lib.hid hlk
      cases hC : s1.C x with
      | none =>
        rw [hC] at LK
        simp only [Option.getD_none, Option.isSome_none] at LK
        have LK2 := Lib.hid LK
        have SS := Lib.hid (store_sec_new wr (secC zeros) zeros zeros_len zeros_size)
        have HF : Hid (Dev (wr.alloc (.cells (secC zeros) 89)) sb bl bc (s.keeps (ks.take (k + 1))) ∧ Mod [sb, bl, bc] w (wr.alloc (.cells (secC zeros) 89))) := Lib.hid ⟨by
          rw [HSN.out, St.keep1, hC]; exact hdev.alloc _, hm.alloc _⟩
        clear LK hC hdev HSN hm hlk hbk hk
        generalize zeros = z at *
        go_wp2_with (first
          | ((with_reducible refine wpList_lookup_eq rfl 91 (.tmp 26) (.tmp 27) true rfl _ _ ?_ ?_ LK2.out ?_); (next => rfl); (next => rfl))
          | ((with_reducible refine wpList_alloc_eq (o := ⟨some 10, _, _, _, _, _⟩) rfl 89 rfl _ ZZ.out ?_))
          | ((with_reducible refine wpList_store_eq rfl 89 (.tmp 10) (.tmp 29) rfl _ _ ?_ ?_ SS.out ?_); (next => rfl); (next => rfl)))
        go_roundw
        case rel => exact ⟨k + 1, HKL.out, by go_num, HF.out⟩
        case measure => simp [intOf]; omega
      | some l =>
        rw [hC] at LK
        simp only [Option.getD_some, Option.isSome_some] at LK
        have LK2 := Lib.hid LK
        have hfit := hdev.cache.fit x l hC
        have SS := Lib.hid (store_sec_new wr (secC zeros) l hfit.2.2 zeros_size)
        have LD := Lib.hid (load_sec (w := wr.alloc (.cells (secC l) 89)) (b := wr.heap.size) hfit.2.2 (heap_alloc_last _ _))
        have cY := Lib.hid (lay_dev _ sb bl bc _ x l hfit.2.2 (hdev.alloc (.cells (secC l) 89)) hfit.1 hfit.2.1)
        have HC := Lib.hid hC
        clear LK hC hdev hm hlk hk hfit
        generalize zeros = z at *
        go_wp2_with (first
          | ((with_reducible refine wpList_lookup_eq rfl 91 (.tmp 26) (.tmp 27) true rfl _ _ ?_ ?_ LK2.out ?_); (next => rfl); (next => rfl))
          | ((with_reducible refine wpList_alloc_eq (o := ⟨some 10, _, _, _, _, _⟩) rfl 89 rfl _ ZZ.out ?_))
          | ((with_reducible refine wpList_store_eq rfl 89 (.tmp 10) (.tmp 29) rfl _ _ ?_ ?_ SS.out ?_); (next => rfl); (next => rfl))
          | ((with_reducible refine wpList_load_eq rfl 89 (.tmp 10) rfl _ ?_ LD.out ?_); (next => rfl)))
        refine cY.out.mono ?_
        rintro e w3 ⟨rfl, HD, HM3⟩
        obtain ⟨w4, hrun, hm4, hg4⟩ := HD.cache.drop x hbk.1 hbk.2 0
        have R := Lib.hid hrun
        obtain ⟨c0, c1, c2', c3, c4, c5⟩ := HD.cells
        have HF : Hid (Dev w4 sb bl bc (s.keeps (ks.take (k + 1))) ∧ Mod [sb, bl, bc] w w4) := Lib.hid ⟨by
          rw [HSN.out, St.keep1, HC.out]; exact HD.withC hg4 hm4, ((HM.out.alloc _).trans (HM3.mono (by simp))).grown hg4 (fun k e => .inl (by cases e; simp))⟩
        clear hrun c0 c1 c3 c4 c5 hm4 hg4 HD HM3 cY LD SS LK2 ZZ hbk
        go_wp2_with ((with_reducible refine wpList_delete_eq rfl 91 3 (.tmp 39) (.tmp 40) rfl _ _ ?_ ?_ R.out ?_); (next => rfl); (next => rfl))
        go_roundw
        case rel => exact ⟨k + 1, HKL.out, by go_num, HF.out⟩
        case measure => simp [intOf]; omega
    · have hke : s.keeps (ks.take k) = s.keeps ks := by rw [List.take_of_length_le (by have := HK.out; omega)]
      have HRS : Hid (∀ s2, s2 = (s.keeps ks).tear1 t (cutN cut) → s2.reset = s.restart ks t cut) := Lib.hid (fun s2 e => by rw [e]; rfl)
      rw [hke] at hdev
      clear hke
      generalize s.keeps ks = s1 at *
      obtain ⟨c0, c1, c2, c3, c4, c5⟩ := hdev.cells
      have ZZ := Lib.hid (zero_sec wr)
      have LK := hdev.cache.lookup_ok t ht0 ht1
      have HM := Lib.hid hm
      clear c0 c1 c3 c4 c5 hm
      cases hC : s1.C t with
      | none =>
        rw [hC] at LK
        simp only [Option.getD_none, Option.isSome_none] at LK
        have LK2 := Lib.hid LK
        have SS := Lib.hid (store_sec_new wr (secC zeros) zeros zeros_len zeros_size)
        have hd2 := hdev.alloc (.cells (secC zeros) 89)
        obtain ⟨w4, hrun, hm4, hg4⟩ := hd2.cache.clear 0
        have hd4 := hd2.withC hg4 hm4
        have R := Lib.hid hrun
        have HF := Lib.hid (show Dev _ sb bl bc (s.restart ks t cut) from HRS.out s1 (by rw [St.tear1, hC]) ▸ hd4.reset)
        have HM4 := Lib.hid ((HM.out.alloc (.cells (secC zeros) 89)).grown hg4 (fun k e => .inl (by cases e; simp)))
        obtain ⟨d0, d1, d2, d3, d4, d5⟩ := hd4.cells
        have f3 := hd4.free 3
        have f4 := hd4.free 4
        have f5 := hd4.free 5
        have hlt' := hdev.lt
        clear LK hC hdev hd2 hd4 hm4 hg4 hrun d0 d1 HRS
        generalize zeros = z at *
        go_wp2_with (first
          | ((with_reducible refine wpList_lookup_eq rfl 91 (.tmp 46) (.tmp 47) true rfl _ _ ?_ ?_ LK2.out ?_); (next => rfl); (next => rfl))
          | ((with_reducible refine wpList_alloc_eq (o := ⟨some 12, _, _, _, _, _⟩) rfl 89 rfl _ ZZ.out ?_))
          | ((with_reducible refine wpList_store_eq rfl 89 (.tmp 12) (.tmp 49) rfl _ _ ?_ ?_ SS.out ?_); (next => rfl); (next => rfl))
          | ((with_reducible refine wpList_clear_eq rfl 91 (.tmp 62) rfl _ ?_ R.out ?_); (next => rfl)))
        go_end0
        exact ⟨rfl, HF.out, ((HM4.out.setCell _ _ (.inl (by simp))).setCell _ _ (.inl (by simp))).setCell _ _ (.inl (by simp))⟩
      | some l =>
        rw [hC] at LK
        simp only [Option.getD_some, Option.isSome_some] at LK
        have LK2 := Lib.hid LK
        have hfit := hdev.cache.fit t l hC
        obtain ⟨m, hmm⟩ : ∃ m, (s1.L t).getD zeros = m := ⟨_, rfl⟩
        have SS := Lib.hid (store_sec_new wr (secC zeros) l hfit.2.2 zeros_size)
        have LD := Lib.hid (load_sec (w := wr.alloc (.cells (secC l) 89)) (b := wr.heap.size) hfit.2.2 (heap_alloc_last _ _))
        have cY := Lib.hid (tear_cut _ sb bl bc s1 t l cut m hmm hfit.2.2 (hdev.alloc (.cells (secC l) 89)) hfit.1 hfit.2.1)
        have HSR : Hid (Dev.reset_of s1 t cut l m (s.restart ks t cut)) := Lib.hid (fun w' hd => HRS.out (s1.lay t (torn l m (cutN cut))) (by rw [St.tear1, hC, ← hmm]) ▸ hd)
        clear LK hC hdev hfit HRS hmm
        generalize zeros = z at *
        go_wp2_with (first
          | ((with_reducible refine wpList_lookup_eq rfl 91 (.tmp 46) (.tmp 47) true rfl _ _ ?_ ?_ LK2.out ?_); (next => rfl); (next => rfl))
          | ((with_reducible refine wpList_alloc_eq (o := ⟨some 12, _, _, _, _, _⟩) rfl 89 rfl _ ZZ.out ?_))
          | ((with_reducible refine wpList_store_eq rfl 89 (.tmp 12) (.tmp 49) rfl _ _ ?_ ?_ SS.out ?_); (next => rfl); (next => rfl))
          | ((with_reducible refine wpList_load_eq rfl 89 (.tmp 12) rfl _ ?_ LD.out ?_); (next => rfl)))
        refine (cY.out _ (cut_eq cut)).mono ?_
        rintro e w3 ⟨rfl, HD, HM3⟩
        obtain ⟨w4, hrun, hm4, hg4⟩ := HD.cache.clear 0
        have hd4 := HD.withC hg4 hm4
        have R := Lib.hid hrun
        obtain ⟨c0, c1, c2', c3, c4, c5⟩ := HD.cells
        have HF := Lib.hid (HSR.out _ hd4.reset)
        have HM4 := Lib.hid (((HM.out.alloc (.cells (secC l) 89)).trans HM3).grown hg4 (fun k e => .inl (by cases e; simp)))
        obtain ⟨d0, d1, d2, d3, d4, d5⟩ := hd4.cells
        have f3 := hd4.free 3
        have f4 := hd4.free 4
        have f5 := hd4.free 5
        clear hrun c0 c1 c3 c4 c5 hm4 hg4 HD HM3 cY LD SS LK2 ZZ hd4 d0 d1 HSR
        go_wp2_with ((with_reducible refine wpList_clear_eq rfl 91 (.tmp 62) rfl _ ?_ R.out ?_); (next => rfl))
        go_end0
        exact ⟨rfl, HF.out, ((HM4.out.setCell _ _ (.inl (by simp))).setCell _ _ (.inl (by simp))).setCell _ _ (.inl (by simp))⟩
end Go.Proofs.YtboaamaneeodfaaGreat.Disk
