/-
  Spoil, tear.
-/
import Derived.Test.YtoldkhfnebjacaaDWrite
import Derived.Laws.BitsAllLaws
namespace Go.Proofs.Ytoldkhfnebjacaa.Disk
open Go.RowKit Go.Maps Gen

theorem xor8 (x y : UInt8) : bits .xor .u8 (x.toNat : Int) (y.toNat : Int) = ((x ^^^ y).toNat : Int) := by
  rw [u8_xor_nat _ _ x.toNat_lt y.toNat_lt, UInt8.toNat_xor]
/-- One byte of a sector is another one. -/
def turn (l : Bs) (k : Nat) (y : UInt8) : Bs := l.set k (l.getD k 0 ^^^ y)
theorem turn_len (l : Bs) (k : Nat) (y : UInt8) : (turn l k y).length = l.length := by simp [turn]
theorem secC_set (l : Bs) (k : Nat) (z : UInt8) : (secC l).setIfInBounds k (byteV z) = secC (l.set k z) := by
  simp [secC, List.map_set]
theorem set_world (w : World) (l : Bs) (k : Nat) (z : UInt8) (t : TypeId) : w.alloc (.cells ((secC l).setIfInBounds k (byteV z)) t) = w.alloc (.cells (secC (l.set k z)) t) := by rw [secC_set]

def St.spoilE (s : St) (n at0 : Int) : Int := if s.has n then (if 0 ≤ at0 ∧ at0 < 1024 then 0 else 1) else 41
def St.spoil (s : St) (n at0 : Int) (y : UInt8) : St := if s.spoilE n at0 = 0 then (match s.C n with
  | some l => { s with C := upd s.C n (some (turn l at0.toNat y)) }
  | none => s.lay n (turn ((s.L n).getD zeros) at0.toNat y)) else s

theorem spoil_nil (n m : Int) (y : UInt8) (w : World) : Calls Try.prog 26 #[.pointer none, .int .i64 n, .int .i64 m, byteV y] w fun e w' => e = .returned (.int .i64 1) ∧ w = w' := by
  go_enter Try.func26, Try.ntmps26
  go_wp2_with fail
  go_ret
  exact ⟨rfl, rfl⟩
theorem spoil_bad (w : World) (sb bl bc : Nat) (s : St) (n m : Int) (y : UInt8) (h : Dev w sb bl bc s) (hh : s.has n = false) : Calls Try.prog 26 #[ptr sb, .int .i64 n, .int .i64 m, byteV y] w fun e w' => e = .returned (.int .i64 41) ∧ w = w' := by
  have cH := has_dev w sb bl bc s n h
  rw [hh] at cH
  clear h hh
  go_enter Try.func26, Try.ntmps26
  go_wp2_with fail
  refine cH.mono ?_
  rintro e w' ⟨rfl, rfl⟩
  go_wp2_with fail
  go_ret
  exact ⟨rfl, rfl⟩
theorem spoil_at (w : World) (sb bl bc : Nat) (s : St) (n m : Int) (y : UInt8) (h : Dev w sb bl bc s) (hh : s.has n = true) (hm : ¬ (0 ≤ m ∧ m < 1024)) : Calls Try.prog 26 #[ptr sb, .int .i64 n, .int .i64 m, byteV y] w fun e w' => e = .returned (.int .i64 1) ∧ w = w' := by
  have cH := has_dev w sb bl bc s n h
  rw [hh] at cH
  clear h hh
  by_cases h0 : m < 0
  · have b0 : decide (m < 0) = true := by simpa using h0
    clear hm
    go_enter Try.func26, Try.ntmps26
    go_wp2_with fail
    refine cH.mono ?_
    rintro e w' ⟨rfl, rfl⟩
    go_wp2_with fail
    go_ret
    exact ⟨rfl, rfl⟩
  · have b0 : decide (m < 0) = false := by simpa using h0
    have b1 : decide (1024 ≤ m) = true := by simp; omega
    clear hm
    go_enter Try.func26, Try.ntmps26
    go_wp2_with fail
    refine cH.mono ?_
    rintro e w' ⟨rfl, rfl⟩
    go_wp2_with fail
    go_ret
    exact ⟨rfl, rfl⟩
set_option maxRecDepth 100000 in
theorem spoil_cached (w : World) (sb bl bc : Nat) (s : St) (n : Int) (k : Nat) (x y : UInt8) (l : Bs) (h : Dev w sb bl bc s) (hh : s.has n = true) (hk : k < 1024) (hc : s.C n = some l) (hx : l.getD k 0 = x) : Calls Try.prog 26 #[ptr sb, .int .i64 n, .int .i64 (k : Int), byteV y] w fun e w' =>
    e = .returned (.int .i64 0) ∧ Dev w' sb bl bc { s with C := upd s.C n (some (l.set k (x ^^^ y))) } ∧ Mod [sb, bl, bc] w w' := by
  have cH := has_dev w sb bl bc s n h
  rw [hh] at cH
  have hb := has_bounds hh
  have hle := h.nle
  have hl := (h.cache.fit n l hc).2.2
  have LK := h.cache.lookup_ok n (by omega) (by omega)
  rw [hc] at LK
  simp only [Option.getD_some, Option.isSome_some] at LK
  have LK := Lib.hid LK
  have b0 : decide ((k : Int) < 0) = false := by simp
  have b1 : decide (1024 ≤ (k : Int)) = false := by simp; omega
  have hx8 := xor8 x y
  have SS := Lib.hid (store_sec_new w (secC zeros) l hl zeros_size)
  have ZZ := Lib.hid (zero_sec w)
  have ck : (w.alloc (.cells (secC l) 66)).cell? ⟨w.heap.size, k, none⟩ = some (byteV x) := by
    rw [cell_of_row _ _ _ _ _ _ (heap_alloc_last w _), secC_get l k (by omega), ← hx]; simp [List.getD, hl, hk]
  have fk : (w.alloc (.cells (secC l) 66)).frozen? ⟨w.heap.size, k, none⟩ = false := frozen_of_row _ _ _ _ _ (heap_alloc_last w _)
  have hset := set_world w l k (x ^^^ y) 66
  have hl2 : (l.set k (x ^^^ y)).length = 1024 := by simp [hl]
  have hD3 := h.alloc (.cells (secC (l.set k (x ^^^ y))) 66)
  have HR3 : Hid (∃ w2, (Instr.mapUpdate 58 (.map (some bc)) (.int .i64 n) (.agg (secC (l.set k (x ^^^ y))))).run Try.prog (w.alloc (.cells (secC (l.set k (x ^^^ y))) 66)).drew = .ok () w2 ∧ Dev w2 sb bl bc { s with C := upd s.C n (some (l.set k (x ^^^ y))) } ∧ Mod [sb, bl, bc] w w2) := Lib.hid <| by
    have h2 := hD3.kept (Mod.refl [] _).drew (by simp) (by simp) (by simp)
    obtain ⟨w2, hrun, hm, hg2⟩ := h2.cache.store h2.nle n hb.1 hb.2 _ hl2
    exact ⟨w2, hrun, h2.withC hg2 hm, ((Mod.refl _ _).alloc _).drew.grown hg2 (fun k e => .inl (by cases e; simp))⟩
  have LD2 := Lib.hid (load_sec (w := (w.alloc (.cells (secC (l.set k (x ^^^ y))) 66)).drew) (b := w.heap.size) hl2 (heap_alloc_last _ _))
  obtain ⟨c0, c1, c2, c3, c4, c5⟩ := h.cells
  have hc2 : (w.alloc (.cells (secC (l.set k (x ^^^ y))) 66)).drew.cell? ⟨sb, 2, none⟩ = some (.map (some bc)) := hD3.cells.2.2.1
  have HC2 := Lib.hid hc2
  rw [← hset] at HC2 LD2 HR3
  clear h hh hc hb hle c0 c1 c3 c4 c5 hl hl2 hD3 hc2 hset hx
  generalize zeros = z at *
  generalize l.set k (x ^^^ y) = l2 at *
  generalize x ^^^ y = u at *
  go_enter Try.func26, Try.ntmps26
  go_wp2_with fail
  refine cH.mono ?_
  rintro e w' ⟨rfl, rfl⟩
  go_wp2_with (first
    | (refine wpList_lookup_eq rfl 58 (.tmp 31) (.tmp 32) true rfl _ _ rfl rfl LK.out ?_)
    | (refine wpList_alloc_eq rfl 66 rfl _ ZZ.out ?_)
    | (refine wpList_store_eq rfl 66 (.tmp 9) (.tmp 34) rfl _ _ rfl rfl SS.out ?_))
  refine region_tail 6 (by kernel_rfl) (by kernel_rfl) ?_
  intro w2 hw2
  simp only [List.take_succ_cons, List.take_zero, List.drop_succ_cons, List.drop_zero]
  have hc3 := HC2.out
  obtain ⟨w3, hrun, HD⟩ := HR3.out
  have HD' := Lib.hid HD
  have LD3 := LD2.out
  rw [← hw2] at hrun hc3 LD3
  have R := Lib.hid hrun
  have LD4 := Lib.hid LD3
  clear hrun c2 SS LK ZZ HR3 HD hw2 LD2 LD3 HC2 ck fk
  repeat (first | (refine wpStill_load_eq rfl 66 (.tmp 9) rfl _ rfl LD4.out ?_) | still_step)
  refine wpStill_nil ?_
  go_wp2_with (refine wpList_mapUpdate_eq rfl 58 (.tmp 46) (.tmp 47) (.tmp 48) rfl _ _ _ rfl rfl rfl R.out ?_)
  go_ret
  exact ⟨rfl, HD'.out⟩
set_option maxRecDepth 100000 in
theorem spoil_last (w : World) (sb bl bc : Nat) (s : St) (n : Int) (k : Nat) (x y : UInt8) (l : Bs) (h : Dev w sb bl bc s) (hh : s.has n = true) (hk : k < 1024) (hc : s.C n = none) (hll : (s.L n).getD zeros = l) (hx : l.getD k 0 = x) : Calls Try.prog 26 #[ptr sb, .int .i64 n, .int .i64 (k : Int), byteV y] w fun e w' =>
    e = .returned (.int .i64 0) ∧ Dev w' sb bl bc (s.lay n (l.set k (x ^^^ y))) ∧ Mod [sb, bl, bc] w w' := by
  have cH := has_dev w sb bl bc s n h
  rw [hh] at cH
  have hb := has_bounds hh
  have hle := h.nle
  have hl := h.last.getD_len n
  rw [hll] at hl
  have LK := h.cache.lookup_ok n (by omega) (by omega)
  rw [hc] at LK
  simp only [Option.getD_none, Option.isSome_none] at LK
  have LK := Lib.hid LK
  have b0 : decide ((k : Int) < 0) = false := by simp
  have b1 : decide (1024 ≤ (k : Int)) = false := by simp; omega
  have hx8 := xor8 x y
  have SS := Lib.hid (store_sec_new w (secC zeros) zeros zeros_len zeros_size)
  have ZZ := Lib.hid (zero_sec w)
  have hD1 := h.alloc (.cells (secC zeros) 66)
  have LL := hD1.last.lookup n (by omega) (by omega)
  rw [hll] at LL
  have LL := Lib.hid LL
  have SS2 := Lib.hid (store_sec_new (w.alloc (.cells (secC zeros) 66)) (secC zeros) l hl zeros_size)
  have ZZ2 := Lib.hid (zero_sec (w.alloc (.cells (secC zeros) 66)))
  have hlen : (w.alloc (.cells (secC zeros) 66)).heap.size = w.heap.size + 1 := by simp
  have hcell := heap_alloc_last (w.alloc (.cells (secC zeros) 66)) (.cells (secC l) 66)
  rw [hlen] at hcell
  have ck : ((w.alloc (.cells (secC zeros) 66)).alloc (.cells (secC l) 66)).cell? ⟨w.heap.size + 1, k, none⟩ = some (byteV x) := by
    rw [cell_of_row _ _ _ _ _ _ hcell, secC_get l k (by omega), ← hx]; simp [List.getD, hl, hk]
  have fk : ((w.alloc (.cells (secC zeros) 66)).alloc (.cells (secC l) 66)).frozen? ⟨w.heap.size + 1, k, none⟩ = false := frozen_of_row _ _ _ _ _ hcell
  have hl2 : (l.set k (x ^^^ y)).length = 1024 := by simp [hl]
  have hD2 := hD1.alloc (.cells (secC (l.set k (x ^^^ y))) 66)
  have hcell2 := heap_alloc_last (w.alloc (.cells (secC zeros) 66)) (.cells (secC (l.set k (x ^^^ y))) 66)
  rw [hlen] at hcell2
  have LD := Lib.hid (load_sec (b := w.heap.size + 1) hl2 hcell2)
  have cY := Lib.hid (lay_dev _ sb bl bc s n _ hl2 hD2 hb.1 hb.2)
  have MM := Lib.hid (((Mod.refl [sb, bl, bc] w).alloc (.cells (secC zeros) 66)).alloc (.cells (secC (l.set k (x ^^^ y))) 66))
  have hset := set_world (w.alloc (.cells (secC zeros) 66)) l k (x ^^^ y) 66
  rw [← hset] at LD cY MM
  obtain ⟨c0, c1, c2, c3, c4, c5⟩ := h.cells
  have hlt := h.lt
  have SS3 := SS2
  rw [hlen] at SS3
  clear h hh hc hb hle c0 c3 c4 c5 hl hl2 hD1 hD2 hset hx hcell hcell2 hlen hll
  generalize zeros = z at *
  generalize l.set k (x ^^^ y) = l2 at *
  generalize x ^^^ y = u at *
  go_enter Try.func26, Try.ntmps26
  go_wp2_with fail
  refine cH.mono ?_
  rintro e w' ⟨rfl, rfl⟩
  go_wp2_with (first
    | ((with_reducible refine wpList_lookup_eq rfl 58 (.tmp 31) (.tmp 32) true rfl _ _ ?_ ?_ LK.out ?_); (next => rfl); (next => rfl))
    | ((with_reducible refine wpList_lookup_eq rfl 58 (.tmp 52) (.tmp 53) false rfl _ _ ?_ ?_ LL.out ?_); (next => rfl); (next => rfl))
    | ((with_reducible refine wpList_alloc_eq (o := ⟨some 9, _, _, _, _, _⟩) rfl 66 rfl _ ZZ.out ?_))
    | ((with_reducible refine wpList_alloc_eq (o := ⟨some 11, _, _, _, _, _⟩) rfl 66 rfl _ ZZ2.out ?_))
    | ((with_reducible refine wpList_store_eq rfl 66 (.tmp 9) (.tmp 34) rfl _ _ ?_ ?_ SS.out ?_); (next => rfl); (next => rfl))
    | ((with_reducible refine wpList_store_eq rfl 66 (.tmp 11) (.tmp 54) rfl _ _ ?_ ?_ SS2.out ?_); (next => rfl); (next => rfl))
    | ((with_reducible refine wpList_store_eq rfl 66 (.tmp 11) (.tmp 54) rfl _ _ ?_ ?_ SS3.out ?_); (next => rfl); (next => rfl))
    | ((with_reducible refine wpList_load_eq rfl 66 (.tmp 11) rfl _ ?_ LD.out ?_); (next => rfl))
    | (go_at_call 36; refine cY.out.mono ?_; rintro e w' ⟨rfl, HD, HM⟩))
  go_ret
  exact ⟨rfl, HD, MM.out.trans (HM.mono (by simp))⟩
theorem spoil_dev (w : World) (sb bl bc : Nat) (s : St) (n m : Int) (y : UInt8) (h : Dev w sb bl bc s) : Calls Try.prog 26 #[ptr sb, .int .i64 n, .int .i64 m, byteV y] w fun e w' =>
    e = .returned (.int .i64 (s.spoilE n m)) ∧ Dev w' sb bl bc (s.spoil n m y) ∧ Mod [sb, bl, bc] w w' := by
  cases hh : s.has n
  · refine (spoil_bad w sb bl bc s n m y h hh).mono ?_
    rintro e w' ⟨rfl, rfl⟩
    have e1 : s.spoilE n m = 41 := by simp [St.spoilE, hh]
    rw [St.spoil, e1, if_neg (by decide)]
    exact ⟨rfl, h, Mod.refl _ _⟩
  · by_cases hm : 0 ≤ m ∧ m < 1024
    · have e1 : s.spoilE n m = 0 := by rw [St.spoilE, hh, if_pos rfl, if_pos hm]
      obtain ⟨k, rfl⟩ : ∃ k : Nat, m = k := ⟨m.toNat, by omega⟩
      rw [St.spoil, e1, if_pos rfl]
      simp only [Int.toNat_natCast]
      cases hc : s.C n with
      | none => exact spoil_last w sb bl bc s n k _ y _ h hh (by omega) hc rfl rfl
      | some l => exact spoil_cached w sb bl bc s n k _ y l h hh (by omega) hc rfl
    · refine (spoil_at w sb bl bc s n m y h hh hm).mono ?_
      rintro e w' ⟨rfl, rfl⟩
      have e1 : s.spoilE n m = 1 := by rw [St.spoilE, hh, if_pos rfl, if_neg hm]
      rw [St.spoil, e1, if_neg (by decide)]
      exact ⟨rfl, h, Mod.refl _ _⟩
end Go.Proofs.Ytoldkhfnebjacaa.Disk
