/-
  Bytes in memory; Read.
-/
import Derived.Test.YtoldkhfnebjacaaDLay
import Derived.Test.YtoldkhfnebjacaaOwn
namespace Go.Proofs.Ytoldkhfnebjacaa.Disk
open Go.RowKit Go.Maps Gen

abbrev BRow (w : World) (A : Option Addr) (l : Bs) : Prop := RowG w byteV A l
theorem BRow.mod {w w' : World} {A : Option Addr} {l : Bs} {S : List Nat} (h : BRow w A l) (m : Mod S w w') (hA : l ≠ [] → ∀ a, A = some a → a.block ∉ S) : BRow w' A l := fun hne => by
  obtain ⟨b, off, e, hlt, hc⟩ := h hne
  refine ⟨b, off, e, Nat.lt_of_lt_of_le hlt m.size, fun k hk => ?_⟩
  rw [m.cell (p := ⟨b, off + k, none⟩) hlt (hA hne ⟨b, off, none⟩ e)]; exact hc k hk
theorem nil_row (w : World) : BRow w none [] := fun h => absurd rfl h
theorem sec_row {w : World} {b : Nat} {l : Bs} {t : TypeId} {fr : Nat × Nat} (h : w.heap[b]? = some (.cells (secC l) t fr)) : BRow w (some ⟨b, 0, none⟩) l := fun _ =>
  ⟨b, 0, rfl, (Array.getElem?_eq_some_iff.1 h).1, fun k hk => by rw [Nat.zero_add, cell_of_row w b k _ _ _ h, secC_get l k hk]⟩

def St.readE (s : St) (n : Int) : Int := if s.off then 40 else if s.has n then 0 else 41
def St.readB (s : St) (n : Int) : Bs := if s.off then [] else if s.has n then s.get n else []
/-- What is read: bytes in memory of their own. -/
def ReadPost (w : World) (l : Bs) (er : Int) (e : Ending) (w' : World) : Prop :=
  ∃ A, e = .returned (.tuple #[.slice A l.length l.length, .int .i64 er]) ∧ BRow w' A l ∧ (A = none → l = []) ∧ (∀ a, A = some a → w.heap.size ≤ a.block) ∧ Below w.heap.size w w'
theorem readPost_nil (w : World) (er : Int) : ReadPost w [] er (.returned (.tuple #[.slice none 0 0, .int .i64 er])) w := ⟨none, rfl, nil_row w, fun _ => rfl, (fun _ h => by cases h), Below.refl _ _⟩

theorem read_nil (n : Int) (w : World) : Calls Try.prog 22 #[.pointer none, .int .i64 n] w fun e w' => e = .returned (.tuple #[.slice none 0 0, .int .i64 1]) ∧ w = w' := by
  go_enter Try.func22, Try.ntmps22
  go_wp2_with fail
  refine (awake_nil _).mono ?_
  rintro e w' ⟨rfl, rfl⟩
  go_wp2_with fail
  go_ret2
  exact ⟨rfl, rfl⟩
theorem read_off (w : World) (sb bl bc : Nat) (s : St) (n : Int) (h : Dev w sb bl bc s) (ho : s.off = true) : Calls Try.prog 22 #[ptr sb, .int .i64 n] w fun e w' => e = .returned (.tuple #[.slice none 0 0, .int .i64 40]) ∧ w = w' := by
  have cA := awake_dev w sb bl bc s h
  rw [show s.awE = 40 by simp [St.awE, ho]] at cA
  clear h ho
  go_enter Try.func22, Try.ntmps22
  go_wp2_with fail
  refine cA.mono ?_
  rintro e w' ⟨rfl, rfl⟩
  go_wp2_with fail
  go_ret2
  exact ⟨rfl, rfl⟩
theorem read_bad (w : World) (sb bl bc : Nat) (s : St) (n : Int) (h : Dev w sb bl bc s) (ho : s.off = false) (hh : s.has n = false) : Calls Try.prog 22 #[ptr sb, .int .i64 n] w fun e w' => e = .returned (.tuple #[.slice none 0 0, .int .i64 41]) ∧ w = w' := by
  have cA := awake_dev w sb bl bc s h
  rw [show s.awE = 0 by simp [St.awE, ho]] at cA
  have cH := has_dev w sb bl bc s n h
  rw [hh] at cH
  clear h ho hh
  go_enter Try.func22, Try.ntmps22
  go_wp2_with fail
  refine cA.mono ?_
  rintro e w' ⟨rfl, rfl⟩
  go_wp2_with fail
  refine cH.mono ?_
  rintro e w' ⟨rfl, rfl⟩
  go_wp2_with fail
  go_ret2
  exact ⟨rfl, rfl⟩
theorem has_bounds {s : St} {n : Int} (h : s.has n = true) : 0 ≤ n ∧ n < s.n := by simpa [St.has] using h
theorem store_sec_new (w : World) (c : Array Value) (l : Bs) (hl : l.length = 1024) (hc : c.size = 1024) : (Instr.storeAt 66 (.pointer (some ⟨w.heap.size, 0, none⟩)) (.agg (secC l))).run Try.prog (w.alloc (.cells c 66)) = .ok () (w.alloc (.cells (secC l) 66)) :=
  run_storeAt_new w _ c (secC l) (by rw [secC_size, hl]; kernel_rfl) (by rw [secC_size, hl, hc]) (secC_one l)
theorem zero_sec (w : World) : (zeroValue 66).run Try.prog w = .ok (.agg (secC zeros)) w := by rw [Try.zeroValue66, zero_cells]
theorem zeros_size : (secC zeros).size = 1024 := by rw [secC_size, zeros_len]

set_option maxRecDepth 100000 in
theorem read_cached (w : World) (sb bl bc : Nat) (s : St) (n : Int) (l : Bs) (h : Dev w sb bl bc s) (ho : s.off = false) (hh : s.has n = true) (hc : s.C n = some l) : Calls Try.prog 22 #[ptr sb, .int .i64 n] w fun e w' =>
    e = .returned (.tuple #[.slice (some ⟨w.heap.size + 1, 0, none⟩) 1024 1024, .int .i64 0]) ∧ w' = (w.alloc (.cells (secC l) 66)).alloc (.cells (secC l) 66) := by
  have cA := awake_dev w sb bl bc s h
  rw [show s.awE = 0 by simp [St.awE, ho]] at cA
  have cH := has_dev w sb bl bc s n h
  rw [hh] at cH
  have hb := has_bounds hh
  have hle := h.nle
  have hl := (h.cache.fit n l hc).2.2
  have LK := h.cache.lookup_ok n (by omega) (by omega)
  rw [hc] at LK
  simp only [Option.getD_some, Option.isSome_some] at LK
  have LK := Lib.hid LK
  obtain ⟨c0, c1, c2, c3, c4, c5⟩ := h.cells
  have SS := Lib.hid (store_sec_new w (secC zeros) l hl zeros_size)
  have ZZ := Lib.hid (zero_sec w)
  have LD := Lib.hid (load_sec (w := w.alloc (.cells (secC l) 66)) (b := w.heap.size) hl (heap_alloc_last _ _))
  clear h ho hh hc hb hle c0 c1 c3 c4 c5 hl
  generalize zeros = z at *
  go_enter Try.func22, Try.ntmps22
  go_wp2_with fail
  refine cA.mono ?_
  rintro e w' ⟨rfl, rfl⟩
  go_wp2_with fail
  refine cH.mono ?_
  rintro e w' ⟨rfl, rfl⟩
  go_wp2_with (first
    | (refine wpList_lookup_eq rfl 58 (.tmp 22) (.tmp 23) true rfl _ _ rfl rfl LK.out ?_)
    | (refine wpList_alloc_eq rfl 66 rfl _ ZZ.out ?_)
    | (refine wpList_store_eq rfl 66 (.tmp 7) (.tmp 25) rfl _ _ rfl rfl SS.out ?_)
    | (refine wpList_load_eq rfl 66 (.tmp 7) rfl _ rfl LD.out ?_)
    | (go_at_call 42; refine (list_any _ _).mono ?_; rintro e w' ⟨rfl, rfl⟩))
  go_ret2
  exact ⟨rfl, rfl⟩
set_option maxRecDepth 100000 in
theorem read_last (w : World) (sb bl bc : Nat) (s : St) (n : Int) (l : Bs) (h : Dev w sb bl bc s) (ho : s.off = false) (hh : s.has n = true) (hc : s.C n = none) (hl0 : (s.L n).getD zeros = l) : Calls Try.prog 22 #[ptr sb, .int .i64 n] w fun e w' =>
    e = .returned (.tuple #[.slice (some ⟨w.heap.size + 1, 0, none⟩) 1024 1024, .int .i64 0]) ∧ w' = (w.alloc (.cells (secC zeros) 66)).alloc (.cells (secC l) 66) := by
  have cA := awake_dev w sb bl bc s h
  rw [show s.awE = 0 by simp [St.awE, ho]] at cA
  have cH := has_dev w sb bl bc s n h
  rw [hh] at cH
  have hb := has_bounds hh
  have hle := h.nle
  have hl := h.last.getD_len n
  have LK := h.cache.lookup_ok n (by omega) (by omega)
  rw [hc] at LK
  simp only [Option.getD_none, Option.isSome_none] at LK
  have LK := Lib.hid LK
  obtain ⟨c0, c1, c2, c3, c4, c5⟩ := h.cells
  have hlt := h.lt
  have SS := Lib.hid (store_sec_new w (secC zeros) zeros zeros_len zeros_size)
  have ZZ := Lib.hid (zero_sec w)
  have LL := Lib.hid ((h.alloc (.cells (secC zeros) 66)).last.lookup n (by omega) (by omega))
  rw [hl0] at hl LL
  clear h ho hh hc hb hle c0 c3 c4 c5 hl hl0
  generalize zeros = z at *
  go_enter Try.func22, Try.ntmps22
  go_wp2_with fail
  refine cA.mono ?_
  rintro e w' ⟨rfl, rfl⟩
  go_wp2_with fail
  refine cH.mono ?_
  rintro e w' ⟨rfl, rfl⟩
  go_wp2_with (first
    | (refine wpList_lookup_eq rfl 58 (.tmp 22) (.tmp 23) true rfl _ _ rfl rfl LK.out ?_)
    | (refine wpList_lookup_eq rfl 58 (.tmp 33) (.tmp 34) false rfl _ _ rfl rfl LL.out ?_)
    | (refine wpList_alloc_eq rfl 66 rfl _ ZZ.out ?_)
    | (refine wpList_store_eq rfl 66 (.tmp 7) (.tmp 25) rfl _ _ rfl rfl SS.out ?_)
    | (go_at_call 42; refine (list_any _ _).mono ?_; rintro e w' ⟨rfl, rfl⟩))
  go_ret2
  exact ⟨rfl, rfl⟩
theorem read_dev (w : World) (sb bl bc : Nat) (s : St) (n : Int) (h : Dev w sb bl bc s) : Calls Try.prog 22 #[ptr sb, .int .i64 n] w (ReadPost w (s.readB n) (s.readE n)) := by
  cases ho : s.off
  · cases hh : s.has n
    · refine (read_bad w sb bl bc s n h ho hh).mono ?_
      rintro e w' ⟨rfl, rfl⟩
      simpa [St.readB, St.readE, ho, hh] using readPost_nil w 41
    · rw [show s.readB n = s.get n by simp [St.readB, ho, hh], show s.readE n = 0 by simp [St.readE, ho, hh]]
      have fin : ∀ (c : Array Value) (l : Bs), l.length = 1024 → ReadPost w l 0 (.returned (.tuple #[.slice (some ⟨w.heap.size + 1, 0, none⟩) 1024 1024, .int .i64 0])) ((w.alloc (.cells c 66)).alloc (.cells (secC l) 66)) := fun c l hl =>
        ⟨some ⟨w.heap.size + 1, 0, none⟩, by rw [hl], sec_row (by simpa using heap_alloc_last (w.alloc (.cells c 66)) _), (fun h => by cases h), (fun a ha => by cases ha; simp), (((Below.refl _ _).alloc (Nat.le_refl _) _).alloc (by simp) _)⟩
      cases hc : s.C n with
      | none =>
        refine (read_last w sb bl bc s n _ h ho hh hc rfl).mono ?_
        rintro e w' ⟨rfl, rfl⟩
        rw [show s.get n = (s.L n).getD zeros by simp [St.get, hc]]
        exact fin _ _ (h.last.getD_len n)
      | some l =>
        refine (read_cached w sb bl bc s n l h ho hh hc).mono ?_
        rintro e w' ⟨rfl, rfl⟩
        rw [show s.get n = l by simp [St.get, hc]]
        exact fin _ _ (h.cache.fit n l hc).2.2
  · refine (read_off w sb bl bc s n h ho).mono ?_
    rintro e w' ⟨rfl, rfl⟩
    simpa [St.readB, St.readE, ho] using readPost_nil w 40
end Go.Proofs.Ytoldkhfnebjacaa.Disk
