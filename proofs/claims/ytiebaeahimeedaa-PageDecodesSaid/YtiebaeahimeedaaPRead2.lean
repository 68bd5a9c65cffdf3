/-
  What a reader reads, as plain data; contracts of its number and text.
-/
import Derived.Test.YtiebaeahimeedaaPRead1
namespace Go.Proofs.Ytiebaeahimeedaa.Page
open Go.RowKit Gen

def rWide (k : Nat) (u : Bs) : Option (Nat × Bs) := if k ≤ u.length then some (ofBe (u.take k), u.drop k) else none
def rNum (u : Bs) : Option (Int × Bs) := (rWide 2 u).map fun x => ((x.1 : Int), x.2)
def rText (u : Bs) : Option (Bs × Bs) := (rWide 1 u).bind fun x => if x.1 ≤ x.2.length then some (x.2.take x.1, x.2.drop x.1) else none
/-- What is read, or that reading is given up. -/
def Reads {α : Type} (r : Option (α × Bs)) (enc : α → Value) (rb : Nat) (w : World) (e : Ending) (w' : World) : Prop :=
  w.grownBy w' (some rb) ∧ match r with
  | none => e = gaveUp
  | some (x, u) => e = .returned (enc x) ∧ Rd w' rb u
theorem wide_any (rb k : Nat) (u : Bs) (w : World) (h : Rd w rb u) (hk8 : k ≤ 8) : Calls Try.prog 66 #[ptr rb, .int .i64 (k : Int)] w (Reads (rWide k u) (fun n : Nat => .int .u64 (n : Int)) rb w) := by
  unfold Reads rWide
  by_cases hk : k ≤ u.length
  · rw [if_pos hk]
    refine (wide_ok rb k u w h hk hk8).mono ?_
    rintro e w' ⟨h1, h2, h3⟩
    exact ⟨h3, h1, h2⟩
  · rw [if_neg hk]
    refine (wide_bad rb k u w h (by omega)).mono ?_
    rintro e w' ⟨h1, h3⟩
    exact ⟨h3, h1⟩
theorem wide_lt {k : Nat} {u v : Bs} {n : Nat} (h : rWide k u = some (n, v)) (hk : k ≤ 8) : n < 256 ^ k ∧ n < 18446744073709551616 := by
  unfold rWide at h
  split at h
  · simp only [Option.some.injEq, Prod.mk.injEq] at h
    rename_i hl
    have := ofBe_lt (u.take k)
    rw [List.length_take, show min k u.length = k by omega, h.1] at this
    exact ⟨this, Nat.lt_of_lt_of_le this (Nat.le_trans (Nat.pow_le_pow_right (by omega) hk) (by decide))⟩
  · cases h
set_option maxRecDepth 100000 in
theorem number_any (rb : Nat) (u : Bs) (w : World) (h : Rd w rb u) : Calls Try.prog 76 #[ptr rb] w (Reads (rNum u) numV rb w) := by
  have cW := wide_any rb 2 u w h (by omega)
  clear h
  rcases hr : rWide 2 u with _ | ⟨n, v⟩
  · have e0 : rNum u = none := by simp [rNum, hr]
    rw [hr] at cW
    rw [e0]
    clear hr e0
    go_enter Try.func76, Try.ntmps76
    go_wp2_with fail
    refine cW.mono ?_
    rintro e w1 ⟨hg, rfl⟩
    exact ⟨rfl, hg, rfl⟩
  · rw [hr] at cW
    have hlt := (wide_lt hr (by omega)).1
    have e0 : rNum u = some ((n : Int), v) := by simp [rNum, hr]
    rw [e0]
    clear e0
    have hw : IntKind.i64.wrap (n : Int) = (n : Int) := by rw [IntKind.wrap_i64]; omega
    clear hr
    go_enter Try.func76, Try.ntmps76
    go_wp2_with fail
    refine cW.mono ?_
    rintro e w1 ⟨hg, rfl, hv⟩
    have HG := Lib.hid hg
    have HV := Lib.hid hv
    clear hg hv cW
    go_wp2_with fail
    go_ret
    exact ⟨HG.out, rfl, HV.out⟩
theorem conv_run {w : World} {A : Option Addr} {l : Bs} {n : Nat} (c : Nat) (hl : l.length = n) (hR : BRow w A l) : (convert 30 9 (.slice A n c)).run Try.prog w = .ok (.string (strB l)) w := by
  rcases A with _ | a
  · have e : l = [] := by
      by_cases h : l = []
      · exact h
      · obtain ⟨_, _, h, _⟩ := hR h; cases h
    subst e
    rw [run_convert_bytes_nil w 30 5 Try.underlying30 Try.underlying5 _ _ 9 Try.underlying9]
    rfl
  · have hload : (loadCells a n).run Try.prog w = .ok ((l.map fun c => (c.toNat : Int)).map (Value.int .u8)).toArray w := by
      by_cases h : l = []
      · subst h
        obtain rfl : n = 0 := hl.symm
        simp [loadCells, loadCellsFrom]
      · obtain ⟨b, off, e, _, hc⟩ := hR h
        cases e
        have := run_loadCells_list (P := Try.prog) w ⟨b, off, none⟩ ((l.map fun c => (c.toNat : Int)).map (Value.int .u8)) (fun j v hj => by
          have hplain : (⟨b, off, none⟩ : Addr).add j = ⟨b, off + j, none⟩ := by unfold Addr.add; split <;> simp_all
          rw [List.map_map, List.getElem?_map, Option.map_eq_some_iff] at hj
          obtain ⟨x, hx, rfl⟩ := hj
          obtain ⟨hjl, hx⟩ := List.getElem?_eq_some_iff.1 hx
          rw [hplain, hc j hjl, hx]; rfl)
        simpa [hl] using this
    rw [run_convert_bytes_string w 30 9 5 _ n c Try.underlying30 Try.underlying5 Try.underlying9, run_bytesToString w _ n c _ hload, foldl_push_bytes]
    have e2 : (l.map fun c => (c.toNat : Int)).map (fun n => UInt8.ofNat n.toNat) = l := by
      rw [List.map_map]
      conv => rhs; rw [← List.map_id l]
      exact List.map_congr_left (fun c _ => by simp)
    rw [e2]
    simp [strB, ByteArray.empty, ByteArray.emptyWithCapacity]
    rfl
set_option maxRecDepth 100000 in
theorem text_any (rb : Nat) (u : Bs) (w : World) (h : Rd w rb u) : Calls Try.prog 77 #[ptr rb] w (Reads (rText u) strV rb w) := by
  have cW := wide_any rb 1 u w h (by omega)
  clear h
  rcases hr : rWide 1 u with _ | ⟨n, v⟩
  · have e0 : rText u = none := by simp [rText, hr]
    rw [hr] at cW
    rw [e0]
    clear hr e0
    go_enter Try.func77, Try.ntmps77
    go_wp2_with fail
    refine cW.mono ?_
    rintro e w1 ⟨hg, rfl⟩
    exact ⟨rfl, hg, rfl⟩
  · rw [hr] at cW
    have hlt := (wide_lt hr (by omega)).1
    have hw : IntKind.i64.wrap (n : Int) = (n : Int) := by rw [IntKind.wrap_i64]; omega
    by_cases hn : n ≤ v.length
    · have e0 : rText u = some (v.take n, v.drop n) := by simp [rText, hr, hn]
      rw [e0]
      clear e0 hr
      go_enter Try.func77, Try.ntmps77
      go_wp2_with fail
      refine cW.mono ?_
      rintro e w1 ⟨hg, rfl, hv⟩
      have HG := Lib.hid hg
      have cT := take_ok rb n v w1 hv hn
      clear hg hv cW hn
      go_wp2_with fail
      refine cT.mono ?_
      rintro e w2 ⟨A, c, rfl, hb, hr, hg⟩
      have HG2 := Lib.hid (HG.out.trans hg)
      have HR := Lib.hid hr
      have hcv := conv_run c hb.len hb.row
      clear hb hr hg cT
      go_wp2_with fail
      go_ret
      exact ⟨HG2.out, rfl, HR.out⟩
    · have e0 : rText u = none := by simp [rText, hr]; omega
      rw [e0]
      clear e0 hr
      go_enter Try.func77, Try.ntmps77
      go_wp2_with fail
      refine cW.mono ?_
      rintro e w1 ⟨hg, rfl, hv⟩
      have HG := Lib.hid hg
      have cT := take_bad rb n v w1 hv (by omega)
      clear hg hv cW hn
      go_wp2_with fail
      refine cT.mono ?_
      rintro e w2 ⟨rfl, hg⟩
      exact ⟨rfl, HG.out.trans hg, rfl⟩
end Go.Proofs.Ytiebaeahimeedaa.Page
