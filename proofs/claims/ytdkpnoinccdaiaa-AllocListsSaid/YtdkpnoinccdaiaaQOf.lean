/-
  Contract of alloc's Of.
-/
import Derived.Test.YtdkpnoinccdaiaaQGive
namespace Go.Proofs.Ytdkpnoinccdaiaa.Pool
open Go.RowKit Gen

theorem nat_set3 {w : World} {A : Option Addr} {n c b : Nat} {l : List Int} (h : NAt w A n c l) (hA : ∀ a, A = some a → a.block ≠ b) (v0 v1 v2 : Value) : NAt (set3 w b v0 v1 v2) A n c l :=
  ⟨h.len, h.cap, h.max, h.nil, row_grown h.row (set3_grown w b v0 v1 v2) (fun _ a e e2 => hA a e (Option.some.inj e2))⟩
def ofP (high : Int) (l : List Int) : Po × Int := if PoolOk { high := high, free := l } 4096 then ({ high := high, free := l }, 0) else ({ high := 0 }, 61)
set_option maxRecDepth 100000 in
set_option maxHeartbeats 8000000 in
theorem of_any (high : Int) (A : Option Addr) (n c : Nat) (xs : List Part) (w : World) (hl : xs.length = n) (hn : n ≤ 100000) (hR : RowG w encS A xs) (hP : PartsIn w xs) (hb : (allOf xs).length ≤ 100000) :
    Calls Try.prog 23 #[.int .i64 high, .slice A n c] w (PoolE (ofP high (allOf xs)) w) := by
  have b1 := below_box w (.cells #[.int .i64 0, .slice none 0 0, .slice none 0 0] 25)
  have cJ := joined_any A n c xs (w.alloc (.cells #[.int .i64 0, .slice none 0 0, .slice none 0 0] 25)) hl (by omega) (RowG.below hR b1) (hP.below b1) (by omega)
  have AZ := Lib.hid (po_box w { high := 0 } {})
  have BB := Lib.hid b1
  have SZ := Lib.hid (show (w.alloc (.cells #[.int .i64 0, .slice none 0 0, .slice none 0 0] 25)).heap.size = w.heap.size + 1 by simp)
  have e0 : poC { high := 0 } {} = #[.int .i64 0, .slice none 0 0, .slice none 0 0] := rfl
  rw [e0] at AZ
  clear hR hP b1 hl e0
  obtain ⟨W0, hW0⟩ : ∃ W0, w.alloc (.cells #[.int .i64 0, .slice none 0 0, .slice none 0 0] 25) = W0 := ⟨_, rfl⟩
  rw [hW0] at AZ BB SZ cJ
  generalize allOf xs = L at *
  go_enter Try.func23, Try.ntmps23
  go_wp2_with fail
  refine cJ.mono ?_
  rintro e w1 ⟨v, rfl, ho, hb1⟩
  obtain ⟨A1, n1, d1, rfl, hN, hbl⟩ := own_nums ho
  have HBL := Lib.hid (fun a (e : A1 = some a) => Nat.lt_of_lt_of_le (Nat.lt_of_lt_of_le (Nat.lt_succ_self w.heap.size) (Nat.le_of_eq SZ.out.symm)) (hbl a e))
  clear hbl
  obtain rfl := hN.len
  have HN := Lib.hid hN
  have HB1 := Lib.hid (BB.out.trans (hb1.mono BB.out.size))
  have AZ1 := Lib.hid (AZ.out.below hb1 AZ.out.1)
  have SZ1 := Lib.hid (show w.heap.size + 1 ≤ w1.heap.size by have := SZ.out; have := hb1.size; omega)
  have hz := Lib.hid (show At (w1.alloc (.cells #[.int .i64 0, .slice none 0 0, .slice none 0 0] 25)) w1.heap.size #[.int .i64 0, .slice none 0 0, .slice none 0 0] from po_box w1 { high := 0 } {})
  obtain ⟨W2, hW2⟩ : ∃ W2, w1.alloc (.cells #[.int .i64 0, .slice none 0 0, .slice none 0 0] 25) = W2 := ⟨_, rfl⟩
  have B2 := Lib.hid (below_box w1 (.cells #[.int .i64 0, .slice none 0 0, .slice none 0 0] 25))
  rw [hW2] at hz B2
  have r0 : W2.cell? ⟨w1.heap.size, 0, none⟩ = some (.int .i64 0) := hz.out.2.2 0 _ rfl
  have r1 : W2.cell? ⟨w1.heap.size, 1, none⟩ = some (.slice none 0 0) := hz.out.2.2 1 _ rfl
  have r2 : W2.cell? ⟨w1.heap.size, 2, none⟩ = some (.slice none 0 0) := hz.out.2.2 2 _ rfl
  have fz := hz.out.2.1
  have A3 := Lib.hid (set3_at hz.out rfl (.int .i64 high) (.slice A1 L.length d1) (.slice none 0 0))
  have G3 := Lib.hid (set3_below B2.out (Nat.le_refl _) (.int .i64 high) (.slice A1 L.length d1) (.slice none 0 0))
  obtain ⟨W3, hW3⟩ : ∃ W3, set3 W2 w1.heap.size (.int .i64 high) (.slice A1 L.length d1) (.slice none 0 0) = W3 := ⟨_, rfl⟩
  rw [hW3] at A3 G3
  have N3 := Lib.hid (HN.out.below G3.out)
  have cK : Calls Try.prog 21 #[.agg #[.int .i64 high, .slice A1 L.length d1, .slice none 0 0], .int .i64 4096] W3 (Checks { high := high, free := L } 4096 W3) :=
    check_any { high := high, free := L } { A1 := A1, c1 := d1 } 4096 W3 ⟨N3.out, NAt.none _⟩ hb (Nat.zero_le _)
  have c0 : W3.cell? ⟨w1.heap.size, 0, none⟩ = some (.int .i64 high) := A3.out.2.2 0 _ rfl
  have c1 : W3.cell? ⟨w1.heap.size, 1, none⟩ = some (.slice A1 L.length d1) := A3.out.2.2 1 _ rfl
  have c2 : W3.cell? ⟨w1.heap.size, 2, none⟩ = some (.slice none 0 0) := A3.out.2.2 2 _ rfl
  have AZ3 := Lib.hid (AZ1.out.below (G3.out) (Nat.lt_of_lt_of_le (Nat.lt_succ_self _) SZ1.out))
  have HB3 := Lib.hid (HB1.out.trans (G3.out.mono HB1.out.size))
  unfold set3 at hW3
  clear ho hb1 hN cJ AZ BB SZ hW0 HN B2 hz HB1 AZ1
  go_wp2_with fail
  unfold Checks at cK
  by_cases hok : PoolOk { high := high, free := L } 4096
  · have HR : Hid (ofP high L = ({ high := high, free := L }, 0)) := Lib.hid (by unfold ofP; rw [if_pos hok])
    rw [if_pos hok] at cK
    refine cK.mono ?_
    rintro e w4 ⟨rfl, hb4⟩
    have A4 := Lib.hid (A3.out.below hb4 A3.out.1)
    have N4 := Lib.hid (N3.out.below hb4)
    have AZ4 := Lib.hid (AZ3.out.below hb4 AZ3.out.1)
    have HB4 := Lib.hid (HB3.out.trans (hb4.mono HB3.out.size))
    clear hW2 hW3 r0 r1 r2 fz c0 c1 c2 cK hok hb4
    have c0 : w4.cell? ⟨w1.heap.size, 0, none⟩ = some (.int .i64 high) := A4.out.2.2 0 _ rfl
    have c1 : w4.cell? ⟨w1.heap.size, 1, none⟩ = some (.slice A1 L.length d1) := A4.out.2.2 1 _ rfl
    have c2 : w4.cell? ⟨w1.heap.size, 2, none⟩ = some (.slice none 0 0) := A4.out.2.2 2 _ rfl
    have r0 : w4.cell? ⟨w.heap.size, 0, none⟩ = some (.int .i64 0) := AZ4.out.2.2 0 _ rfl
    have r1 : w4.cell? ⟨w.heap.size, 1, none⟩ = some (.slice none 0 0) := AZ4.out.2.2 1 _ rfl
    have r2 : w4.cell? ⟨w.heap.size, 2, none⟩ = some (.slice none 0 0) := AZ4.out.2.2 2 _ rfl
    have fz := AZ4.out.2.1
    have A5 := Lib.hid (set3_at AZ4.out rfl (.int .i64 high) (.slice A1 L.length d1) (.slice none 0 0))
    have B5 := Lib.hid (set3_below HB4.out (Nat.le_refl _) (.int .i64 high) (.slice A1 L.length d1) (.slice none 0 0))
    have N5 := Lib.hid (show NAt (set3 w4 w.heap.size (.int .i64 high) (.slice A1 L.length d1) (.slice none 0 0)) A1 L.length d1 L from nat_set3 N4.out (fun a e => Nat.ne_of_gt (HBL.out a e)) _ _ _)
    go_wp2_with fail
    change bodyPost _ _ _ _ _ (set3 w4 w.heap.size (.int .i64 high) (.slice A1 L.length d1) (.slice none 0 0))
    generalize set3 w4 w.heap.size (.int .i64 high) (.slice A1 L.length d1) (.slice none 0 0) = W9 at *
    clear r0 r1 r2 fz c0 c1 c2
    have c0 := A5.out.2.2 0 _ rfl
    have c1 := A5.out.2.2 1 _ rfl
    have c2 := A5.out.2.2 2 _ rfl
    refine bodyPost_ret (v := .tuple #[poV { high := high, free := L } { A1 := A1, c1 := d1 }, numV 0]) (by simp [results, Try.results23, go_sem, *]) rfl ?_
    rw [HR.out]
    exact ⟨{ A1 := A1, c1 := d1 }, rfl, ⟨N5.out, NAt.none _⟩, B5.out⟩
  · have HR : Hid (ofP high L = ({ high := 0 }, 61)) := Lib.hid (by unfold ofP; rw [if_neg hok])
    rw [if_neg hok] at cK
    refine cK.mono ?_
    rintro e w4 ⟨rfl, hb4⟩
    have AZ4 := Lib.hid (AZ3.out.below hb4 AZ3.out.1)
    have HB4 := Lib.hid (HB3.out.trans (hb4.mono HB3.out.size))
    clear hW2 hW3 r0 r1 r2 fz c0 c1 c2 cK hok hb4
    have r0 : w4.cell? ⟨w.heap.size, 0, none⟩ = some (.int .i64 0) := AZ4.out.2.2 0 _ rfl
    have r1 : w4.cell? ⟨w.heap.size, 1, none⟩ = some (.slice none 0 0) := AZ4.out.2.2 1 _ rfl
    have r2 : w4.cell? ⟨w.heap.size, 2, none⟩ = some (.slice none 0 0) := AZ4.out.2.2 2 _ rfl
    have fz := AZ4.out.2.1
    have A5 := Lib.hid (set3_at AZ4.out rfl (.int .i64 0) (.slice none 0 0) (.slice none 0 0))
    have B5 := Lib.hid (set3_below HB4.out (Nat.le_refl _) (.int .i64 0) (.slice none 0 0) (.slice none 0 0))
    go_wp2_with fail
    change bodyPost _ _ _ _ _ (set3 w4 w.heap.size (.int .i64 0) (.slice none 0 0) (.slice none 0 0))
    generalize set3 w4 w.heap.size (.int .i64 0) (.slice none 0 0) (.slice none 0 0) = W9 at *
    clear r0 r1 r2 fz
    have c0 := A5.out.2.2 0 _ rfl
    have c1 := A5.out.2.2 1 _ rfl
    have c2 := A5.out.2.2 2 _ rfl
    refine bodyPost_ret (v := .tuple #[poV { high := 0 } {}, numV 61]) (by simp [results, Try.results23, go_sem, *]) rfl ?_
    rw [HR.out]
    exact ⟨{}, rfl, none_at _, B5.out⟩
end Go.Proofs.Ytdkpnoinccdaiaa.Pool
