/-
  Contract of Total.
-/
import Derived.Test.YtobpbbldgbgcdaaAHolds
namespace Go.Proofs.Ytobpbbldgbgcdaa.Acc
open Go.RowKit Go.Sort

theorem ownI_below {w w' : World} {B : Nat} {v : Value} {l : List Int} (h : Coin.Own w B v l) (hb : Below w.heap.size w w') : Coin.Own w' B v l := by
  obtain ⟨hl, ⟨rfl, hn⟩ | ⟨g, cap, cur, rfl, hg, hh, h1⟩⟩ := h
  · exact ⟨hl, .inl ⟨rfl, hn⟩⟩
  · exact ⟨hl, .inr ⟨g, cap, cur, rfl, hg, (hb.block g (Array.getElem?_eq_some_iff.1 hh).1).trans hh, h1⟩⟩
/-- An asset's balances. -/
def balsA (l : List Ac) (asset : Bs) : List Int := (l.filter (fun x => x.asset == asset)).map Ac.bal
theorem bals_yes {l : List Ac} {asset : Bs} {k : Nat} (hk : k < l.length) (h : l[k].asset = asset) : balsA (l.take (k + 1)) asset = balsA (l.take k) asset ++ [l[k].bal] := by
  unfold balsA
  rw [List.take_succ_eq_append_getElem hk, List.filter_append, List.map_append]
  simp [h]
theorem bals_no {l : List Ac} {asset : Bs} {k : Nat} (hk : k < l.length) (h : l[k].asset ≠ asset) : balsA (l.take (k + 1)) asset = balsA (l.take k) asset := by
  unfold balsA
  rw [List.take_succ_eq_append_getElem hk, List.filter_append, List.map_append]
  simp [h]
theorem bals_len (l : List Ac) (asset : Bs) : (balsA l asset).length ≤ l.length := by
  unfold balsA; rw [List.length_map]; exact List.length_filter_le _ _
set_option maxRecDepth 100000 in
set_option maxHeartbeats 2000000 in
theorem total_any {A : Option Addr} {n c : Nat} {l : List Ac} {w : World} (h : AAt w A n c l) (hn : n ≤ 1000000000) (asset : Bs) (hb : ∀ x ∈ l, -9223372036854775808 ≤ x.bal ∧ x.bal ≤ 9223372036854775807) :
    Calls Try.prog 20 #[.slice A n c, strV asset] w (fun e w' => e = .returned (.tuple #[.int .i64 (Coin.val (balsA l asset).sum), .int .i64 (Coin.err (balsA l asset).sum)]) ∧ Below w.heap.size w w') := by
  have HL := Lib.hid h.len
  have HR := Lib.hid h.row
  have HB0 := Lib.hid hb
  have EQ := Lib.hid (fun (x : Ac) => show ((strB x.asset).toList == (strB asset).toList) = decide (x.asset = asset) by rw [strB_list, strB_list]; rw [Bool.eq_iff_iff]; simp)
  clear h hb
  unfold strV
  generalize hY : strB asset = Y at *
  clear hY
  go_enter Try.func20, Try.ntmps20
  go_wp2_with fail
  go_loopw [6, 11] (fun v i wr => ∃ k : Nat, i = .int .i64 (k : Int) ∧ k ≤ n ∧ Hid (Below w.heap.size w wr ∧ Coin.Own wr w.heap.size v (balsA (l.take k) asset))) (fun _ i _ => n - (intOf i).toNat)
  case atStart => exact ⟨0, rfl, Nat.zero_le _, Lib.hid ⟨Below.refl _ _, rfl, .inl ⟨rfl, rfl⟩⟩⟩
  case round =>
    obtain ⟨k, rfl, hk, HB⟩ := hrel
    by_cases hlt : k < n
    · have hkl : k < l.length := by rw [HL.out]; exact hlt
      have hwr : IntKind.i64.wrap ((k : Int) + 1) = (k : Int) + 1 := IntWalk.i64_in _ (by omega)
      have t1 : (k : Int) < (n : Int) := by omega
      have t2 : (0 : Int) ≤ (k : Int) := by omega
      obtain ⟨b, off, rfl, hbl, hc⟩ := HR.out (by intro e; rw [e] at hkl; simp at hkl)
      have L := Lib.hid (load_ac (range_below (hc k hkl) HB.out.1 hbl))
      have P1 := Lib.hid (put_new wr l[k])
      have b2 := below_box wr (.cells (encA l[k]).toArray 35)
      have a2 := at_new wr (encA l[k]).toArray 35
      obtain ⟨W2, hW2⟩ : ∃ W2, wr.alloc (.cells (encA l[k]).toArray 35) = W2 := ⟨_, rfl⟩
      rw [hW2] at P1 b2 a2
      have c1 : W2.cell? ⟨wr.heap.size, 1, none⟩ = some (.string (strB l[k].asset)) := a2.2.2 1 _ rfl
      have c2 : W2.cell? ⟨wr.heap.size, 2, none⟩ = some (.int .i64 l[k].bal) := a2.2.2 2 _ rfl
      have BW := Lib.hid (HB.out.1.trans (b2.mono HB.out.1.size))
      have O2 := Lib.hid (ownI_below HB.out.2 b2)
      have hq := EQ.out l[k]
      generalize hX : strB l[k].asset = X at *
      by_cases he : l[k].asset = asset
      · rw [decide_eq_true he] at hq
        have NX := Lib.hid (bals_yes hkl he)
        have hlen := bals_len (l.take k) asset
        rw [List.length_take] at hlen
        have O3 := ownI_below O2.out (below_box W2 (.cells #[.int .i64 l[k].bal] 2))
        obtain ⟨v', W4, hrun, ho, hg, _⟩ := Coin.append_row (W2.alloc (.cells #[.int .i64 l[k].bal] 2)) w.heap.size u6 _ O3 (some ⟨W2.heap.size, 0, none⟩) 1 1 [l[k].bal] rfl (fun h => by cases h)
          (fun _ => ⟨W2.heap.size, 0, rfl, by simp, fun j hj => by
            obtain rfl : j = 0 := by simpa using hj
            simp [go_sem]⟩) (by omega) (by have := BW.out.size; simp; omega)
        have R := Lib.hid hrun
        have B4 := Lib.hid ((BW.out.trans ((below_box W2 (.cells #[.int .i64 l[k].bal] 2)).mono BW.out.size)).grown hg (by have := BW.out.size; simp; omega) (fun q hq => (World.ownsRow.lt O3 q hq).1))
        have NB := Lib.hid (show Below w.heap.size w W4 ∧ Coin.Own W4 w.heap.size v' (balsA (l.take (k + 1)) asset) from ⟨B4.out, by rw [NX.out]; exact ho⟩)
        generalize l[k].bal = bb at *
        generalize encA l[k] = C at *
        clear HB hbl hc b2 a2 hW2 he hX hrun ho hg O2 O3 B4 hlen
        go_wp2_with (first
          | ((with_reducible refine wpList_load_eq rfl 35 (.tmp 13) rfl _ ?_ L.out ?_); (next => rfl))
          | ((with_reducible refine wpList_store_eq rfl 35 (.tmp 8) (.tmp 14) rfl _ _ ?_ ?_ P1.out ?_); (next => rfl); (next => rfl))
          | ((with_reducible refine Coin.wpList_append_eq rfl (.tmp 19) (.tmp 22) 40 rfl ?_ ?_ R.out ?_); (next => rfl); (next => rfl)))
        go_roundw
        case rel => exact ⟨k + 1, by go_num, by omega, NB⟩
        case measure => simp [intOf]; omega
      · rw [decide_eq_false he] at hq
        have NB := Lib.hid (show Below w.heap.size w W2 ∧ Coin.Own W2 w.heap.size u6 (balsA (l.take (k + 1)) asset) from ⟨BW.out, by rw [bals_no hkl he]; exact O2.out⟩)
        generalize l[k].bal = bb at *
        generalize encA l[k] = C at *
        clear HB hbl hc b2 a2 hW2 he hX O2
        go_wp2_with (first
          | ((with_reducible refine wpList_load_eq rfl 35 (.tmp 13) rfl _ ?_ L.out ?_); (next => rfl))
          | ((with_reducible refine wpList_store_eq rfl 35 (.tmp 8) (.tmp 14) rfl _ _ ?_ ?_ P1.out ?_); (next => rfl); (next => rfl)))
        go_roundw
        case rel => exact ⟨k + 1, by go_num, by omega, NB⟩
        case measure => simp [intOf]; omega
    · obtain rfl : k = n := by omega
      have e : l.take k = l := List.take_of_length_le (by rw [HL.out]; exact Nat.le_refl _)
      have ho := HB.out.2
      rw [e] at ho
      obtain ⟨A', c', e', hA, hrow⟩ := Coin.Own.row ho
      subst e'
      have B1 := Lib.hid HB.out.1
      have cS := Coin.sum_any A' _ c' (balsA l asset) wr rfl (by have := bals_len l asset; have := HL.out; omega) hrow (fun z hz => by
        obtain ⟨x, hx, rfl⟩ := List.mem_map.1 hz
        exact HB0.out x (List.mem_filter.1 hx).1)
      obtain ⟨S1, h1⟩ : ∃ S1, Coin.val (balsA l asset).sum = S1 := ⟨_, rfl⟩
      obtain ⟨S2, h2⟩ : ∃ S2, Coin.err (balsA l asset).sum = S2 := ⟨_, rfl⟩
      rw [h1, h2] at cS
      have H1 := Lib.hid h1
      have H2 := Lib.hid h2
      clear h1 h2
      generalize (balsA l asset).length = m at *
      clear HB ho e hrow hA
      go_wp2_with (go_at_call 25; refine cS.mono ?_; rintro e w2 ⟨rfl, b2⟩)
      go_ret2
      rw [H1.out, H2.out]
      exact ⟨rfl, B1.out.trans (b2.mono B1.out.size)⟩
end Go.Proofs.Ytobpbbldgbgcdaa.Acc
