/-
  Contract of gathered: legs' amounts, by the accounts that they change.
-/
import Derived.Test.YtobpbbldgbgcdaaAGrp
import Derived.Test.YtobpbbldgbgcdaaAKeyed
namespace Go.Proofs.Ytobpbbldgbgcdaa.Acc
open Go.RowKit Go.Sort

theorem ownLaw : WideMaps.KeyLaw Try.prog 56 := deep_law_laid (P := Try.prog) (by kernel_rfl) (m := 2) (by omega) (of_decide_eq_true (by kernel_rfl)) (by kernel_rfl) (by rw [Try.underlying56])
/-- An owner whose names are short enough for a map. -/
def okO (o : Own) : Prop := o.1.length ≤ 200000000000000 ∧ o.2.length ≤ 200000000000000
def keyO (o : Own) : Value := .agg (encO o)
theorem ownK : Coin.KeyK 51 56 keyO litO okO where
  law := ownLaw
  ty := Try.underlying51
  of o h := key_own o h.1 h.2
  inj o o' _ _ h := by
    unfold keyO encO strV at h
    simp only [Value.agg.injEq, Array.mk.injEq, List.cons.injEq, Value.string.injEq, and_true] at h
    exact Prod.ext (strB_inj h.1) (strB_inj h.2)
/-- An owner's amounts. -/
def amtsOf (l : List Lg) (o : Own) : List Int := (l.filter (fun x => decide (x.own = o))).map Lg.amt
theorem amts_len (l : List Lg) (o : Own) : (amtsOf l o).length ≤ l.length := by
  unfold amtsOf
  rw [List.length_map]
  exact List.length_filter_le _ _
theorem amts_step {l : List Lg} {k : Nat} (hk : k < l.length) (o : Own) : Coin.updF (amtsOf (l.take k)) l[k].own (amtsOf (l.take k) l[k].own ++ [l[k].amt]) o = amtsOf (l.take (k + 1)) o := by
  have e : amtsOf (l.take (k + 1)) o = amtsOf (l.take k) o ++ amtsOf [l[k]] o := by
    unfold amtsOf
    rw [List.take_succ_eq_append_getElem hk, List.filter_append, List.map_append]
  rw [e]
  by_cases h : o = l[k].own
  · subst h
    rw [Coin.updF_same]
    simp [amtsOf]
  · rw [Coin.updF_other _ _ h]
    simp [amtsOf, Ne.symm h]
theorem load_own {w : World} {b : Nat} {X Y : ByteArray} (h : At w b #[.string X, .string Y]) : (Instr.loadAt 56 (.pointer (some ⟨b, 0, none⟩))).run Try.prog w = .ok (.agg #[.string X, .string Y]) w :=
  load_at (o := 0) h Try.underlying56 rfl size_own rfl
set_option maxRecDepth 100000 in
set_option maxHeartbeats 4000000 in
theorem gathered_any {A : Option Addr} {n c : Nat} {l : List Lg} {w : World} (hlen : l.length = n) (hrow : RowL w A l) (hn : n ≤ 100000) (hs : ∀ x ∈ l, x.who.length ≤ 200000000000000 ∧ x.asset.length ≤ 200000000000000) :
    Calls Try.prog 33 #[.slice A n c] w (fun e w' => ∃ b base D, e = .returned (.map (some b)) ∧ Coin.Grp 56 litO okO w' base b n (amtsOf l) D ∧ Below w.heap.size w w') := by
  have HL := Lib.hid hlen
  have HR := Lib.hid hrow
  have HS := Lib.hid hs
  have hmm := @run_makeMap Try.prog
  have hb0 := below_box w (.map #[] 0)
  have G0 := Lib.hid (Coin.Grp.made (k := 56) (lit := litO) (ok := okO) w)
  have SZ : (w.alloc (.map #[] 0)).heap.size = w.heap.size + 1 := by simp
  obtain ⟨W0, hW0⟩ : ∃ W0, w.alloc (.map #[] 0) = W0 := ⟨_, rfl⟩
  rw [hW0] at hb0 G0 SZ
  have HW := Lib.hid hW0
  have B0 := Lib.hid hb0
  have SZH := Lib.hid SZ
  clear hlen hrow hs hb0 hW0 SZ
  go_enter Try.func33, Try.ntmps33
  go_wp2_with fail
  rw [HW.out]
  go_loopw [10] (fun i wr => ∃ k : Nat, i = .int .i64 (k : Int) ∧ k ≤ n ∧ Hid (Below w.heap.size w wr ∧ w.heap.size + 1 ≤ wr.heap.size ∧ ∃ D, Coin.Grp 56 litO okO wr (w.heap.size + 1) w.heap.size k (amtsOf (l.take k)) D)) (fun i _ => n - (intOf i).toNat)
  case atStart => exact ⟨0, rfl, Nat.zero_le _, Lib.hid ⟨B0.out, by rw [SZH.out]; exact Nat.le_refl _, _, G0.out⟩⟩
  case round =>
    obtain ⟨k, rfl, hk, HB⟩ := hrel
    by_cases hlt : k < n
    · have hkl : k < l.length := by rw [HL.out]; exact hlt
      have hwr : IntKind.i64.wrap ((k : Int) + 1) = (k : Int) + 1 := IntWalk.i64_in _ (by omega)
      have t1 : (k : Int) < (n : Int) := by omega
      have t2 : (0 : Int) ≤ (k : Int) := by omega
      obtain ⟨b, off, rfl, hbl, hc⟩ := HR.out (by intro e; rw [e] at hkl; simp at hkl)
      obtain ⟨hB, hsz, D, hG⟩ := HB.out
      have L := Lib.hid (load_lg (range_below (hc k hkl) hB hbl))
      have P1 := Lib.hid (put_lg wr l[k])
      have b2 := below_box wr (.cells (encL l[k]).toArray 39)
      have a2 := at_new wr (encL l[k]).toArray 39
      obtain ⟨W2, hW2⟩ : ∃ W2, wr.alloc (.cells (encL l[k]).toArray 39) = W2 := ⟨_, rfl⟩
      rw [hW2] at P1 b2 a2
      have c0 : W2.cell? ⟨wr.heap.size, 0, none⟩ = some (.string (strB l[k].who)) := a2.2.2 0 _ rfl
      have c1 : W2.cell? ⟨wr.heap.size, 1, none⟩ = some (.string (strB l[k].asset)) := a2.2.2 1 _ rfl
      have P2 := Lib.hid (put_own W2 (strB l[k].who) (strB l[k].asset))
      have b3 := below_box W2 (.cells #[.string (strB l[k].who), .string (strB l[k].asset)] 56)
      have a3 := at_new W2 #[.string (strB l[k].who), .string (strB l[k].asset)] 56
      obtain ⟨W3, hW3⟩ : ∃ W3, W2.alloc (.cells #[.string (strB l[k].who), .string (strB l[k].asset)] 56) = W3 := ⟨_, rfl⟩
      rw [hW3] at P2 b3 a3
      have L3 := Lib.hid (load_own a3)
      have c2 : W3.cell? ⟨wr.heap.size, 2, none⟩ = some (.int .i64 l[k].amt) := (a2.below b3 a2.1).2.2 2 _ rfl
      have hok : okO l[k].own := HS.out l[k] (List.getElem_mem hkl)
      have hG3 := (hG.below b2).below b3
      have hs3 : w.heap.size + 1 ≤ W3.heap.size := by have := b2.size; have := b3.size; omega
      obtain ⟨v0, st, W5, v', W6, W7, D', r1, r2, r3, hG7, b7⟩ := hG3.add ownK hok l[k].amt (by have := amts_len (l.take k) l[k].own; rw [List.length_take] at this; omega) (by omega) hs3
      have R1 := Lib.hid r1
      have R2 := Lib.hid r2
      have R3 := Lib.hid r3
      have B7 : Below w.heap.size w W7 := (((hB.trans (b2.mono hB.size)).trans (b3.mono (by have := b2.size; omega))).trans b7)
      have NB := Lib.hid (show Below w.heap.size w W7 ∧ w.heap.size + 1 ≤ W7.heap.size ∧ ∃ D, Coin.Grp 56 litO okO W7 (w.heap.size + 1) w.heap.size (k + 1) (amtsOf (l.take (k + 1))) D from
        ⟨B7, by have := b7.size; omega, D', hG7.ext (fun o _ => amts_step hkl o)⟩)
      unfold keyO encO Lg.own strV at R1
      dsimp only at R1
      generalize l[k].amt = bb at *
      generalize encL l[k] = C at *
      generalize strB l[k].who = X at *
      generalize strB l[k].asset = Y at *
      clear HB hbl hc b2 a2 hW2 b3 a3 hW3 hok hG hG3 hs3 r1 r2 r3 hG7 b7 B7 hB hsz
      go_wp2_with (first
        | ((with_reducible refine wpList_load_eq rfl 39 (.tmp 12) rfl _ ?_ L.out ?_); (next => rfl))
        | ((with_reducible refine wpList_store_eq rfl 39 (.tmp 5) (.tmp 13) rfl _ _ ?_ ?_ P1.out ?_); (next => rfl); (next => rfl))
        | ((with_reducible refine wpList_store_eq rfl 56 (.tmp 6) (.tmp 18) rfl _ _ ?_ ?_ P2.out ?_); (next => rfl); (next => rfl))
        | ((with_reducible refine wpList_load_eq rfl 56 (.tmp 6) rfl _ ?_ L3.out ?_); (next => rfl))
        | ((with_reducible refine Coin.wpList_mapEntry_eq rfl 51 (.tmp 19) (.tmp 20) rfl _ _ ?_ ?_ R1.out ?_); (next => rfl); (next => rfl))
        | ((with_reducible refine Coin.wpList_append_eq rfl (.tmp 21) (.tmp 24) 40 rfl ?_ ?_ R2.out ?_); (next => rfl); (next => rfl))
        | ((with_reducible refine Coin.wpList_entryStore_eq rfl 51 (.tmp 19) (.tmp 27) (.tmp 26) rfl _ _ _ ?_ ?_ ?_ R3.out ?_); (next => rfl); (next => rfl); (next => rfl)))
      go_roundw
      case rel => exact ⟨k + 1, by go_num, by omega, NB⟩
      case measure => simp [intOf]; omega
    · obtain rfl : k = n := by omega
      have FIN := Lib.hid (show ∃ D, Coin.Grp 56 litO okO wr (w.heap.size + 1) w.heap.size k (amtsOf l) D by
        obtain ⟨_, _, D, hG⟩ := HB.out
        refine ⟨D, ?_⟩
        rw [List.take_of_length_le (by rw [HL.out]; exact Nat.le_refl _)] at hG
        exact hG)
      have B1 := Lib.hid HB.out.1
      clear HB
      go_wp2_with fail
      go_ret
      obtain ⟨D, hG⟩ := FIN.out
      exact ⟨_, _, D, rfl, hG, B1.out⟩
end Go.Proofs.Ytobpbbldgbgcdaa.Acc
