/-
  Contracts of strings.Cut at a dash, and of order.Market.
-/
import Derived.Test.YtcendcegmhliaaaOBase
import Derived.Test.YtcendcegmhliaaaGKit
import Derived.Test.YtcendcegmhliaaaAWho
import Derived.Lib.CutLaws
import Derived.Lib.IndexLaws
import Derived.Lib.Bytealg
import Derived.OwnWalk
import Derived.Shelf.RegionOpenPlain
namespace Go.Proofs.Ytcendcegmhliaaa.Ord
open Go.RowKit Go.Sort _root_.Go.Proofs.Ytcendcegmhliaaa.Gnd

def dash (s : Bs) : Int := Go.Lib.indexByte s 45
def cutA (s : Bs) : Bs := if 0 ≤ dash s then s.take (dash s).toNat else s
def cutC (s : Bs) : Bs := if 0 ≤ dash s then s.drop ((dash s).toNat + 1) else []
theorem dash_cases (s : Bs) : (dash s = -1 ∧ cutA s = s ∧ cutC s = []) ∨ ∃ i : Nat, dash s = i ∧ i < s.length ∧ cutA s = s.take i ∧ cutC s = s.drop (i + 1) := by
  have h := Go.Lib.indexByte_ge s 45
  unfold cutA cutC
  by_cases e : dash s = -1
  · exact .inl ⟨e, by rw [e]; rfl, by rw [e]; rfl⟩
  · have e0 : 0 ≤ dash s := by unfold dash at *; omega
    obtain ⟨i, hi⟩ := Int.eq_ofNat_of_zero_le e0
    have hs := (Go.Lib.indexByte_some (show Go.Lib.indexByte s 45 = (i : Int) from hi)).1
    refine .inr ⟨i, hi, (List.getElem?_eq_some_iff.1 hs).1, ?_, ?_⟩ <;> rw [if_pos e0, hi] <;> simp
theorem cutA_len (s : Bs) : (cutA s).length ≤ s.length := by
  rcases dash_cases s with ⟨_, h, _⟩ | ⟨i, _, _, h, _⟩ <;> rw [h]
  · exact Nat.le_refl _
  · rw [List.length_take]; omega
theorem cutC_len (s : Bs) : (cutC s).length ≤ s.length := by
  rcases dash_cases s with ⟨_, _, h⟩ | ⟨i, _, _, _, h⟩ <;> rw [h]
  · exact Nat.zero_le _
  · rw [List.length_drop]; omega
theorem ex_head (s : Bs) (i : Nat) : (strB s).extract 0 i = strB (s.take i) := by
  rw [Go.Lib.extract_eq]; simp [strB]
theorem ex_tail (s : Bs) (i : Nat) : (strB s).extract i (strB s).size = strB (s.drop i) := by
  rw [Go.Lib.extract_eq]
  have : (strB s).size = s.length := strB_size s
  rw [this, List.take_of_length_le (by rw [List.length_drop, strB_data]; exact Nat.le_refl _)]; rfl
theorem idx1_any (s : Bs) (w : World) : Calls Try.prog 63 #[strV s, .int .u8 45] w (fun e w' => e = .returned (.int .i64 (dash s)) ∧ w = w') := by
  have h : dash s = Go.Lib.indexByte (strB s).data.toList (45 : Int).toNat.toUInt8 := rfl
  rw [h]
  unfold strV
  generalize strB s = X
  go_enter Try.func63, Try.ntmps63
  go_wp2
  rw [run_callFunc_extern Try.func69 (by kernel_rfl) (by kernel_rfl) (by kernel_rfl) (e := Extern.BytealgIndexByte.indexByte) (by kernel_rfl), Go.Lib.run_indexByteString]
  simp only [Result.andThen]
  rw [Oper.upon_value]
  go_wp2
  go_ret
  exact ⟨rfl, rfl⟩
set_option maxRecDepth 100000 in
theorem idx_any (s : Bs) (w : World) : Calls Try.prog 59 #[strV s, .string ⟨#[45]⟩] w (fun e w' => e = .returned (.int .i64 (dash s)) ∧ w = w') := by
  have c := idx1_any s w
  have hd : (([45] : List UInt8) == (strB s).toList) = decide (s = [45]) := by
    rw [strB_list, Bool.eq_iff_iff, beq_iff_eq, decide_eq_true_eq]
    exact eq_comm
  have hz : s = [45] → dash s = 0 := fun e => by subst e; rfl
  have HZ := Lib.hid hz
  by_cases e : s = [45]
  · rw [decide_eq_true e] at hd
    have hr := HZ.out e
    rw [hr]
    unfold strV at *
    generalize strB s = X at *
    clear hz HZ e c
    go_enter Try.func59, Try.ntmps59
    go_wp2_with fail
    go_ret
    exact ⟨rfl, rfl⟩
  · rw [decide_eq_false e] at hd
    generalize dash s = r at *
    unfold strV at *
    generalize strB s = X at *
    clear hz HZ e
    go_enter Try.func59, Try.ntmps59
    go_wp2_with (go_at_call 63; refine c.mono ?_; rintro e w' ⟨rfl, rfl⟩)
    go_ret
    exact ⟨rfl, rfl⟩
set_option maxRecDepth 100000 in
theorem cut1_any (s : Bs) (w : World) (hs : s.length ≤ 200000000000000) : Calls Try.prog 45 #[strV s, .string ⟨#[45]⟩] w (fun e w' => ∃ r, e = .returned (.tuple #[strV (cutA s), strV (cutC s), .bool r]) ∧ ∃ q, w' = w.drewN q) := by
  have c := idx_any s w
  rcases dash_cases s with ⟨h1, h2, h3⟩ | ⟨i, h1, h2, h3, h4⟩
  · rw [h2, h3]
    rw [h1] at c
    unfold strV at *
    generalize strB s = X at *
    clear h1 h2 h3
    go_enter Try.func45, Try.ntmps45
    go_wp2_with (go_at_call 59; refine c.mono ?_; rintro e w' ⟨rfl, rfl⟩)
    go_ret3
    exact ⟨_, rfl, 0, rfl⟩
  · rw [h3, h4]
    rw [h1] at c
    have k1 := ex_head s i
    have k2 := ex_tail s (i + 1)
    have hz : (strB s).size = s.length := strB_size s
    unfold strV at *
    generalize strB (s.take i) = X1 at *
    generalize strB (s.drop (i + 1)) = X2 at *
    generalize strB s = X at *
    have c1 : (0 : Int) ≤ (i : Int) := by omega
    have c2 : (i : Int) ≤ (X.size : Int) := by omega
    have c3 : (0 : Int) ≤ (i : Int) + 1 := by omega
    have c4 : (i : Int) + 1 ≤ (X.size : Int) := by omega
    have c5 : IntKind.i64.wrap ((i : Int) + 1) = (i : Int) + 1 := IntWalk.i64_in _ (by omega)
    have K1 := Lib.hid k1
    have K2 := Lib.hid k2
    clear h1 h2 h3 h4 k1 k2 hz
    go_enter Try.func45, Try.ntmps45
    go_wp2_with (go_at_call 59; refine c.mono ?_; rintro e w' ⟨rfl, rfl⟩)
    have mixed : Try.prog.follows Departure.mixedOrders = true := by kernel_rfl
    go_region_o
    go_wp2
    go_ret3
    refine ⟨true, ?_, 1, rfl⟩
    rw [← K1.out, ← K2.out]
    rfl
set_option maxRecDepth 100000 in
theorem cut_any (s : Bs) (w : World) (hs : s.length ≤ 200000000000000) : Calls Try.prog 25 #[strV s, .string ⟨#[45]⟩] w (fun e w' => ∃ r, e = .returned (.tuple #[strV (cutA s), strV (cutC s), .bool r]) ∧ ∃ q, w' = w.drewN q) := by
  have c := cut1_any s w hs
  generalize strV (cutA s) = X1 at *
  generalize strV (cutC s) = X2 at *
  generalize strV s = X at *
  go_enter Try.func25, Try.ntmps25
  go_wp2_with (go_at_call 45; refine c.mono ?_; rintro e w' ⟨r, rfl, q, rfl⟩)
  go_ret3
  exact ⟨r, rfl, q, rfl⟩
/-- An asset's name. -/
def assetB (s : Bs) : Bool := Label.madeB Label.capB 6 s
theorem asset_bs (s : Bs) (w : World) (hs : s.length ≤ 200000000000000) : Calls Try.prog 26 #[strV s] w (fun e w' => e = .returned (.bool (assetB s)) ∧ w = w') := by
  have := Label.asset_any (strB s) w (by rw [strB_size]; omega)
  rwa [strB_data] at this
theorem who_bs (s : Bs) (w : World) (hs : s.length ≤ 200000000000000) : Calls Try.prog 29 #[strV s] w (fun e w' => e = .returned (.bool (Label.whoS s)) ∧ w = w') := by
  have := Label.who_any (strB s) w (by rw [strB_size]; omega)
  rwa [strB_data] at this
/-- A market's name. -/
def okM (s : Bs) : Bool := assetB (cutA s) && assetB (cutC s) && !(cutA s == cutC s)
def mktE (s : Bs) (w : World) (e : Ending) (w' : World) : Prop := e = .returned (if okM s = true then .tuple #[strV (cutA s), strV (cutC s), .int .i64 0] else .tuple #[.string ⟨#[]⟩, .string ⟨#[]⟩, .int .i64 1]) ∧ ∃ q, w' = w.drewN q
set_option maxRecDepth 100000 in
set_option maxHeartbeats 2000000 in
theorem market_any (s : Bs) (w : World) (hs : s.length ≤ 200000000000000) : Calls Try.prog 11 #[strV s] w (mktE s w) := by
  have c := cut_any s w hs
  have hA := fun W => asset_bs (cutA s) W (Nat.le_trans (cutA_len s) hs)
  have hC := fun W => asset_bs (cutC s) W (Nat.le_trans (cutC_len s) hs)
  have hq : ((strB (cutA s)).toList == (strB (cutC s)).toList) = (cutA s == cutC s) := by rw [strB_list, strB_list]
  have ho : okM s = (assetB (cutA s) && assetB (cutC s) && !(cutA s == cutC s)) := rfl
  unfold mktE
  generalize okM s = r at *
  generalize assetB (cutA s) = ra at *
  generalize assetB (cutC s) = rc at *
  generalize (cutA s == cutC s) = re at *
  unfold strV at *
  generalize strB (cutA s) = X1 at *
  generalize strB (cutC s) = X2 at *
  generalize strB s = X at *
  have HO := Lib.hid ho
  clear ho
  rcases ra with _ | _
  · obtain rfl : r = false := by rw [HO.out]; rfl
    clear hC hq HO
    go_enter Try.func11, Try.ntmps11
    go_wp2_with (first
      | (go_at_call 25; refine c.mono ?_; rintro e w' ⟨r0, rfl, q, rfl⟩; have hA1 := hA (w.drewN q))
      | (go_at_call 26; refine hA1.mono ?_; rintro e w' ⟨rfl, rfl⟩))
    go_ret3
    exact ⟨rfl, q, rfl⟩
  rcases rc with _ | _
  · obtain rfl : r = false := by rw [HO.out]; rfl
    clear hq HO
    go_enter Try.func11, Try.ntmps11
    go_wp2_with (first
      | (go_at_call 25; refine c.mono ?_; rintro e w' ⟨r0, rfl, q, rfl⟩; have hA1 := hA (w.drewN q); have hC1 := hC (w.drewN q))
      | (go_at_call 26; with_reducible refine hA1.mono ?_; rintro e w' ⟨rfl, rfl⟩)
      | (go_at_call 26; with_reducible refine hC1.mono ?_; rintro e w' ⟨rfl, rfl⟩))
    go_ret3
    exact ⟨rfl, q, rfl⟩
  rcases re with _ | _
  all_goals
    obtain rfl := HO.out
    clear HO
    go_enter Try.func11, Try.ntmps11
    go_wp2_with (first
      | (go_at_call 25; refine c.mono ?_; rintro e w' ⟨r0, rfl, q, rfl⟩; have hA1 := hA (w.drewN q); have hC1 := hC (w.drewN q))
      | (go_at_call 26; with_reducible refine hA1.mono ?_; rintro e w' ⟨rfl, rfl⟩)
      | (go_at_call 26; with_reducible refine hC1.mono ?_; rintro e w' ⟨rfl, rfl⟩))
    go_ret3
    exact ⟨rfl, q, rfl⟩
end Go.Proofs.Ytcendcegmhliaaa.Ord
