/-
  Contract of slices.Sorted(slices.Values(..)) at int.
-/
import Derived.Test.YtdkpnoinccdaiaaQVals
import Derived.Test.YtdkpnoinccdaiaaShelfG
namespace Go.Proofs.Ytdkpnoinccdaiaa.Pool
open Go.RowKit Go.Sort Go.Shelf Gen

theorem values_any (a : Option Addr) (len cap : Nat) (w : World) : Calls Try.prog 44 #[.slice a len cap] w fun e w' => e = .returned (.func (.func 52) #[] #[.pointer (some ⟨w.heap.size, 0, none⟩)]) ∧ w' = w.alloc (.cells #[.slice a len cap] 23) :=
  (callsIn_wide (n := 5)).1 (values_in Fence.wide 5 trivial rfl a len cap w)
theorem sort_any (gb cap : Nat) (zs : List Int) (W : World) (hH : Holds encZ W gb 0 zs.toArray) (hgl : gb < W.heap.size) (hsz : zs.length < 4611686018427387904) : Calls Try.prog 51 #[.slice (some ⟨gb, 0, none⟩) zs.length cap] W fun e w' => e = .returned (.tuple #[]) ∧ ∃ n os, w' = grow (putRow encZ (Sort.ahead W n) gb 0 (srt zs).toArray) os :=
  AnyM.slices_Sort_int Try.sortA gb 0 cap zs W hH hgl hsz
set_option maxHeartbeats 2000000 in
theorem sorted_any (Bs : Nat) (A : Option Addr) (len cap : Nat) (zs : List Int) (w : World) (h : NAt w A len cap zs) (hreach : len ≤ 1000000) (hBs : Bs < w.heap.size) (hc : w.cell? ⟨Bs, 0, none⟩ = some (.slice A len cap)) :
    Calls Try.prog 43 #[.func (.func 52) #[] #[.pointer (some ⟨Bs, 0, none⟩)]] w (Owns (srt zs) w) := by
  have cC := (callsIn_wide (n := 5)).1 (collect_in Fence.wide 5 trivial trivial trivial rfl (by omega) Bs A len cap zs h.len hreach w hBs hc h.row)
  obtain rfl := h.len
  clear h hc
  go_enter Try.func43, Try.ntmps43
  go_wp2_with fail
  refine cC.mono ?_
  rintro e W ⟨v, rfl, hrow, hb⟩
  clear cC
  rcases hrow.2 with ⟨rfl, hz0⟩ | ⟨gb, cap, cur, rfl, hbase, hgb, r1, r2, r3, r4⟩
  · have hss : zs = [] := List.eq_nil_of_length_eq_zero hz0
    subst hss
    have HB := Lib.hid hb
    clear hb hrow
    go_wp2_with fail
    refine (AnyM.slices_Sort_int_none Try.sortA none 0 W).mono ?_
    rintro e w' ⟨rfl, rfl⟩
    go_wp2_with fail
    go_ret
    exact ⟨.slice none 0 0, rfl, (by rw [show srt [] = [] by simp [srt]]; exact OwnG.nil _ _ _ _), HB.out⟩
  · have hH : Holds encZ W gb 0 zs.toArray := holds_of_block_i hgb (by simpa using r4)
    have hgl : gb < W.heap.size := (Array.getElem?_eq_some_iff.1 hgb).1
    have hsz : zs.length < 4611686018427387904 := by omega
    have cS := sort_any gb cap zs W hH hgl hsz
    go_wp2_with fail
    refine cS.mono ?_
    rintro e w' ⟨rfl, nn, os, rfl⟩
    have HX : Hid (OwnI (grow (putRow encZ (Sort.ahead W nn) gb 0 (srt zs).toArray) os) w.heap.size (.slice (some ⟨gb, 0, none⟩) zs.length cap) (srt zs)) := Lib.hid (by
      have := ownsRow_sorted_i (ss := zs) (ts := srt zs) (n := nn) (os := os) (srt_len zs) hbase hgb r1 r2 r3
      unfold OwnI OwnG
      rw [srt_len]
      exact this)
    have HB := Lib.hid (hb.grown (grownBy_sorted_i (n := nn) (os := os) (w := W) (g := gb) (srt zs).toArray) hb.size (fun j hj => by cases hj; exact hbase))
    clear cS hH hb hrow
    go_wp2_with fail
    go_ret
    exact ⟨_, rfl, HX.out, HB.out⟩
end Go.Proofs.Ytdkpnoinccdaiaa.Pool
