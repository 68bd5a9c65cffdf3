/-
  Contract of page's doubled.
-/
import Derived.Test.YtiebaeahimeedaaPEnc4
namespace Go.Proofs.Ytiebaeahimeedaa.Page
open Go.RowKit Gen

set_option maxRecDepth 100000 in
set_option maxHeartbeats 4000000 in
theorem doubled_any (ep : Nat) (A : Option Addr) (n c : Nat) (l : Bs) (w : World) (hep : ep < 18446744073709551616) (h : BytesAt w A n c l) (hn : n ≤ 496) : Calls Try.prog 20 #[.int .u64 (ep : Int), .slice A n c] w (Lays (doubledBs ep l) w) := by
  have HH := Lib.hid h
  have hmk : ∀ W, (Instr.makeSlice 30 (.int .i64 8) (.int .i64 8)).run Try.prog W = .ok (.slice (some ⟨W.heap.size, 0, none⟩) 8 8) (W.alloc (.cells (rowC (zeros 8)) 5)) := fun W => make_run 8 (by omega) W
  have hz : Hid (∀ W : World, BytesAt (W.alloc (.cells (rowC (zeros 8)) 5)) (some ⟨W.heap.size, 0, none⟩) 8 8 (zeros 8)) := Lib.hid (fun W => ⟨by simp [zeros], Nat.le_refl _, by simp only [maxLen]; omega, (fun h => by cases h), at_row (At.of_block (heap_alloc_last W _))⟩)
  have G1 := Lib.hid (fun W => lay_eight ep W hep)
  have hp : (padTo 496 l).length = 496 := pad_len (by rw [h.len]; exact hn)
  have HP := Lib.hid hp
  have G2 := Lib.hid (fun W (hW : Below w.heap.size w W) => fill_half A n c l W (HH.out.below hW) hn)
  have L8 := Lib.hid (be_len 8 ep)
  have LZ : Hid ((zeros 8).length = 8) := Lib.hid (by simp [zeros])
  unfold doubledBs
  generalize padTo 496 l = L at *
  generalize be 8 ep = T at *
  generalize zeros 8 = Z at *
  generalize rowC Z = R at *
  have B0 := Lib.hid (Below.refl w.heap.size w).drew
  clear h hp hn HH hep
  go_enter Try.func20, Try.ntmps20
  have HZ0 : Hid (BytesAt (w.alloc (.cells R 5)).drew (some ⟨w.heap.size, 0, none⟩) 8 8 Z) := Lib.hid ((hz.out w).below (Below.refl _ _).drew)
  have HJ := Lib.hid (fun W m hm A1 n1 c1 A3 n3 c3 b H1 H3 HZ => doubled_join T L Z L8.out HP.out LZ.out W m hm A1 n1 c1 A3 n3 c3 b H1 H3 HZ)
  go_wp2_with fail
  go_region_with (first
    | (go_at_call 46; (with_reducible refine (G1.out _).mono ?_); rintro e w1 ⟨A1, n1, c1, rfl, h1, b1, -⟩; have B1 : Hid (Below w.heap.size w w1) := Lib.hid (by first | exact B0.out.trans (b1.mono B0.out.size) | exact (B0.out.alloc B0.out.size _).trans (b1.mono (B0.out.alloc B0.out.size _).size)); have H1 := Lib.hid h1; have HB1 := Lib.hid b1; clear h1 b1)
    | (go_at_call 47; (with_reducible (first | refine (G2.out _ B1.out).mono ?_ | refine (G2.out _ (B1.out.alloc B1.out.size _)).mono ?_)); rintro e w3 ⟨A3, n3, c3, rfl, h3, b3, -⟩; have B3 : Hid (Below w.heap.size w w3) := Lib.hid (by first | exact B1.out.trans (b3.mono B1.out.size) | exact (B1.out.alloc B1.out.size _).trans (b3.mono (B1.out.alloc B1.out.size _).size)); have H3 := Lib.hid h3; have HB3 := Lib.hid b3; clear h3 b3))
  all_goals clear hmk
  all_goals go_wp2_with fail
  all_goals (first
    | ((with_reducible refine (HJ.out w3 _ rfl A1 n1 c1 A3 n3 c3 _ (H1.out.below HB3.out) H3.out ((HZ0.out.below HB1.out).below HB3.out)).mono ?_); have BF := Lib.hid B3.out)
    | ((with_reducible refine (HJ.out w3 _ rfl A1 n1 c1 A3 n3 c3 _ ((H1.out.alloc _).below HB3.out) H3.out ((hz.out w1).below HB3.out)).mono ?_); have BF := Lib.hid B3.out)
    | ((with_reducible refine (HJ.out _ _ (World.size_alloc _ _) A1 n1 c1 A3 n3 c3 _ ((H1.out.below HB3.out).alloc _) (H3.out.alloc _) (hz.out w3)).mono ?_); have BF := Lib.hid (B3.out.alloc B3.out.size (.cells R 5))))
  all_goals
    rintro e w4 ⟨A4, n4, c4, rfl, h4, b4, f4⟩
    have B5 := Lib.hid ((BF.out.alloc BF.out.size _).trans (b4.mono (BF.out.alloc BF.out.size _).size))
    have F4 := Lib.hid (fun a ha => Nat.le_trans (BF.out.alloc BF.out.size _).size (f4 a ha))
    have H4 := Lib.hid h4
    clear h4 b4 f4
    go_wp2_with fail
    go_ret
    exact ⟨_, _, _, rfl, H4.out, B5.out, F4.out⟩
end Go.Proofs.Ytiebaeahimeedaa.Page
