/-
  awake: what the document's own examples are told.
-/
import Derived.Test.YtcendcegmhliaaaOSides
import Derived.Test.YtcendcegmhliaaaODrop
namespace Go.Proofs.Ytcendcegmhliaaa.Ord
open Go.RowKit Go.Sort _root_.Go.Proofs.Ytcendcegmhliaaa.Gnd

def mktB : Bs := [88, 89, 90, 45, 85, 83, 68]
def mkt2B : Bs := [88, 89, 90, 45, 88, 89, 90]
def bO : Or := ⟨1, [97, 110, 110], mktB, true, 20, 5⟩
def dO : Or := ⟨2, [98, 111, 98], mktB, true, 21, 5⟩
theorem bO_fit : fitO bO = true := by decide
theorem stab1 : Stab true ([bO, dO].filter (askB mktB true)) [dO, bO] := ⟨[(dO, 1), (bO, 0)], rfl, by
  have e : ([bO, dO].filter (askB mktB true)).zipIdx = [(bO, 0), (dO, 1)] := by decide
  rw [e]
  exact List.Perm.swap _ _ _, by simp only [List.pairwise_cons]; decide⟩
theorem stab2 : Stab false ([bO, dO].filter (askB mktB false)) [] := ⟨[], rfl, by
  have e : ([bO, dO].filter (askB mktB false)).zipIdx = [] := by decide
  rw [e], .nil⟩
theorem six {w : World} {b : Nat} {x : Or} (h : At w b (encA x).toArray) : w.cell? ⟨b, 0, none⟩ = some (.int .u64 x.num) ∧ w.cell? ⟨b, 1, none⟩ = some (strV x.who) ∧ w.cell? ⟨b, 2, none⟩ = some (strV x.mkt) ∧ w.cell? ⟨b, 3, none⟩ = some (.bool x.buy) ∧ w.cell? ⟨b, 4, none⟩ = some (.int .i64 x.price) ∧ w.cell? ⟨b, 5, none⟩ = some (.int .i64 x.left) :=
  ⟨h.2.2 0 _ rfl, h.2.2 1 _ rfl, h.2.2 2 _ rfl, h.2.2 3 _ rfl, h.2.2 4 _ rfl, h.2.2 5 _ rfl⟩
theorem own_six {w : World} {B g n cap : Nat} {l : List Or} {x : Or} (h : OwnA w B (.slice (some ⟨g, 0, none⟩) n cap) (x :: l)) : w.cell? ⟨g, 0, none⟩ = some (.int .u64 x.num) ∧ w.cell? ⟨g, 1, none⟩ = some (strV x.who) ∧ w.cell? ⟨g, 2, none⟩ = some (strV x.mkt) ∧ w.cell? ⟨g, 3, none⟩ = some (.bool x.buy) ∧ w.cell? ⟨g, 4, none⟩ = some (.int .i64 x.price) ∧ w.cell? ⟨g, 5, none⟩ = some (.int .i64 x.left) := by
  have k : ∀ i v, (encA x)[i]? = some v → w.cell? ⟨g, i, none⟩ = some v := fun i v hv => by
    have := own_at h (k := 0) (by simp) i v hv
    rwa [show 0 * 6 + i = i by omega] at this
  exact ⟨k 0 _ rfl, k 1 _ rfl, k 2 _ rfl, k 3 _ rfl, k 4 _ rfl, k 5 _ rfl⟩
theorem eq_b (W : World) : (binOp .eql 25 (.agg #[.int .u64 1, .string ⟨#[97, 110, 110]⟩, .string ⟨#[88, 89, 90, 45, 85, 83, 68]⟩, .bool true, .int .i64 20, .int .i64 5]) (.agg #[.int .u64 1, .string ⟨#[97, 110, 110]⟩, .string ⟨#[88, 89, 90, 45, 85, 83, 68]⟩, .bool true, .int .i64 20, .int .i64 5])).run Try.prog W = .ok (.bool true) W := by kernel_rfl
theorem eq_d (W : World) : (binOp .eql 25 (.agg #[.int .u64 2, .string ⟨#[98, 111, 98]⟩, .string ⟨#[88, 89, 90, 45, 85, 83, 68]⟩, .bool true, .int .i64 21, .int .i64 5]) (.agg #[.int .u64 2, .string ⟨#[98, 111, 98]⟩, .string ⟨#[88, 89, 90, 45, 85, 83, 68]⟩, .bool true, .int .i64 21, .int .i64 5])).run Try.prog W = .ok (.bool true) W := by kernel_rfl
set_option maxRecDepth 100000 in
set_option maxHeartbeats 8000000 in
theorem awake_any (w : World) : Calls Try.prog 10 #[] w (fun e w' => e = .returned (.bool true) ∧ Below w.heap.size w w') := by
  have c1 := market_any mktB w (by decide)
  have c2 := fun W => market_any mkt2B W (by decide)
  unfold mktE at c1 c2
  rw [show okM mktB = true by decide] at c1
  rw [show okM mkt2B = false by decide] at c2
  rw [if_pos rfl, show strV (cutA mktB) = .string ⟨#[88, 89, 90]⟩ from congrArg strV (show cutA mktB = [88, 89, 90] by decide), show strV (cutC mktB) = .string ⟨#[85, 83, 68]⟩ from congrArg strV (show cutC mktB = [85, 83, 68] by decide)] at c1
  simp only [Bool.false_eq_true, if_false] at c2
  unfold mktB strV strB at c1
  unfold mkt2B strV strB at c2
  go_enter Try.func10, Try.ntmps10
  go_wp2_with fail
  refine c1.mono ?_
  rintro e w1 ⟨rfl, q1, h1⟩
  have B1 := Lib.hid (show Below w.heap.size w w1 by rw [h1]; exact drewN_below w q1)
  have c3 := c2 w1
  clear h1 c1 c2
  go_wp2_with fail
  refine c3.mono ?_
  rintro e w2 ⟨rfl, q2, h2⟩
  have B2 := Lib.hid (show Below w.heap.size w w2 by rw [h2]; exact B1.out.trans ((drewN_below w1 q2).mono B1.out.size))
  clear h2 c3 B1
  have b3 := below_box w2 (.cells (encA bO).toArray 25)
  have a3 := at_new w2 (encA bO).toArray 25
  have p3 := put_or w2 bO
  obtain ⟨W3, hW3⟩ : ∃ W3, w2.alloc (.cells (encA bO).toArray 25) = W3 := ⟨_, rfl⟩
  rw [hW3] at b3 a3 p3
  have b4 := below_box W3 (.cells (encA dO).toArray 25)
  have a4 := at_new W3 (encA dO).toArray 25
  have p4 := put_or W3 dO
  obtain ⟨W4, hW4⟩ : ∃ W4, W3.alloc (.cells (encA dO).toArray 25) = W4 := ⟨_, rfl⟩
  rw [hW4] at b4 a4 p4
  have A3 := Lib.hid (a3.below b4 a3.1)
  have A4 := Lib.hid a4
  have sz3 : W3.heap.size = w2.heap.size + 1 := by rw [← hW3]; simp
  have hb4 := b3.trans (b4.mono b3.size)
  have B4 := Lib.hid (B2.out.trans (hb4.mono B2.out.size))
  have hW3 : w2.alloc (.cells #[.int .u64 1, .string ⟨#[97, 110, 110]⟩, .string ⟨#[88, 89, 90, 45, 85, 83, 68]⟩, .bool true, .int .i64 20, .int .i64 5] 25) = W3 := hW3
  have hW4 : W3.alloc (.cells #[.int .u64 2, .string ⟨#[98, 111, 98]⟩, .string ⟨#[88, 89, 90, 45, 85, 83, 68]⟩, .bool true, .int .i64 21, .int .i64 5] 25) = W4 := hW4
  rw [sz3] at A4
  have C3 := Lib.hid (show W4.cell? ⟨w2.heap.size, 0, none⟩ = some (.int .u64 1) ∧ W4.cell? ⟨w2.heap.size, 1, none⟩ = some (.string ⟨#[97, 110, 110]⟩) ∧ W4.cell? ⟨w2.heap.size, 2, none⟩ = some (.string ⟨#[88, 89, 90, 45, 85, 83, 68]⟩) ∧ W4.cell? ⟨w2.heap.size, 3, none⟩ = some (.bool true) ∧ W4.cell? ⟨w2.heap.size, 4, none⟩ = some (.int .i64 20) ∧ W4.cell? ⟨w2.heap.size, 5, none⟩ = some (.int .i64 5) from six A3.out)
  obtain ⟨u0, u1, u2, u3, u4, u5⟩ := C3.out
  have cN := need_any bO W4 (by decide) (by decide)
  unfold NeedE at cN
  rw [show needO bO = ([85, 83, 68], 100, 0) by decide] at cN
  have cN : Calls Try.prog 13 #[.agg #[.int .u64 1, .string ⟨#[97, 110, 110]⟩, .string ⟨#[88, 89, 90, 45, 85, 83, 68]⟩, .bool true, .int .i64 20, .int .i64 5]] W4 (fun e w' => e = .returned (.tuple #[.string ⟨#[85, 83, 68]⟩, .int .i64 100, .int .i64 0]) ∧ Below W4.heap.size W4 w') := cN
  clear b3 b4 a3 a4 hb4 p3 p4
  go_wp2_with fail
  refine cN.mono ?_
  rintro e w5 ⟨rfl, b5⟩
  have B5 := Lib.hid (B4.out.trans (b5.mono B4.out.size))
  have A3 := Lib.hid (A3.out.below b5 A3.out.1)
  have A4 := Lib.hid (A4.out.below b5 A4.out.1)
  have C4 := Lib.hid (show w5.cell? ⟨w2.heap.size + 1, 0, none⟩ = some (.int .u64 2) ∧ w5.cell? ⟨w2.heap.size + 1, 1, none⟩ = some (.string ⟨#[98, 111, 98]⟩) ∧ w5.cell? ⟨w2.heap.size + 1, 2, none⟩ = some (.string ⟨#[88, 89, 90, 45, 85, 83, 68]⟩) ∧ w5.cell? ⟨w2.heap.size + 1, 3, none⟩ = some (.bool true) ∧ w5.cell? ⟨w2.heap.size + 1, 4, none⟩ = some (.int .i64 21) ∧ w5.cell? ⟨w2.heap.size + 1, 5, none⟩ = some (.int .i64 5) from six A4.out)
  obtain ⟨v0, v1, v2, v3, v4, v5⟩ := C4.out
  have b6 := below_box w5 (.cells (encA dO).toArray 25)
  have r6 := row_one w5 dO
  obtain ⟨W6, hW6⟩ : ∃ W6, w5.alloc (.cells (encA dO).toArray 25) = W6 := ⟨_, rfl⟩
  rw [hW6] at b6 r6
  have A3 := Lib.hid (A3.out.below b6 A3.out.1)
  have A4 := Lib.hid (A4.out.below b6 A4.out.1)
  have B6 := Lib.hid (B5.out.trans (b6.mono B5.out.size))
  have C5 := Lib.hid (show W6.cell? ⟨w2.heap.size, 0, none⟩ = some (.int .u64 1) ∧ W6.cell? ⟨w2.heap.size, 1, none⟩ = some (.string ⟨#[97, 110, 110]⟩) ∧ W6.cell? ⟨w2.heap.size, 2, none⟩ = some (.string ⟨#[88, 89, 90, 45, 85, 83, 68]⟩) ∧ W6.cell? ⟨w2.heap.size, 3, none⟩ = some (.bool true) ∧ W6.cell? ⟨w2.heap.size, 4, none⟩ = some (.int .i64 20) ∧ W6.cell? ⟨w2.heap.size, 5, none⟩ = some (.int .i64 5) from six A3.out)
  obtain ⟨x0, x1, x2, x3, x4, x5⟩ := C5.out
  have hW6 : w5.alloc (.cells #[.int .u64 2, .string ⟨#[98, 111, 98]⟩, .string ⟨#[88, 89, 90, 45, 85, 83, 68]⟩, .bool true, .int .i64 21, .int .i64 5] 25) = W6 := hW6
  have at6 : AAt W6 (some ⟨w5.heap.size, 0, none⟩) 1 1 [dO] := ⟨rfl, Nat.le_refl _, by decide, fun h => (by cases h), r6⟩
  have cP := put_any at6 (by omega) bO (by decide) (by decide)
  rw [show putO [dO] bO = ([bO, dO], 0) by decide] at cP
  have cP : Calls Try.prog 18 #[.slice (some ⟨w5.heap.size, 0, none⟩) 1 1, .agg #[.int .u64 1, .string ⟨#[97, 110, 110]⟩, .string ⟨#[88, 89, 90, 45, 85, 83, 68]⟩, .bool true, .int .i64 20, .int .i64 5]] W6 (AcsE [bO, dO] 0 W6) := cP
  clear b5 b6 r6 at6 cN u0 u1 u2 u3 u4 u5 hW3 hW4 C3 C4 C5
  go_wp2_with fail
  refine cP.mono ?_
  rintro e w7 ⟨s7, rfl, o7, b7⟩
  have B7 := Lib.hid (B6.out.trans (b7.mono B6.out.size))
  have A3 := Lib.hid (A3.out.below b7 A3.out.1)
  have A4 := Lib.hid (A4.out.below b7 A4.out.1)
  obtain ⟨g7, k7, e7, _, _⟩ := o7.some (by simp)
  obtain rfl : s7 = .slice (some ⟨g7, 0, none⟩) 2 k7 := e7
  have cS := sides_any (own_aat o7) (by omega) mktB
  have O7 := Lib.hid o7
  have cS : Calls Try.prog 22 #[.slice (some ⟨g7, 0, none⟩) 2 k7, .string ⟨#[88, 89, 90, 45, 85, 83, 68]⟩] w7 (SidesE [bO, dO] mktB w7) := cS
  clear b7 o7 cP x0 x1 x2 x3 x4 x5 v0 v1 v2 v3 v4 v5 hW6
  go_wp2_with fail
  refine cS.mono ?_
  rintro e w8 ⟨s8, l8, s9, l9, rfl, o8, o9, st8, st9, b8⟩
  obtain rfl := st8.unique stab1
  obtain rfl := st9.unique stab2
  have B8 := Lib.hid (B7.out.trans (b8.mono B7.out.size))
  have A3 := Lib.hid (A3.out.below b8 A3.out.1)
  have A4 := Lib.hid (A4.out.below b8 A4.out.1)
  have O7 := Lib.hid (O7.out.below b8)
  obtain ⟨g8, k8, e8, _, _⟩ := o8.some (by simp)
  obtain rfl : s8 = .slice (some ⟨g8, 0, none⟩) 2 k8 := e8
  obtain ⟨A9, k9, e9, _, _⟩ := o9.at
  obtain rfl : s9 = .slice A9 0 k9 := e9
  have O8 := Lib.hid o8
  have cD := drop_any (own_aat O7.out) (by omega) 2
  rw [show dropO [bO, dO] 2 = ([bO], dO, 0) by decide] at cD
  have cD : Calls Try.prog 20 #[.slice (some ⟨g7, 0, none⟩) 2 k7, .int .u64 2] w8 (fun e w' => ∃ v, e = .returned (.tuple #[v, .agg #[.int .u64 2, .string ⟨#[98, 111, 98]⟩, .string ⟨#[88, 89, 90, 45, 85, 83, 68]⟩, .bool true, .int .i64 21, .int .i64 5], .int .i64 0]) ∧ OwnA w' w8.heap.size v [bO] ∧ Below w8.heap.size w8 w') := cD
  clear b8 o8 o9 cS st8 st9
  go_wp2_with fail
  refine cD.mono ?_
  rintro e w10 ⟨s10, rfl, o10, b10⟩
  have B10 := Lib.hid (B8.out.trans (b10.mono B8.out.size))
  obtain ⟨g10, k10, e10, _, _⟩ := o10.some (by simp)
  obtain rfl : s10 = .slice (some ⟨g10, 0, none⟩) 1 k10 := e10
  have b11 := below_box w10 (.cells (encA dO).toArray 25)
  have a11 := at_new w10 (encA dO).toArray 25
  have p11 := put_or w10 dO
  obtain ⟨W11, hW11⟩ : ∃ W11, w10.alloc (.cells (encA dO).toArray 25) = W11 := ⟨_, rfl⟩
  rw [hW11] at b11 a11 p11
  have B11 := Lib.hid (B10.out.trans (b11.mono B10.out.size))
  have bb := b10.trans (b11.mono b10.size)
  have A3 := Lib.hid (A3.out.below bb A3.out.1)
  have A4 := Lib.hid (A4.out.below bb A4.out.1)
  have O7 := Lib.hid (O7.out.below bb)
  have O8 := Lib.hid (O8.out.below bb)
  have hW11 : w10.alloc (.cells #[.int .u64 2, .string ⟨#[98, 111, 98]⟩, .string ⟨#[88, 89, 90, 45, 85, 83, 68]⟩, .bool true, .int .i64 21, .int .i64 5] 25) = W11 := hW11
  have KEEP := Lib.hid (show ∀ W, Below W11.heap.size W11 W → (W.cell? ⟨w2.heap.size, 0, none⟩ = some (.int .u64 1) ∧ W.cell? ⟨w2.heap.size, 1, none⟩ = some (.string ⟨#[97, 110, 110]⟩) ∧ W.cell? ⟨w2.heap.size, 2, none⟩ = some (.string ⟨#[88, 89, 90, 45, 85, 83, 68]⟩) ∧ W.cell? ⟨w2.heap.size, 3, none⟩ = some (.bool true) ∧ W.cell? ⟨w2.heap.size, 4, none⟩ = some (.int .i64 20) ∧ W.cell? ⟨w2.heap.size, 5, none⟩ = some (.int .i64 5)) ∧ (W.cell? ⟨w2.heap.size + 1, 0, none⟩ = some (.int .u64 2) ∧ W.cell? ⟨w2.heap.size + 1, 1, none⟩ = some (.string ⟨#[98, 111, 98]⟩) ∧ W.cell? ⟨w2.heap.size + 1, 2, none⟩ = some (.string ⟨#[88, 89, 90, 45, 85, 83, 68]⟩) ∧ W.cell? ⟨w2.heap.size + 1, 3, none⟩ = some (.bool true) ∧ W.cell? ⟨w2.heap.size + 1, 4, none⟩ = some (.int .i64 21) ∧ W.cell? ⟨w2.heap.size + 1, 5, none⟩ = some (.int .i64 5)) ∧ (W.cell? ⟨g7, 0, none⟩ = some (.int .u64 1) ∧ W.cell? ⟨g7, 1, none⟩ = some (.string ⟨#[97, 110, 110]⟩) ∧ W.cell? ⟨g7, 2, none⟩ = some (.string ⟨#[88, 89, 90, 45, 85, 83, 68]⟩) ∧ W.cell? ⟨g7, 3, none⟩ = some (.bool true) ∧ W.cell? ⟨g7, 4, none⟩ = some (.int .i64 20) ∧ W.cell? ⟨g7, 5, none⟩ = some (.int .i64 5)) ∧ (W.cell? ⟨g8, 0, none⟩ = some (.int .u64 2) ∧ W.cell? ⟨g8, 1, none⟩ = some (.string ⟨#[98, 111, 98]⟩) ∧ W.cell? ⟨g8, 2, none⟩ = some (.string ⟨#[88, 89, 90, 45, 85, 83, 68]⟩) ∧ W.cell? ⟨g8, 3, none⟩ = some (.bool true) ∧ W.cell? ⟨g8, 4, none⟩ = some (.int .i64 21) ∧ W.cell? ⟨g8, 5, none⟩ = some (.int .i64 5)) ∧ (W.cell? ⟨w10.heap.size, 0, none⟩ = some (.int .u64 2) ∧ W.cell? ⟨w10.heap.size, 1, none⟩ = some (.string ⟨#[98, 111, 98]⟩) ∧ W.cell? ⟨w10.heap.size, 2, none⟩ = some (.string ⟨#[88, 89, 90, 45, 85, 83, 68]⟩) ∧ W.cell? ⟨w10.heap.size, 3, none⟩ = some (.bool true) ∧ W.cell? ⟨w10.heap.size, 4, none⟩ = some (.int .i64 21) ∧ W.cell? ⟨w10.heap.size, 5, none⟩ = some (.int .i64 5)) from fun W hW =>
    ⟨six (A3.out.below hW A3.out.1), six (A4.out.below hW A4.out.1), own_six (O7.out.below hW), own_six (O8.out.below hW), six (a11.below hW a11.1)⟩)
  have cC := Lib.hid (fun W => check_any bO W (by decide) (by decide))
  have QD : Below W11.heap.size W11 W11.drew := (Below.refl _ _).drew
  have cC : Calls Try.prog 15 #[.agg #[.int .u64 1, .string ⟨#[97, 110, 110]⟩, .string ⟨#[88, 89, 90, 45, 85, 83, 68]⟩, .bool true, .int .i64 20, .int .i64 5]] W11.drew (fun e w' => e = .returned (.int .i64 0) ∧ Grw W11.drew w') := (cC.out W11.drew).mono (fun e w' h => ⟨by rw [h.1, show checkO bO = 0 by decide], h.2⟩)
  have HEB := eq_b
  have HED := eq_d
  have K0 := Lib.hid (KEEP.out _ QD)
  have hQD := Lib.hid QD
  clear b10 b11 bb a11 o10 cD p11 QD
  go_wp2_with fail
  go_region_held3 (fun W => (W.cell? ⟨w2.heap.size, 0, none⟩ = some (.int .u64 1) ∧ W.cell? ⟨w2.heap.size, 1, none⟩ = some (.string ⟨#[97, 110, 110]⟩) ∧ W.cell? ⟨w2.heap.size, 2, none⟩ = some (.string ⟨#[88, 89, 90, 45, 85, 83, 68]⟩) ∧ W.cell? ⟨w2.heap.size, 3, none⟩ = some (.bool true) ∧ W.cell? ⟨w2.heap.size, 4, none⟩ = some (.int .i64 20) ∧ W.cell? ⟨w2.heap.size, 5, none⟩ = some (.int .i64 5)) ∧ (W.cell? ⟨w2.heap.size + 1, 0, none⟩ = some (.int .u64 2) ∧ W.cell? ⟨w2.heap.size + 1, 1, none⟩ = some (.string ⟨#[98, 111, 98]⟩) ∧ W.cell? ⟨w2.heap.size + 1, 2, none⟩ = some (.string ⟨#[88, 89, 90, 45, 85, 83, 68]⟩) ∧ W.cell? ⟨w2.heap.size + 1, 3, none⟩ = some (.bool true) ∧ W.cell? ⟨w2.heap.size + 1, 4, none⟩ = some (.int .i64 21) ∧ W.cell? ⟨w2.heap.size + 1, 5, none⟩ = some (.int .i64 5)) ∧ (W.cell? ⟨g7, 0, none⟩ = some (.int .u64 1) ∧ W.cell? ⟨g7, 1, none⟩ = some (.string ⟨#[97, 110, 110]⟩) ∧ W.cell? ⟨g7, 2, none⟩ = some (.string ⟨#[88, 89, 90, 45, 85, 83, 68]⟩) ∧ W.cell? ⟨g7, 3, none⟩ = some (.bool true) ∧ W.cell? ⟨g7, 4, none⟩ = some (.int .i64 20) ∧ W.cell? ⟨g7, 5, none⟩ = some (.int .i64 5)) ∧ (W.cell? ⟨g8, 0, none⟩ = some (.int .u64 2) ∧ W.cell? ⟨g8, 1, none⟩ = some (.string ⟨#[98, 111, 98]⟩) ∧ W.cell? ⟨g8, 2, none⟩ = some (.string ⟨#[88, 89, 90, 45, 85, 83, 68]⟩) ∧ W.cell? ⟨g8, 3, none⟩ = some (.bool true) ∧ W.cell? ⟨g8, 4, none⟩ = some (.int .i64 21) ∧ W.cell? ⟨g8, 5, none⟩ = some (.int .i64 5)) ∧ (W.cell? ⟨w10.heap.size, 0, none⟩ = some (.int .u64 2) ∧ W.cell? ⟨w10.heap.size, 1, none⟩ = some (.string ⟨#[98, 111, 98]⟩) ∧ W.cell? ⟨w10.heap.size, 2, none⟩ = some (.string ⟨#[88, 89, 90, 45, 85, 83, 68]⟩) ∧ W.cell? ⟨w10.heap.size, 3, none⟩ = some (.bool true) ∧ W.cell? ⟨w10.heap.size, 4, none⟩ = some (.int .i64 21) ∧ W.cell? ⟨w10.heap.size, 5, none⟩ = some (.int .i64 5)))
    (with_reducible (first | exact K0.out | exact K1.out))
    (first
      | (go_at_call 15; (with_reducible refine cC.mono ?_); rintro e w12 ⟨rfl, g12⟩; have K1 := Lib.hid (KEEP.out _ (hQD.out.trans (g12.below.mono hQD.out.size)))))
  all_goals
    go_wp2_with fail
    (try go_ret)
    exact ⟨rfl, B11.out.trans ((hQD.out.trans (g12.below.mono hQD.out.size)).mono B11.out.size)⟩
end Go.Proofs.Ytcendcegmhliaaa.Ord
