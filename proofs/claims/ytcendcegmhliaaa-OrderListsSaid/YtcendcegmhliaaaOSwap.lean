/-
  Slices' stable sort: what it needs of a translation; two ranges of as many change places; rotations.
-/
import Derived.Test.YtcendcegmhliaaaOBase
import Derived.Test.YtcendcegmhliaaaGRank
import Derived.Shelf.SlSortCmp.KitK
import Derived.Sort.WalkB2
import Derived.Sort.WalkB12
import Derived.Deep.LoopGhost
namespace Go.Proofs.Ytcendcegmhliaaa.Ord
open Go.Shelf Go.RowKit Go.Lib Go.Sort _root_.Go.Proofs.Ytcendcegmhliaaa.Gnd
variable {P : Program} {α : Type} [Inhabited α]
/-- What the family's functions are, and their types. -/
structure SortAt (P : Program) (k : Nat) : Prop where
  mixed : P.follows .mixedOrders = true
  f71 : P.funcs[62]? = some Try.f62
  f72 : P.funcs[67]? = some Try.f67
  f73 : P.funcs[68]? = some Try.f68
  f74 : P.funcs[71]? = some Try.f71
  f75 : P.funcs[72]? = some Try.f72
  t0 : P.underlying 0 = some (TypeDesc.tuple #[])
  a0 : ∀ w, (isAgg 0).run P w = .ok false w
  z0 : ∀ w, (Go.sizeOf 0).run P w = .ok 1 w
  v0 : ∀ w, (zeroValue 0).run P w = .ok (Value.tuple #[]) w
  t3 : P.underlying 3 = some (TypeDesc.int IntKind.i64)
  a3 : ∀ w, (isAgg 3).run P w = .ok false w
  z3 : ∀ w, (Go.sizeOf 3).run P w = .ok 1 w
  v3 : ∀ w, (zeroValue 3).run P w = .ok (Value.int IntKind.i64 0) w
  t4 : P.underlying 4 = some (TypeDesc.bool)
  a4 : ∀ w, (isAgg 4).run P w = .ok false w
  z4 : ∀ w, (Go.sizeOf 4).run P w = .ok 1 w
  v4 : ∀ w, (zeroValue 4).run P w = .ok (Value.bool false) w
  t22 : P.underlying 33 = some (TypeDesc.slice 25)
  a22 : ∀ w, (isAgg 33).run P w = .ok false w
  z22 : ∀ w, (Go.sizeOf 33).run P w = .ok 1 w
  v22 : ∀ w, (zeroValue 33).run P w = .ok (Value.slice none 0 0) w
  t25 : P.underlying 62 = some (TypeDesc.func #[25, 25] #[3] false)
  a25 : ∀ w, (isAgg 62).run P w = .ok false w
  z25 : ∀ w, (Go.sizeOf 62).run P w = .ok 1 w
  v25 : ∀ w, (zeroValue 62).run P w = .ok (Value.nilFunc) w
  t84 : P.underlying 85 = some (TypeDesc.int IntKind.u64)
  a84 : ∀ w, (isAgg 85).run P w = .ok false w
  z84 : ∀ w, (Go.sizeOf 85).run P w = .ok 1 w
  v84 : ∀ w, (zeroValue 85).run P w = .ok (Value.int IntKind.u64 0) w
  aE : ∀ w, (isAgg 25).run P w = .ok true w
  zE : ∀ w, (Go.sizeOf 25).run P w = .ok k w
theorem sortAt : SortAt Try.prog 6 := ⟨by kernel_rfl, Try.func62, Try.func67, Try.func68, Try.func71, Try.func72, Try.underlying0, Try.isAgg0, Try.sizeOf0, Try.zeroValue0, Try.underlying3, Try.isAgg3, Try.sizeOf3, Try.zeroValue3, Try.underlying4, Try.isAgg4, Try.sizeOf4, Try.zeroValue4, Try.underlying33, Try.isAgg33, Try.sizeOf33, Try.zeroValue33, Try.underlying62, Try.isAgg62, Try.sizeOf62, Try.zeroValue62, Try.underlying85, Try.isAgg85, Try.sizeOf85, Try.zeroValue85, Try.isAgg25, Try.sizeOf25⟩
set_option maxHeartbeats 4000000 in
set_option maxRecDepth 1000000 in
theorem swapRange_any {k : Nat} (L : SortAt P k) (enc : α → List Value) (g : Nat) (cb : Array Value) (blk off cap i j n : Nat) (d0 d : Array α) (w0 w : World) (R : RowK enc k w0 blk off d0) (hs : d0.size = d.size) (S : SWK enc k w0 blk off d w) (hij : i + n ≤ j) (hj : j + n ≤ d.size) (hsz : d.size < 4611686018427387904) :
    Calls P 72 #[.slice (some ⟨blk, off, none⟩) d.size cap, .int .i64 i, .int .i64 j, .int .i64 n, .func (.func g) #[] cb] w fun e w' => e = .returned (.tuple #[]) ∧ ∃ d', SWK enc k w0 blk off d' w' ∧ PermIn i (j + n) d d' ∧ ∀ x, d'[x]! = SwapF i j n (fun x => d[x]!) x := by
  have mixed := L.mixed; have t0 := L.t0; have a0 := L.a0; have z0 := L.z0; have v0 := L.v0; have t3 := L.t3; have a3 := L.a3; have z3 := L.z3; have v3 := L.v3; have t4 := L.t4; have a4 := L.a4; have z4 := L.z4; have v4 := L.v4; have t22 := L.t22; have a22 := L.a22; have z22 := L.z22; have v22 := L.v22; have t25 := L.t25; have a25 := L.a25; have z25 := L.z25; have v25 := L.v25; have t84 := L.t84; have a84 := L.a84; have z84 := L.z84; have v84 := L.v84; have aE := L.aE; have zE := L.zE
  have S0 : Aside (SWK enc k w0 blk off d w) := S
  clear S
  go_enter L.f75, Try.ntmps72
  go_wp2
  go_loopg [10] n (fun kx s10 wr => ∃ (q : Nat) (dk : Array α), s10 = .int .i64 q ∧ q ≤ n ∧ n - q ≤ kx ∧ dk.size = d.size ∧ Aside (SWK enc k w0 blk off dk wr) ∧ Hid (PermIn i (j + n) d dk ∧ ∀ x, dk[x]! = SwapF i j q (fun x => d[x]!) x))
  case atStart => exact ⟨0, d, rfl, Nat.zero_le _, Nat.le_refl _, rfl, S0, permIn_refl _ _ _, fun x => by rw [swapF_zero]⟩
  case round =>
    clear S0
    obtain ⟨q, dk, rfl, hq, hkx, hds, S1, HQ⟩ := hrel
    by_cases hlt : q < n
    · have hltz : (q : Int) < (n : Int) := by omega
      obtain ⟨x1, hx1⟩ : ∃ x1, i + q = x1 := ⟨_, rfl⟩
      obtain ⟨x2, hx2⟩ : ∃ x2, j + q = x2 := ⟨_, rfl⟩
      have w1 : IntKind.i64.wrap ((i : Int) + (q : Int)) = (x1 : Int) := by rw [IntKind.wrap_i64]; omega
      have w2' : IntKind.i64.wrap ((j : Int) + (q : Int)) = (x2 : Int) := by rw [IntKind.wrap_i64]; omega
      have HN : Hid (PermIn i (j + n) d (swp dk x1 x2) ∧ ∀ x, (swp dk x1 x2)[x]! = SwapF i j (q + 1) (fun x => d[x]!) x) := by
        rw [← hx1, ← hx2]
        exact ⟨perm_swp HQ.1 (by omega) (by omega) (by omega) (by omega) (by omega), swapF_next hij hlt (by omega) HQ.2⟩
      clear HQ
      have ea44 : ((x1 : Int)).toNat = x1 := by omega
      have pa44 : (0 : Int) ≤ (x1 : Int) := by omega
      have ba44 : (x1 : Int) < (d.size : Int) := by omega
      have ra44 : IntKind.i64.wrap ((x1 : Int)) = (x1 : Int) := by rw [IntKind.wrap_i64]; omega
      have ec44 : ((x2 : Int)).toNat = x2 := by omega
      have pc44 : (0 : Int) ≤ (x2 : Int) := by omega
      have bc44 : (x2 : Int) < (d.size : Int) := by omega
      have rc44 : IntKind.i64.wrap ((x2 : Int)) = (x2 : Int) := by rw [IntKind.wrap_i64]; omega
      have S2 : Aside (SWK enc k w0 blk off (swp dk x1 x2) ((wr.drew.setCells blk (off + x1 * k) (enc dk[x2]!)).setCells blk (off + x2 * k) (enc dk[x1]!))) := S1.out.swapped R x1 x2 (by omega) (by omega)
      have l44a := S1.out.ld1 R (by omega) P x1 (by omega)
      have l44b := S1.out.ld1 R (by omega) P x2 (by omega)
      have s44a := S1.out.st1 R (by omega) P x1 (by omega) dk[x2]!
      have s44b := S1.out.st2 R (by omega) P x1 x2 (by omega) (by omega) dk[x2]! dk[x1]!
      have n44a : (enc dk[x1]!).length = k := R.hk _
      have n44b : (enc dk[x2]!).length = k := R.hk _
      generalize enc dk[x1]! = cI44 at S2 l44a s44b n44a
      generalize enc dk[x2]! = cJ44 at S2 l44b s44a s44b n44b
      clear S1
      go_wp2_with fail
      go_big_region_o
      clear l44a l44b s44a s44b
      generalize (wr.drew.setCells blk (off + x1 * k) cJ44).setCells blk (off + x2 * k) cI44 = w2 at S2 ⊢
      go_wp2
      go_roundg (n - (q + 1))
      case measure => omega
      case rel => exact ⟨q + 1, swp dk x1 x2, by go_num, by omega, Nat.le_refl _, by rw [size_swp]; exact hds, S2, HN⟩
    · obtain rfl : q = n := by omega
      go_wp2
      go_end0
      exact ⟨rfl, dk, S1.out, HQ.1, HQ.2⟩
set_option maxHeartbeats 4000000 in
set_option maxRecDepth 1000000 in
theorem rotate_any {k : Nat} (L : SortAt P k) (enc : α → List Value) (g : Nat) (cb : Array Value) (blk off cap a m b : Nat) (d0 d : Array α) (w0 w : World) (R : RowK enc k w0 blk off d0) (hs : d0.size = d.size) (S : SWK enc k w0 blk off d w) (ham : a < m) (hmb : m < b) (hb : b ≤ d.size) (hsz : d.size < 4611686018427387904) :
    Calls P 71 #[.slice (some ⟨blk, off, none⟩) d.size cap, .int .i64 a, .int .i64 m, .int .i64 b, .func (.func g) #[] cb] w fun e w' => e = .returned (.tuple #[]) ∧ ∃ d', SWK enc k w0 blk off d' w' ∧ PermIn a b d d' ∧ ∀ x, d'[x]! = RotF a m b (fun x => d[x]!) x := by
  have mixed := L.mixed; have t0 := L.t0; have a0 := L.a0; have z0 := L.z0; have v0 := L.v0; have t3 := L.t3; have a3 := L.a3; have z3 := L.z3; have v3 := L.v3; have t4 := L.t4; have a4 := L.a4; have z4 := L.z4; have v4 := L.v4; have t22 := L.t22; have a22 := L.a22; have z22 := L.z22; have v22 := L.v22; have t25 := L.t25; have a25 := L.a25; have z25 := L.z25; have v25 := L.v25; have t84 := L.t84; have a84 := L.a84; have z84 := L.z84; have v84 := L.v84; have aE := L.aE; have zE := L.zE
  have S0 : Aside (SWK enc k w0 blk off d w) := S
  have e75 : ∀ args w, (callFunc 72 args).run P w = .ok (.enter 72 args) w := enters_of L.f75 (by kernel_rfl) rfl
  have i0 : IntKind.i64.wrap ((m : Int) - (a : Int)) = ((m - a : Nat) : Int) := by rw [IntKind.wrap_i64]; omega
  have j0 : IntKind.i64.wrap ((b : Int) - (m : Int)) = ((b - m : Nat) : Int) := by rw [IntKind.wrap_i64]; omega
  obtain ⟨i0v, hi0⟩ : ∃ x, m - a = x := ⟨_, rfl⟩
  obtain ⟨j0v, hj0⟩ : ∃ x, b - m = x := ⟨_, rfl⟩
  rw [hi0] at i0
  rw [hj0] at j0
  clear S
  go_enter L.f74, Try.ntmps71
  go_wp2
  go_loopg [10, 11] (i0v + j0v) (fun kx s10 s11 wr => ∃ (i j : Nat) (dk : Array α), s10 = .int .i64 i ∧ s11 = .int .i64 j ∧ 1 ≤ i ∧ i ≤ i0v ∧ 1 ≤ j ∧ j ≤ j0v ∧ i + j ≤ kx ∧ dk.size = d.size ∧ Aside (SWK enc k w0 blk off dk wr) ∧ Hid (PermIn a b d dk ∧ RotF (m - i) m (m + j) (fun x => dk[x]!) = RotF a m b (fun x => d[x]!)))
  case atStart => exact ⟨i0v, j0v, d, rfl, rfl, by omega, Nat.le_refl _, by omega, Nat.le_refl _, Nat.le_refl _, rfl, S0, permIn_refl _ _ _, by rw [show m - i0v = a by omega, show m + j0v = b by omega]⟩
  case round =>
    clear S0
    obtain ⟨i, j, dk, rfl, rfl, hi1, hi2, hj1, hj2, hkx, hds, S1, HQ⟩ := hrel
    rcases Nat.lt_trichotomy i j with hlt | rfl | hgt
    · have c1 : ((i : Int) == (j : Int)) = false := beq_eq_false_iff_ne.2 (by omega)
      have c2 : ¬ (j : Int) < (i : Int) := by omega
      obtain ⟨x1, hx1⟩ : ∃ x, m - i = x := ⟨_, rfl⟩
      obtain ⟨x2, hx2⟩ : ∃ x, m + j - i = x := ⟨_, rfl⟩
      have w1 : IntKind.i64.wrap ((m : Int) - (i : Int)) = (x1 : Int) := by rw [IntKind.wrap_i64]; omega
      obtain ⟨x3, hx3⟩ : ∃ x, m + j = x := ⟨_, rfl⟩
      have w2 : IntKind.i64.wrap ((m : Int) + (j : Int)) = (x3 : Int) := by rw [IntKind.wrap_i64]; omega
      have w3 : IntKind.i64.wrap ((x3 : Int) - (i : Int)) = (x2 : Int) := by rw [IntKind.wrap_i64]; omega
      have w4 : IntKind.i64.wrap ((j : Int) - (i : Int)) = ((j - i : Nat) : Int) := by rw [IntKind.wrap_i64]; omega
      have cS := swapRange_any L enc g cb blk off cap x1 x2 i d0 dk w0 wr R (by omega) S1.out (by omega) (by omega) (by omega)
      rw [hds] at cS
      clear S1
      go_wp2_with (go_at_call 72; refine cS.mono ?_; rintro e w5 ⟨rfl, d1, S2, hp, hf⟩)
      have S2 : Aside _ := S2
      have HN : Hid (PermIn a b d d1 ∧ RotF (m - i) m (m + (j - i)) (fun x => d1[x]!) = RotF a m b (fun x => d[x]!)) := by
        refine ⟨perm_trans HQ.1 (perm_wide hp (by omega) (by omega) (by omega)), ?_⟩
        rw [← HQ.2, ← rot_more _ (by omega) hlt, hx1, hx2]
        congr 1
        exact funext hf
      have hd1 : d1.size = d.size := hp.1.trans hds
      clear hp hf cS HQ
      go_wp2
      go_roundg (i + (j - i))
      case measure => omega
      case rel => exact ⟨i, j - i, d1, rfl, by first | rfl | go_num, hi1, hi2, by omega, by omega, Nat.le_refl _, hd1, S2, HN⟩
    · have c1 : ((i : Int) == (i : Int)) = true := by simp
      obtain ⟨x1, hx1⟩ : ∃ x, m - i = x := ⟨_, rfl⟩
      have w1 : IntKind.i64.wrap ((m : Int) - (i : Int)) = (x1 : Int) := by rw [IntKind.wrap_i64]; omega
      have cS := swapRange_any L enc g cb blk off cap x1 m i d0 dk w0 wr R (by omega) S1.out (by omega) (by omega) (by omega)
      rw [hds] at cS
      clear S1
      go_wp2_with (go_at_call 72; refine cS.mono ?_; rintro e w5 ⟨rfl, d1, S2, hp, hf⟩)
      go_end0
      refine ⟨rfl, d1, S2, perm_trans HQ.1 (perm_wide hp (by omega) (by omega) (by omega)), fun x => ?_⟩
      rw [hf, ← hx1, rot_even _ (by omega), HQ.2]
    · have c1 : ((i : Int) == (j : Int)) = false := beq_eq_false_iff_ne.2 (by omega)
      have c2 : (j : Int) < (i : Int) := by omega
      obtain ⟨x1, hx1⟩ : ∃ x, m - i = x := ⟨_, rfl⟩
      have w1 : IntKind.i64.wrap ((m : Int) - (i : Int)) = (x1 : Int) := by rw [IntKind.wrap_i64]; omega
      have w4 : IntKind.i64.wrap ((i : Int) - (j : Int)) = ((i - j : Nat) : Int) := by rw [IntKind.wrap_i64]; omega
      have cS := swapRange_any L enc g cb blk off cap x1 m j d0 dk w0 wr R (by omega) S1.out (by omega) (by omega) (by omega)
      rw [hds] at cS
      clear S1
      go_wp2_with (go_at_call 72; refine cS.mono ?_; rintro e w5 ⟨rfl, d1, S2, hp, hf⟩)
      have S2 : Aside _ := S2
      have HN : Hid (PermIn a b d d1 ∧ RotF (m - (i - j)) m (m + j) (fun x => d1[x]!) = RotF a m b (fun x => d[x]!)) := by
        refine ⟨perm_trans HQ.1 (perm_wide hp (by omega) (by omega) (by omega)), ?_⟩
        rw [← HQ.2, ← rot_less _ (by omega) hgt, hx1]
        congr 1
        exact funext hf
      have hd1 : d1.size = d.size := hp.1.trans hds
      clear hp hf cS HQ
      go_wp2
      go_roundg ((i - j) + j)
      case measure => omega
      case rel => exact ⟨i - j, j, d1, by first | rfl | go_num, rfl, by omega, by omega, hj1, hj2, Nat.le_refl _, hd1, S2, HN⟩
end Go.Proofs.Ytcendcegmhliaaa.Ord
