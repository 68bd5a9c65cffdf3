/-
  Contracts of slices.Grow (of none) and slices.Concat at api.Order.
-/
import Derived.Test.YtcendcegmhliaaaORow
import Derived.Lib.AppendZerosOnto
import Derived.Lib.Walk
import Derived.Lib.SliceRun
namespace Go.Proofs.Ytcendcegmhliaaa.Ord
open Go.RowKit Go.Sort _root_.Go.Proofs.Ytcendcegmhliaaa.Gnd

theorem elem_acs : Try.prog.underlying 33 = some (.slice (Try.prog.elem 33)) := by kernel_rfl
theorem size_acs (w : World) : (sizeOf (Try.prog.elem 33)).run Try.prog w = .ok 6 w := by kernel_rfl
/-- Where a part of a slice begins. -/
def sub (s : Nat) (A : Option Addr) (c k : Nat) : Option Addr := if c = k then A else A.map (·.add (k * s))
theorem addz (a : Addr) : a.add 0 = a := by
  obtain ⟨b, o, s⟩ := a
  cases s <;> simp [Addr.add]
theorem acs_head (A : Option Addr) (n c k : Nat) (h : k ≤ c) (W : World) : (Instr.slice 33 (.slice A n c) none (some (.int .i64 (k : Int))) none).run Try.prog W = .ok (.slice A k c) W := by
  rw [run_slice_h W 33 A n c elem_acs .i64 (k : Int) (by omega) (by omega), size_acs]
  unfold sliced
  rcases A with _ | a
  · simp [Result.andThen]
  · simp [Result.andThen, addz]
theorem acs_tail (A : Option Addr) (n c k : Nat) (h : k ≤ n) (W : World) : (Instr.slice 33 (.slice A n c) (some (.int .i64 (k : Int))) none none).run Try.prog W = .ok (.slice (sub 6 A c k) (n - k) (c - k)) W := by
  rw [run_slice_l W 33 A n c elem_acs .i64 (k : Int) (by omega) (by omega), size_acs]
  unfold sliced sub
  simp [Result.andThen]
theorem row_take {w : World} {A : Option Addr} {l : List Or} (h : RowA w A l) (k : Nat) : RowA w A (l.take k) := fun hne => by
  obtain ⟨b, off, e, hb, hc⟩ := h (by intro e; rw [e] at hne; simp at hne)
  refine ⟨b, off, e, hb, fun j hj => ?_⟩
  have hj' : j < l.length := by rw [List.length_take] at hj; omega
  rw [List.getElem_take]
  exact hc j hj'
theorem row_drop {w : World} {A : Option Addr} {l : List Or} (h : RowA w A l) {c : Nat} (hc : l.length ≤ c) (k : Nat) : RowA w (sub 6 A c k) (l.drop k) := fun hne => by
  have hk : k < l.length := by
    rcases Nat.lt_or_ge k l.length with h | h
    · exact h
    · rw [List.drop_eq_nil_of_le h] at hne; exact absurd rfl hne
  obtain ⟨b, off, rfl, hb, hcl⟩ := h (by intro e; rw [e] at hk; simp at hk)
  refine ⟨b, off + k * 6, ?_, hb, fun j hj => ?_⟩
  · unfold sub
    rw [if_neg (by omega)]
    simp [Addr.add]
  · have hj' : k + j < l.length := by rw [List.length_drop] at hj; omega
    rw [List.getElem_drop]
    have := hcl (k + j) hj'
    rw [show off + k * 6 + j * 6 = off + (k + j) * 6 by omega]
    exact this
theorem sub_none {s : Nat} {A : Option Addr} {c k : Nat} (h : sub s A c k = none) : A = none := by
  unfold sub at h
  split at h
  · exact h
  · rcases A with _ | a
    · rfl
    · cases h
set_option maxRecDepth 100000 in
set_option maxHeartbeats 2000000 in
/-- Room. -/
theorem grow_any (n : Nat) (hn : n ≤ 1000000) (w : World) : Calls Try.prog 55 #[.slice none 0 0, .int .i64 (n : Nat)] w (fun e w' => ∃ v, e = .returned v ∧ OwnA w' w.heap.size v [] ∧ Below w.heap.size w w') := by
  rcases Nat.eq_zero_or_pos n with rfl | h0
  · go_enter Try.func55, Try.ntmps55
    go_wp2_with fail
    go_ret
    exact ⟨_, rfl, OwnA.nil _ _, Below.refl _ _⟩
  · obtain ⟨i0, hi, hz0, hz1, hz2⟩ := info_parts' ac_info
    have hrun := Lib.run_append_grow_zeros (P := Try.prog) w 33 3 33 25 i0 _ .i64 .i64 Try.underlying33 Try.underlying3 hi hz0 none 0 0 [] (by rw [hz1]; exact run_firstCells_none w.drew 6 0 0 0) n h0 (by rw [hz1]; omega) (by omega) (by omega) (by rw [hz2]; omega)
      (by rw [hz2]; exact growslice_fits (by omega) (by omega))
    have hG := grownCap_ge w (0 + n) 0 25
    have hG2 := grownCap_le_maxLen w (0 + n) 0 25 (by unfold maxLen; omega)
    rw [Nat.zero_add] at hrun hG hG2
    obtain ⟨G, hGG⟩ : ∃ G, grownCap w n 0 25 = G := ⟨_, rfl⟩
    rw [hGG] at hrun hG hG2
    have hbelow : Below w.heap.size w (w.drew.alloc (.cells (([] : List Value).toArray ++ Builtin.zeroCells (Value.agg #[.int .u64 0, .string ⟨#[]⟩, .string ⟨#[]⟩, .bool false, .int .i64 0, .int .i64 0]).cells n ++ Builtin.zeroCells (Value.agg #[.int .u64 0, .string ⟨#[]⟩, .string ⟨#[]⟩, .bool false, .int .i64 0, .int .i64 0]).cells (G - n)) 25)) := (Below.refl _ _).drew.alloc (Nat.le_refl _) _
    have hown : OwnA (w.drew.alloc (.cells (([] : List Value).toArray ++ Builtin.zeroCells (Value.agg #[.int .u64 0, .string ⟨#[]⟩, .string ⟨#[]⟩, .bool false, .int .i64 0, .int .i64 0]).cells n ++ Builtin.zeroCells (Value.agg #[.int .u64 0, .string ⟨#[]⟩, .string ⟨#[]⟩, .bool false, .int .i64 0, .int .i64 0]).cells (G - n)) 25)) w.heap.size (.slice (some ⟨w.heap.size, 0, none⟩) 0 G) [] := by
      refine ⟨rfl, .inr ⟨w.heap.size, G, _, rfl, Nat.le_refl _, heap_alloc_last w.drew _, Nat.zero_le _, hG2, ?_, rfl⟩⟩
      simp [Builtin.zeroCells, Value.cells]
      omega
    have HB := Lib.hid hbelow
    have HO := Lib.hid hown
    have s1 := fun W => acs_head (some ⟨w.heap.size, 0, none⟩) n G 0 (Nat.zero_le _) W
    have s2 := fun W => acs_head none 0 0 0 (Nat.le_refl _) W
    generalize w.drew.alloc (.cells (([] : List Value).toArray ++ Builtin.zeroCells (Value.agg #[.int .u64 0, .string ⟨#[]⟩, .string ⟨#[]⟩, .bool false, .int .i64 0, .int .i64 0]).cells n ++ Builtin.zeroCells (Value.agg #[.int .u64 0, .string ⟨#[]⟩, .string ⟨#[]⟩, .bool false, .int .i64 0, .int .i64 0]).cells (G - n)) 25) = W1 at hrun HB HO
    have R := Lib.hid hrun
    have hpos : (0 : Int) < (n : Int) := by omega
    unfold maxLen at hG2
    clear hrun hbelow hown hi hz0 hz1 hz2 hGG h0
    go_enter Try.func55, Try.ntmps55
    go_wp2_with (at_builtin; ((with_reducible refine Lib.wpList_append_run _ rfl _ _ _ _ rfl _ _ ?_ ?_ _ _ R.out ?_); (next => rfl); (next => rfl)))
    go_ret
    exact ⟨_, rfl, HO.out, HB.out⟩
/-- A row, as one of several. -/
structure PPart where
  A : Option Addr
  n : Nat
  c : Nat
  l : List Or
structure PPok (w : World) (p : PPart) : Prop where
  len : p.l.length = p.n
  nil : p.A = none → p.c = 0
  row : RowA w p.A p.l
theorem PPok.below {w w' : World} {p : PPart} (h : PPok w p) (b : Below w.heap.size w w') : PPok w' p := ⟨h.len, h.nil, h.row.below b⟩
def sizes (ps : List PPart) : Nat := (ps.map (·.n)).sum
theorem sizes_snoc (ps : List PPart) (k : Nat) (h : k < ps.length) : sizes (ps.take (k + 1)) = sizes (ps.take k) + ps[k].n := by
  unfold sizes
  rw [List.take_succ_eq_append_getElem h, List.map_append, List.sum_append]
  simp
theorem sizes_le (ps : List PPart) (k : Nat) : sizes (ps.take k) ≤ sizes ps := by
  unfold sizes
  conv => rhs; rw [← List.take_append_drop k ps]
  rw [List.map_append, List.sum_append]
  omega
theorem sizes_flat {w : World} (ps : List PPart) (h : ∀ p ∈ ps, PPok w p) : (ps.flatMap (·.l)).length = sizes ps := by
  unfold sizes
  rw [List.length_flatMap]
  congr 1
  exact List.map_congr_left (fun p hp => (h p hp).len)
set_option maxRecDepth 100000 in
set_option maxHeartbeats 2000000 in
theorem concat_any {A : Option Addr} {N C : Nat} (ps : List PPart) (w : World) (hN : ps.length = N) (hN2 : N ≤ 1000) (hrow : ps ≠ [] → ∃ b off, A = some ⟨b, off, none⟩ ∧ b < w.heap.size ∧ ∀ k (h : k < ps.length), w.cell? ⟨b, off + k, none⟩ = some (.slice ps[k].A ps[k].n ps[k].c)) (ok : ∀ p ∈ ps, PPok w p) (tot : sizes ps ≤ 100000) :
    Calls Try.prog 35 #[.slice A N C] w (fun e w' => ∃ v, e = .returned v ∧ OwnA w' w.heap.size v (ps.flatMap (·.l)) ∧ Below w.heap.size w w') := by
  have HN := Lib.hid hN
  have HR := Lib.hid hrow
  have HK := Lib.hid ok
  have HT := Lib.hid tot
  clear hN hrow ok tot
  go_enter Try.func35, Try.ntmps35
  go_wp2_with fail
  go_loopw [3, 11] (fun s i wr => ∃ k : Nat, s = .int .i64 ((sizes (ps.take k) : Nat) : Int) ∧ i = .int .i64 (k : Int) ∧ k ≤ N ∧ w = wr) (fun _ i _ => N - (intOf i).toNat)
  case atStart => exact ⟨0, rfl, rfl, Nat.zero_le _, rfl⟩
  case round =>
    obtain ⟨k, rfl, rfl, hk, rfl⟩ := hrel
    have hs1 := sizes_le ps k
    have hs2 := sizes_le ps (k + 1)
    by_cases hlt : k < N
    · have hkl : k < ps.length := by rw [HN.out]; exact hlt
      have hsn := sizes_snoc ps k hkl
      obtain ⟨b, off, rfl, hb, hc⟩ := HR.out (by intro e; rw [e] at hkl; simp at hkl)
      have q := hc k hkl
      have HTT := HT.out
      obtain ⟨s0, hs0⟩ : ∃ s0, sizes (ps.take k) = s0 := ⟨_, rfl⟩
      obtain ⟨s3, hs3⟩ : ∃ s3, sizes (ps.take (k + 1)) = s3 := ⟨_, rfl⟩
      obtain ⟨m, hm⟩ : ∃ m, ps[k].n = m := ⟨_, rfl⟩
      rw [hs0, hs3, hm] at hsn
      rw [hs0] at hs1
      rw [hs3] at hs2
      rw [hm] at q
      have HS3 := Lib.hid hs3
      have hw1 : IntKind.i64.wrap ((s0 : Int) + (m : Int)) = (s3 : Int) := by rw [IntWalk.i64_in _ (by omega)]; omega
      have hw2 : IntKind.i64.wrap ((k : Int) + 1) = (k : Int) + 1 := IntWalk.i64_in _ (by omega)
      have hneg : ¬ ((s3 : Int) < 0) := by omega
      rw [hs0]
      clear hs0 hs3 hsn hs1 hs2 hc HTT hm
      go_wp2_with fail
      go_roundw
      case rel => exact ⟨k + 1, by rw [HS3.out], by go_num, by omega, trivial⟩
      case measure => simp [intOf]; omega
    obtain rfl : k = N := by omega
    have HTT := HT.out
    have hall : ps.take k = ps := by rw [← HN.out]; exact List.take_length
    rw [hall]
    obtain ⟨s0, hs0⟩ : ∃ s0, sizes ps = s0 := ⟨_, rfl⟩
    rw [hs0] at HTT ⊢
    have cG := grow_any s0 (by omega) w
    clear hs0 hs1 hs2 hall
    go_wp2_with fail
    refine cG.mono ?_
    rintro e w2 ⟨v, rfl, hO, b2⟩
    have HO := Lib.hid hO
    have B2 := Lib.hid b2
    clear hO b2 cG
    go_wp2_with fail
    go_loopw [6, 27] (fun v i wr => ∃ j : Nat, i = .int .i64 (j : Int) ∧ j ≤ k ∧ Hid (OwnA wr w.heap.size v ((ps.take j).flatMap (·.l))) ∧ Hid (Below w.heap.size w wr)) (fun _ i _ => k - (intOf i).toNat)
    case atStart => exact ⟨0, rfl, Nat.zero_le _, HO, B2⟩
    case round =>
      obtain ⟨j, rfl, hj, OW, BW⟩ := hrel
      clear HO B2
      by_cases hlj : j < k
      · have hjl : j < ps.length := by rw [HN.out]; exact hlj
        obtain ⟨b, off, rfl, hb, hc⟩ := HR.out (by intro e; rw [e] at hjl; simp at hjl)
        have q : wr.cell? ⟨b, off + j, none⟩ = some (.slice ps[j].A ps[j].n ps[j].c) := (BW.out.cell (p := ⟨b, off + j, none⟩) hb).trans (hc j hjl)
        have pk := (HK.out ps[j] (List.getElem_mem hjl)).below BW.out
        have h1 : ((ps.take j).flatMap (·.l)).length = sizes (ps.take j) := sizes_flat _ (fun p hp => HK.out p (List.mem_of_mem_take hp))
        have h2 := sizes_le ps (j + 1)
        rw [sizes_snoc ps j hjl] at h2
        have h3 := HT.out
        obtain ⟨v', W', hrun, ho, hg, hge⟩ := append_acs wr w.heap.size u6 _ OW.out ps[j].A ps[j].n ps[j].c ps[j].l pk.len pk.nil pk.row (by rw [h1]; omega) BW.out.size
        have HO2 := Lib.hid (show OwnA W' w.heap.size v' ((ps.take (j + 1)).flatMap (·.l)) from by rw [List.take_succ_eq_append_getElem hjl, List.flatMap_append]; simpa using ho)
        have B3 := Lib.hid (BW.out.grown hg BW.out.size hge)
        have R := Lib.hid hrun
        have hw2 : IntKind.i64.wrap ((j : Int) + 1) = (j : Int) + 1 := IntWalk.i64_in _ (by omega)
        obtain ⟨PV, hPV⟩ : ∃ PV, Value.slice ps[j].A ps[j].n ps[j].c = PV := ⟨_, rfl⟩
        rw [hPV] at q R
        clear hrun ho hg hge hc pk h1 h2 h3 hPV OW BW
        go_wp2_with (at_builtin; ((with_reducible refine Lib.wpList_append_run _ rfl _ _ _ _ rfl _ _ ?_ ?_ _ _ R.out ?_); (next => rfl); (next => rfl)))
        go_roundw
        case rel => exact ⟨j + 1, by go_num, by omega, HO2, B3⟩
        case measure => simp [intOf]; omega
      obtain rfl : j = k := by omega
      have hall : ps.take j = ps := by rw [← HN.out]; exact List.take_length
      rw [hall] at OW
      clear hall
      go_wp2_with fail
      go_ret
      exact ⟨_, rfl, OW.out, BW.out⟩
end Go.Proofs.Ytcendcegmhliaaa.Ord
