/-
  The contract of the reference's Sum.
-/
import Derived.Test.YtobpbbldgbgcdaaAParts0
namespace Go.Proofs.Ytobpbbldgbgcdaa.Coin
open Go.RowKit

/-- What is above 0 of the first ones, and what is below. -/
def ups (zs : List Int) (k : Nat) : List Int := (zs.take k).filter (fun z => decide (0 ≤ z))
def downs (zs : List Int) (k : Nat) : List Int := (zs.take k).filter (fun z => decide (z < 0))
theorem take_snoc (zs : List Int) (k : Nat) (h : k < zs.length) : zs.take (k + 1) = zs.take k ++ [zs.getD k 0] := by
  rw [List.take_succ_eq_append_getElem h]; simp [h]
theorem ups_up (zs : List Int) (k : Nat) (h : k < zs.length) (g : 0 ≤ zs.getD k 0) : ups zs (k + 1) = ups zs k ++ [zs.getD k 0] ∧ downs zs (k + 1) = downs zs k := by
  unfold ups downs; rw [take_snoc zs k h, List.filter_append, List.filter_append]
  generalize zs.getD k 0 = z at *
  simp [g]
theorem ups_down (zs : List Int) (k : Nat) (h : k < zs.length) (g : zs.getD k 0 < 0) : ups zs (k + 1) = ups zs k ∧ downs zs (k + 1) = downs zs k ++ [zs.getD k 0] := by
  unfold ups downs; rw [take_snoc zs k h, List.filter_append, List.filter_append]
  generalize zs.getD k 0 = z at *
  simp [g]
theorem ups_len (zs : List Int) (k : Nat) : (ups zs k).length ≤ zs.length ∧ (downs zs k).length ≤ zs.length := by
  unfold ups downs
  have h1 := List.length_filter_le (fun z => decide (0 ≤ z)) (zs.take k)
  have h2 := List.length_filter_le (fun z => decide (z < 0)) (zs.take k)
  rw [List.length_take] at h1 h2
  omega
theorem ups_sum (zs : List Int) (k : Nat) : (ups zs k).sum + (downs zs k).sum = (zs.take k).sum := by
  unfold ups downs
  generalize zs.take k = l
  induction l with
  | nil => rfl
  | cons z l ih =>
    by_cases g : 0 ≤ z
    · simp [g, show ¬ z < 0 by omega] at ih ⊢; omega
    · simp [g, show z < 0 by omega] at ih ⊢; omega

/-- Two lists of the call's own, in two blocks. -/
def Both (w : World) (B : Nat) (u d : Value) (us ds : List Int) : Prop := Own w B u us ∧ Own w B d ds ∧ (∀ g, u.ownBlock = some g → d.ownBlock ≠ some g)

theorem own_lt {w : World} {B : Nat} {v : Value} {zs : List Int} {g : Nat} (h : Own w B v zs) (hg : v.ownBlock = some g) : g < w.heap.size ∧ B ≤ g := by
  obtain ⟨_, ⟨rfl, _⟩ | ⟨g', cap, cur, rfl, hB, hh, _⟩⟩ := h
  · simp [Value.ownBlock] at hg
  · simp [Value.ownBlock] at hg
    subst hg
    refine ⟨?_, hB⟩
    rcases Nat.lt_or_ge g' w.heap.size with h' | h'
    · exact h'
    · rw [Array.getElem?_eq_none h'] at hh; cases hh
theorem Own.grown {w w' : World} {B : Nat} {v : Value} {zs : List Int} {row : Option Nat} (h : Own w B v zs) (hg : w.grownBy w' row) (hr : ∀ g, v.ownBlock = some g → some g ≠ row) : Own w' B v zs := by
  have hlt := fun g e => own_lt h (g := g) e
  obtain ⟨hl, ⟨rfl, hn⟩ | ⟨g', cap, cur, rfl, hB, hh, rest⟩⟩ := h
  · exact ⟨hl, .inl ⟨rfl, hn⟩⟩
  · exact ⟨hl, .inr ⟨g', cap, cur, rfl, hB, (hg.block g' (hlt g' rfl).1 (hr g' rfl)).trans hh, rest⟩⟩

/-- One amount more, behind the first list. -/
theorem both_append (w : World) (B : Nat) (u d : Value) (us ds : List Int) (z : Int) (h : Both w B u d us ds) (hn : us.length ≤ 1000) (hB : B ≤ w.heap.size) :
    ∃ v' w', (Builtin.append_ #[40, 40] 40 #[u, .slice (some ⟨w.heap.size, 0, none⟩) 1 1]).run Try.prog (w.alloc (.cells #[.int .i64 z] 2)) = .ok v' w' ∧ Both w' B v' d (us ++ [z]) ds ∧ Below B w w' := by
  obtain ⟨hu, hd, hne⟩ := h
  have R : Row (w.alloc (.cells #[.int .i64 z] 2)) (some ⟨w.heap.size, 0, none⟩) [z] := fun _ => ⟨w.heap.size, 0, rfl, by simp, fun j hj => by
    obtain rfl : j = 0 := by simp at hj; omega
    simp [go_sem]⟩
  obtain ⟨v', w', r, o, g, e⟩ := append_row _ B u us (World.ownsRow.alloc hu (.cells #[.int .i64 z] 2)) (some ⟨w.heap.size, 0, none⟩) 1 1 [z] rfl (fun h => by cases h) R (by omega) (by simp; omega)
  have hd' : Own (w.alloc (.cells #[.int .i64 z] 2)) B d ds := World.ownsRow.alloc hd _
  refine ⟨v', w', r, ⟨o, hd'.grown g (fun g' hg' he => ?_), fun g' hg' he => ?_⟩, ?_⟩
  · exact hne g' he.symm hg'
  · rcases e with e | e
    · rw [e] at hg'; exact hne g' hg' he
    · rw [e] at hg'
      have := (own_lt hd he).1
      simp at hg'; omega
  · refine ((Below.refl _ _).alloc hB _).grown g (by simp; omega) (fun j hj => (own_lt hu hj).2)
theorem Both.swap {w : World} {B : Nat} {u d : Value} {us ds : List Int} (h : Both w B u d us ds) : Both w B d u ds us :=
  ⟨h.2.1, h.1, fun g hg he => h.2.2 g he hg⟩

theorem pos_sum : ∀ l : List Int, (∀ q ∈ l, 0 ≤ q) → 0 ≤ l.sum
  | [], _ => by simp
  | q :: l, h => by
    have := pos_sum l (fun r hr => h r (List.mem_cons_of_mem _ hr))
    have := h q (List.mem_cons_self ..)
    simp; omega
theorem neg_sum : ∀ l : List Int, (∀ q ∈ l, q < 0) → l.sum ≤ 0
  | [], _ => by simp
  | q :: l, h => by
    have := neg_sum l (fun r hr => h r (List.mem_cons_of_mem _ hr))
    have := h q (List.mem_cons_self ..)
    simp; omega
/-- How long a list is. -/
def slen : Value → Nat
  | .slice _ n _ => n
  | _ => 0
/-- Amounts that are left, of one sign. -/
def Left (w : World) (v : Value) (n : Nat) (zs : List Int) : Prop := ∃ A c, v = .slice A n c ∧ zs.length = n ∧ n ≤ c ∧ c ≤ maxLen ∧ Row w A zs
theorem Own.left {w : World} {B : Nat} {v : Value} {zs : List Int} (h : Own w B v zs) : Left w v zs.length zs := by
  have hr := h.row
  obtain ⟨hl, ⟨rfl, hn⟩ | ⟨g, cap, cur, rfl, hg, hh, hnc, hm, _, ht⟩⟩ := h
  · obtain rfl : zs = [] := List.eq_nil_of_length_eq_zero hn
    exact ⟨none, 0, rfl, rfl, Nat.le_refl _, Nat.zero_le _, fun hne => absurd rfl hne⟩
  · obtain ⟨A, c, e, _, r⟩ := hr
    injection e with e1 e2 e3
    subst e1; subst e3
    exact ⟨_, _, rfl, rfl, hnc, hm, r⟩
/-- The next one, and what is left behind it. -/
theorem Left.next {w : World} {v : Value} {n : Nat} {z : Int} {zs : List Int} (h : Left w v n (z :: zs)) :
    ∃ b o c X, v = .slice (some ⟨b, o, none⟩) n c ∧ 0 < n ∧ n ≤ c ∧ c ≤ maxLen ∧ w.cell? ⟨b, o, none⟩ = some (.int .i64 z) ∧ (if c = 1 then (some ⟨b, o, none⟩ : Option Addr) else some ⟨b, o + 1, none⟩) = X ∧ Left w (.slice X (n - 1) (c - 1)) (n - 1) zs := by
  obtain ⟨A, c, rfl, hl, hc, hm, hr⟩ := h
  obtain ⟨b, o, rfl, hb, hcell⟩ := hr (by simp)
  have hr' : Row w (some ⟨b, o, none⟩) (z :: zs) := fun _ => ⟨b, o, rfl, hb, hcell⟩
  have hl' : zs.length + 1 = n := by simpa using hl
  refine ⟨b, o, c, _, rfl, by omega, hc, hm, ?_, rfl, _, _, rfl, by omega, by omega, by omega, ?_⟩
  · exact hcell 0 (by simp)
  · intro hne
    have hlz : 0 < zs.length := by
      rcases zs with _ | ⟨y, zs⟩
      · exact absurd rfl hne
      · simp
    rw [if_neg (by omega)]
    refine ⟨b, o + 1, rfl, hb, fun j hj => ?_⟩
    have := hcell (j + 1) (by simp; omega)
    rw [show o + 1 + j = o + (j + 1) by omega, this]
    simp

set_option maxRecDepth 100000 in
set_option maxHeartbeats 2000000 in
theorem ref_sum (A : Option Addr) (n c : Nat) (zs : List Int) (w : World) (hz : zs.length = n) (hn : n ≤ 500) (hrow : Row w A zs) (hin : Amounts zs) :
    Calls Try.prog 45 #[.slice A n c] w fun e w' => e = .returned (.tuple #[.int .i64 (val zs.sum), .int .i64 (err zs.sum)]) ∧ Below w.heap.size w w' := by
  have HZ := Lib.hid hz
  have HR := Lib.hid hrow
  have HI := Lib.hid hin
  clear hz hrow hin
  have hni : (n : Int) ≤ 500 := by omega
  go_enter Try.func45, Try.ntmps45
  go_wp2
  go_loopw [4, 5, 6] (fun u d i wr => ∃ k : Nat, k ≤ n ∧ i = .int .i64 k ∧ Both wr w.heap.size u d (ups zs k) (downs zs k) ∧ Below w.heap.size w wr) (fun _ _ i _ => n - (intOf i).toNat)
  case atStart =>
    exact ⟨0, Nat.zero_le _, rfl, ⟨⟨rfl, .inl ⟨rfl, rfl⟩⟩, ⟨rfl, .inl ⟨rfl, rfl⟩⟩, fun g h => by simp [Value.ownBlock] at h⟩, Below.refl _ _⟩
  case round =>
    obtain ⟨k, hk, rfl, hboth, hb⟩ := hrel
    by_cases hlt : k < n
    · obtain ⟨b, o, rfl, hbw, hc⟩ := HR.out (by intro e; have := HZ.out; rw [e] at this; simp at this; omega)
      have hcell : wr.cell? ⟨b, o + k, none⟩ = some (.int .i64 (zs.getD k 0)) := (hb.cell hbw).trans (hc k (by have := HZ.out; omega))
      obtain ⟨z0, z1⟩ := getD_amount HI.out k
      have HU := Lib.hid (ups_up zs k (by have := HZ.out; omega))
      have HD := Lib.hid (ups_down zs k (by have := HZ.out; omega))
      obtain ⟨l1, l2⟩ := ups_len zs k
      have l1' : (ups zs k).length ≤ 1000 := by have := HZ.out; omega
      have l2' : (downs zs k).length ≤ 1000 := by have := HZ.out; omega
      generalize hz : zs.getD k 0 = z at *
      clear hc hz l1 l2
      by_cases hzp : 0 ≤ z
      · obtain ⟨v', w', r, hbo, hbl⟩ := both_append wr w.heap.size _ _ _ _ z hboth l1' hb.size
        have R := Lib.hid r
        have HBo := Lib.hid hbo
        have HBl := Lib.hid (hb.trans hbl)
        clear r hbo hbl hboth hb
        go_wp2_with (at_builtin; refine wpList_append_eq rfl (.tmp 23) (.tmp 28) _ rfl rfl rfl R.out ?_; clear R)
        go_roundw
        case rel => exact ⟨k + 1, by omega, by go_num, by rw [(HU.out hzp).1, (HU.out hzp).2]; exact HBo.out, HBl.out⟩
        case measure => simp [intOf]; omega
      · obtain ⟨v', w', r, hbo, hbl⟩ := both_append wr w.heap.size _ _ _ _ z hboth.swap l2' hb.size
        have R := Lib.hid r
        have HBo := Lib.hid hbo.swap
        have HBl := Lib.hid (hb.trans hbl)
        clear r hbo hbl hboth hb
        go_wp2_with (at_builtin; refine wpList_append_eq rfl (.tmp 30) (.tmp 35) _ rfl rfl rfl R.out ?_; clear R)
        go_roundw
        case rel => exact ⟨k + 1, by omega, by go_num, by rw [(HD.out (by omega)).1, (HD.out (by omega)).2]; exact HBo.out, HBl.out⟩
        case measure => simp [intOf]; omega
    · obtain rfl : k = zs.length := by have := HZ.out; omega
      have hT := ups_sum zs zs.length
      rw [List.take_length] at hT
      have hlen := ups_len zs zs.length
      have hU0 : ∀ z ∈ ups zs zs.length, 0 ≤ z ∧ z ≤ 9223372036854775807 := fun z hzm => by
        unfold ups at hzm
        have h1 := List.mem_filter.1 hzm
        exact ⟨of_decide_eq_true h1.2, (HI.out z (List.mem_of_mem_take h1.1)).2⟩
      have hD0 : ∀ z ∈ downs zs zs.length, -9223372036854775808 ≤ z ∧ z < 0 := fun z hzm => by
        unfold downs at hzm
        have h1 := List.mem_filter.1 hzm
        exact ⟨(HI.out z (List.mem_of_mem_take h1.1)).1, of_decide_eq_true h1.2⟩
      have L1 := hboth.1.left
      have L2 := hboth.2.1.left
      clear hboth
      generalize ups zs zs.length = us0 at *
      generalize downs zs zs.length = ds0 at *
      generalize hTT : zs.sum = T at *
      have HT := Lib.hid hT
      have HU0 := Lib.hid hU0
      have HD0 := Lib.hid hD0
      have HL1 := Lib.hid L1
      have HL2 := Lib.hid L2
      have hz100 : zs.length ≤ 500 := by have := HZ.out; omega
      have HTT := Lib.hid hTT
      have HTT := Lib.hid hTT
      clear hT hU0 hD0 hTT L1 L2 HR HI
      go_wp2
      go_loop [4, 5, 7] (fun u d s => ∃ (n1 n2 : Nat) (us ds : List Int) (x : Int), Left wr u n1 us ∧ Left wr d n2 ds ∧ s = .int .i64 x ∧ n1 ≤ 500 ∧ n2 ≤ 500 ∧ -9223372036854775808 ≤ x ∧ x ≤ 9223372036854775807 ∧ x + us.sum + ds.sum = T ∧ (∀ z ∈ us, 0 ≤ z ∧ z ≤ 9223372036854775807) ∧ (∀ z ∈ ds, -9223372036854775808 ≤ z ∧ z < 0)) (fun u d _ => slen u + slen d)
      case atStart =>
        exact ⟨us0.length, ds0.length, us0, ds0, 0, HL1.out, HL2.out, rfl, by omega, by omega, by omega, by omega, by have := HT.out; omega, HU0.out, HD0.out⟩
      case round =>
        obtain ⟨n1, n2, us, ds, x, hu, hd, rfl, hn1, hn2, x0, x1, hsum, hus, hds⟩ := hrel
        rcases us with _ | ⟨z, us⟩
        · rcases ds with _ | ⟨y, ds⟩
          · obtain ⟨A1, c1, rfl, e1, _, _, _⟩ := hu
            obtain rfl : n1 = 0 := e1.symm
            obtain ⟨A2, c2, rfl, e2, _, _, _⟩ := hd
            obtain rfl : n2 = 0 := e2.symm
            clear hus hds
            have HSum := Lib.hid hsum
            clear hsum
            go_wp2
            go_ret2
            have hx : zs.sum = x := by have := HSum.out; have := HTT.out; simp at *; omega
            rw [hx, val_in x0 x1, err_in x0 x1]
            exact ⟨rfl, hb⟩
          · obtain ⟨A1, c1, rfl, e1, _, hcm1, _⟩ := hu
            obtain rfl : n1 = 0 := e1.symm
            obtain ⟨y0, y1⟩ := hds y (List.mem_cons_self ..)
            have y1' := y1
            replace y1 : y ≤ 9223372036854775807 := by omega
            obtain ⟨b2, o2, c2, X2, rfl, p2, pc2, pm2, cell2, hX2, next2⟩ := hd.next
            have v1 : (0 : Int) < (n2 : Int) := by omega
            have v2 : ((n2 : Int) == 0) = false := beq_eq_false_iff_ne.2 (by omega)
            have v3 : decide (0 < n2) = true := decide_eq_true p2
            have v4 : (1 : Int) ≤ (c2 : Int) := by omega
            have v5 : (1 : Int) ≤ (n2 : Int) := by omega
            have v6 : (n2 : Int) ≤ (c2 : Int) := by omega
            unfold maxLen at pm2
            have dsum := neg_sum ds (fun q hq => (hds q (List.mem_cons_of_mem _ hq)).2)
            have HSum := Lib.hid hsum
            have HUs := Lib.hid hus
            have HDs := Lib.hid hds
            clear hsum hus hds
            have NEXT := Lib.hid next2
            clear next2
            by_cases hi : -9223372036854775808 ≤ x + y
            · have i0 : -9223372036854775808 ≤ x + y := hi
              have i1 : x + y ≤ 9223372036854775807 := by omega
              clear hi dsum
              have hadd := ref_add x y wr x0 x1 y0 y1
              rw [val_in i0 i1, err_in i0 i1] at hadd
              go_wp2_with fail
              refine hadd.mono ?_
              rintro e w' ⟨rfl, rfl⟩
              go_wp2
              go_round
              case rel => exact ⟨0, n2 - 1, [], ds, x + y, ⟨A1, c1, rfl, rfl, Nat.zero_le _, by assumption, fun hne => absurd rfl hne⟩, NEXT.out, rfl, by omega, by omega, i0, i1, by have := HSum.out; simp at this ⊢; omega, HUs.out, fun q hq => HDs.out q (List.mem_cons_of_mem _ hq)⟩
              case measure => simp [slen]; omega
            · have ho : x + y < -9223372036854775808 ∨ 9223372036854775807 < x + y := by omega
              have hadd := ref_add x y wr x0 x1 y0 y1
              rw [val_out ho, err_out ho] at hadd
              have HO := Lib.hid hi
              have HDS := Lib.hid dsum
              clear hi ho dsum
              go_wp2_with fail
              refine hadd.mono ?_
              rintro e w' ⟨rfl, rfl⟩
              go_wp2
              go_ret2
              have hx : zs.sum < -9223372036854775808 := by have := HSum.out; have := HTT.out; have := HO.out; have := HDS.out; simp at *; omega
              rw [val_out (.inl hx), err_out (.inl hx)]
              exact ⟨rfl, hb⟩
        · rcases ds with _ | ⟨y, ds⟩
          · obtain ⟨A2, c2, rfl, e2, _, hcm2, _⟩ := hd
            obtain rfl : n2 = 0 := e2.symm
            obtain ⟨z0, z1⟩ := hus z (List.mem_cons_self ..)
            have z0' := z0
            replace z0 : -9223372036854775808 ≤ z := by omega
            obtain ⟨b1, o1, c1, X1, rfl, p1, pc1, pm1, cell1, hX1, next1⟩ := hu.next
            have u1 : (0 : Int) < (n1 : Int) := by omega
            have u2 : ((n1 : Int) == 0) = false := beq_eq_false_iff_ne.2 (by omega)
            have u3 : decide (0 < n1) = true := decide_eq_true p1
            have u4 : (1 : Int) ≤ (c1 : Int) := by omega
            have u5 : (1 : Int) ≤ (n1 : Int) := by omega
            have u6 : (n1 : Int) ≤ (c1 : Int) := by omega
            unfold maxLen at pm1
            have usum := pos_sum us (fun q hq => (hus q (List.mem_cons_of_mem _ hq)).1)
            have HSum := Lib.hid hsum
            have HUs := Lib.hid hus
            have HDs := Lib.hid hds
            clear hsum hus hds
            have NEXT := Lib.hid next1
            clear next1
            by_cases hi : x + z ≤ 9223372036854775807
            · have i1 : x + z ≤ 9223372036854775807 := hi
              have i0 : -9223372036854775808 ≤ x + z := by omega
              clear hi usum
              have hxx : decide (x < 0) = true ∨ decide (x < 0) = false := by cases decide (x < 0) <;> simp
              rcases hxx with hxx | hxx
              all_goals
                have hadd := ref_add x z wr x0 x1 z0 z1
                rw [val_in i0 i1, err_in i0 i1] at hadd
                go_wp2_with fail
                refine hadd.mono ?_
                rintro e w' ⟨rfl, rfl⟩
                go_wp2
                go_round
                case rel => exact ⟨n1 - 1, 0, us, [], x + z, NEXT.out, ⟨A2, c2, rfl, rfl, Nat.zero_le _, by assumption, fun hne => absurd rfl hne⟩, rfl, by omega, by omega, i0, i1, by have := HSum.out; simp at this ⊢; omega, fun q hq => HUs.out q (List.mem_cons_of_mem _ hq), HDs.out⟩
                case measure => simp [slen]; omega
            · have hxx : decide (x < 0) = true ∨ decide (x < 0) = false := by cases decide (x < 0) <;> simp
              rcases hxx with hxx | hxx
              all_goals
                have ho : x + z < -9223372036854775808 ∨ 9223372036854775807 < x + z := by omega
                have hadd := ref_add x z wr x0 x1 z0 z1
                rw [val_out ho, err_out ho] at hadd
                have HO := Lib.hid hi
                have HUS := Lib.hid usum
                clear hi ho usum
                go_wp2_with fail
                refine hadd.mono ?_
                rintro e w' ⟨rfl, rfl⟩
                go_wp2
                go_ret2
                have hx : 9223372036854775807 < zs.sum := by have := HSum.out; have := HTT.out; have := HO.out; have := HUS.out; simp at *; omega
                rw [val_out (.inr hx), err_out (.inr hx)]
                exact ⟨rfl, hb⟩
          · have hu' := hu
            have hd' := hd
            obtain ⟨z0, z1⟩ := hus z (List.mem_cons_self ..)
            have z0' := z0
            replace z0 : -9223372036854775808 ≤ z := by omega
            obtain ⟨y0, y1⟩ := hds y (List.mem_cons_self ..)
            have y1' := y1
            replace y1 : y ≤ 9223372036854775807 := by omega
            obtain ⟨b1, o1, c1, X1, rfl, p1, pc1, pm1, cell1, hX1, next1⟩ := hu.next
            have u1 : (0 : Int) < (n1 : Int) := by omega
            have u2 : ((n1 : Int) == 0) = false := beq_eq_false_iff_ne.2 (by omega)
            have u3 : decide (0 < n1) = true := decide_eq_true p1
            have u4 : (1 : Int) ≤ (c1 : Int) := by omega
            have u5 : (1 : Int) ≤ (n1 : Int) := by omega
            have u6 : (n1 : Int) ≤ (c1 : Int) := by omega
            unfold maxLen at pm1
            obtain ⟨b2, o2, c2, X2, rfl, p2, pc2, pm2, cell2, hX2, next2⟩ := hd.next
            have v1 : (0 : Int) < (n2 : Int) := by omega
            have v2 : ((n2 : Int) == 0) = false := beq_eq_false_iff_ne.2 (by omega)
            have v3 : decide (0 < n2) = true := decide_eq_true p2
            have v4 : (1 : Int) ≤ (c2 : Int) := by omega
            have v5 : (1 : Int) ≤ (n2 : Int) := by omega
            have v6 : (n2 : Int) ≤ (c2 : Int) := by omega
            unfold maxLen at pm2
            have HSum := Lib.hid hsum
            have HUs := Lib.hid hus
            have HDs := Lib.hid hds
            clear hsum hus hds
            by_cases hx : x < 0
            · have i0 : -9223372036854775808 ≤ x + z := by omega
              have i1 : x + z ≤ 9223372036854775807 := by omega
              have g : decide (x < 0) = true := decide_eq_true hx
              have NEXT := Lib.hid next1
              clear next1 next2
              have hadd := ref_add x z wr x0 x1 z0 z1
              rw [val_in i0 i1, err_in i0 i1] at hadd
              go_wp2_with fail
              refine hadd.mono ?_
              rintro e w' ⟨rfl, rfl⟩
              go_wp2
              go_round
              case rel => exact ⟨n1 - 1, n2, us, (y :: ds), x + z, NEXT.out, hd', rfl, by omega, by omega, i0, i1, by have := HSum.out; simp at this ⊢; omega, fun q hq => HUs.out q (List.mem_cons_of_mem _ hq), HDs.out⟩
              case measure => simp [slen]; omega
            · have i0 : -9223372036854775808 ≤ x + y := by omega
              have i1 : x + y ≤ 9223372036854775807 := by omega
              have g : decide (x < 0) = false := decide_eq_false hx
              have g' : 0 ≤ x := by omega
              have NEXT := Lib.hid next2
              clear next1 next2 hx
              have hadd := ref_add x y wr x0 x1 y0 y1
              rw [val_in i0 i1, err_in i0 i1] at hadd
              go_wp2_with fail
              refine hadd.mono ?_
              rintro e w' ⟨rfl, rfl⟩
              go_wp2
              go_round
              case rel => exact ⟨n1, n2 - 1, (z :: us), ds, x + y, hu', NEXT.out, rfl, by omega, by omega, i0, i1, by have := HSum.out; simp at this ⊢; omega, HUs.out, fun q hq => HDs.out q (List.mem_cons_of_mem _ hq)⟩
              case measure => simp [slen]; omega
end Go.Proofs.Ytobpbbldgbgcdaa.Coin
