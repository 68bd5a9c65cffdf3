/-
  The document's device: what it tells of itself.
-/
import Derived.Test.YtoldkhfnebjacaaDRefSpoil
namespace Go.Proofs.Ytoldkhfnebjacaa.Disk
open Go.RowKit Go.Maps Gen

def ZeroRel (l : Bs) (w : World) (i : Value) (wr : World) : Prop := ∃ k : Nat, k ≤ l.length ∧ i = .int .i64 (k : Int) ∧ (∀ j (h : j < l.length), j < k → l[j] = 0) ∧ wr = w
def zeroB (l : Bs) : Bool := decide (l = zeros)
theorem zeros_get (l : Bs) (hl : l.length = 1024) : l = zeros ↔ ∀ j (h : j < l.length), l[j] = 0 := by
  constructor
  · intro e j h
    subst e
    exact List.getElem_replicate ..
  · intro h
    refine List.ext_getElem (by rw [hl, zeros_len]) (fun j h1 h2 => ?_)
    rw [h j h1]
    exact (List.getElem_replicate ..).symm
set_option maxRecDepth 100000 in
theorem zero_any (w : World) (A : Option Addr) (c : Nat) (l : Bs) (hl : l.length = 1024) (hR : BRow w A l) : Calls Try.prog 45 #[.slice A 1024 c] w fun e w' => e = .returned (.bool (zeroB l)) ∧ w = w' := by
  have HR := Lib.hid hR
  have HL := Lib.hid hl
  clear hR hl
  go_enter Try.func45, Try.ntmps45
  go_wp2_with fail
  go_loopw [3] (fun i wr => ZeroRel l w i wr) (fun i _ => 1024 - (intOf i).toNat)
  case atStart => exact ⟨0, Nat.zero_le _, rfl, fun j _ h => by omega, rfl⟩
  case round =>
    obtain ⟨k, hk, rfl, hno, rfl⟩ := hrel
    have HNO := Lib.hid hno
    clear hno
    have hk2 : k ≤ 1024 := by have := HL.out; omega
    by_cases hlt : k < 1024
    · have hlk : k < l.length := by have := HL.out; omega
      obtain ⟨b, off, rfl, hb, hc⟩ := HR.out (len_ne HL.out)
      have hcell := hc k hlk
      obtain ⟨x, hx⟩ : ∃ x, l[k] = x := ⟨_, rfl⟩
      rw [hx] at hcell
      have HX := Lib.hid hx
      clear hc hx
      by_cases e : x = 0
      · subst e
        go_wp2_with fail
        go_roundw
        case rel => exact ⟨k + 1, hlk, by go_num, fun j hj hjk => by
            by_cases e2 : j = k
            · subst e2; exact HX.out
            · exact HNO.out j hj (by omega), rfl⟩
        case measure => simp [intOf]; omega
      · have be : ((x.toNat : Int) != 0) = true := by
          have : x.toNat ≠ 0 := fun h => e (UInt8.toNat_inj.1 (by simpa using h))
          simp; exact this
        have HE := Lib.hid (show false = zeroB l by
          rw [zeroB, eq_comm, decide_eq_false_iff_not, zeros_get l HL.out]
          intro h
          exact e (HX.out.symm.trans (h k hlk)))
        clear e
        go_wp2_with fail
        go_ret
        exact ⟨congrArg (fun b => Ending.returned (.bool b)) HE.out, rfl⟩
    · have HE := Lib.hid (show true = zeroB l by
        rw [zeroB, eq_comm, decide_eq_true_iff, zeros_get l HL.out]
        intro j hj
        exact HNO.out j hj (by have := HL.out; omega))
      obtain rfl : k = 1024 := by omega
      clear HNO
      go_wp2_with fail
      go_ret
      exact ⟨congrArg (fun b => Ending.returned (.bool b)) HE.out, rfl⟩
theorem listOf_some {f : Int → Option Bs} {k : Nat} {l : Bs} (h : f (k : Int) = some l) : listOf (k + 1) f = listOf k f ++ [((k : Int), l)] := by
  simp [listOf, List.range_succ, h]
theorem listOf_skip {f : Int → Option Bs} {k : Nat} (h : f (k : Int) = none) : listOf (k + 1) f = listOf k f := by
  simp [listOf, List.range_succ, h]
def ToldRel2 (w : World) (N : Nat) (f : Int → Option Bs) (v i : Value) (wr : World) : Prop := ∃ k : Nat, k ≤ N ∧ i = .int .i64 (k : Int) ∧ OwnK wr w.heap.size v (listOf k f) ∧ Below w.heap.size w wr
/-- One sector more is told. -/
theorem told_more {w wr : World} {f : Int → Option Bs} {v : Value} {k : Nat} {l : Bs} {A : Option Addr} {c : Nat} (ho : OwnK wr w.heap.size v (listOf k f)) (hb : Below w.heap.size w wr) (hf : f (k : Int) = some l) (hl : l.length = 1024) (hR : BRow w A l) (hk : k ≤ 4096) :
    ∃ v' W', (Builtin.append_ #[41, 41] 41 #[v, .slice (some ⟨wr.heap.size, 0, none⟩) 1 1]).run Try.prog (wr.alloc (.cells #[.int .i64 (k : Int), .slice A 1024 c] 45)) = .ok v' W' ∧
      OwnK W' w.heap.size v' (listOf (k + 1) f) ∧ Below w.heap.size w W' := by
  have hA : ∀ a, A = some a → a.block < w.heap.size := fun a ha => by
    obtain ⟨b, off, e, h, _⟩ := hR (len_ne hl)
    rw [ha] at e; cases e; exact h
  obtain ⟨v', W', hrun, hown, hg⟩ := append_kept wr w.heap.size v (listOf k f) ho (k : Int) l A c (RowG.below hR hb) (fun _ a ha e => by
    have h1 := hA a ha
    have h2 := (ho.block e.symm).1
    omega) (Nat.le_trans (listOf_le _ _) (by omega)) hb.size
  rw [hl] at hrun
  exact ⟨v', W', hrun, by rw [listOf_some hf]; exact hown, hb.grown hg hb.size (fun j hj => (ho.block hj).1)⟩
set_option maxRecDepth 100000 in
set_option maxHeartbeats 4000000 in
theorem rcached_ref (w : World) (rb lb cb ib N : Nat) (s : St) (hN : s.n = N) (h : Ref w rb lb cb ib s) : Calls Try.prog 35 #[ptr rb] w (KeptPost w s.caches) := by
  have HH := Lib.hid h
  have HN := Lib.hid hN
  have hle := h.nle
  rw [hN] at hle
  clear h hN
  go_enter Try.func35, Try.ntmps35
  go_wp2_with fail
  go_loopw [3, 4] (fun v i wr => ToldRel2 w N s.C v i wr) (fun _ i _ => N - (intOf i).toNat)
  case atStart => exact ⟨0, Nat.zero_le _, rfl, OwnK.nil _ _, Below.refl _ _⟩
  case round =>
    obtain ⟨k, hk, rfl, ho, hb⟩ := hrel
    have rd := HH.out.below hb
    obtain ⟨left, c0, c1, c2, _, _, _, _⟩ := rd.cells
    rw [HN.out] at c0 c1 c2
    have HO := Lib.hid ho
    have HB := Lib.hid hb
    clear ho hb
    by_cases hlt : k < N
    · have b0 : decide ((k : Int) < (N : Int)) = true := by simp; omega
      have hkn : k < s.n := by have := HN.out; omega
      obtain ⟨hI, _⟩ := rd.is.at_ hkn
      cases hC : s.C (k : Int) with
      | none =>
        rw [hC] at hI
        simp only [Option.isSome_none] at hI
        have HL := Lib.hid (listOf_skip hC)
        clear rd hkn hC
        go_wp2_with fail
        go_roundw
        case rel => exact ⟨k + 1, hlt, by go_num, by rw [HL.out]; exact HO.out, HB.out⟩
        case measure => simp [intOf]; omega
      | some l =>
        rw [hC] at hI
        simp only [Option.isSome_some] at hI
        obtain ⟨A, c, hA, _, hl, _, _, hR⟩ := HH.out.cache.at_ hkn hC
        have hA2 := (HB.out.cell (p := ⟨cb, k, none⟩) HH.out.cache.lt).trans hA
        obtain ⟨v', W', hrun, hown, hbel⟩ := told_more (c := c) HO.out HB.out hC hl hR (Nat.le_trans (Nat.le_of_lt hlt) hle)
        have R := Lib.hid hrun
        have O2 := Lib.hid hown
        have B2 := Lib.hid hbel
        clear rd hrun hown hbel
        go_wp2_with (at_builtin; ((with_reducible refine wpList_append_eq rfl (.tmp 21) (.tmp 31) 41 rfl ?_ ?_ R.out ?_); (next => rfl); (next => rfl)))
        go_roundw
        case rel => exact ⟨k + 1, hlt, by go_num, O2.out, B2.out⟩
        case measure => simp [intOf]; omega
    · obtain rfl : k = N := by omega
      have b0 : decide ((k : Int) < (k : Int)) = false := by simp
      have HK : Hid (KeptPost w s.caches = KeptPost w (listOf k s.C)) := Lib.hid (by rw [St.caches, HN.out])
      clear rd
      go_wp2_with fail
      go_ret
      rw [HK.out]
      exact ⟨u3, rfl, HO.out.kepts, HB.out⟩
set_option maxRecDepth 100000 in
set_option maxHeartbeats 4000000 in
theorem rlasting_ref (w : World) (rb lb cb ib N : Nat) (s : St) (hN : s.n = N) (h : Ref w rb lb cb ib s) (nz : ∀ x, s.L x ≠ some zeros) : Calls Try.prog 34 #[ptr rb] w (KeptPost w s.lasts) := by
  have HH := Lib.hid h
  have HN := Lib.hid hN
  have NZ := Lib.hid nz
  have hle := h.nle
  rw [hN] at hle
  clear h hN nz
  go_enter Try.func34, Try.ntmps34
  go_wp2_with fail
  go_loopw [3, 4] (fun v i wr => ToldRel2 w N s.L v i wr) (fun _ i _ => N - (intOf i).toNat)
  case atStart => exact ⟨0, Nat.zero_le _, rfl, OwnK.nil _ _, Below.refl _ _⟩
  case round =>
    obtain ⟨k, hk, rfl, ho, hb⟩ := hrel
    have rd := HH.out.below hb
    obtain ⟨left, c0, c1, c2, _, _, _, _⟩ := rd.cells
    rw [HN.out] at c0 c1 c2
    have HO := Lib.hid ho
    have HB := Lib.hid hb
    clear ho hb
    by_cases hlt : k < N
    · have b0 : decide ((k : Int) < (N : Int)) = true := by simp; omega
      have hkn : k < s.n := by have := HN.out; omega
      obtain ⟨A, c, hA, _, hl, _, _, hR⟩ := HH.out.last.at_ hkn rfl
      have hA2 := (HB.out.cell (p := ⟨lb, k, none⟩) HH.out.last.lt).trans hA
      have cZ := zero_any wr A c _ hl (RowG.below hR HB.out)
      cases hL : s.L (k : Int) with
      | none =>
        rw [hL] at cZ
        rw [show zeroB (Option.getD none zeros) = true by simp [zeroB]] at cZ
        have HL := Lib.hid (listOf_skip hL)
        clear rd hkn hL hA hR hl c1 c2
        go_wp2_with fail
        refine cZ.mono ?_
        rintro e w3 ⟨rfl, rfl⟩
        go_wp2_with fail
        go_roundw
        case rel => exact ⟨k + 1, hlt, by go_num, by rw [HL.out]; exact HO.out, HB.out⟩
        case measure => simp [intOf]; omega
      | some l =>
        rw [hL] at cZ hl hR
        simp only [Option.getD_some] at cZ hl hR
        have hnz : l ≠ zeros := fun e => NZ.out (k : Int) (by rw [hL, e])
        rw [show zeroB l = false by rw [zeroB]; exact decide_eq_false hnz] at cZ
        obtain ⟨v', W', hrun, hown, hbel⟩ := told_more (c := c) HO.out HB.out hL hl hR (Nat.le_trans (Nat.le_of_lt hlt) hle)
        have R := Lib.hid hrun
        have O2 := Lib.hid hown
        have B2 := Lib.hid hbel
        clear rd hrun hown hbel c1 c2
        go_wp2_with fail
        refine cZ.mono ?_
        rintro e w3 ⟨rfl, rfl⟩
        go_wp2_with (at_builtin; ((with_reducible refine wpList_append_eq rfl (.tmp 25) (.tmp 35) 41 rfl ?_ ?_ R.out ?_); (next => rfl); (next => rfl)))
        go_roundw
        case rel => exact ⟨k + 1, hlt, by go_num, O2.out, B2.out⟩
        case measure => simp [intOf]; omega
    · obtain rfl : k = N := by omega
      have b0 : decide ((k : Int) < (k : Int)) = false := by simp
      have HK : Hid (KeptPost w s.lasts = KeptPost w (listOf k s.L)) := Lib.hid (by rw [St.lasts, HN.out])
      clear rd
      go_wp2_with fail
      go_ret
      rw [HK.out]
      exact ⟨u3, rfl, HO.out.kepts, HB.out⟩
end Go.Proofs.Ytoldkhfnebjacaa.Disk
