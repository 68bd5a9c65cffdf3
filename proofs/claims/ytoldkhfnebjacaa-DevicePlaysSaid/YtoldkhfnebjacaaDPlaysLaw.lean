/-
  The walk of DevicePlays, whole.
-/
import Derived.Test.YtoldkhfnebjacaaDPlaysWalk
namespace Go.Proofs.Ytoldkhfnebjacaa.Disk
open Go.RowKit Go.Maps Gen

def PlayRel (w0 : World) (sb bl bc rb lb cb ib N n : Nat) (i : Value) (wr : World) : Prop := ∃ k : Nat, k ≤ n ∧ i = .int .i64 (k : Int) ∧ ∃ s, s.n = N ∧ Duo w0 wr sb bl bc rb lb cb ib s s
theorem new_on30 {w0 w : World} (hb : Below w0.heap.size w0 w) : Calls Try.prog 11 #[.int .i64 30] w fun e w' =>
    ∃ sb bl bc, e = .returned (.tuple #[ptr sb, .int .i64 0]) ∧ On w0 w' sb bl bc (St.fresh 30) ∧ Below w.heap.size w w' ∧ w.heap.size ≤ sb ∧ w.heap.size ≤ bl ∧ w.heap.size ≤ bc := new_on hb 30 (by omega) (by omega)
theorem rnew30 (w : World) : Calls Try.prog 12 #[.int .i64 30] w fun e w' =>
    ∃ rb lb cb ib, e = .returned (.tuple #[ptr rb, .int .i64 0]) ∧ RefOn w w' rb lb cb ib (St.fresh 30) := rnew_ref 30 w (by omega) (by omega)
set_option maxRecDepth 100000 in
set_option maxHeartbeats 16000000 in
theorem plays_core (A : Option Addr) (n c : Nat) (l : List CallD) (sectors : Int) (N : Nat) (hN0 : 2 ≤ N) (hN1 : N ≤ 30) (hs : sectors = (N : Int) ∨ (30 < sectors ∧ sectors ≤ 4096 ∧ N = 30)) (w : World) (hl : l.length = n) (hS : Script w A l) :
    Calls Try.prog 4 #[.int .i64 sectors, .slice A n c] w fun e w' => e = .returned (.bool true) ∧ Below w.heap.size w w' := by
  have HL := Lib.hid hl
  have HS := Lib.hid hS
  clear hl hS
  have hcase : (decide (30 < sectors) = false ∧ sectors = (N : Int)) ∨ (decide (30 < sectors) = true ∧ decide (sectors ≤ 4096) = true ∧ N = 30) := by
    simp only [decide_eq_true_eq, decide_eq_false_iff_not]
    omega
  clear hs
  rcases hcase with ⟨q1, rfl⟩ | ⟨q1, q2, rfl⟩
  all_goals
    go_enter Try.func4, Try.ntmps4
    go_wp2_with fail
    refine (awake_any w).mono ?_
    rintro e w1 ⟨rfl, bb1⟩
    go_wp2_with fail
    first
      | ((with_reducible refine (new_on bb1 N (by omega) (by omega)).mono ?_); rintro e w2 ⟨sb, bl, bc, rfl, o2, _⟩)
      | ((with_reducible refine (new_on30 bb1).mono ?_); rintro e w2 ⟨sb, bl, bc, rfl, o2, _⟩)
    have O2 := Lib.hid o2
    clear o2 bb1
    go_wp2_with fail
    first
      | ((with_reducible refine (rnew_ref N _ (by omega) (by omega)).mono ?_); rintro e w3 ⟨rb, lb, cb, ib, rfl, r3⟩)
      | ((with_reducible refine (rnew30 _).mono ?_); rintro e w3 ⟨rb, lb, cb, ib, rfl, r3⟩)
    have D3 := Lib.hid (Duo.begin O2.out r3)
    clear r3 O2
    go_wp2_with fail
  · go_loopw [10] (fun i wr => PlayRel w sb bl bc rb lb cb ib N n i wr) (fun i _ => n - (intOf i).toNat)
    case atStart => exact ⟨0, Nat.zero_le _, rfl, _, rfl, D3.out⟩
    case round =>
      clear D3
      obtain ⟨k, hk, rfl, s, hn, d⟩ := hrel
      have D := Lib.hid d
      have HNS := Lib.hid hn
      clear d hn
      by_cases hlt : k < n ∧ k < 50
      · obtain ⟨hlt, h50⟩ := hlt
        have b50 : decide ((k : Int) < 50) = true := by simp; omega
        have hlk : k < l.length := by have := HL.out; omega
        obtain ⟨b, off, A1, c1, A2, c2, rfl, hb, hat, hrows, hok⟩ := HS.out.at_ hlk
        have HRW := Lib.hid hrows
        have HOK := Lib.hid hok
        have HAT := Lib.hid hat
        have HB := Lib.hid hb
        clear hrows hok hb hat
        generalize l[k] = dd at *
        clear hlk
        obtain ⟨kd, nn, bs, ks, cut, y⟩ := dd
        obtain ⟨h0, h1, h2, h3, h4, h5⟩ := HAT.out.below HB.out D.out.dev.below
        simp only at h0 h1 h2 h3 h4 h5
        obtain ⟨m1, hm1⟩ : ∃ m, bs.length = m := ⟨_, rfl⟩
        obtain ⟨m2, hm2⟩ : ∃ m, ks.length = m := ⟨_, rfl⟩
        rw [hm1] at h2
        rw [hm2] at h3
        have HM1 := Lib.hid hm1
        have HM2 := Lib.hid hm2
        clear hm1 hm2
        go_wp2_with fail
        refine (small_any _ _ _ _ _ _ _ _ _ _ _).mono ?_
        rintro e w4 ⟨rfl, bb⟩
        have D4 := Lib.hid (D.out.grow bb)
        clear h0 h1 h2 h3 h4 h5 bb D
        cases hsm : smallB m1 m2
        · clear hsm
          go_wp2_with fail
          go_roundw
          case rel => exact ⟨k + 1, hlt, by go_num, s, HNS.out, D4.out⟩
          case measure => simp [intOf]; omega
        · clear hsm
          obtain ⟨h0, h1, h2, h3, h4, h5⟩ := HAT.out.below HB.out D4.out.dev.below
          simp only at h0 h1 h2 h3 h4 h5
          rw [HM1.out] at h2
          rw [HM2.out] at h3
          go_wp2_with fail
          refine (did_any w _ sb bl bc rb lb cb ib _ s nn cut y A1 m1 c1 A2 m2 c2 kd D4.out HNS.out bs ks HM1.out HM2.out HRW.out HOK.out).mono ?_
          rintro e w5 ⟨rfl, s5, n5, d5⟩
          have D5 := Lib.hid d5
          have N5 := Lib.hid n5
          clear d5 n5 D4 HNS h0 h1 h2 h3 h4 h5
          go_wp2_with fail
          refine (shows_on w _ sb bl bc rb lb cb ib s5 D5.out).mono ?_
          rintro e w6 ⟨rfl, d6⟩
          have D6 := Lib.hid d6
          clear d6 D5
          go_wp2_with fail
          go_roundw
          case rel => exact ⟨k + 1, hlt, by go_num, s5, N5.out, D6.out⟩
          case measure => simp [intOf]; omega
      · have hx2 : (k < n ∧ decide ((k : Int) < 50) = false) ∨ ¬ k < n := by
          by_cases h1 : k < n
          · exact .inl ⟨h1, by simp; omega⟩
          · exact .inr h1
        clear hlt
        rcases hx2 with ⟨hx, hx'⟩ | hx
        all_goals
          go_wp2_with fail
          go_ret
          exact ⟨rfl, D.out.dev.below⟩
  · go_loopw [10] (fun i wr => PlayRel w sb bl bc rb lb cb ib 30 n i wr) (fun i _ => n - (intOf i).toNat)
    case atStart => exact ⟨0, Nat.zero_le _, rfl, _, rfl, D3.out⟩
    case round =>
      clear D3
      obtain ⟨k, hk, rfl, s, hn, d⟩ := hrel
      have D := Lib.hid d
      have HNS := Lib.hid hn
      clear d hn
      by_cases hlt : k < n ∧ k < 50
      · obtain ⟨hlt, h50⟩ := hlt
        have b50 : decide ((k : Int) < 50) = true := by simp; omega
        have hlk : k < l.length := by have := HL.out; omega
        obtain ⟨b, off, A1, c1, A2, c2, rfl, hb, hat, hrows, hok⟩ := HS.out.at_ hlk
        have HRW := Lib.hid hrows
        have HOK := Lib.hid hok
        have HAT := Lib.hid hat
        have HB := Lib.hid hb
        clear hrows hok hb hat
        generalize l[k] = dd at *
        clear hlk
        obtain ⟨kd, nn, bs, ks, cut, y⟩ := dd
        obtain ⟨h0, h1, h2, h3, h4, h5⟩ := HAT.out.below HB.out D.out.dev.below
        simp only at h0 h1 h2 h3 h4 h5
        obtain ⟨m1, hm1⟩ : ∃ m, bs.length = m := ⟨_, rfl⟩
        obtain ⟨m2, hm2⟩ : ∃ m, ks.length = m := ⟨_, rfl⟩
        rw [hm1] at h2
        rw [hm2] at h3
        have HM1 := Lib.hid hm1
        have HM2 := Lib.hid hm2
        clear hm1 hm2
        go_wp2_with fail
        refine (small_any _ _ _ _ _ _ _ _ _ _ _).mono ?_
        rintro e w4 ⟨rfl, bb⟩
        have D4 := Lib.hid (D.out.grow bb)
        clear h0 h1 h2 h3 h4 h5 bb D
        cases hsm : smallB m1 m2
        · clear hsm
          go_wp2_with fail
          go_roundw
          case rel => exact ⟨k + 1, hlt, by go_num, s, HNS.out, D4.out⟩
          case measure => simp [intOf]; omega
        · clear hsm
          obtain ⟨h0, h1, h2, h3, h4, h5⟩ := HAT.out.below HB.out D4.out.dev.below
          simp only at h0 h1 h2 h3 h4 h5
          rw [HM1.out] at h2
          rw [HM2.out] at h3
          go_wp2_with fail
          refine (did_any w _ sb bl bc rb lb cb ib _ s nn cut y A1 m1 c1 A2 m2 c2 kd D4.out HNS.out bs ks HM1.out HM2.out HRW.out HOK.out).mono ?_
          rintro e w5 ⟨rfl, s5, n5, d5⟩
          have D5 := Lib.hid d5
          have N5 := Lib.hid n5
          clear d5 n5 D4 HNS h0 h1 h2 h3 h4 h5
          go_wp2_with fail
          refine (shows_on w _ sb bl bc rb lb cb ib s5 D5.out).mono ?_
          rintro e w6 ⟨rfl, d6⟩
          have D6 := Lib.hid d6
          clear d6 D5
          go_wp2_with fail
          go_roundw
          case rel => exact ⟨k + 1, hlt, by go_num, s5, N5.out, D6.out⟩
          case measure => simp [intOf]; omega
      · have hx2 : (k < n ∧ decide ((k : Int) < 50) = false) ∨ ¬ k < n := by
          by_cases h1 : k < n
          · exact .inl ⟨h1, by simp; omega⟩
          · exact .inr h1
        clear hlt
        rcases hx2 with ⟨hx, hx'⟩ | hx
        all_goals
          go_wp2_with fail
          go_ret
          exact ⟨rfl, D.out.dev.below⟩
set_option maxRecDepth 100000 in
theorem plays_walk (A : Option Addr) (n c : Nat) (l : List CallD) (sectors : Int) (w : World) (hl : l.length = n) (hS : Script w A l) :
    Calls Try.prog 4 #[.int .i64 sectors, .slice A n c] w fun e w' => e = .returned (.bool true) ∧ Below w.heap.size w w' := by
  by_cases h2 : sectors < 2 ∨ 4096 < sectors
  · have hcase : (decide (30 < sectors) = false) ∨ (decide (30 < sectors) = true ∧ decide (sectors ≤ 4096) = false) := by
      simp only [decide_eq_true_eq, decide_eq_false_iff_not]
      omega
    clear hl hS
    rcases hcase with q1 | ⟨q1, q2⟩
    all_goals
      go_enter Try.func4, Try.ntmps4
      go_wp2_with fail
      refine (awake_any w).mono ?_
      rintro e w1 ⟨rfl, bb1⟩
      go_wp2_with fail
      refine (new_bad sectors _ h2).mono ?_
      rintro e w2 ⟨rfl, rfl⟩
      go_wp2_with fail
      refine (rnew_bad sectors _ h2).mono ?_
      rintro e w2 ⟨rfl, rfl⟩
      go_wp2_with fail
      go_ret
      exact ⟨rfl, bb1⟩
  · by_cases h30 : sectors ≤ 30
    · exact plays_core A n c l sectors sectors.toNat (by omega) (by omega) (.inl (by omega)) w hl hS
    · exact plays_core A n c l sectors 30 (by omega) (by omega) (.inr ⟨by omega, by omega, rfl⟩) w hl hS
end Go.Proofs.Ytoldkhfnebjacaa.Disk
