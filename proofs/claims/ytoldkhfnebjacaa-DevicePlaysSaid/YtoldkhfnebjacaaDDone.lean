/-
  A script is done to a device.
-/
import Derived.Test.YtoldkhfnebjacaaDCalls
namespace Go.Proofs.Ytoldkhfnebjacaa.Disk
open Go.RowKit Go.Maps Gen

abbrev callC (d : CallD) (A1 : Option Addr) (c1 : Nat) (A2 : Option Addr) (c2 : Nat) : Array Value := #[.int .i64 d.kind, .int .i64 d.n, .slice A1 d.bs.length c1, .slice A2 d.ks.length c2, .int .i64 d.cut, byteV d.by8]
theorem CallAt.load {w : World} {b off : Nat} {d : CallD} {A1 A2 : Option Addr} {c1 c2 : Nat} (h : CallAt w b off d A1 c1 A2 c2) : (Instr.loadAt 35 (.pointer (some ⟨b, off, none⟩))).run Try.prog w = .ok (.agg (callC d A1 c1 A2 c2)) w := by
  obtain ⟨h0, h1, h2, h3, h4, h5⟩ := h
  exact run_loadAt_mid w b off 35 [.int .i64 d.kind, .int .i64 d.n, .slice A1 d.bs.length c1, .slice A2 d.ks.length c2, .int .i64 d.cut, byteV d.by8] _ (fun j v hv => match j, hv with
    | 0, hv => by cases hv; exact h0
    | 1, hv => by cases hv; exact h1
    | 2, hv => by cases hv; exact h2
    | 3, hv => by cases hv; exact h3
    | 4, hv => by cases hv; exact h4
    | 5, hv => by cases hv; exact h5) Try.underlying35 rfl (by kernel_rfl)
def smallB (n1 n2 : Nat) : Bool := decide (n1 ≤ 1100) && decide (n2 ≤ 500)
theorem small_any (kd nn cut : Int) (y : UInt8) (n1 n2 : Nat) (A1 : Option Addr) (c1 : Nat) (A2 : Option Addr) (c2 : Nat) (w : World) :
    Calls Try.prog 13 #[.agg #[.int .i64 kd, .int .i64 nn, .slice A1 n1 c1, .slice A2 n2 c2, .int .i64 cut, byteV y]] w fun e w' => e = .returned (.bool (smallB n1 n2)) ∧ Below w.heap.size w w' := by
  have hb := (Below.refl w.heap.size w).alloc (Nat.le_refl _) (.cells #[.int .i64 kd, .int .i64 nn, .slice A1 n1 c1, .slice A2 n2 c2, .int .i64 cut, byteV y] 35)
  have HB := Lib.hid hb
  clear hb
  by_cases h1 : n1 ≤ 1100
  · have b1 : decide ((n1 : Int) ≤ 1100) = true := by simp; omega
    have HE := Lib.hid (show decide ((n2 : Int) ≤ 500) = smallB n1 n2 by rw [smallB, decide_eq_true h1, Bool.true_and]; exact decide_eq_decide.2 (by omega))
    clear h1
    go_enter Try.func13, Try.ntmps13
    go_wp2_with fail
    go_ret
    exact ⟨congrArg (fun b => Ending.returned (.bool b)) HE.out, HB.out⟩
  · have b1 : decide ((n1 : Int) ≤ 1100) = false := by simp; omega
    have HE := Lib.hid (show false = smallB n1 n2 by rw [smallB, decide_eq_false h1, Bool.false_and])
    clear h1
    go_enter Try.func13, Try.ntmps13
    go_wp2_with fail
    go_ret
    exact ⟨congrArg (fun b => Ending.returned (.bool b)) HE.out, HB.out⟩
/-- At the head of each round. -/
def DoneRel (w0 : World) (sb bl bc N n : Nat) (i : Value) (wr : World) : Prop := ∃ k : Nat, k ≤ n ∧ i = .int .i64 (k : Int) ∧ ∃ s, On w0 wr sb bl bc s ∧ s.n = N
theorem act_keeps (s : St) : s.act.n = s.n := act_n s
theorem write_n (s : St) (n : Int) (l : Bs) : (s.write n l).n = s.n := by
  unfold St.write
  split
  · rfl
  · split
    · rfl
    · split
      · exact act_n s
      · exact act_n s
theorem sync_n (s : St) : s.sync.n = s.n := by
  unfold St.sync
  split
  · rfl
  · split
    · exact act_n s
    · exact act_n s
theorem keep1_n (s : St) (x : Int) : (s.keep1 x).n = s.n := by unfold St.keep1; split <;> rfl
theorem keeps_n : ∀ (ks : List Int) (s : St), (s.keeps ks).n = s.n
  | [], _ => rfl
  | x :: ks, s => by
    show (St.keeps (s.keep1 x) ks).n = s.n
    rw [keeps_n ks, keep1_n]
theorem restart_n (s : St) (ks : List Int) (t cut : Int) : (s.restart ks t cut).n = s.n := by
  show ((s.keeps ks).tear1 t (cutN cut)).n = s.n
  unfold St.tear1
  split
  · exact keeps_n ks s
  · exact keeps_n ks s
theorem spoil_n (s : St) (n at0 : Int) (y : UInt8) : (s.spoil n at0 y).n = s.n := by
  unfold St.spoil
  split
  · split <;> rfl
  · rfl
theorem On.spoil {w0 w : World} {sb bl bc : Nat} {s : St} (h : On w0 w sb bl bc s) (n at0 : Int) (y : UInt8) :
    Calls Try.prog 26 #[ptr sb, .int .i64 n, .int .i64 at0, byteV y] w fun e w' => e = .returned (.int .i64 (s.spoilE n at0)) ∧ On w0 w' sb bl bc (s.spoil n at0 y) ∧ Mod [sb, bl, bc] w w' :=
  (spoil_dev w sb bl bc s n at0 y h.dev).mono fun _ _ ⟨e, d, m⟩ => ⟨e, h.step d m, m⟩
/-- .. of numbers that came in. -/
theorem On.restartW {w0 w : World} {sb bl bc : Nat} {s : St} (h : On w0 w sb bl bc s) (A : Option Addr) (n c : Nat) (t cut : Int) (ks : List Int) (hks : ks.length = n) (hn : n ≤ 9223372036854775807) (hR : IRow w0 A ks)
    (hkb : ∀ x ∈ ks, -9223372036854775808 ≤ x ∧ x ≤ 9223372036854775807) (ht0 : -9223372036854775808 ≤ t) (ht1 : t ≤ 9223372036854775807) :
    Calls Try.prog 17 #[ptr sb, .slice A n c, .int .i64 t, .int .i64 cut] w fun e w' => e = .returned (.tuple #[]) ∧ On w0 w' sb bl bc (s.restart ks t cut) ∧ Mod [sb, bl, bc] w w' :=
  h.restart A n c t cut ks hks hn (RowG.below hR h.below) (fun hne a ha => by
    obtain ⟨b, off, e, hb, _⟩ := hR hne
    rw [ha] at e
    cases e
    exact h.old hb) hkb ht0 ht1
theorem new_cells {w w' : World} {v0 v1 v2 v3 v4 v5 : Value} {t : TypeId} (h : Below (w.alloc (.cells #[v0, v1, v2, v3, v4, v5] t)).heap.size (w.alloc (.cells #[v0, v1, v2, v3, v4, v5] t)) w') :
    w'.cell? ⟨w.heap.size, 0, none⟩ = some v0 ∧ w'.cell? ⟨w.heap.size, 1, none⟩ = some v1 ∧ w'.cell? ⟨w.heap.size, 2, none⟩ = some v2 ∧ w'.cell? ⟨w.heap.size, 3, none⟩ = some v3 ∧ w'.cell? ⟨w.heap.size, 4, none⟩ = some v4 ∧ w'.cell? ⟨w.heap.size, 5, none⟩ = some v5 := by
  have hc := fun j => (h.cell (p := ⟨w.heap.size, j, none⟩) (by simp)).trans (cell_of_row _ _ j _ _ _ (heap_alloc_last w (.cells #[v0, v1, v2, v3, v4, v5] t)))
  exact ⟨hc 0, hc 1, hc 2, hc 3, hc 4, hc 5⟩
set_option maxRecDepth 100000 in
set_option maxHeartbeats 8000000 in
theorem done_on (w0 w : World) (sb bl bc N : Nat) (s : St) (h : On w0 w sb bl bc s) (hN : s.n = N) (A : Option Addr) (n c : Nat) (l : List CallD) (hl : l.length = n) (hS : Script w0 A l) :
    Calls Try.prog 16 #[ptr sb, .slice A n c] w fun e w' => e = .returned (.tuple #[]) ∧ ∃ s', On w0 w' sb bl bc s' ∧ s'.n = N := by
  have HO := Lib.hid h
  have HN := Lib.hid hN
  have HS := Lib.hid hS
  have HL := Lib.hid hl
  clear h hN hS hl
  go_enter Try.func16, Try.ntmps16
  go_wp2_with fail
  go_loopw [4] (fun i wr => DoneRel w0 sb bl bc N n i wr) (fun i _ => n - (intOf i).toNat)
  case atStart => exact ⟨0, Nat.zero_le _, rfl, s, HO.out, HN.out⟩
  case round =>
    obtain ⟨k, hk, rfl, s1, o1, n1⟩ := hrel
    have O1 := Lib.hid o1
    have N1 := Lib.hid n1
    clear o1 n1
    by_cases hlt : k < n
    · by_cases h50 : k < 50
      · have hlk : k < l.length := by have := HL.out; omega
        obtain ⟨b, off, A1, c1, A2, c2, rfl, hb, hat, hrows, hok⟩ := HS.out.at_ hlk
        have hat2 := hat.below hb O1.out.below
        clear hat
        have HRW := Lib.hid hrows
        have HOK := Lib.hid hok
        obtain ⟨h0, h1, h2, h3, h4, h5⟩ := hat2
        clear hrows hok hb
        generalize l[k] = d at *
        clear hlk
        obtain ⟨kd, nn, bs, ks, cut, y⟩ := d
        simp only at h0 h1 h2 h3 h4 h5
        obtain ⟨m1, hm1⟩ : ∃ m, bs.length = m := ⟨_, rfl⟩
        obtain ⟨m2, hm2⟩ : ∃ m, ks.length = m := ⟨_, rfl⟩
        rw [hm1] at h2
        rw [hm2] at h3
        have HM1 := Lib.hid hm1
        have HM2 := Lib.hid hm2
        have b50 : decide ((k : Int) < 50) = true := by simp; omega
        clear hm1 hm2
        go_wp2_with fail
        refine (small_any _ _ _ _ _ _ _ _ _ _ _).mono ?_
        rintro e w2 ⟨rfl, bb⟩
        have cc := new_cells bb
        have O2 := Lib.hid ((O1.out.alloc _).grow bb)
        clear bb O1 h0 h1 h2 h3 h4 h5
        obtain ⟨h0, h1, h2, h3, h4, h5⟩ := cc
        cases hsm : smallB m1 m2
        · clear h0 h1 h2 h3 h4 h5 hsm
          go_wp2_with fail
          go_roundw
          case rel => exact ⟨k + 1, hlt, by go_num, s1, O2.out, N1.out⟩
          case measure => simp [intOf]; omega
        · clear hsm
          by_cases e1 : kd = 1
          · subst e1
            clear h2 h3 h4 h5
            go_wp2_with fail
            refine (O2.out.read nn).mono ?_
            rintro e w3 ⟨A', rfl, _, _, _, o3, _⟩
            have O3 := Lib.hid o3
            clear o3 h0 h1 O2
            go_wp2_with fail
            go_roundw
            case rel => exact ⟨k + 1, hlt, by go_num, s1, O3.out, N1.out⟩
            case measure => simp [intOf]; omega
          by_cases e2 : kd = 2
          · subst e2
            clear h3 h4 h5 e1
            go_wp2_with fail
            refine (O2.out.write0 nn A1 m1 c1 bs HM1.out HRW.out.rb).mono ?_
            rintro e w3 ⟨rfl, o3, _⟩
            have O3 := Lib.hid o3
            have N3 := Lib.hid ((write_n s1 nn bs).trans N1.out)
            clear o3 h0 h1 h2 O2
            go_wp2_with fail
            go_roundw
            case rel => exact ⟨k + 1, hlt, by go_num, _, O3.out, N3.out⟩
            case measure => simp [intOf]; omega
          by_cases e3 : kd = 3
          · subst e3
            clear h1 h2 h3 h4 h5 e1 e2
            go_wp2_with fail
            refine O2.out.sync.mono ?_
            rintro e w3 ⟨rfl, o3, _⟩
            have O3 := Lib.hid o3
            have N3 := Lib.hid ((sync_n s1).trans N1.out)
            clear o3 h0 O2
            go_wp2_with fail
            go_roundw
            case rel => exact ⟨k + 1, hlt, by go_num, _, O3.out, N3.out⟩
            case measure => simp [intOf]; omega
          by_cases e4 : kd = 4
          · subst e4
            clear h2 h3 h4 h5 e1 e2 e3
            go_wp2_with fail
            refine (O2.out.fuse nn HOK.out.n1).mono ?_
            rintro e w3 ⟨rfl, o3, _⟩
            have O3 := Lib.hid o3
            have N3 : Hid ((s1.setFuse nn).n = N) := Lib.hid N1.out
            clear o3 h0 h1 O2
            go_wp2_with fail
            go_roundw
            case rel => exact ⟨k + 1, hlt, by go_num, _, O3.out, N3.out⟩
            case measure => simp [intOf]; omega
          by_cases e5 : kd = 5
          · subst e5
            clear h2 h5 e1 e2 e3 e4
            go_wp2_with fail
            refine (O2.out.restartW A2 m2 c2 nn cut ks HM2.out (by rw [← HM2.out]; exact HOK.out.kl) HRW.out.rk HOK.out.ks HOK.out.n0 HOK.out.n1).mono ?_
            rintro e w3 ⟨rfl, o3, _⟩
            have O3 := Lib.hid o3
            have N3 := Lib.hid ((restart_n s1 ks nn cut).trans N1.out)
            clear o3 h0 h1 h3 h4 O2
            go_wp2_with fail
            go_roundw
            case rel => exact ⟨k + 1, hlt, by go_num, _, O3.out, N3.out⟩
            case measure => simp [intOf]; omega
          by_cases e6 : kd = 6
          · subst e6
            clear h2 h3 e1 e2 e3 e4 e5
            go_wp2_with fail
            refine (O2.out.spoil nn cut y).mono ?_
            rintro e w3 ⟨rfl, o3, _⟩
            have O3 := Lib.hid o3
            have N3 := Lib.hid ((spoil_n s1 nn cut y).trans N1.out)
            clear o3 h0 h1 h4 h5 O2
            go_wp2_with fail
            go_roundw
            case rel => exact ⟨k + 1, hlt, by go_num, _, O3.out, N3.out⟩
            case measure => simp [intOf]; omega
          · have b1 : (kd == 1) = false := by simpa using e1
            have b2 : (kd == 2) = false := by simpa using e2
            have b3 : (kd == 3) = false := by simpa using e3
            have b4 : (kd == 4) = false := by simpa using e4
            have b5 : (kd == 5) = false := by simpa using e5
            have b6 : (kd == 6) = false := by simpa using e6
            clear e1 e2 e3 e4 e5 e6 h1 h2 h3 h4 h5
            go_wp2_with fail
            go_roundw
            case rel => exact ⟨k + 1, hlt, by go_num, s1, O2.out, N1.out⟩
            case measure => simp [intOf]; omega
      · have b50 : decide ((k : Int) < 50) = false := by simp; omega
        go_wp2_with fail
        go_end0
        exact ⟨rfl, s1, O1.out, N1.out⟩
    · go_wp2_with fail
      go_end0
      exact ⟨rfl, s1, O1.out, N1.out⟩
end Go.Proofs.Ytoldkhfnebjacaa.Disk
