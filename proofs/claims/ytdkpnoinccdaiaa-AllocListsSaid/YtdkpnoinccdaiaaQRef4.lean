/-
  Contract of the document's own laid.
-/
import Derived.Test.YtdkpnoinccdaiaaQRef3
import Derived.Test.YtdkpnoinccdaiaaQAwake
namespace Go.Proofs.Ytdkpnoinccdaiaa.Pool
open Go.RowKit Gen

/-- Three rows laid one behind the other. -/
theorem trip_at {Wb W : World} {b1 bp : Nat} {page : Int} (hW : Below Wb.heap.size Wb W) (E1 : Empty W b1) (h1 : Wb.heap.size ≤ b1) (hne : bp ≠ b1) (NP : NAt W (some ⟨bp, 0, none⟩) 1 1 [page]) {A1 A2 : Option Addr} {n1 c1 n2 c2 : Nat} {l1 l2 : List Int} (N1 : NAt Wb A1 n1 c1 l1) (N2 : NAt Wb A2 n2 c2 l2) (hn1 : n1 ≤ 200000) (hn2 : n2 ≤ 200000) :
    ∃ X m d W1 Y k e W2 Z i f W3, AppI W W1 (none0 b1) (.slice A1 n1 c1) (.slice X m d) ∧ AppI W1 W2 (.slice X m d) (.slice (some ⟨bp, 0, none⟩) 1 1) (.slice Y k e) ∧ AppI W2 W3 (.slice Y k e) (.slice A2 n2 c2) (.slice Z i f) ∧ OwnI W3 Wb.heap.size (.slice Z i f) (l1 ++ [page] ++ l2) ∧ Below Wb.heap.size Wb W3 := by
  obtain ⟨X, m, d, W1, r1, o1, g1, b1', -⟩ := app_own (own_empty E1 h1) hW.size (N1.below hW) (by simp; omega)
  have hW1 := hW.trans b1'
  have NP1 : NAt W1 (some ⟨bp, 0, none⟩) 1 1 [page] := nat_grown NP g1 (fun _ a e e2 => by cases e; simp [Value.ownBlock] at e2; omega)
  obtain ⟨Y, k, e, W2, r2, o2, -, b2', -⟩ := app_own o1 hW1.size NP1 (by simp; have := N1.len; omega)
  have hW2 := hW1.trans b2'
  obtain ⟨Z, i, f, W3, r3, o3, -, b3', -⟩ := app_own o2 hW2.size (N2.below hW2) (by simp; have := N1.len; omega)
  exact ⟨X, m, d, W1, Y, k, e, W2, Z, i, f, W3, r1, r2, r3, by simpa using o3, hW2.trans b3'⟩
/-- .. the page's place made behind the first one. -/
theorem trip_after {Wb W : World} {b1 : Nat} {page : Int} (hW : Below Wb.heap.size Wb W) (E1 : Empty W b1) (h1 : Wb.heap.size ≤ b1) {A1 A2 : Option Addr} {n1 c1 n2 c2 : Nat} {l1 l2 : List Int} (N1 : NAt Wb A1 n1 c1 l1) (N2 : NAt Wb A2 n2 c2 l2) (hn1 : n1 ≤ 200000) (hn2 : n2 ≤ 200000) :
    ∃ X m d W1 Y k e W2 Z i f W3, AppI W W1 (none0 b1) (.slice A1 n1 c1) (.slice X m d) ∧ AppI (W1.alloc (.cells #[.int .i64 page] 3)) W2 (.slice X m d) (.slice (some ⟨W1.heap.size, 0, none⟩) 1 1) (.slice Y k e) ∧ AppI W2 W3 (.slice Y k e) (.slice A2 n2 c2) (.slice Z i f) ∧ OwnI W3 Wb.heap.size (.slice Z i f) (l1 ++ [page] ++ l2) ∧ Below Wb.heap.size Wb W3 := by
  obtain ⟨X, m, d, W1, r1, o1, g1, b1', -⟩ := app_own (own_empty E1 h1) hW.size (N1.below hW) (by simp; omega)
  have hW1 := (hW.trans b1').alloc (hW.trans b1').size (.cells #[.int .i64 page] 3)
  obtain ⟨Y, k, e, W2, r2, o2, -, b2', -⟩ := app_own (OwnG.kept o1 (below_box W1 (.cells #[.int .i64 page] 3))) hW1.size (one_at W1 page) (by simp; have := N1.len; omega)
  have hW2 := hW1.trans b2'
  obtain ⟨Z, i, f, W3, r3, o3, -, b3', -⟩ := app_own o2 hW2.size (N2.below hW2) (by simp; have := N1.len; omega)
  exact ⟨X, m, d, W1, Y, k, e, W2, Z, i, f, W3, r1, r2, r3, by simpa using o3, hW2.trans b3'⟩
theorem laid_step {l : List Int} {page : Int} {k : Nat} (hk : k < l.length) (hQ : ∀ j (h : j < l.length), j < k → l[j] < page) (h : l[k] < page) : ∀ j (h : j < l.length), j < k + 1 → l[j] < page := fun j hj hjk => by
  by_cases e : j = k
  · subst e; exact h
  · exact hQ j hj (by omega)
set_option maxRecDepth 100000 in
set_option maxHeartbeats 8000000 in
theorem rLaid_any (A : Option Addr) (n c : Nat) (l : List Int) (page : Int) (w : World) (h : NAt w A n c l) (hn : n ≤ 200000) : Calls Try.prog 33 #[.slice A n c, .int .i64 page] w (Owns (lay1 page l) w) := by
  have HH := Lib.hid h
  have HL := Lib.hid h.len
  clear h
  go_enter Try.func33, Try.ntmps33
  go_wp2_with fail
  go_loop [5] (fun i => ∃ k : Nat, i = .int .i64 (k : Int) ∧ k ≤ n ∧ Hid (∀ j (h : j < l.length), j < k → l[j] < page)) (fun i => n - (intOf i).toNat)
  case atStart => exact ⟨0, rfl, Nat.zero_le _, Lib.hid (fun j h hj => absurd hj (Nat.not_lt_zero j))⟩
  case round =>
    obtain ⟨k, rfl, hk, hQ⟩ := hrel
    by_cases hgo : ∃ h : k < l.length, l[k] < page
    · obtain ⟨hkl, hlp⟩ := hgo
      have hlt : k < n := by have := HL.out; omega
      have HN := Lib.hid (laid_step hkl hQ.out hlp)
      obtain ⟨b, off, rfl, hb, hc⟩ := HH.out.row (by intro e; subst e; simp at hkl)
      have hc1 := hc k hkl
      generalize l[k] = x at hc1 hlp
      have d : decide (x < page) = true := by simp [hlp]
      clear hc hQ hlp
      go_wp2_with fail
      go_round
      case rel => exact ⟨k + 1, by go_num, by omega, HN⟩
      case measure => simp [intOf]; omega
    have HP := Lib.hid (show plc page l = k from plc_at page l k (by have := HL.out; omega) hQ.out (fun h => by
      rcases Int.lt_or_le (l[k]) page with g | g
      · exact absurd ⟨h, g⟩ hgo
      · exact g))
    have HC : Hid (l.take k ++ [page] ++ l.drop k = lay1 page l) := Lib.hid (by rw [lay1_cut, HP.out]; simp)
    have HX : (k = n) ∨ (∃ b off x, A = some ⟨b, off, none⟩ ∧ k < n ∧ w.cell? ⟨b, off + k, none⟩ = some (.int .i64 x) ∧ page ≤ x) := by
      rcases Nat.lt_or_ge k n with hlt | hge
      · right
        have hkl : k < l.length := by have := HL.out; omega
        obtain ⟨b, off, e, hb, hc⟩ := HH.out.row (by intro e; subst e; simp at hkl)
        refine ⟨b, off, l[k], e, hlt, hc k hkl, ?_⟩
        rcases Int.lt_or_le (l[k]) page with g | g
        · exact absurd ⟨hkl, g⟩ hgo
        · exact g
      · left; omega
    clear hgo hQ HP
    have HXX := Lib.hid HX
    clear HX
    have q1 : ∀ W, (Instr.slice 23 (.slice A n c) none (some (.int .i64 (k : Int))) none).run Try.prog W = .ok (.slice A k c) W := fun W => head_run A n c k (Nat.le_trans hk HH.out.cap) W
    have q2 : ∀ W, (Instr.slice 23 (.slice A n c) (some (.int .i64 (k : Int))) none none).run Try.prog W = .ok (.slice (if c = k then A else A.map (·.add k)) (n - k) (c - k)) W := fun W => tail_run A n c k hk W
    have N1 := HH.out.head hk
    have N2 := HH.out.tail hk
    generalize (if c = k then A else A.map (·.add k)) = A3 at q2 N2
    obtain ⟨c3, hc3⟩ : ∃ c3, c - k = c3 := ⟨_, rfl⟩
    obtain ⟨n3, hn3⟩ : ∃ n3, n - k = n3 := ⟨_, rfl⟩
    rw [hc3, hn3] at q2 N2
    have l3 : n3 ≤ 200000 := by omega
    have b1 : Below w.heap.size w (w.alloc (.cells #[] 3)).drew := (below_box w _).drew
    have b2 : Below w.heap.size w ((w.alloc (.cells #[] 3)).alloc (.cells #[.int .i64 page] 3)).drew := ((below_box w _).alloc (below_box w _).size _).drew
    have b3 : Below w.heap.size w ((w.alloc (.cells #[.int .i64 page] 3)).alloc (.cells #[] 3)).drew := ((below_box w _).alloc (below_box w _).size _).drew
    have z1 : Empty (w.alloc (.cells #[] 3)).drew w.heap.size := heap_alloc_new w (.cells #[] 3)
    have z2 : Empty ((w.alloc (.cells #[] 3)).alloc (.cells #[.int .i64 page] 3)).drew w.heap.size := (((below_box (w.alloc (.cells #[] 3)) (.cells #[.int .i64 page] 3))).block w.heap.size (by simp)).trans (heap_alloc_new w (.cells #[] 3))
    have z3 : Empty ((w.alloc (.cells #[.int .i64 page] 3)).alloc (.cells #[] 3)).drew (w.heap.size + 1) := by
      have := heap_alloc_new (w.alloc (.cells #[.int .i64 page] 3)) (.cells #[] 3)
      rw [World.size_alloc] at this
      exact this
    have p2 : NAt ((w.alloc (.cells #[] 3)).alloc (.cells #[.int .i64 page] 3)).drew (some ⟨w.heap.size + 1, 0, none⟩) 1 1 [page] := by
      have := (one_at (w.alloc (.cells #[] 3)) page).below (Below.refl _ _).drew
      rw [World.size_alloc] at this
      exact this
    have p3 : NAt ((w.alloc (.cells #[.int .i64 page] 3)).alloc (.cells #[] 3)).drew (some ⟨w.heap.size, 0, none⟩) 1 1 [page] := ((one_at w page).below (below_box _ (.cells #[] 3))).below (Below.refl _ _).drew
    obtain ⟨XA, mA, dA, W1A, YA, kA, eA, W2A, ZA, iA, fA, W3A, q1A, q2A, q3A, o3A, b3A⟩ := trip_after (page := page) b1 z1 (Nat.le_refl _) N1 N2 (by omega) l3
    obtain ⟨XB, mB, dB, W1B, YB, kB, eB, W2B, ZB, iB, fB, W3B, q1B, q2B, q3B, o3B, b3B⟩ := trip_at (page := page) b2 z2 (Nat.le_refl _) (by omega) p2 N1 N2 (by omega) l3
    obtain ⟨XC, mC, dC, W1C, YC, kC, eC, W2C, ZC, iC, fC, W3C, q1C, q2C, q3C, o3C, b3C⟩ := trip_at (page := page) b3 z3 (Nat.le_succ _) (by omega) p3 N1 N2 (by omega) l3
    have Q1A := Lib.hid q1A
    have Q2A := Lib.hid q2A
    have Q3A := Lib.hid q3A
    rw [HC.out] at o3A
    have O3A := Lib.hid o3A
    have B3A := Lib.hid b3A
    clear q1A q2A q3A o3A b3A
    have Q1B := Lib.hid q1B
    have Q2B := Lib.hid q2B
    have Q3B := Lib.hid q3B
    rw [HC.out] at o3B
    have O3B := Lib.hid o3B
    have B3B := Lib.hid b3B
    clear q1B q2B q3B o3B b3B
    have Q1C := Lib.hid q1C
    have Q2C := Lib.hid q2C
    have Q3C := Lib.hid q3C
    rw [HC.out] at o3C
    have O3C := Lib.hid o3C
    have B3C := Lib.hid b3C
    clear q1C q2C q3C o3C b3C
    clear b1 b2 b3 z1 z2 z3 p2 p3 N1 N2 HC l3 hn3 hc3
    rcases HXX.out with hkn | ⟨b, off, x, rfl, hlt, hc1, hpx⟩
    · clear HXX
      have dk : decide ((k : Int) < (n : Int)) = false := by simp; omega
      have hge : ¬ k < n := by omega
      clear hkn
      go_wp2_with fail
      go_region_held3 (fun _ => True) (trivial)
        (first
          | ((with_reducible refine step_append2_eq ?_ (.tmp 20) (.tmp 23) _ _ ?_ ?_ ?_ Q1A.out ?_); (next => rfl); (next => rfl); (next => rfl); (next => rfl))
          | ((with_reducible refine step_append2_eq ?_ (.tmp 20) (.tmp 23) _ _ ?_ ?_ ?_ Q1B.out ?_); (next => rfl); (next => rfl); (next => rfl); (next => rfl))
          | ((with_reducible refine step_append2_eq ?_ (.tmp 20) (.tmp 23) _ _ ?_ ?_ ?_ Q1C.out ?_); (next => rfl); (next => rfl); (next => rfl); (next => rfl))
          | ((with_reducible refine step_append2_eq ?_ (.tmp 24) (.tmp 26) _ _ ?_ ?_ ?_ Q2A.out ?_); (next => rfl); (next => rfl); (next => rfl); (next => rfl))
          | ((with_reducible refine step_append2_eq ?_ (.tmp 24) (.tmp 26) _ _ ?_ ?_ ?_ Q2B.out ?_); (next => rfl); (next => rfl); (next => rfl); (next => rfl))
          | ((with_reducible refine step_append2_eq ?_ (.tmp 24) (.tmp 26) _ _ ?_ ?_ ?_ Q2C.out ?_); (next => rfl); (next => rfl); (next => rfl); (next => rfl))
          | ((with_reducible refine step_append2_eq ?_ (.tmp 27) (.tmp 30) _ _ ?_ ?_ ?_ Q3A.out ?_); (next => rfl); (next => rfl); (next => rfl); (next => rfl))
          | ((with_reducible refine step_append2_eq ?_ (.tmp 27) (.tmp 30) _ _ ?_ ?_ ?_ Q3B.out ?_); (next => rfl); (next => rfl); (next => rfl); (next => rfl))
          | ((with_reducible refine step_append2_eq ?_ (.tmp 27) (.tmp 30) _ _ ?_ ?_ ?_ Q3C.out ?_); (next => rfl); (next => rfl); (next => rfl); (next => rfl)))
      all_goals
        go_wp2_with fail
        go_ret
        first
          | exact ⟨_, rfl, O3A.out, B3A.out⟩
          | exact ⟨_, rfl, O3B.out, B3B.out⟩
          | exact ⟨_, rfl, O3C.out, B3C.out⟩
    · clear HXX
      have dx : decide (x < page) = false := by simp; omega
      have dk : decide ((k : Int) < (n : Int)) = true := by simp; omega
      clear hpx
      go_wp2_with fail
      go_region_held3 (fun _ => True) (trivial)
        (first
          | ((with_reducible refine step_append2_eq ?_ (.tmp 20) (.tmp 23) _ _ ?_ ?_ ?_ Q1A.out ?_); (next => rfl); (next => rfl); (next => rfl); (next => rfl))
          | ((with_reducible refine step_append2_eq ?_ (.tmp 20) (.tmp 23) _ _ ?_ ?_ ?_ Q1B.out ?_); (next => rfl); (next => rfl); (next => rfl); (next => rfl))
          | ((with_reducible refine step_append2_eq ?_ (.tmp 20) (.tmp 23) _ _ ?_ ?_ ?_ Q1C.out ?_); (next => rfl); (next => rfl); (next => rfl); (next => rfl))
          | ((with_reducible refine step_append2_eq ?_ (.tmp 24) (.tmp 26) _ _ ?_ ?_ ?_ Q2A.out ?_); (next => rfl); (next => rfl); (next => rfl); (next => rfl))
          | ((with_reducible refine step_append2_eq ?_ (.tmp 24) (.tmp 26) _ _ ?_ ?_ ?_ Q2B.out ?_); (next => rfl); (next => rfl); (next => rfl); (next => rfl))
          | ((with_reducible refine step_append2_eq ?_ (.tmp 24) (.tmp 26) _ _ ?_ ?_ ?_ Q2C.out ?_); (next => rfl); (next => rfl); (next => rfl); (next => rfl))
          | ((with_reducible refine step_append2_eq ?_ (.tmp 27) (.tmp 30) _ _ ?_ ?_ ?_ Q3A.out ?_); (next => rfl); (next => rfl); (next => rfl); (next => rfl))
          | ((with_reducible refine step_append2_eq ?_ (.tmp 27) (.tmp 30) _ _ ?_ ?_ ?_ Q3B.out ?_); (next => rfl); (next => rfl); (next => rfl); (next => rfl))
          | ((with_reducible refine step_append2_eq ?_ (.tmp 27) (.tmp 30) _ _ ?_ ?_ ?_ Q3C.out ?_); (next => rfl); (next => rfl); (next => rfl); (next => rfl)))
      all_goals
        go_wp2_with fail
        go_ret
        first
          | exact ⟨_, rfl, O3A.out, B3A.out⟩
          | exact ⟨_, rfl, O3B.out, B3B.out⟩
          | exact ⟨_, rfl, O3C.out, B3C.out⟩
end Go.Proofs.Ytdkpnoinccdaiaa.Pool
