/-
  Slices' stable sort: two ranges that are sorted, each for itself, are merged in place.
-/
import Derived.Test.YtcendcegmhliaaaOSwap
namespace Go.Proofs.Ytcendcegmhliaaa.Ord
open Go.Shelf Go.RowKit Go.Lib Go.Sort _root_.Go.Proofs.Ytcendcegmhliaaa.Gnd
variable {P : Program} {α : Type} [Inhabited α]
set_option maxHeartbeats 16000000 in
set_option maxRecDepth 1000000 in
theorem symMerge_any {k : Nat} (L : SortAt P k) (enc : α → List Value) (cf : α → α → Int) (lt : α → α → Bool) (rk : α → Nat) (hlk : ∀ x y, rk x < rk y → lt y x = ltOf cf y x) (g : Nat) (cb : Array Value) (blk off cap : Nat) (d0 : Array α) (w0 : World) (eg : ∀ args w, (callFunc g args).run P w = .ok (.enter g args) w)
    (hcmp : CmpLays P g cb enc k cf blk off d0.size w0) (R : RowK enc k w0 blk off d0) (hO : SWO lt) (n0 : Nat) (h0 : d0.size = n0) (hsz : n0 < 4611686018427387904) : ∀ (N a m b : Nat) (d : Array α) (w : World), d.size = n0 → SWK enc k w0 blk off d w → b - a ≤ N → a < m → m < b → b ≤ n0 →
    SortedIn lt a m d → SortedIn lt m b d → Cross rk a m b d →
    Calls P 68 #[.slice (some ⟨blk, off, none⟩) n0 cap, .int .i64 a, .int .i64 m, .int .i64 b, .func (.func g) #[] cb] w fun e w' => e = .returned (.tuple #[]) ∧ ∃ d', SWK enc k w0 blk off d' w' ∧ PermIn a b d d' ∧ SortedIn lt a b d' := by
  intro N
  induction N with
  | zero => intro a m b d w _ _ h1 h2 h3; omega
  | succ N ih =>
    intro a m b d w hs S hN ham hmb hb h1 h2 hx
    have HXX : Hid (Cross rk a m b d) := hx
    have HLK : Aside (∀ x y, rk x < rk y → lt y x = ltOf cf y x) := hlk
    have HI : Aside _ := ih
    have HC : Aside _ := hcmp
    have S0 : Aside (SWK enc k w0 blk off d w) := S
    have H1 : Hid (SortedIn lt a m d) := h1
    have H2 : Hid (SortedIn lt m b d) := h2
    have e74 : ∀ args w, (callFunc 71 args).run P w = .ok (.enter 71 args) w := enters_of L.f74 (by kernel_rfl) rfl
    have e73 : ∀ args w, (callFunc 68 args).run P w = .ok (.enter 68 args) w := enters_of L.f73 (by kernel_rfl) rfl
    clear S h1 h2 ih hcmp hx hlk
    have mixed := L.mixed; have t0 := L.t0; have a0 := L.a0; have z0 := L.z0; have v0 := L.v0; have t3 := L.t3; have a3 := L.a3; have z3 := L.z3; have v3 := L.v3; have t4 := L.t4; have a4 := L.a4; have z4 := L.z4; have v4 := L.v4; have t22 := L.t22; have a22 := L.a22; have z22 := L.z22; have v22 := L.v22; have t25 := L.t25; have a25 := L.a25; have z25 := L.z25; have v25 := L.v25; have t84 := L.t84; have a84 := L.a84; have z84 := L.z84; have v84 := L.v84; have aE := L.aE; have zE := L.zE
    by_cases c1 : m = a + 1
    · subst c1
      have w1 : IntKind.i64.wrap (((a + 1 : Nat) : Int) - (a : Int)) = 1 := by rw [IntKind.wrap_i64]; omega
      obtain ⟨m, hm⟩ : ∃ m, a + 1 = m := ⟨_, rfl⟩
      rw [hm] at w1 H1 H2 HXX hmb ⊢
      have HM : Hid (a + 1 = m) := hm
      go_enter L.f73, Try.ntmps68
      go_wp2
      go_loopg [10, 11] (b - m) (fun kx s10 s11 wr => ∃ (i j : Nat), s10 = .int .i64 i ∧ s11 = .int .i64 j ∧ m ≤ i ∧ i ≤ j ∧ j ≤ b ∧ j - i ≤ kx ∧ Aside (SWK enc k w0 blk off d wr) ∧ Hid ((i = m ∨ lt d[i - 1]! d[a]! = true) ∧ (j = b ∨ lt d[j]! d[a]! = false)))
      case atStart => exact ⟨m, b, rfl, rfl, Nat.le_refl _, by omega, Nat.le_refl _, Nat.le_refl _, S0, .inl rfl, .inl rfl⟩
      case round =>
        clear S0
        obtain ⟨i, j, rfl, rfl, hi, hij, hj, hkx, S1, HQ⟩ := hrel
        by_cases hlt : i < j
        · have hltz : (i : Int) < (j : Int) := by omega
          have hw1 : IntKind.i64.wrap ((i : Int) + (j : Int)) = (i : Int) + (j : Int) := IntWalk.i64_in _ (by omega)
          have hw2 : IntKind.u64.wrap ((i : Int) + (j : Int)) = (i : Int) + (j : Int) := IntWalk.u64_in _ (by omega)
          obtain ⟨q, hmq⟩ : ∃ m : Nat, ((i : Int) + (j : Int)) / 2 = (m : Int) := ⟨(i + j) / 2, by omega⟩
          have hq : i ≤ q ∧ q < j := by omega
          have w3 : IntKind.i64.wrap ((q : Int) + 1) = ((q + 1 : Nat) : Int) := by rw [IntKind.wrap_i64]; omega
          cases hlv : lt d[q]! d[a]! with
          | true =>
            have HN : Hid ((q + 1 = m ∨ lt d[q + 1 - 1]! d[a]! = true) ∧ (j = b ∨ lt d[j]! d[a]! = false)) := ⟨.inr (by rw [Nat.add_sub_cancel]; exact hlv), HQ.2⟩
            clear HQ
            have ea38 : ((q : Int)).toNat = q := by omega
            have pa38 : (0 : Int) ≤ (q : Int) := by omega
            have ba38 : (q : Int) < (n0 : Int) := by omega
            have ra38 : IntKind.i64.wrap ((q : Int)) = (q : Int) := by rw [IntKind.wrap_i64]; omega
            have ec38 : ((a : Int)).toNat = a := by omega
            have pc38 : (0 : Int) ≤ (a : Int) := by omega
            have bc38 : (a : Int) < (n0 : Int) := by omega
            have rc38 : IntKind.i64.wrap ((a : Int)) = (a : Int) := by rw [IntKind.wrap_i64]; omega
            obtain ⟨x38, hx38⟩ : ∃ x, x = d[q]! := ⟨_, rfl⟩
            obtain ⟨y38, hy38⟩ : ∃ x, x = d[a]! := ⟨_, rfl⟩
            have l38a := S1.out.ld R (by omega) P q (by omega)
            have l38b := S1.out.ld R (by omega) P a (by omega)
            rw [← hx38] at l38a
            rw [← hy38] at l38b
            have hc38 := S1.out.cmp HC.out (by omega) x38 y38
            have hv38 : cf x38 y38 < 0 := by rw [hx38, hy38]; exact of_decide_eq_true ((HLK.out _ _ (HXX.out a q (by first | omega | (have := HM; omega)) (by first | omega | (have := HM; omega)) (by first | omega | (have := HM; omega)) (by first | omega | (have := HM; omega)))).symm.trans hlv)
            have hd38 : decide (cf x38 y38 < 0) = true := decide_eq_true hv38
            clear hx38 hy38
            go_wp2_with fail
            go_quiet_grown (first | (go_at_fn g; refine Calls.grown_of (hc38 _ _)))
            have S2 : Aside (SWK enc k w0 blk off d (grow (wr.drewN nq) osq)) := S1.out.grown nq osq
            clear l38a l38b hc38 S1
            generalize grow (wr.drewN nq) osq = w2 at S2 ⊢
            clear nq osq
            go_wp2
            go_roundg (j - (q + 1))
            case measure => omega
            case rel => exact ⟨q + 1, j, by first | rfl | go_num, rfl, by omega, by omega, hj, Nat.le_refl _, S2, HN⟩
          | false =>
            have HN : Hid ((i = m ∨ lt d[i - 1]! d[a]! = true) ∧ (q = b ∨ lt d[q]! d[a]! = false)) := ⟨HQ.1, .inr hlv⟩
            clear HQ
            have ea38 : ((q : Int)).toNat = q := by omega
            have pa38 : (0 : Int) ≤ (q : Int) := by omega
            have ba38 : (q : Int) < (n0 : Int) := by omega
            have ra38 : IntKind.i64.wrap ((q : Int)) = (q : Int) := by rw [IntKind.wrap_i64]; omega
            have ec38 : ((a : Int)).toNat = a := by omega
            have pc38 : (0 : Int) ≤ (a : Int) := by omega
            have bc38 : (a : Int) < (n0 : Int) := by omega
            have rc38 : IntKind.i64.wrap ((a : Int)) = (a : Int) := by rw [IntKind.wrap_i64]; omega
            obtain ⟨x38, hx38⟩ : ∃ x, x = d[q]! := ⟨_, rfl⟩
            obtain ⟨y38, hy38⟩ : ∃ x, x = d[a]! := ⟨_, rfl⟩
            have l38a := S1.out.ld R (by omega) P q (by omega)
            have l38b := S1.out.ld R (by omega) P a (by omega)
            rw [← hx38] at l38a
            rw [← hy38] at l38b
            have hc38 := S1.out.cmp HC.out (by omega) x38 y38
            have hv38 : ¬ cf x38 y38 < 0 := by rw [hx38, hy38]; exact of_decide_eq_false ((HLK.out _ _ (HXX.out a q (by first | omega | (have := HM; omega)) (by first | omega | (have := HM; omega)) (by first | omega | (have := HM; omega)) (by first | omega | (have := HM; omega)))).symm.trans hlv)
            have hd38 : decide (cf x38 y38 < 0) = false := decide_eq_false hv38
            clear hx38 hy38
            go_wp2_with fail
            go_quiet_grown (first | (go_at_fn g; refine Calls.grown_of (hc38 _ _)))
            have S2 : Aside (SWK enc k w0 blk off d (grow (wr.drewN nq) osq)) := S1.out.grown nq osq
            clear l38a l38b hc38 S1
            generalize grow (wr.drewN nq) osq = w2 at S2 ⊢
            clear nq osq
            go_wp2
            go_roundg (q - i)
            case measure => omega
            case rel => exact ⟨i, q, rfl, by first | rfl | go_num, hi, by omega, by omega, Nat.le_refl _, S2, HN⟩
        · obtain rfl : j = i := by omega
          have w4 : IntKind.i64.wrap ((j : Int) - 1) = ((j - 1 : Nat) : Int) := by rw [IntKind.wrap_i64]; omega
          have HF : Hid (∀ d', (∀ x, d'[x]! = RotF a (a + 1) j (fun x => d[x]!) x) → SortedIn lt a b d') := fun d' hr => front_sorted hO (by rw [HM]; exact H2) (by rw [HM]; exact hi) hj (by rw [HM]; exact HQ.1) HQ.2 hr
          obtain ⟨j1, hj1⟩ : ∃ x, j - 1 = x := ⟨_, rfl⟩
          rw [hj1] at w4
          clear HQ H1 H2
          go_wp2
          go_loopg [13] (j1 - a) (fun kx s13 wr => ∃ (q : Nat) (dk : Array α), s13 = .int .i64 q ∧ a ≤ q ∧ q ≤ j1 ∧ j1 - q ≤ kx ∧ dk.size = d.size ∧ Aside (SWK enc k w0 blk off dk wr) ∧ Hid (PermIn a b d dk ∧ ∀ x, dk[x]! = RotF a (a + 1) (q + 1) (fun x => d[x]!) x))
          case atStart => exact ⟨a, d, rfl, Nat.le_refl _, by have := HM; omega, Nat.le_refl _, rfl, S1, permIn_refl _ _ _, fun x => by rw [rot_none2]⟩
          case round =>
            clear S1
            obtain ⟨q, dk, rfl, hq1, hq2, hkx2, hds, S1, HQ⟩ := hrel
            by_cases hlt2 : q < j1
            · have hltz : (q : Int) < (j1 : Int) := by omega
              obtain ⟨x2, hx2⟩ : ∃ x2, q + 1 = x2 := ⟨_, rfl⟩
              have w5 : IntKind.i64.wrap ((q : Int) + 1) = (x2 : Int) := by rw [IntKind.wrap_i64]; omega
              have HN : Hid (PermIn a b d (swp dk q x2) ∧ ∀ x, (swp dk q x2)[x]! = RotF a (a + 1) (q + 1 + 1) (fun x => d[x]!) x) := by
                rw [← hx2]
                exact ⟨perm_swp HQ.1 (by omega) (by omega) (by omega) (by omega) (by omega), front_next hq1 (by omega) HQ.2⟩
              clear HQ
              have ea44 : ((q : Int)).toNat = q := by omega
              have pa44 : (0 : Int) ≤ (q : Int) := by omega
              have ba44 : (q : Int) < (n0 : Int) := by omega
              have ra44 : IntKind.i64.wrap ((q : Int)) = (q : Int) := by rw [IntKind.wrap_i64]; omega
              have ec44 : ((x2 : Int)).toNat = x2 := by omega
              have pc44 : (0 : Int) ≤ (x2 : Int) := by omega
              have bc44 : (x2 : Int) < (n0 : Int) := by omega
              have rc44 : IntKind.i64.wrap ((x2 : Int)) = (x2 : Int) := by rw [IntKind.wrap_i64]; omega
              have S2 : Aside (SWK enc k w0 blk off (swp dk q x2) ((wr.drew.setCells blk (off + q * k) (enc dk[x2]!)).setCells blk (off + x2 * k) (enc dk[q]!))) := S1.out.swapped R q x2 (by omega) (by omega)
              have l44a := S1.out.ld1 R (by omega) P q (by omega)
              have l44b := S1.out.ld1 R (by omega) P x2 (by omega)
              have s44a := S1.out.st1 R (by omega) P q (by omega) dk[x2]!
              have s44b := S1.out.st2 R (by omega) P q x2 (by omega) (by omega) dk[x2]! dk[q]!
              have n44a : (enc dk[q]!).length = k := R.hk _
              have n44b : (enc dk[x2]!).length = k := R.hk _
              generalize enc dk[q]! = cI44 at S2 l44a s44b n44a
              generalize enc dk[x2]! = cJ44 at S2 l44b s44a s44b n44b
              clear S1
              go_wp2_with fail
              go_big_region_o
              clear l44a l44b s44a s44b
              generalize (wr.drew.setCells blk (off + q * k) cJ44).setCells blk (off + x2 * k) cI44 = w2 at S2 ⊢
              go_wp2
              go_roundg (j1 - (q + 1))
              case measure => omega
              case rel => exact ⟨q + 1, swp dk q x2, by first | rfl | go_num | (congr 1; omega), by omega, by omega, Nat.le_refl _, by rw [size_swp]; exact hds, S2, HN⟩
            · obtain rfl : q = j1 := by omega
              go_wp2
              (try simp only [Exit.inBlock, Exit.then])
              refine bodyPost_ret (results_none rfl _ _ _) rfl ?_
              exact ⟨rfl, dk, S1.out, HQ.1, HF dk (by rw [show q + 1 = j by have := HM; omega] at HQ; exact HQ.2)⟩
    have w1 : IntKind.i64.wrap ((m : Int) - (a : Int)) = ((m - a : Nat) : Int) := by rw [IntKind.wrap_i64]; omega
    have n1 : (((m - a : Nat) : Int) == 1) = false := beq_eq_false_iff_ne.2 (by omega)
    obtain ⟨ma, hma⟩ : ∃ x, m - a = x := ⟨_, rfl⟩
    rw [hma] at w1 n1
    clear hma
    by_cases c2 : b = m + 1
    · subst c2
      have w2 : IntKind.i64.wrap (((m + 1 : Nat) : Int) - (m : Int)) = 1 := by rw [IntKind.wrap_i64]; omega
      obtain ⟨b, hb'⟩ : ∃ b, m + 1 = b := ⟨_, rfl⟩
      rw [hb'] at w2 H2 HXX hb hmb hN ⊢
      have HM : Hid (m + 1 = b) := hb'
      go_enter L.f73, Try.ntmps68
      go_wp2
      go_loopg [14, 15] (m - a) (fun kx s14 s15 wr => ∃ (i j : Nat), s14 = .int .i64 i ∧ s15 = .int .i64 j ∧ a ≤ i ∧ i ≤ j ∧ j ≤ m ∧ j - i ≤ kx ∧ Aside (SWK enc k w0 blk off d wr) ∧ Hid ((i = a ∨ lt d[m]! d[i - 1]! = false) ∧ (j = m ∨ lt d[m]! d[j]! = true)))
      case atStart => exact ⟨a, m, rfl, rfl, Nat.le_refl _, by omega, Nat.le_refl _, Nat.le_refl _, S0, .inl rfl, .inl rfl⟩
      case round =>
        clear S0
        obtain ⟨i, j, rfl, rfl, hi, hij, hj, hkx, S1, HQ⟩ := hrel
        by_cases hlt : i < j
        · have hltz : (i : Int) < (j : Int) := by omega
          have hw1 : IntKind.i64.wrap ((i : Int) + (j : Int)) = (i : Int) + (j : Int) := IntWalk.i64_in _ (by omega)
          have hw2 : IntKind.u64.wrap ((i : Int) + (j : Int)) = (i : Int) + (j : Int) := IntWalk.u64_in _ (by omega)
          obtain ⟨q, hmq⟩ : ∃ m : Nat, ((i : Int) + (j : Int)) / 2 = (m : Int) := ⟨(i + j) / 2, by omega⟩
          have hq : i ≤ q ∧ q < j := by omega
          have w3 : IntKind.i64.wrap ((q : Int) + 1) = ((q + 1 : Nat) : Int) := by rw [IntKind.wrap_i64]; omega
          cases hlv : lt d[m]! d[q]! with
          | true =>
            have HN : Hid ((i = a ∨ lt d[m]! d[i - 1]! = false) ∧ (q = m ∨ lt d[m]! d[q]! = true)) := ⟨HQ.1, .inr hlv⟩
            clear HQ
            have ea38 : ((m : Int)).toNat = m := by omega
            have pa38 : (0 : Int) ≤ (m : Int) := by omega
            have ba38 : (m : Int) < (n0 : Int) := by omega
            have ra38 : IntKind.i64.wrap ((m : Int)) = (m : Int) := by rw [IntKind.wrap_i64]; omega
            have ec38 : ((q : Int)).toNat = q := by omega
            have pc38 : (0 : Int) ≤ (q : Int) := by omega
            have bc38 : (q : Int) < (n0 : Int) := by omega
            have rc38 : IntKind.i64.wrap ((q : Int)) = (q : Int) := by rw [IntKind.wrap_i64]; omega
            obtain ⟨x38, hx38⟩ : ∃ x, x = d[m]! := ⟨_, rfl⟩
            obtain ⟨y38, hy38⟩ : ∃ x, x = d[q]! := ⟨_, rfl⟩
            have l38a := S1.out.ld R (by omega) P m (by omega)
            have l38b := S1.out.ld R (by omega) P q (by omega)
            rw [← hx38] at l38a
            rw [← hy38] at l38b
            have hc38 := S1.out.cmp HC.out (by omega) x38 y38
            have hv38 : cf x38 y38 < 0 := by rw [hx38, hy38]; exact of_decide_eq_true ((HLK.out _ _ (HXX.out q m (by first | omega | (have := HM; omega)) (by first | omega | (have := HM; omega)) (by first | omega | (have := HM; omega)) (by first | omega | (have := HM; omega)))).symm.trans hlv)
            have hd38 : decide (cf x38 y38 < 0) = true := decide_eq_true hv38
            clear hx38 hy38
            go_wp2_with fail
            go_quiet_grown (first | (go_at_fn g; refine Calls.grown_of (hc38 _ _)))
            have S2 : Aside (SWK enc k w0 blk off d (grow (wr.drewN nq) osq)) := S1.out.grown nq osq
            clear l38a l38b hc38 S1
            generalize grow (wr.drewN nq) osq = w2 at S2 ⊢
            clear nq osq
            go_wp2
            go_roundg (q - i)
            case measure => omega
            case rel => exact ⟨i, q, rfl, by first | rfl | go_num, hi, by omega, by omega, Nat.le_refl _, S2, HN⟩
          | false =>
            have HN : Hid ((q + 1 = a ∨ lt d[m]! d[q + 1 - 1]! = false) ∧ (j = m ∨ lt d[m]! d[j]! = true)) := ⟨.inr (by rw [Nat.add_sub_cancel]; exact hlv), HQ.2⟩
            clear HQ
            have ea38 : ((m : Int)).toNat = m := by omega
            have pa38 : (0 : Int) ≤ (m : Int) := by omega
            have ba38 : (m : Int) < (n0 : Int) := by omega
            have ra38 : IntKind.i64.wrap ((m : Int)) = (m : Int) := by rw [IntKind.wrap_i64]; omega
            have ec38 : ((q : Int)).toNat = q := by omega
            have pc38 : (0 : Int) ≤ (q : Int) := by omega
            have bc38 : (q : Int) < (n0 : Int) := by omega
            have rc38 : IntKind.i64.wrap ((q : Int)) = (q : Int) := by rw [IntKind.wrap_i64]; omega
            obtain ⟨x38, hx38⟩ : ∃ x, x = d[m]! := ⟨_, rfl⟩
            obtain ⟨y38, hy38⟩ : ∃ x, x = d[q]! := ⟨_, rfl⟩
            have l38a := S1.out.ld R (by omega) P m (by omega)
            have l38b := S1.out.ld R (by omega) P q (by omega)
            rw [← hx38] at l38a
            rw [← hy38] at l38b
            have hc38 := S1.out.cmp HC.out (by omega) x38 y38
            have hv38 : ¬ cf x38 y38 < 0 := by rw [hx38, hy38]; exact of_decide_eq_false ((HLK.out _ _ (HXX.out q m (by first | omega | (have := HM; omega)) (by first | omega | (have := HM; omega)) (by first | omega | (have := HM; omega)) (by first | omega | (have := HM; omega)))).symm.trans hlv)
            have hd38 : decide (cf x38 y38 < 0) = false := decide_eq_false hv38
            clear hx38 hy38
            go_wp2_with fail
            go_quiet_grown (first | (go_at_fn g; refine Calls.grown_of (hc38 _ _)))
            have S2 : Aside (SWK enc k w0 blk off d (grow (wr.drewN nq) osq)) := S1.out.grown nq osq
            clear l38a l38b hc38 S1
            generalize grow (wr.drewN nq) osq = w2 at S2 ⊢
            clear nq osq
            go_wp2
            go_roundg (j - (q + 1))
            case measure => omega
            case rel => exact ⟨q + 1, j, by first | rfl | go_num, rfl, by omega, by omega, hj, Nat.le_refl _, S2, HN⟩
        · obtain rfl : j = i := by omega
          have HF : Hid (∀ d', (∀ x, d'[x]! = RotF j m (m + 1) (fun x => d[x]!) x) → SortedIn lt a b d') := fun d' hr => by rw [← HM]; exact back_sorted hO H1 hi hj HQ.1 HQ.2 hr
          clear HQ H1 H2
          go_wp2
          go_loopg [17] (m - j) (fun kx s17 wr => ∃ (q : Nat) (dk : Array α), s17 = .int .i64 q ∧ j ≤ q ∧ q ≤ m ∧ q - j ≤ kx ∧ dk.size = d.size ∧ Aside (SWK enc k w0 blk off dk wr) ∧ Hid (PermIn a b d dk ∧ ∀ x, dk[x]! = RotF q m (m + 1) (fun x => d[x]!) x))
          case atStart => exact ⟨m, d, rfl, hj, Nat.le_refl _, Nat.le_refl _, rfl, S1, permIn_refl _ _ _, fun x => by rw [rot_none]⟩
          case round =>
            clear S1
            obtain ⟨q, dk, rfl, hq1, hq2, hkx2, hds, S1, HQ⟩ := hrel
            by_cases hlt2 : j < q
            · have hltz : (j : Int) < (q : Int) := by omega
              obtain ⟨x2, rfl⟩ : ∃ x2, q = x2 + 1 := ⟨q - 1, by omega⟩
              obtain ⟨x1, hx1⟩ : ∃ x1, x2 + 1 = x1 := ⟨_, rfl⟩
              have HN : Hid (PermIn a b d (swp dk x1 x2) ∧ ∀ x, (swp dk x1 x2)[x]! = RotF x2 m (m + 1) (fun x => d[x]!) x) := by
                rw [← hx1]
                have := HM
                exact ⟨perm_swp HQ.1 (by omega) (by omega) (by omega) (by omega) (by omega), back_next (by omega) (by omega) HQ.2⟩
              rw [hx1] at hltz hq2 hkx2 ⊢
              have w5 : IntKind.i64.wrap ((x1 : Int) - 1) = (x2 : Int) := by rw [IntKind.wrap_i64]; omega
              have hbx : x1 < b := by have := HM; omega
              clear HQ
              have ea44 : ((x1 : Int)).toNat = x1 := by omega
              have pa44 : (0 : Int) ≤ (x1 : Int) := by omega
              have ba44 : (x1 : Int) < (n0 : Int) := by omega
              have ra44 : IntKind.i64.wrap ((x1 : Int)) = (x1 : Int) := by rw [IntKind.wrap_i64]; omega
              have ec44 : ((x2 : Int)).toNat = x2 := by omega
              have pc44 : (0 : Int) ≤ (x2 : Int) := by omega
              have bc44 : (x2 : Int) < (n0 : Int) := by omega
              have rc44 : IntKind.i64.wrap ((x2 : Int)) = (x2 : Int) := by rw [IntKind.wrap_i64]; omega
              have S2 : Aside (SWK enc k w0 blk off (swp dk x1 x2) ((wr.drew.setCells blk (off + x1 * k) (enc dk[x2]!)).setCells blk (off + x2 * k) (enc dk[x1]!))) := S1.out.swapped R x1 x2 (by omega) (by omega)
              have l44a := S1.out.ld1 R (by omega) P x1 (by omega)
              have l44b := S1.out.ld1 R (by omega) P x2 (by omega)
              have s44a := S1.out.st1 R (by omega) P x1 (by omega) dk[x2]!
              have s44b := S1.out.st2 R (by omega) P x1 x2 (by omega) (by omega) dk[x2]! dk[x1]!
              have n44a : (enc dk[x1]!).length = k := R.hk _
              have n44b : (enc dk[x2]!).length = k := R.hk _
              generalize enc dk[x1]! = cI44 at S2 l44a s44b n44a
              generalize enc dk[x2]! = cJ44 at S2 l44b s44a s44b n44b
              clear S1
              go_wp2_with fail
              go_big_region_o
              clear l44a l44b s44a s44b
              generalize (wr.drew.setCells blk (off + x1 * k) cJ44).setCells blk (off + x2 * k) cI44 = w2 at S2 ⊢
              go_wp2
              go_roundg (x2 - j)
              case measure => omega
              case rel => exact ⟨x2, swp dk x1 x2, by first | rfl | go_num, by omega, by omega, Nat.le_refl _, by rw [size_swp]; exact hds, S2, HN⟩
            · obtain rfl : q = j := by omega
              go_wp2
              (try simp only [Exit.inBlock, Exit.then])
              refine bodyPost_ret (results_none rfl _ _ _) rfl ?_
              exact ⟨rfl, dk, S1.out, HQ.1, HF dk HQ.2⟩
    have w2 : IntKind.i64.wrap ((b : Int) - (m : Int)) = ((b - m : Nat) : Int) := by rw [IntKind.wrap_i64]; omega
    have n2 : (((b - m : Nat) : Int) == 1) = false := beq_eq_false_iff_ne.2 (by omega)
    obtain ⟨bm, hbm⟩ : ∃ x, b - m = x := ⟨_, rfl⟩
    rw [hbm] at w2 n2
    clear hbm
    have hw1 : IntKind.i64.wrap ((a : Int) + (b : Int)) = (a : Int) + (b : Int) := IntWalk.i64_in _ (by omega)
    have hw2 : IntKind.u64.wrap ((a : Int) + (b : Int)) = (a : Int) + (b : Int) := IntWalk.u64_in _ (by omega)
    obtain ⟨mid, hmmid⟩ : ∃ m : Nat, ((a : Int) + (b : Int)) / 2 = (m : Int) := ⟨(a + b) / 2, by omega⟩
    have rmid : IntKind.i64.wrap ((mid : Int)) = (mid : Int) := by rw [IntKind.wrap_i64]; omega
    obtain ⟨nn, hnn⟩ : ∃ n, mid + m = n := ⟨_, rfl⟩
    have w3 : IntKind.i64.wrap ((mid : Int) + (m : Int)) = (nn : Int) := by rw [IntKind.wrap_i64]; omega
    obtain ⟨p, hp⟩ : ∃ p, nn - 1 = p := ⟨_, rfl⟩
    have w4 : IntKind.i64.wrap ((nn : Int) - 1) = (p : Int) := by rw [IntKind.wrap_i64]; omega
    have key : ∃ lo hi : Nat, lo ≤ hi ∧ hi ≤ m ∧ hi ≤ mid ∧ a ≤ lo ∧ nn ≤ lo + b ∧ (a = lo ∨ lo + b = nn) ∧ (hi = m ∨ hi = mid) ∧ ((mid < m ∧ nn - b = lo ∧ mid = hi) ∨ (¬ mid < m ∧ a = lo ∧ m = hi)) := by
      by_cases c : mid < m
      · exact ⟨nn - b, mid, by omega, by omega, by omega, by omega, by omega, by omega, by omega, .inl ⟨c, rfl, rfl⟩⟩
      · exact ⟨a, m, by omega, by omega, by omega, by omega, by omega, by omega, by omega, .inr ⟨c, rfl, rfl⟩⟩
    obtain ⟨lo, hi, k1, k2, k3, k4, k5, k6, k7, k8⟩ := key
    go_enter L.f73, Try.ntmps68
    rcases k8 with ⟨c, klo, khi⟩ | ⟨c, klo, khi⟩
    obtain ⟨l1, hl1⟩ : ∃ l1, nn - b = l1 := ⟨_, rfl⟩
    have w5 : IntKind.i64.wrap ((nn : Int) - (b : Int)) = (l1 : Int) := by rw [IntKind.wrap_i64]; omega
    have KLO : Aside (l1 = lo) := by rw [← hl1]; exact klo
    have KHI : Aside (mid = hi) := khi
    have cz : (mid : Int) < (m : Int) := by omega
    have K : Aside (a = lo ∨ lo + b = nn) := k6
    have K' : Aside (hi = m ∨ hi = mid) := k7
    clear klo khi hl1 k6 k7
    rotate_left
    have KLO : Aside (a = lo) := klo
    have KHI : Aside (m = hi) := khi
    have cz : ¬ (mid : Int) < (m : Int) := by omega
    have K : Aside (a = lo ∨ lo + b = nn) := .inl klo
    have K' : Aside (hi = m ∨ hi = mid) := .inl khi.symm
    clear klo khi k6 k7
    all_goals go_wp2
    all_goals
      go_loopg [20, 21] (hi - lo) (fun kx s20 s21 wr => ∃ (i j : Nat), s20 = .int .i64 i ∧ s21 = .int .i64 j ∧ lo ≤ i ∧ i ≤ j ∧ j ≤ hi ∧ j - i ≤ kx ∧ Aside (SWK enc k w0 blk off d wr) ∧ Hid ((i = lo ∨ lt d[p - (i - 1)]! d[i - 1]! = false) ∧ (j = hi ∨ lt d[p - j]! d[j]! = true)))
      case atStart => exact ⟨lo, hi, by first | rfl | rw [KLO.out], by first | rfl | rw [KHI.out], Nat.le_refl _, k1, Nat.le_refl _, Nat.le_refl _, S0, .inl rfl, .inl rfl⟩
      case round =>
        clear S0
        obtain ⟨i, j, rfl, rfl, hi1, hij, hj, hkx, S1, HQ⟩ := hrel
        by_cases hlt : i < j
        · have hltz : (i : Int) < (j : Int) := by omega
          have hw1 : IntKind.i64.wrap ((i : Int) + (j : Int)) = (i : Int) + (j : Int) := IntWalk.i64_in _ (by omega)
          have hw2 : IntKind.u64.wrap ((i : Int) + (j : Int)) = (i : Int) + (j : Int) := IntWalk.u64_in _ (by omega)
          obtain ⟨q, hmq⟩ : ∃ m : Nat, ((i : Int) + (j : Int)) / 2 = (m : Int) := ⟨(i + j) / 2, by omega⟩
          have hq : i ≤ q ∧ q < j := by omega
          have w6 : IntKind.i64.wrap ((q : Int) + 1) = ((q + 1 : Nat) : Int) := by rw [IntKind.wrap_i64]; omega
          obtain ⟨xx, hx⟩ : ∃ x, p - q = x := ⟨_, rfl⟩
          have w7 : IntKind.i64.wrap ((p : Int) - (q : Int)) = (xx : Int) := by rw [IntKind.wrap_i64]; omega
          cases hlv : lt d[xx]! d[q]! with
          | true =>
            have HN : Hid ((i = lo ∨ lt d[p - (i - 1)]! d[i - 1]! = false) ∧ (q = hi ∨ lt d[p - q]! d[q]! = true)) := ⟨HQ.1, .inr (by rw [hx]; exact hlv)⟩
            clear HQ
            have ea38 : ((xx : Int)).toNat = xx := by omega
            have pa38 : (0 : Int) ≤ (xx : Int) := by omega
            have ba38 : (xx : Int) < (n0 : Int) := by omega
            have ra38 : IntKind.i64.wrap ((xx : Int)) = (xx : Int) := by rw [IntKind.wrap_i64]; omega
            have ec38 : ((q : Int)).toNat = q := by omega
            have pc38 : (0 : Int) ≤ (q : Int) := by omega
            have bc38 : (q : Int) < (n0 : Int) := by omega
            have rc38 : IntKind.i64.wrap ((q : Int)) = (q : Int) := by rw [IntKind.wrap_i64]; omega
            obtain ⟨x38, hx38⟩ : ∃ x, x = d[xx]! := ⟨_, rfl⟩
            obtain ⟨y38, hy38⟩ : ∃ x, x = d[q]! := ⟨_, rfl⟩
            have l38a := S1.out.ld R (by omega) P xx (by omega)
            have l38b := S1.out.ld R (by omega) P q (by omega)
            rw [← hx38] at l38a
            rw [← hy38] at l38b
            have hc38 := S1.out.cmp HC.out (by omega) x38 y38
            have hv38 : cf x38 y38 < 0 := by rw [hx38, hy38]; exact of_decide_eq_true ((HLK.out _ _ (HXX.out q xx (by first | omega | (have := HM; omega)) (by first | omega | (have := HM; omega)) (by first | omega | (have := HM; omega)) (by first | omega | (have := HM; omega)))).symm.trans hlv)
            have hd38 : decide (cf x38 y38 < 0) = true := decide_eq_true hv38
            clear hx38 hy38
            go_wp2_with fail
            go_quiet_grown (first | (go_at_fn g; refine Calls.grown_of (hc38 _ _)))
            have S2 : Aside (SWK enc k w0 blk off d (grow (wr.drewN nq) osq)) := S1.out.grown nq osq
            clear l38a l38b hc38 S1
            generalize grow (wr.drewN nq) osq = w2 at S2 ⊢
            clear nq osq
            go_wp2
            go_roundg (q - i)
            case measure => omega
            case rel => exact ⟨i, q, rfl, by first | rfl | go_num, hi1, by omega, by omega, Nat.le_refl _, S2, HN⟩
          | false =>
            have HN : Hid ((q + 1 = lo ∨ lt d[p - (q + 1 - 1)]! d[q + 1 - 1]! = false) ∧ (j = hi ∨ lt d[p - j]! d[j]! = true)) := ⟨.inr (by rw [Nat.add_sub_cancel, hx]; exact hlv), HQ.2⟩
            clear HQ
            have ea38 : ((xx : Int)).toNat = xx := by omega
            have pa38 : (0 : Int) ≤ (xx : Int) := by omega
            have ba38 : (xx : Int) < (n0 : Int) := by omega
            have ra38 : IntKind.i64.wrap ((xx : Int)) = (xx : Int) := by rw [IntKind.wrap_i64]; omega
            have ec38 : ((q : Int)).toNat = q := by omega
            have pc38 : (0 : Int) ≤ (q : Int) := by omega
            have bc38 : (q : Int) < (n0 : Int) := by omega
            have rc38 : IntKind.i64.wrap ((q : Int)) = (q : Int) := by rw [IntKind.wrap_i64]; omega
            obtain ⟨x38, hx38⟩ : ∃ x, x = d[xx]! := ⟨_, rfl⟩
            obtain ⟨y38, hy38⟩ : ∃ x, x = d[q]! := ⟨_, rfl⟩
            have l38a := S1.out.ld R (by omega) P xx (by omega)
            have l38b := S1.out.ld R (by omega) P q (by omega)
            rw [← hx38] at l38a
            rw [← hy38] at l38b
            have hc38 := S1.out.cmp HC.out (by omega) x38 y38
            have hv38 : ¬ cf x38 y38 < 0 := by rw [hx38, hy38]; exact of_decide_eq_false ((HLK.out _ _ (HXX.out q xx (by first | omega | (have := HM; omega)) (by first | omega | (have := HM; omega)) (by first | omega | (have := HM; omega)) (by first | omega | (have := HM; omega)))).symm.trans hlv)
            have hd38 : decide (cf x38 y38 < 0) = false := decide_eq_false hv38
            clear hx38 hy38
            go_wp2_with fail
            go_quiet_grown (first | (go_at_fn g; refine Calls.grown_of (hc38 _ _)))
            have S2 : Aside (SWK enc k w0 blk off d (grow (wr.drewN nq) osq)) := S1.out.grown nq osq
            clear l38a l38b hc38 S1
            generalize grow (wr.drewN nq) osq = w2 at S2 ⊢
            clear nq osq
            go_wp2
            go_roundg (j - (q + 1))
            case measure => omega
            case rel => exact ⟨q + 1, j, by first | rfl | go_num, rfl, by omega, by omega, hj, Nat.le_refl _, S2, HN⟩
        · obtain rfl : j = i := by omega
          obtain ⟨e, he⟩ : ∃ e, nn - j = e := ⟨_, rfl⟩
          have w8 : IntKind.i64.wrap ((nn : Int) - (j : Int)) = (e : Int) := by rw [IntKind.wrap_i64]; omega
          have q1 : j ≤ m ∧ j ≤ mid ∧ m ≤ e ∧ mid ≤ e ∧ e ≤ b ∧ a ≤ j ∧ e + j = mid + m := by omega
          have SP : Hid (∀ d', (∀ x, d'[x]! = RotF j m e (fun x => d[x]!) x) → SplitR lt rk a j mid e b d') := fun d' hr => by
            refine sym_splitR hO HXX H1 H2 q1.2.2.2.2.2.1 q1.1 q1.2.2.1 q1.2.2.2.2.1 q1.2.2.2.2.2.2 ?_ ?_ hr
            · rcases HQ.1 with g | g
              · rcases K.out with f | f
                · exact .inl (by omega)
                · exact .inr (.inl (by omega))
              · by_cases f : j = a
                · exact .inl f
                · exact .inr (.inr (by rw [show e = p - (j - 1) by omega]; exact g))
            · rcases HQ.2 with g | g
              · rcases K'.out with f | f
                · exact .inl (by omega)
                · exact .inr (.inl (by omega))
              · by_cases f : e = m
                · exact .inr (.inl f)
                · exact .inr (.inr (by rw [show e - 1 = p - j by omega]; exact g))
          clear HQ H1 H2 k1 k2 k3 k4 k5 K K' KLO KHI hij hj hkx hi1 cz w1 n1 w2 n2 hw1 hw2 w3 w4 hlt
          obtain ⟨q1, q2, q3, q4, q5, q6, q7⟩ := q1
          have cR := fun (h1 : j < m) (h2 : m < e) => rotate_any L enc g cb blk off cap j m e d0 d w0 wr R (by omega) S1.out h1 h2 (by omega) (by omega)
          rw [hs] at cR
          have CR : Aside _ := cR
          clear cR
          by_cases u1 : j < m
          · have u1z : (j : Int) < (m : Int) := by omega
            by_cases u2 : m < e
            · have u2z : (m : Int) < (e : Int) := by omega
              by_cases v1 : a < j
              · have v1z : (a : Int) < (j : Int) := by omega
                by_cases v2 : j < mid
                · have v2z : (j : Int) < (mid : Int) := by omega
                  by_cases y1 : mid < e
                  · have y1z : (mid : Int) < (e : Int) := by omega
                    by_cases y2 : e < b
                    · have y2z : (e : Int) < (b : Int) := by omega
                      have cR := CR.out (by omega) (by omega)
                      clear CR S1
                      go_wp2_with (first
                        | (go_at_call 71; refine cR.mono ?_
                           rintro e5 w5 ⟨rfl, d1, S2, hp, hf⟩
                           have S2 : Aside _ := S2
                           have HS : Hid (SplitR lt rk a j mid e b d1) := SP d1 hf
                           have HP : Hid (PermIn a b d d1) := perm_wide hp (by omega) (by omega) (by omega)
                           clear hp hf SP cR
                           have cL := HI.out a j mid d1 _ (by have := HP.1; omega) S2.out (by omega) (by omega) (by omega) (by have := HP.1; omega) HS.l1 HS.l2 HS.x1
                           clear S2)
                        | (go_at_call 68; refine cL.mono ?_
                           rintro e6 w6 ⟨rfl, d2, S3, hp, hf⟩
                           have S3 : Aside _ := S3
                           have HL : Hid (PermIn a mid d1 d2 ∧ SortedIn lt a mid d2) := ⟨hp, hf⟩
                           clear hp hf cL
                           have cY := HI.out mid e b d2 _ (by have := HP.1; have := HL.1.1; omega) S3.out (by omega) (by omega) (by omega) (by have := HP.1; have := HL.1.1; omega) (sorted_out HS.r1 HL.1 (.inr (Nat.le_refl _))) (sorted_out HS.r2 HL.1 (.inr q4)) (cross_out HS.x2 HL.1 (.inr (Nat.le_refl _)))
                           clear S3)
                        | (go_at_call 68; refine cY.mono ?_
                           rintro e7 w7 ⟨rfl, d3, S4, hp, hf⟩
                           have S4 : Aside _ := S4
                           have HR : Hid (PermIn mid b d2 d3 ∧ SortedIn lt mid b d3) := ⟨hp, hf⟩
                           clear hp hf cY))
                      go_end0
                      exact ⟨rfl, d3, S4.out, perm_trans (perm_trans HP (perm_wide HL.1 (Nat.le_refl _) (by omega) (by have := HP.1; omega))) (perm_wide HR.1 (by omega) (Nat.le_refl _) (by have := HP.1; have := HL.1.1; omega)), split_end (by have := HP.1; omega) HS.cross HL.1 HL.2 HR.1 HR.2⟩
                    · have y2z : ¬ (e : Int) < (b : Int) := by omega
                      have cR := CR.out (by omega) (by omega)
                      clear CR S1
                      go_wp2_with (first
                        | (go_at_call 71; refine cR.mono ?_
                           rintro e5 w5 ⟨rfl, d1, S2, hp, hf⟩
                           have S2 : Aside _ := S2
                           have HS : Hid (SplitR lt rk a j mid e b d1) := SP d1 hf
                           have HP : Hid (PermIn a b d d1) := perm_wide hp (by omega) (by omega) (by omega)
                           clear hp hf SP cR
                           have cL := HI.out a j mid d1 _ (by have := HP.1; omega) S2.out (by omega) (by omega) (by omega) (by have := HP.1; omega) HS.l1 HS.l2 HS.x1
                           clear S2)
                        | (go_at_call 68; refine cL.mono ?_
                           rintro e6 w6 ⟨rfl, d2, S3, hp, hf⟩
                           have S3 : Aside _ := S3
                           have HL : Hid (PermIn a mid d1 d2 ∧ SortedIn lt a mid d2) := ⟨hp, hf⟩
                           clear hp hf cL
                           have HX : ∃ d3, Aside (SWK enc k w0 blk off d3 _) ∧ Hid (PermIn mid b d2 d3 ∧ SortedIn lt mid b d3) := ⟨d2, S3, permIn_refl _ _ _, (by rw [show b = e by omega]; exact sorted_out HS.r1 HL.1 (.inr (Nat.le_refl _)))⟩
                           clear S3
                           obtain ⟨d3, S4, HR⟩ := HX))
                      go_end0
                      exact ⟨rfl, d3, S4.out, perm_trans (perm_trans HP (perm_wide HL.1 (Nat.le_refl _) (by omega) (by have := HP.1; omega))) (perm_wide HR.1 (by omega) (Nat.le_refl _) (by have := HP.1; have := HL.1.1; omega)), split_end (by have := HP.1; omega) HS.cross HL.1 HL.2 HR.1 HR.2⟩
                  · have y1z : ¬ (mid : Int) < (e : Int) := by omega
                    have cR := CR.out (by omega) (by omega)
                    clear CR S1
                    go_wp2_with (first
                      | (go_at_call 71; refine cR.mono ?_
                         rintro e5 w5 ⟨rfl, d1, S2, hp, hf⟩
                         have S2 : Aside _ := S2
                         have HS : Hid (SplitR lt rk a j mid e b d1) := SP d1 hf
                         have HP : Hid (PermIn a b d d1) := perm_wide hp (by omega) (by omega) (by omega)
                         clear hp hf SP cR
                         have cL := HI.out a j mid d1 _ (by have := HP.1; omega) S2.out (by omega) (by omega) (by omega) (by have := HP.1; omega) HS.l1 HS.l2 HS.x1
                         clear S2)
                      | (go_at_call 68; refine cL.mono ?_
                         rintro e6 w6 ⟨rfl, d2, S3, hp, hf⟩
                         have S3 : Aside _ := S3
                         have HL : Hid (PermIn a mid d1 d2 ∧ SortedIn lt a mid d2) := ⟨hp, hf⟩
                         clear hp hf cL
                         have HX : ∃ d3, Aside (SWK enc k w0 blk off d3 _) ∧ Hid (PermIn mid b d2 d3 ∧ SortedIn lt mid b d3) := ⟨d2, S3, permIn_refl _ _ _, (by rw [show mid = e by omega]; exact sorted_out HS.r2 HL.1 (.inr q4))⟩
                         clear S3
                         obtain ⟨d3, S4, HR⟩ := HX))
                    go_end0
                    exact ⟨rfl, d3, S4.out, perm_trans (perm_trans HP (perm_wide HL.1 (Nat.le_refl _) (by omega) (by have := HP.1; omega))) (perm_wide HR.1 (by omega) (Nat.le_refl _) (by have := HP.1; have := HL.1.1; omega)), split_end (by have := HP.1; omega) HS.cross HL.1 HL.2 HR.1 HR.2⟩
                · have v2z : ¬ (j : Int) < (mid : Int) := by omega
                  by_cases y1 : mid < e
                  · have y1z : (mid : Int) < (e : Int) := by omega
                    by_cases y2 : e < b
                    · have y2z : (e : Int) < (b : Int) := by omega
                      have cR := CR.out (by omega) (by omega)
                      clear CR S1
                      go_wp2_with (first
                        | (go_at_call 71; refine cR.mono ?_
                           rintro e5 w5 ⟨rfl, d1, S2, hp, hf⟩
                           have S2 : Aside _ := S2
                           have HS : Hid (SplitR lt rk a j mid e b d1) := SP d1 hf
                           have HP : Hid (PermIn a b d d1) := perm_wide hp (by omega) (by omega) (by omega)
                           clear hp hf SP cR
                           have HX : ∃ d2, Aside (SWK enc k w0 blk off d2 _) ∧ Hid (PermIn a mid d1 d2 ∧ SortedIn lt a mid d2) := ⟨d1, S2, permIn_refl _ _ _, (by rw [show mid = j by omega]; exact HS.l1)⟩
                           clear S2
                           obtain ⟨d2, S3, HL⟩ := HX
                           have cY := HI.out mid e b d2 _ (by have := HP.1; have := HL.1.1; omega) S3.out (by omega) (by omega) (by omega) (by have := HP.1; have := HL.1.1; omega) (sorted_out HS.r1 HL.1 (.inr (Nat.le_refl _))) (sorted_out HS.r2 HL.1 (.inr q4)) (cross_out HS.x2 HL.1 (.inr (Nat.le_refl _)))
                           clear S3)
                        | (go_at_call 68; refine cY.mono ?_
                           rintro e7 w7 ⟨rfl, d3, S4, hp, hf⟩
                           have S4 : Aside _ := S4
                           have HR : Hid (PermIn mid b d2 d3 ∧ SortedIn lt mid b d3) := ⟨hp, hf⟩
                           clear hp hf cY))
                      go_end0
                      exact ⟨rfl, d3, S4.out, perm_trans (perm_trans HP (perm_wide HL.1 (Nat.le_refl _) (by omega) (by have := HP.1; omega))) (perm_wide HR.1 (by omega) (Nat.le_refl _) (by have := HP.1; have := HL.1.1; omega)), split_end (by have := HP.1; omega) HS.cross HL.1 HL.2 HR.1 HR.2⟩
                    · have y2z : ¬ (e : Int) < (b : Int) := by omega
                      have cR := CR.out (by omega) (by omega)
                      clear CR S1
                      go_wp2_with (first
                        | (go_at_call 71; refine cR.mono ?_
                           rintro e5 w5 ⟨rfl, d1, S2, hp, hf⟩
                           have S2 : Aside _ := S2
                           have HS : Hid (SplitR lt rk a j mid e b d1) := SP d1 hf
                           have HP : Hid (PermIn a b d d1) := perm_wide hp (by omega) (by omega) (by omega)
                           clear hp hf SP cR
                           have HX : ∃ d2, Aside (SWK enc k w0 blk off d2 _) ∧ Hid (PermIn a mid d1 d2 ∧ SortedIn lt a mid d2) := ⟨d1, S2, permIn_refl _ _ _, (by rw [show mid = j by omega]; exact HS.l1)⟩
                           clear S2
                           obtain ⟨d2, S3, HL⟩ := HX
                           have HX : ∃ d3, Aside (SWK enc k w0 blk off d3 _) ∧ Hid (PermIn mid b d2 d3 ∧ SortedIn lt mid b d3) := ⟨d2, S3, permIn_refl _ _ _, (by rw [show b = e by omega]; exact sorted_out HS.r1 HL.1 (.inr (Nat.le_refl _)))⟩
                           clear S3
                           obtain ⟨d3, S4, HR⟩ := HX))
                      go_end0
                      exact ⟨rfl, d3, S4.out, perm_trans (perm_trans HP (perm_wide HL.1 (Nat.le_refl _) (by omega) (by have := HP.1; omega))) (perm_wide HR.1 (by omega) (Nat.le_refl _) (by have := HP.1; have := HL.1.1; omega)), split_end (by have := HP.1; omega) HS.cross HL.1 HL.2 HR.1 HR.2⟩
                  · have y1z : ¬ (mid : Int) < (e : Int) := by omega
                    have cR := CR.out (by omega) (by omega)
                    clear CR S1
                    go_wp2_with (first
                      | (go_at_call 71; refine cR.mono ?_
                         rintro e5 w5 ⟨rfl, d1, S2, hp, hf⟩
                         have S2 : Aside _ := S2
                         have HS : Hid (SplitR lt rk a j mid e b d1) := SP d1 hf
                         have HP : Hid (PermIn a b d d1) := perm_wide hp (by omega) (by omega) (by omega)
                         clear hp hf SP cR
                         have HX : ∃ d2, Aside (SWK enc k w0 blk off d2 _) ∧ Hid (PermIn a mid d1 d2 ∧ SortedIn lt a mid d2) := ⟨d1, S2, permIn_refl _ _ _, (by rw [show mid = j by omega]; exact HS.l1)⟩
                         clear S2
                         obtain ⟨d2, S3, HL⟩ := HX
                         have HX : ∃ d3, Aside (SWK enc k w0 blk off d3 _) ∧ Hid (PermIn mid b d2 d3 ∧ SortedIn lt mid b d3) := ⟨d2, S3, permIn_refl _ _ _, (by rw [show mid = e by omega]; exact sorted_out HS.r2 HL.1 (.inr q4))⟩
                         clear S3
                         obtain ⟨d3, S4, HR⟩ := HX))
                    go_end0
                    exact ⟨rfl, d3, S4.out, perm_trans (perm_trans HP (perm_wide HL.1 (Nat.le_refl _) (by omega) (by have := HP.1; omega))) (perm_wide HR.1 (by omega) (Nat.le_refl _) (by have := HP.1; have := HL.1.1; omega)), split_end (by have := HP.1; omega) HS.cross HL.1 HL.2 HR.1 HR.2⟩
              · have v1z : ¬ (a : Int) < (j : Int) := by omega
                by_cases y1 : mid < e
                · have y1z : (mid : Int) < (e : Int) := by omega
                  by_cases y2 : e < b
                  · have y2z : (e : Int) < (b : Int) := by omega
                    have cR := CR.out (by omega) (by omega)
                    clear CR S1
                    go_wp2_with (first
                      | (go_at_call 71; refine cR.mono ?_
                         rintro e5 w5 ⟨rfl, d1, S2, hp, hf⟩
                         have S2 : Aside _ := S2
                         have HS : Hid (SplitR lt rk a j mid e b d1) := SP d1 hf
                         have HP : Hid (PermIn a b d d1) := perm_wide hp (by omega) (by omega) (by omega)
                         clear hp hf SP cR
                         have HX : ∃ d2, Aside (SWK enc k w0 blk off d2 _) ∧ Hid (PermIn a mid d1 d2 ∧ SortedIn lt a mid d2) := ⟨d1, S2, permIn_refl _ _ _, (by rw [show a = j by omega]; exact HS.l2)⟩
                         clear S2
                         obtain ⟨d2, S3, HL⟩ := HX
                         have cY := HI.out mid e b d2 _ (by have := HP.1; have := HL.1.1; omega) S3.out (by omega) (by omega) (by omega) (by have := HP.1; have := HL.1.1; omega) (sorted_out HS.r1 HL.1 (.inr (Nat.le_refl _))) (sorted_out HS.r2 HL.1 (.inr q4)) (cross_out HS.x2 HL.1 (.inr (Nat.le_refl _)))
                         clear S3)
                      | (go_at_call 68; refine cY.mono ?_
                         rintro e7 w7 ⟨rfl, d3, S4, hp, hf⟩
                         have S4 : Aside _ := S4
                         have HR : Hid (PermIn mid b d2 d3 ∧ SortedIn lt mid b d3) := ⟨hp, hf⟩
                         clear hp hf cY))
                    go_end0
                    exact ⟨rfl, d3, S4.out, perm_trans (perm_trans HP (perm_wide HL.1 (Nat.le_refl _) (by omega) (by have := HP.1; omega))) (perm_wide HR.1 (by omega) (Nat.le_refl _) (by have := HP.1; have := HL.1.1; omega)), split_end (by have := HP.1; omega) HS.cross HL.1 HL.2 HR.1 HR.2⟩
                  · have y2z : ¬ (e : Int) < (b : Int) := by omega
                    have cR := CR.out (by omega) (by omega)
                    clear CR S1
                    go_wp2_with (first
                      | (go_at_call 71; refine cR.mono ?_
                         rintro e5 w5 ⟨rfl, d1, S2, hp, hf⟩
                         have S2 : Aside _ := S2
                         have HS : Hid (SplitR lt rk a j mid e b d1) := SP d1 hf
                         have HP : Hid (PermIn a b d d1) := perm_wide hp (by omega) (by omega) (by omega)
                         clear hp hf SP cR
                         have HX : ∃ d2, Aside (SWK enc k w0 blk off d2 _) ∧ Hid (PermIn a mid d1 d2 ∧ SortedIn lt a mid d2) := ⟨d1, S2, permIn_refl _ _ _, (by rw [show a = j by omega]; exact HS.l2)⟩
                         clear S2
                         obtain ⟨d2, S3, HL⟩ := HX
                         have HX : ∃ d3, Aside (SWK enc k w0 blk off d3 _) ∧ Hid (PermIn mid b d2 d3 ∧ SortedIn lt mid b d3) := ⟨d2, S3, permIn_refl _ _ _, (by rw [show b = e by omega]; exact sorted_out HS.r1 HL.1 (.inr (Nat.le_refl _)))⟩
                         clear S3
                         obtain ⟨d3, S4, HR⟩ := HX))
                    go_end0
                    exact ⟨rfl, d3, S4.out, perm_trans (perm_trans HP (perm_wide HL.1 (Nat.le_refl _) (by omega) (by have := HP.1; omega))) (perm_wide HR.1 (by omega) (Nat.le_refl _) (by have := HP.1; have := HL.1.1; omega)), split_end (by have := HP.1; omega) HS.cross HL.1 HL.2 HR.1 HR.2⟩
                · have y1z : ¬ (mid : Int) < (e : Int) := by omega
                  have cR := CR.out (by omega) (by omega)
                  clear CR S1
                  go_wp2_with (first
                    | (go_at_call 71; refine cR.mono ?_
                       rintro e5 w5 ⟨rfl, d1, S2, hp, hf⟩
                       have S2 : Aside _ := S2
                       have HS : Hid (SplitR lt rk a j mid e b d1) := SP d1 hf
                       have HP : Hid (PermIn a b d d1) := perm_wide hp (by omega) (by omega) (by omega)
                       clear hp hf SP cR
                       have HX : ∃ d2, Aside (SWK enc k w0 blk off d2 _) ∧ Hid (PermIn a mid d1 d2 ∧ SortedIn lt a mid d2) := ⟨d1, S2, permIn_refl _ _ _, (by rw [show a = j by omega]; exact HS.l2)⟩
                       clear S2
                       obtain ⟨d2, S3, HL⟩ := HX
                       have HX : ∃ d3, Aside (SWK enc k w0 blk off d3 _) ∧ Hid (PermIn mid b d2 d3 ∧ SortedIn lt mid b d3) := ⟨d2, S3, permIn_refl _ _ _, (by rw [show mid = e by omega]; exact sorted_out HS.r2 HL.1 (.inr q4))⟩
                       clear S3
                       obtain ⟨d3, S4, HR⟩ := HX))
                  go_end0
                  exact ⟨rfl, d3, S4.out, perm_trans (perm_trans HP (perm_wide HL.1 (Nat.le_refl _) (by omega) (by have := HP.1; omega))) (perm_wide HR.1 (by omega) (Nat.le_refl _) (by have := HP.1; have := HL.1.1; omega)), split_end (by have := HP.1; omega) HS.cross HL.1 HL.2 HR.1 HR.2⟩
            · have u2z : ¬ (m : Int) < (e : Int) := by omega
              by_cases v1 : a < j
              · have v1z : (a : Int) < (j : Int) := by omega
                by_cases v2 : j < mid
                · have v2z : (j : Int) < (mid : Int) := by omega
                  by_cases y1 : mid < e
                  · have y1z : (mid : Int) < (e : Int) := by omega
                    by_cases y2 : e < b
                    · have y2z : (e : Int) < (b : Int) := by omega
                      exfalso
                      omega
                    · have y2z : ¬ (e : Int) < (b : Int) := by omega
                      exfalso
                      omega
                  · have y1z : ¬ (mid : Int) < (e : Int) := by omega
                    exfalso
                    omega
                · have v2z : ¬ (j : Int) < (mid : Int) := by omega
                  by_cases y1 : mid < e
                  · have y1z : (mid : Int) < (e : Int) := by omega
                    by_cases y2 : e < b
                    · have y2z : (e : Int) < (b : Int) := by omega
                      have HX : ∃ d1, Aside (SWK enc k w0 blk off d1 wr) ∧ Hid (SplitR lt rk a j mid e b d1) ∧ Hid (PermIn a b d d1) := ⟨d, S1, SP d (fun x => by rw [show e = m by omega, rot_none2]), permIn_refl _ _ _⟩
                      clear S1 SP CR
                      obtain ⟨d1, S2, HS, HP⟩ := HX
                      have HX : ∃ d2, Aside (SWK enc k w0 blk off d2 _) ∧ Hid (PermIn a mid d1 d2 ∧ SortedIn lt a mid d2) := ⟨d1, S2, permIn_refl _ _ _, (by rw [show mid = j by omega]; exact HS.l1)⟩
                      clear S2
                      obtain ⟨d2, S3, HL⟩ := HX
                      have cY := HI.out mid e b d2 _ (by have := HP.1; have := HL.1.1; omega) S3.out (by omega) (by omega) (by omega) (by have := HP.1; have := HL.1.1; omega) (sorted_out HS.r1 HL.1 (.inr (Nat.le_refl _))) (sorted_out HS.r2 HL.1 (.inr q4)) (cross_out HS.x2 HL.1 (.inr (Nat.le_refl _)))
                      clear S3
                      go_wp2_with (first
                        | (go_at_call 68; refine cY.mono ?_
                           rintro e7 w7 ⟨rfl, d3, S4, hp, hf⟩
                           have S4 : Aside _ := S4
                           have HR : Hid (PermIn mid b d2 d3 ∧ SortedIn lt mid b d3) := ⟨hp, hf⟩
                           clear hp hf cY))
                      go_end0
                      exact ⟨rfl, d3, S4.out, perm_trans (perm_trans HP (perm_wide HL.1 (Nat.le_refl _) (by omega) (by have := HP.1; omega))) (perm_wide HR.1 (by omega) (Nat.le_refl _) (by have := HP.1; have := HL.1.1; omega)), split_end (by have := HP.1; omega) HS.cross HL.1 HL.2 HR.1 HR.2⟩
                    · have y2z : ¬ (e : Int) < (b : Int) := by omega
                      exfalso
                      omega
                  · have y1z : ¬ (mid : Int) < (e : Int) := by omega
                    have HX : ∃ d1, Aside (SWK enc k w0 blk off d1 wr) ∧ Hid (SplitR lt rk a j mid e b d1) ∧ Hid (PermIn a b d d1) := ⟨d, S1, SP d (fun x => by rw [show e = m by omega, rot_none2]), permIn_refl _ _ _⟩
                    clear S1 SP CR
                    obtain ⟨d1, S2, HS, HP⟩ := HX
                    have HX : ∃ d2, Aside (SWK enc k w0 blk off d2 _) ∧ Hid (PermIn a mid d1 d2 ∧ SortedIn lt a mid d2) := ⟨d1, S2, permIn_refl _ _ _, (by rw [show mid = j by omega]; exact HS.l1)⟩
                    clear S2
                    obtain ⟨d2, S3, HL⟩ := HX
                    have HX : ∃ d3, Aside (SWK enc k w0 blk off d3 _) ∧ Hid (PermIn mid b d2 d3 ∧ SortedIn lt mid b d3) := ⟨d2, S3, permIn_refl _ _ _, (by rw [show mid = e by omega]; exact sorted_out HS.r2 HL.1 (.inr q4))⟩
                    clear S3
                    obtain ⟨d3, S4, HR⟩ := HX
                    go_wp2
                    go_end0
                    exact ⟨rfl, d3, S4.out, perm_trans (perm_trans HP (perm_wide HL.1 (Nat.le_refl _) (by omega) (by have := HP.1; omega))) (perm_wide HR.1 (by omega) (Nat.le_refl _) (by have := HP.1; have := HL.1.1; omega)), split_end (by have := HP.1; omega) HS.cross HL.1 HL.2 HR.1 HR.2⟩
              · have v1z : ¬ (a : Int) < (j : Int) := by omega
                by_cases y1 : mid < e
                · have y1z : (mid : Int) < (e : Int) := by omega
                  by_cases y2 : e < b
                  · have y2z : (e : Int) < (b : Int) := by omega
                    have HX : ∃ d1, Aside (SWK enc k w0 blk off d1 wr) ∧ Hid (SplitR lt rk a j mid e b d1) ∧ Hid (PermIn a b d d1) := ⟨d, S1, SP d (fun x => by rw [show e = m by omega, rot_none2]), permIn_refl _ _ _⟩
                    clear S1 SP CR
                    obtain ⟨d1, S2, HS, HP⟩ := HX
                    have HX : ∃ d2, Aside (SWK enc k w0 blk off d2 _) ∧ Hid (PermIn a mid d1 d2 ∧ SortedIn lt a mid d2) := ⟨d1, S2, permIn_refl _ _ _, (by rw [show a = j by omega]; exact HS.l2)⟩
                    clear S2
                    obtain ⟨d2, S3, HL⟩ := HX
                    have cY := HI.out mid e b d2 _ (by have := HP.1; have := HL.1.1; omega) S3.out (by omega) (by omega) (by omega) (by have := HP.1; have := HL.1.1; omega) (sorted_out HS.r1 HL.1 (.inr (Nat.le_refl _))) (sorted_out HS.r2 HL.1 (.inr q4)) (cross_out HS.x2 HL.1 (.inr (Nat.le_refl _)))
                    clear S3
                    go_wp2_with (first
                      | (go_at_call 68; refine cY.mono ?_
                         rintro e7 w7 ⟨rfl, d3, S4, hp, hf⟩
                         have S4 : Aside _ := S4
                         have HR : Hid (PermIn mid b d2 d3 ∧ SortedIn lt mid b d3) := ⟨hp, hf⟩
                         clear hp hf cY))
                    go_end0
                    exact ⟨rfl, d3, S4.out, perm_trans (perm_trans HP (perm_wide HL.1 (Nat.le_refl _) (by omega) (by have := HP.1; omega))) (perm_wide HR.1 (by omega) (Nat.le_refl _) (by have := HP.1; have := HL.1.1; omega)), split_end (by have := HP.1; omega) HS.cross HL.1 HL.2 HR.1 HR.2⟩
                  · have y2z : ¬ (e : Int) < (b : Int) := by omega
                    exfalso
                    omega
                · have y1z : ¬ (mid : Int) < (e : Int) := by omega
                  have HX : ∃ d1, Aside (SWK enc k w0 blk off d1 wr) ∧ Hid (SplitR lt rk a j mid e b d1) ∧ Hid (PermIn a b d d1) := ⟨d, S1, SP d (fun x => by rw [show e = m by omega, rot_none2]), permIn_refl _ _ _⟩
                  clear S1 SP CR
                  obtain ⟨d1, S2, HS, HP⟩ := HX
                  have HX : ∃ d2, Aside (SWK enc k w0 blk off d2 _) ∧ Hid (PermIn a mid d1 d2 ∧ SortedIn lt a mid d2) := ⟨d1, S2, permIn_refl _ _ _, (by rw [show a = j by omega]; exact HS.l2)⟩
                  clear S2
                  obtain ⟨d2, S3, HL⟩ := HX
                  have HX : ∃ d3, Aside (SWK enc k w0 blk off d3 _) ∧ Hid (PermIn mid b d2 d3 ∧ SortedIn lt mid b d3) := ⟨d2, S3, permIn_refl _ _ _, (by rw [show mid = e by omega]; exact sorted_out HS.r2 HL.1 (.inr q4))⟩
                  clear S3
                  obtain ⟨d3, S4, HR⟩ := HX
                  go_wp2
                  go_end0
                  exact ⟨rfl, d3, S4.out, perm_trans (perm_trans HP (perm_wide HL.1 (Nat.le_refl _) (by omega) (by have := HP.1; omega))) (perm_wide HR.1 (by omega) (Nat.le_refl _) (by have := HP.1; have := HL.1.1; omega)), split_end (by have := HP.1; omega) HS.cross HL.1 HL.2 HR.1 HR.2⟩
          · have u1z : ¬ (j : Int) < (m : Int) := by omega
            by_cases v1 : a < j
            · have v1z : (a : Int) < (j : Int) := by omega
              by_cases v2 : j < mid
              · have v2z : (j : Int) < (mid : Int) := by omega
                by_cases y1 : mid < e
                · have y1z : (mid : Int) < (e : Int) := by omega
                  by_cases y2 : e < b
                  · have y2z : (e : Int) < (b : Int) := by omega
                    exfalso
                    omega
                  · have y2z : ¬ (e : Int) < (b : Int) := by omega
                    exfalso
                    omega
                · have y1z : ¬ (mid : Int) < (e : Int) := by omega
                  have HX : ∃ d1, Aside (SWK enc k w0 blk off d1 wr) ∧ Hid (SplitR lt rk a j mid e b d1) ∧ Hid (PermIn a b d d1) := ⟨d, S1, SP d (fun x => by rw [show j = m by omega, rot_none]), permIn_refl _ _ _⟩
                  clear S1 SP CR
                  obtain ⟨d1, S2, HS, HP⟩ := HX
                  have cL := HI.out a j mid d1 _ (by have := HP.1; omega) S2.out (by omega) (by omega) (by omega) (by have := HP.1; omega) HS.l1 HS.l2 HS.x1
                  clear S2
                  go_wp2_with (first
                    | (go_at_call 68; refine cL.mono ?_
                       rintro e6 w6 ⟨rfl, d2, S3, hp, hf⟩
                       have S3 : Aside _ := S3
                       have HL : Hid (PermIn a mid d1 d2 ∧ SortedIn lt a mid d2) := ⟨hp, hf⟩
                       clear hp hf cL
                       have HX : ∃ d3, Aside (SWK enc k w0 blk off d3 _) ∧ Hid (PermIn mid b d2 d3 ∧ SortedIn lt mid b d3) := ⟨d2, S3, permIn_refl _ _ _, (by rw [show mid = e by omega]; exact sorted_out HS.r2 HL.1 (.inr q4))⟩
                       clear S3
                       obtain ⟨d3, S4, HR⟩ := HX))
                  go_end0
                  exact ⟨rfl, d3, S4.out, perm_trans (perm_trans HP (perm_wide HL.1 (Nat.le_refl _) (by omega) (by have := HP.1; omega))) (perm_wide HR.1 (by omega) (Nat.le_refl _) (by have := HP.1; have := HL.1.1; omega)), split_end (by have := HP.1; omega) HS.cross HL.1 HL.2 HR.1 HR.2⟩
              · have v2z : ¬ (j : Int) < (mid : Int) := by omega
                by_cases y1 : mid < e
                · have y1z : (mid : Int) < (e : Int) := by omega
                  by_cases y2 : e < b
                  · have y2z : (e : Int) < (b : Int) := by omega
                    exfalso
                    omega
                  · have y2z : ¬ (e : Int) < (b : Int) := by omega
                    exfalso
                    omega
                · have y1z : ¬ (mid : Int) < (e : Int) := by omega
                  have HX : ∃ d1, Aside (SWK enc k w0 blk off d1 wr) ∧ Hid (SplitR lt rk a j mid e b d1) ∧ Hid (PermIn a b d d1) := ⟨d, S1, SP d (fun x => by rw [show j = m by omega, rot_none]), permIn_refl _ _ _⟩
                  clear S1 SP CR
                  obtain ⟨d1, S2, HS, HP⟩ := HX
                  have HX : ∃ d2, Aside (SWK enc k w0 blk off d2 _) ∧ Hid (PermIn a mid d1 d2 ∧ SortedIn lt a mid d2) := ⟨d1, S2, permIn_refl _ _ _, (by rw [show mid = j by omega]; exact HS.l1)⟩
                  clear S2
                  obtain ⟨d2, S3, HL⟩ := HX
                  have HX : ∃ d3, Aside (SWK enc k w0 blk off d3 _) ∧ Hid (PermIn mid b d2 d3 ∧ SortedIn lt mid b d3) := ⟨d2, S3, permIn_refl _ _ _, (by rw [show mid = e by omega]; exact sorted_out HS.r2 HL.1 (.inr q4))⟩
                  clear S3
                  obtain ⟨d3, S4, HR⟩ := HX
                  go_wp2
                  go_end0
                  exact ⟨rfl, d3, S4.out, perm_trans (perm_trans HP (perm_wide HL.1 (Nat.le_refl _) (by omega) (by have := HP.1; omega))) (perm_wide HR.1 (by omega) (Nat.le_refl _) (by have := HP.1; have := HL.1.1; omega)), split_end (by have := HP.1; omega) HS.cross HL.1 HL.2 HR.1 HR.2⟩
            · have v1z : ¬ (a : Int) < (j : Int) := by omega
              by_cases y1 : mid < e
              · have y1z : (mid : Int) < (e : Int) := by omega
                by_cases y2 : e < b
                · have y2z : (e : Int) < (b : Int) := by omega
                  exfalso
                  omega
                · have y2z : ¬ (e : Int) < (b : Int) := by omega
                  exfalso
                  omega
              · have y1z : ¬ (mid : Int) < (e : Int) := by omega
                exfalso
                omega
end Go.Proofs.Ytcendcegmhliaaa.Ord
