/-
  Slices' stable sort: ranges sorted by insertion; all of it.
-/
import Derived.Test.YtcendcegmhliaaaOMerge
namespace Go.Proofs.Ytcendcegmhliaaa.Ord
open Go.Shelf Go.RowKit Go.Lib Go.Sort _root_.Go.Proofs.Ytcendcegmhliaaa.Gnd
variable {P : Program} {α : Type} [Inhabited α]
set_option maxHeartbeats 4000000 in
set_option maxRecDepth 1000000 in
theorem insertion_any {k : Nat} (L : SortAt P k) (enc : α → List Value) (cf : α → α → Int) (lt : α → α → Bool) (rk : α → Nat) (hlk : ∀ x y, rk x < rk y → lt y x = ltOf cf y x) (g : Nat) (cb : Array Value) (blk off cap : Nat) (d0 : Array α) (w0 : World) (eg : ∀ args w, (callFunc g args).run P w = .ok (.enter g args) w)
    (hcmp : CmpLays P g cb enc k cf blk off d0.size w0) (R : RowK enc k w0 blk off d0) (hO : SWO lt) (n0 : Nat) (h0 : d0.size = n0) (hsz : n0 < 4611686018427387904) (a b : Nat) (d : Array α) (w : World) (hs : d.size = n0) (S : SWK enc k w0 blk off d w) (hab : a ≤ b) (hb : b ≤ n0) (hrk : RkInc rk a b d) :
    Calls P 67 #[.slice (some ⟨blk, off, none⟩) n0 cap, .int .i64 a, .int .i64 b, .func (.func g) #[] cb] w fun e w' => e = .returned (.tuple #[]) ∧ ∃ d', SWK enc k w0 blk off d' w' ∧ PermIn a b d d' ∧ SortedIn lt a b d' := by
  have mixed := L.mixed; have t0 := L.t0; have a0 := L.a0; have z0 := L.z0; have v0 := L.v0; have t3 := L.t3; have a3 := L.a3; have z3 := L.z3; have v3 := L.v3; have t4 := L.t4; have a4 := L.a4; have z4 := L.z4; have v4 := L.v4; have t22 := L.t22; have a22 := L.a22; have z22 := L.z22; have v22 := L.v22; have t25 := L.t25; have a25 := L.a25; have z25 := L.z25; have v25 := L.v25; have t84 := L.t84; have a84 := L.a84; have z84 := L.z84; have v84 := L.v84; have aE := L.aE; have zE := L.zE
  have HC : Aside _ := hcmp
  have S0 : Aside (SWK enc k w0 blk off d w) := S
  have HE : Hid (PermIn a b d (insertionSort lt d a b) ∧ SortedIn lt a b (insertionSort lt d a b)) := insertionSort_holds hO d a b hab (by omega)
  have HRK : Hid (RkInc rk a b d) := hrk
  have HLK : Aside (∀ x y, rk x < rk y → lt y x = ltOf cf y x) := hlk
  clear S hcmp hrk hlk
  go_enter L.f72, Try.ntmps67
  go_wp2
  go_loopg [8] (b - a) (fun g1 vi wr => ∃ (i : Nat) (dk : Array α), vi = .int .i64 i ∧ a < i ∧ i ≤ b + 1 ∧ b + 1 - i ≤ g1 + 1 ∧ dk.size = n0 ∧ Aside (SWK enc k w0 blk off dk wr) ∧ Hid (insOuter lt a b i dk = insOuter lt a b (a + 1) d) ∧ Hid (PermIn a i d dk))
  case atStart => exact ⟨a + 1, d, by go_num, by omega, by omega, by omega, hs, S0, rfl, permIn_refl _ _ _⟩
  case round =>
    clear S0
    obtain ⟨i, dk, rfl, hai, hib, hg1, hsk, S1, HO, HPK⟩ := hrel
    by_cases hlt : i < b
    · have hltz : (i : Int) < (b : Int) := by omega
      go_wp2
      go_loopg [9] i (fun g2 vj wr => ∃ (j : Nat) (dj : Array α), vj = .int .i64 j ∧ a ≤ j ∧ j ≤ i ∧ j ≤ g2 ∧ dj.size = n0 ∧ Aside (SWK enc k w0 blk off dj wr) ∧ Hid (insInner lt a j dj = insInner lt a i dk) ∧ Hid (Ins a i j d dk dj))
      case atStart => exact ⟨i, dk, rfl, by omega, Nat.le_refl _, Nat.le_refl _, hsk, S1, rfl, Ins.start HPK (by omega)⟩
      case round =>
        clear S1
        obtain ⟨j, dj, rfl, haj, hji, hg2, hsj, S1, HI, HNS⟩ := hrel
        have HPN : Hid (PermIn a (i + 1) d dj) := HNS.perm
        have OUT : Aside ((j ≤ a ∨ lt dj[j]! dj[j - 1]! = false) → Hid (insOuter lt a b (i + 1) dj = insOuter lt a b (a + 1) d)) := fun hs => by
          show _ = _
          rw [← HO.out, insOuter_go _ _ _ _ _ hlt, ← HI.out, insInner_stop _ _ _ _ hs]
        by_cases hja : a < j
        · obtain ⟨jp, rfl⟩ : ∃ jp, j = jp + 1 := ⟨j - 1, by omega⟩
          obtain ⟨x38, hx38⟩ : ∃ x, x = dj[jp + 1]! := ⟨_, rfl⟩
          obtain ⟨y38, hy38⟩ : ∃ x, x = dj[jp]! := ⟨_, rfl⟩
          have hjaz : (a : Int) < ((jp + 1 : Nat) : Int) := by omega
          have hwp : IntKind.i64.wrap (jp : Int) = (jp : Int) := by rw [IntKind.wrap_i64]; omega
          have jz : (jp : Int) + 1 < (n0 : Int) := by omega
          have jz1 : (jp : Int) < (n0 : Int) := by omega
          have hjaz' : (a : Int) < (jp : Int) + 1 := by omega
          have p0 : (0 : Int) ≤ (jp : Int) + 1 := by omega
          have e0 : ((jp : Int) + 1).toNat = jp + 1 := by omega
          have lj := S1.out.ld R (by omega) P (jp + 1) (by omega)
          have lp := S1.out.ld R (by omega) P jp (by omega)
          rw [← hx38] at lj
          rw [← hy38] at lp
          have hcg := S1.out.cmp HC.out (by omega) x38 y38
          have HLV : Aside (lt x38 y38 = ltOf cf x38 y38) := by rw [hx38, hy38]; exact HLK.out _ _ (HNS.rank HPK HRK (by omega) hji hlt (by omega))
          have HNS2 : Hid (Ins a i jp d dk (swp dj (jp + 1) jp)) := HNS.swap (by omega) hji (by omega)
          clear HNS
          by_cases hlv : cf x38 y38 < 0
          · have HN : Hid (insInner lt a jp (swp dj (jp + 1) jp) = insInner lt a i dk) := by
              have := insInner_go lt a (jp + 1) dj hja (by simp only [Nat.add_sub_cancel]; rw [← hx38, ← hy38, HLV.out]; exact decide_eq_true hlv)
              simp only [Nat.add_sub_cancel] at this
              show _ = _
              rw [← HI.out, this]
            have HX : Aside (x38 = dj[jp + 1]! ∧ y38 = dj[jp]!) := ⟨hx38, hy38⟩
            clear hx38 hy38 HI OUT
            go_wp2_with fail
            go_quiet_grown (first | (go_at_fn g; refine Calls.grown_of (hcg _ _)))
            go_wp2_with fail
            have S2 : Aside (SWK enc k w0 blk off dj (grow (wr.drewN nq) osq)) := S1.out.grown nq osq
            clear lj lp hcg S1
            generalize grow (wr.drewN nq) osq = w2 at S2 ⊢
            have S3 : Aside (SWK enc k w0 blk off (swp dj (jp + 1) jp) ((w2.drew.setCells blk (off + (jp + 1) * k) (enc dj[jp]!)).setCells blk (off + jp * k) (enc dj[jp + 1]!))) := S2.out.swapped R (jp + 1) jp (by omega) (by omega)
            have l44a := S2.out.ld1 R (by omega) P (jp + 1) (by omega)
            have l44b := S2.out.ld1 R (by omega) P jp (by omega)
            have s44a := S2.out.st1 R (by omega) P (jp + 1) (by omega) dj[jp]!
            have s44b := S2.out.st2 R (by omega) P (jp + 1) jp (by omega) (by omega) dj[jp]! dj[jp + 1]!
            have n44a : (enc dj[jp + 1]!).length = k := R.hk _
            have n44b : (enc dj[jp]!).length = k := R.hk _
            generalize enc dj[jp + 1]! = cI44 at S3 l44a s44b n44a
            generalize enc dj[jp]! = cJ44 at S3 l44b s44a s44b n44b
            clear S2
            go_big_region_o
            clear l44a l44b s44a s44b
            generalize (w2.drew.setCells blk (off + (jp + 1) * k) cJ44).setCells blk (off + jp * k) cI44 = w3 at S3 ⊢
            all_goals go_wp2
            go_roundg jp
            case measure => omega
            case rel => exact ⟨jp, swp dj (jp + 1) jp, by first | rfl | go_num | (congr 1; omega), by omega, by omega, Nat.le_refl _, by rw [size_swp]; exact hsj, S3, HN, HNS2⟩
          · have HN := OUT.out (.inr (by simp only [Nat.add_sub_cancel]; rw [← hx38, ← hy38, HLV.out]; exact decide_eq_false hlv))
            clear hx38 hy38 HI OUT
            go_wp2_with fail
            go_quiet_grown (first | (go_at_fn g; refine Calls.grown_of (hcg _ _)))
            have S2 : Aside (SWK enc k w0 blk off dj (grow (wr.drewN nq) osq)) := S1.out.grown nq osq
            clear lj lp hcg S1
            generalize grow (wr.drewN nq) osq = w2 at S2 ⊢
            go_wp2
            go_roundg (b - (i + 1))
            case measure => omega
            case rel => exact ⟨i + 1, dj, by go_num, by omega, by omega, by omega, hsj, S2, HN, HPN⟩
        · have hjaz : decide ((j : Int) > (a : Int)) = false := decide_eq_false (by omega)
          have hjaz' : ¬ (a : Int) < (j : Int) := by omega
          have S2 : Aside (SWK enc k w0 blk off dj wr.drew) := S1.out.drew
          have HN := OUT.out (.inl (by omega))
          clear S1 OUT HI
          go_wp2_with fail
          go_big_region_o
          all_goals go_wp2
          go_roundg (b - (i + 1))
          case measure => omega
          case rel => exact ⟨i + 1, dj, by go_num, by omega, by omega, by omega, hsj, S2, HN, HPN⟩
    · have hltz : ¬ (i : Int) < (b : Int) := by omega
      go_wp2
      go_end0
      have e : dk = insertionSort lt d a b := by unfold Go.Sort.insertionSort; rw [← HO.out, insOuter_stop _ _ _ _ _ hlt]
      exact ⟨rfl, dk, S1.out, by rw [e]; exact HE.out.1, by rw [e]; exact HE.out.2⟩
set_option maxHeartbeats 4000000 in
set_option maxRecDepth 1000000 in
theorem stable_any {k : Nat} (L : SortAt P k) (enc : α → List Value) (cf : α → α → Int) (lt : α → α → Bool) (rk : α → Nat) (hlk : ∀ x y, rk x < rk y → lt y x = ltOf cf y x) (g : Nat) (cb : Array Value) (blk off cap : Nat) (d0 : Array α) (w0 : World) (eg : ∀ args w, (callFunc g args).run P w = .ok (.enter g args) w)
    (hcmp : CmpLays P g cb enc k cf blk off d0.size w0) (R : RowK enc k w0 blk off d0) (hO : SWO lt) (n0 : Nat) (h0 : d0.size = n0) (hsz : n0 < 4611686018427387904) (hnb : n0 ≤ 1000000000) (w : World) (S : SWK enc k w0 blk off d0 w) (hrk : RkInc rk 0 n0 d0) :
    Calls P 62 #[.slice (some ⟨blk, off, none⟩) n0 cap, .int .i64 n0, .func (.func g) #[] cb] w fun e w' => e = .returned (.tuple #[]) ∧ ∃ d', SWK enc k w0 blk off d' w' ∧ PermIn 0 n0 d0 d' ∧ SortedIn lt 0 n0 d' := by
  have mixed := L.mixed; have t0 := L.t0; have a0 := L.a0; have z0 := L.z0; have v0 := L.v0; have t3 := L.t3; have a3 := L.a3; have z3 := L.z3; have v3 := L.v3; have t4 := L.t4; have a4 := L.a4; have z4 := L.z4; have v4 := L.v4; have t22 := L.t22; have a22 := L.a22; have z22 := L.z22; have v22 := L.v22; have t25 := L.t25; have a25 := L.a25; have z25 := L.z25; have v25 := L.v25; have t84 := L.t84; have a84 := L.a84; have z84 := L.z84; have v84 := L.v84; have aE := L.aE; have zE := L.zE
  have HC : Aside _ := hcmp
  have S0 : Aside (SWK enc k w0 blk off d0 w) := S
  have e72 : ∀ args w, (callFunc 67 args).run P w = .ok (.enter 67 args) w := enters_of L.f72 (by kernel_rfl) rfl
  have e73 : ∀ args w, (callFunc 68 args).run P w = .ok (.enter 68 args) w := enters_of L.f73 (by kernel_rfl) rfl
  have cI := fun (a b : Nat) (d : Array α) (w : World) => insertion_any L enc cf lt rk hlk g cb blk off cap d0 w0 eg hcmp R hO n0 h0 hsz a b d w
  have cM := symMerge_any L enc cf lt rk hlk g cb blk off cap d0 w0 eg hcmp R hO n0 h0 hsz
  have CI : Aside _ := cI
  have CM : Aside _ := cM
  have HRK : Hid (RkInc rk 0 n0 d0) := hrk
  clear S hcmp cI cM hrk hlk
  go_enter L.f71, Try.ntmps62
  go_wp2
  go_loopg [7, 8] n0 (fun kx s7 s8 wr => ∃ (q a b : Nat) (d : Array α), s7 = .int .i64 a ∧ s8 = .int .i64 b ∧ a = q * 20 ∧ b = a + 20 ∧ a ≤ n0 ∧ n0 - a ≤ kx ∧ d.size = n0 ∧ Aside (SWK enc k w0 blk off d wr) ∧ Hid (PermIn 0 n0 d0 d ∧ Done lt 20 q d) ∧ Hid (RkB rk 20 n0 d ∧ ∀ x, a ≤ x → d[x]! = d0[x]!))
  case atStart => exact ⟨0, 0, 20, d0, rfl, rfl, rfl, rfl, Nat.zero_le _, Nat.le_refl _, h0, S0, ⟨permIn_refl _ _ _, done_none⟩, rkb_start HRK, fun _ _ => rfl⟩
  case round =>
    clear S0
    obtain ⟨q, a, b, d, rfl, rfl, ha, hb, han, hkx, hds, S1, HQ, HRB⟩ := hrel
    have FA : Aside (a = q * 20 ∧ b = a + 20) := ⟨ha, hb⟩
    have hab : a < b := by omega
    clear ha hb
    by_cases hlt : b ≤ n0
    · have hltz : (b : Int) ≤ (n0 : Int) := by omega
      have w1 : IntKind.i64.wrap ((b : Int) + 20) = ((b + 20 : Nat) : Int) := by rw [IntKind.wrap_i64]; omega
      have cS := CI.out a b d wr hds S1.out (by omega) hlt (fun x y h1 h2 h3 => by rw [HRB.2 x h1, HRB.2 y (by omega)]; exact HRK x y (Nat.zero_le _) h2 (by omega))
      clear S1
      go_wp2_with (go_at_call 67; refine cS.mono ?_; rintro e w5 ⟨rfl, d1, S2, hp, hf⟩; clear cS)
      have S2 : Aside _ := S2
      have HRN : Hid (RkB rk 20 n0 d1 ∧ ∀ x, b ≤ x → d1[x]! = d0[x]!) := by
        have h3 := FA.out
        refine ⟨rkb_perm (q := q) HRB.1 (by rw [← h3.1]; exact hp) (by omega) (by omega) (by omega), fun x hx => ?_⟩
        rw [hp.2.1 x (.inr hx)]
        exact HRB.2 x (by omega)
      have HN : Hid (PermIn 0 n0 d0 d1 ∧ Done lt 20 (q + 1) d1) := by
        have h3 := FA.out
        rw [show b = q * 20 + 20 by omega, h3.1] at hp hf
        exact ⟨perm_trans HQ.1 (perm_wide hp (Nat.zero_le _) (by omega) (by omega)), done_next HQ.2 hp hf⟩
      have hd1 : d1.size = n0 := hp.1.trans hds
      clear hp hf HQ
      go_wp2
      go_roundg (n0 - b)
      case measure => omega
      case rel => exact ⟨q + 1, b, b + 20, d1, rfl, by first | rfl | go_num, by have := FA.out; omega, rfl, hlt, Nat.le_refl _, hd1, S2, HN, HRN⟩
    · have hltz : ¬ (b : Int) ≤ (n0 : Int) := by omega
      have cS := CI.out a n0 d wr hds S1.out han (Nat.le_refl _) (fun x y h1 h2 h3 => by rw [HRB.2 x h1, HRB.2 y (by omega)]; exact HRK x y (Nat.zero_le _) h2 h3)
      clear S1
      go_wp2_with (go_at_call 67; refine cS.mono ?_; rintro e w5 ⟨rfl, d1, S2, hp, hf⟩; clear cS)
      have S2 : Aside _ := S2
      have HRN : Hid (RkB rk 20 n0 d1) := by
        have h3 := FA.out
        exact rkb_perm (q := q) HRB.1 (by rw [← h3.1]; exact hp) (by omega) (by omega) (by omega)
      have HN : Hid (PermIn 0 n0 d0 d1 ∧ Blks lt 20 n0 d1) := by
        have h3 := FA.out
        rw [h3.1] at hp hf
        exact ⟨perm_trans HQ.1 (perm_wide hp (Nat.zero_le _) (Nat.le_refl _) (by omega)), done_last HQ.2 (by omega) (by omega) hp hf⟩
      have hd1 : d1.size = n0 := hp.1.trans hds
      clear hp hf HQ hkx han FA hab hltz hlt HRB HRK
      go_loopg [6] n0 (fun kx s6 wr => ∃ (s : Nat) (d : Array α), s6 = .int .i64 s ∧ 1 ≤ s ∧ s ≤ 2000000000 ∧ n0 - s ≤ kx ∧ d.size = n0 ∧ Aside (SWK enc k w0 blk off d wr) ∧ Hid (PermIn 0 n0 d0 d ∧ Blks lt s n0 d) ∧ Hid (RkB rk s n0 d))
      case atStart => exact ⟨20, d1, rfl, by omega, by omega, by omega, hd1, S2, HN, HRN⟩
      case round =>
        clear S2 HN hd1 HRN
        obtain ⟨s, d, rfl, hs1, hs2, hkx, hds, S1, HQ, HRB⟩ := hrel
        by_cases hlt : s < n0
        · have hltz : (s : Int) < (n0 : Int) := by omega
          have w1 : IntKind.i64.wrap (2 * (s : Int)) = ((2 * s : Nat) : Int) := by rw [IntKind.wrap_i64]; omega
          have w2 : IntKind.i64.wrap ((s : Int) * 2) = ((2 * s : Nat) : Int) := by rw [IntKind.wrap_i64]; omega
          obtain ⟨s2, hs3⟩ : ∃ x, 2 * s = x := ⟨_, rfl⟩
          rw [hs3] at w1 w2
          have HS3 : Aside (2 * s = s2) := hs3
          have hs4 : s2 ≤ 2000000000 := by omega
          have HB0 : Hid (PermIn 0 n0 d0 d ∧ Mid lt s n0 0 d) := ⟨HQ.1, mid_first HQ.2⟩
          have HR0 : Hid (RkM rk s n0 0 d) := rkm_first HRB
          clear HQ hs3 HRB
          go_wp2
          go_loopg [7, 8] n0 (fun kx s7 s8 wr => ∃ (q a b : Nat) (d : Array α), s7 = .int .i64 a ∧ s8 = .int .i64 b ∧ a = q * s2 ∧ b = a + s2 ∧ a ≤ n0 ∧ n0 - a ≤ kx ∧ d.size = n0 ∧ Aside (SWK enc k w0 blk off d wr) ∧ Hid (PermIn 0 n0 d0 d ∧ Mid lt s n0 q d) ∧ Hid (RkM rk s n0 q d))
          case atStart => exact ⟨0, 0, s2, d, rfl, rfl, by rw [Nat.zero_mul], by omega, Nat.zero_le _, Nat.le_refl _, hds, S1, HB0, HR0⟩
          case round =>
            clear S1 HB0 HR0
            obtain ⟨q, a, b, d, rfl, rfl, ha, hb, han, hkx2, hds, S1, HQ, HRB⟩ := hrel
            have ha2 : a = q * (2 * s) := by rw [HS3.out]; exact ha
            have hb2 : b = q * (2 * s) + 2 * s := by have := HS3.out; omega
            obtain ⟨m, hm⟩ : ∃ m, a + s = m := ⟨_, rfl⟩
            have hmb : b = m + s := by have := HS3.out; omega
            have w3 : IntKind.i64.wrap ((a : Int) + (s : Int)) = (m : Int) := by rw [IntKind.wrap_i64]; omega
            have w4 : IntKind.i64.wrap ((b : Int) + (s2 : Int)) = ((b + s2 : Nat) : Int) := by rw [IntKind.wrap_i64]; omega
            have FA : Aside (a = q * (2 * s) ∧ b = q * (2 * s) + 2 * s ∧ a + s = m ∧ b = m + s) := ⟨ha2, hb2, hm, hmb⟩
            have fa : a < m ∧ m < b := by omega
            obtain ⟨fa1, fa2⟩ := fa
            have FB : Aside (a = q * s2 ∧ b = a + s2) := ⟨ha, hb⟩
            clear ha hb ha2 hb2 hm hmb
            by_cases hlt2 : b ≤ n0
            · have hltz2 : (b : Int) ≤ (n0 : Int) := by omega
              have cS := CM.out (b - a) a m b d wr hds S1.out (Nat.le_refl _) fa1 fa2 hlt2 (by
                have h1 := HQ.2.left (by have := FA.out; omega)
                rw [← FA.out.1, FA.out.2.2.1] at h1
                exact h1) (by
                have h1 := HQ.2.right
                rw [← FA.out.1, FA.out.2.2.1, FA.out.1, ← FA.out.2.1, Nat.min_eq_left hlt2] at h1
                exact h1) (by rw [FA.out.1]; exact HRB.cross (by have := FA.out; omega) hlt2)
              clear S1
              go_wp2_with (go_at_call 68; refine cS.mono ?_; rintro e w5 ⟨rfl, d1, S2, hp, hf⟩; clear cS)
              have S2 : Aside _ := S2
              have HRN : Hid (RkM rk s n0 (q + 1) d1) := HRB.next (by rw [← FA.out.2.1, ← FA.out.1]; exact hp) (by rw [← FA.out.2.1]; exact hlt2) (by omega)
              have HN : Hid (PermIn 0 n0 d0 d1 ∧ Mid lt s n0 (q + 1) d1) := by
                refine ⟨perm_trans HQ.1 (perm_wide hp (Nat.zero_le _) hlt2 (by omega)), ?_⟩
                rw [FA.out.1, FA.out.2.1] at hp hf
                exact HQ.2.next hp hf
              have hd1 : d1.size = n0 := hp.1.trans hds
              have hq : b = (q + 1) * s2 := by rw [Nat.succ_mul, ← FB.out.1]; exact FB.out.2
              have hlt3 : a < b := by omega
              have HQB : Aside (b = (q + 1) * s2) := hq
              clear hp hf HQ hq
              go_wp2
              go_roundg (n0 - b)
              case measure => omega
              case rel => exact ⟨q + 1, b, b + s2, d1, rfl, by first | rfl | go_num, HQB.out, rfl, hlt2, Nat.le_refl _, hd1, S2, HN, HRN⟩
            · have hltz2 : ¬ (b : Int) ≤ (n0 : Int) := by omega
              by_cases hmn : m < n0
              · have hmz : (m : Int) < (n0 : Int) := by omega
                have cS := CM.out (n0 - a) a m n0 d wr hds S1.out (Nat.le_refl _) fa1 hmn (Nat.le_refl _) (by
                  have h1 := HQ.2.left (by have := FA.out; omega)
                  rw [← FA.out.1, FA.out.2.2.1] at h1
                  exact h1) (by
                  have h1 := HQ.2.right
                  rw [← FA.out.1, FA.out.2.2.1, FA.out.1, ← FA.out.2.1, Nat.min_eq_right (by omega)] at h1
                  exact h1) (by rw [FA.out.1]; exact HRB.cross (by have := FA.out; omega) (Nat.le_refl _))
                clear S1
                go_wp2_with (go_at_call 68; refine cS.mono ?_; rintro e w5 ⟨rfl, d1, S2, hp, hf⟩; clear cS)
                have S2 : Aside _ := S2
                have HRN : Hid (RkB rk s2 n0 d1) := by
                  rw [← HS3.out]
                  exact rkb_perm (q := q) HRB.two (by rw [← FA.out.1]; exact hp) (by have := FA.out; omega) (Nat.le_refl _) (by omega)
                have HN : Hid (PermIn 0 n0 d0 d1 ∧ Blks lt s2 n0 d1) := by
                  refine ⟨perm_trans HQ.1 (perm_wide hp (Nat.zero_le _) (Nat.le_refl _) (by omega)), ?_⟩
                  have h3 := FA.out
                  rw [FA.out.1] at hp hf
                  rw [← HS3.out]
                  exact done_last HQ.2.done (by omega) (by omega) hp hf
                have hd1 : d1.size = n0 := hp.1.trans hds
                have hs5 : s < s2 := by have := HS3.out; omega
                clear hp hf HQ
                go_wp2
                go_roundg (n0 - s2)
                case measure => omega
                case rel => exact ⟨s2, d1, rfl, by omega, by omega, Nat.le_refl _, hd1, S2, HN, HRN⟩
              · have hmz : ¬ (m : Int) < (n0 : Int) := by omega
                have HRN : Hid (RkB rk s2 n0 d) := by rw [← HS3.out]; exact HRB.two
                have HN : Hid (PermIn 0 n0 d0 d ∧ Blks lt s2 n0 d) := by
                  refine ⟨HQ.1, ?_⟩
                  have h3 := FA.out
                  rw [← HS3.out]
                  exact done_last HQ.2.done (by omega) (by omega) (permIn_refl _ _ _) (HQ.2.alone (by omega))
                have hs5 : s < s2 := by have := HS3.out; omega
                clear HQ
                go_wp2
                go_roundg (n0 - s2)
                case measure => omega
                case rel => exact ⟨s2, d, rfl, by omega, by omega, Nat.le_refl _, hds, S1, HN, HRN⟩
        · have hltz : ¬ (s : Int) < (n0 : Int) := by omega
          go_wp2
          go_end0
          exact ⟨rfl, d, S1.out, HQ.1, blks_end HQ.2 (by omega)⟩
end Go.Proofs.Ytcendcegmhliaaa.Ord
