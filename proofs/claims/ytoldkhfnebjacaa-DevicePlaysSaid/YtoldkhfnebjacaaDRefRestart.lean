/-
  The document's device: Restart.
-/
import Derived.Test.YtoldkhfnebjacaaDRefSync
import Derived.Test.YtoldkhfnebjacaaDTearsWalk
import Derived.Test.YtoldkhfnebjacaaLast
namespace Go.Proofs.Ytoldkhfnebjacaa.Disk
open Go.RowKit Go.Maps Gen

/-! ### is a number among some -/
def InRel (ks : List Int) (x : Int) (w : World) (i : Value) (wr : World) : Prop := ∃ k : Nat, k ≤ ks.length ∧ i = .int .i64 (k : Int) ∧ (∀ j (h : j < ks.length), j < k → ks[j] ≠ x) ∧ wr = w
def inB (ks : List Int) (x : Int) : Bool := decide (x ∈ ks)
set_option maxRecDepth 100000 in
theorem in_any (w : World) (A : Option Addr) (n c : Nat) (ks : List Int) (x : Int) (hks : ks.length = n) (hn : n ≤ 9223372036854775807) (hR : IRow w A ks) : Calls Try.prog 44 #[.slice A n c, .int .i64 x] w fun e w' => e = .returned (.bool (inB ks x)) ∧ w = w' := by
  subst hks
  have HR := Lib.hid hR
  clear hR
  go_enter Try.func44, Try.ntmps44
  go_wp2_with fail
  go_loopw [5] (fun i wr => InRel ks x w i wr) (fun i _ => ks.length - (intOf i).toNat)
  case atStart => exact ⟨0, Nat.zero_le _, rfl, fun j _ h => by omega, rfl⟩
  case round =>
    obtain ⟨k, hk, rfl, hno, rfl⟩ := hrel
    have HNO := Lib.hid hno
    clear hno
    by_cases hlt : k < ks.length
    · obtain ⟨b, off, rfl, hb, hc⟩ := HR.out (fun e => by rw [e] at hlt; simp at hlt)
      have hcell := hc k hlt
      have HC := Lib.hid hc
      clear hc
      by_cases e : ks[k] = x
      · have be : (ks[k] == x) = true := by simpa using e
        have HE := Lib.hid (show true = inB ks x by rw [inB, eq_comm, decide_eq_true_iff, ← e]; exact List.getElem_mem hlt)
        clear e
        go_wp2_with fail
        go_ret
        exact ⟨congrArg (fun b => Ending.returned (.bool b)) HE.out, rfl⟩
      · have be : (ks[k] == x) = false := by simpa using e
        have HE := Lib.hid e
        clear e
        go_wp2_with fail
        go_roundw
        case rel => exact ⟨k + 1, hlt, by go_num, fun j hj hjk => by
            by_cases e2 : j = k
            · subst e2; exact HE.out
            · exact HNO.out j hj (by omega), rfl⟩
        case measure => simp [intOf]; omega
    · have HE := Lib.hid (show false = inB ks x by
        rw [inB, eq_comm, decide_eq_false_iff_not]
        intro h
        obtain ⟨j, hj, e⟩ := List.getElem_of_mem h
        exact HNO.out j hj (by omega) e)
      clear HNO
      go_wp2_with fail
      go_ret
      exact ⟨congrArg (fun b => Ending.returned (.bool b)) HE.out, rfl⟩
/-! ### what Restart makes of a device, sector by sector -/
def rstL (s : St) (ks : List Int) (t : Int) (ct : Nat) (x : Int) : Option Bs := match s.C x with
  | some l => if x ∈ ks then laid l else if x = t then laid (torn l ((s.L x).getD zeros) ct) else s.L x
  | none => s.L x
theorem keeps_skip : ∀ (ks : List Int) (s : St) (x : Int), x ∉ ks → (s.keeps ks).L x = s.L x ∧ (s.keeps ks).C x = s.C x
  | [], _, _, _ => ⟨rfl, rfl⟩
  | y :: ks, s, x, h => by
    show (St.keeps (s.keep1 y) ks).L x = s.L x ∧ (St.keeps (s.keep1 y) ks).C x = s.C x
    have hne : x ≠ y := fun e => h (e ▸ List.mem_cons_self ..)
    have h1 : (s.keep1 y).C x = s.C x ∧ (s.keep1 y).L x = s.L x := by
      unfold St.keep1
      split
      · exact ⟨upd_other _ _ hne, upd_other _ _ hne⟩
      · exact ⟨rfl, rfl⟩
    obtain ⟨h2, h3⟩ := keeps_skip ks (s.keep1 y) x (fun hm => h (List.mem_cons_of_mem _ hm))
    exact ⟨h2.trans h1.2, h3.trans h1.1⟩
theorem tear_other (s : St) {t x : Int} (k : Nat) (h : x ≠ t) : (s.tear1 t k).L x = s.L x := by
  unfold St.tear1
  split
  · exact upd_other _ _ h
  · rfl
theorem tear_same_none (s : St) (t : Int) (k : Nat) (h : s.C t = none) : s.tear1 t k = s := by unfold St.tear1; rw [h]
theorem restart_L (s : St) (ks : List Int) (t cut : Int) (x : Int) : (s.restart ks t cut).L x = rstL s ks t (cutN cut) x := by
  show ((s.keeps ks).tear1 t (cutN cut)).L x = _
  unfold rstL
  cases hC : s.C x with
  | none =>
    obtain ⟨h1, h2⟩ := keeps_none ks s x hC
    by_cases e : x = t
    · subst e; rw [tear_same_none _ _ _ h2]; exact h1
    · rw [tear_other _ _ e]; exact h1
  | some l =>
    by_cases hm : x ∈ ks
    · obtain ⟨h1, h2⟩ := keeps_some ks s x l hC hm
      simp only [hm, if_true]
      by_cases e : x = t
      · subst e; rw [tear_same_none _ _ _ h2]; exact h1
      · rw [tear_other _ _ e]; exact h1
    · obtain ⟨h1, h2⟩ := keeps_skip ks s x hm
      simp only [hm, if_false]
      by_cases e : x = t
      · subst e
        rw [if_pos rfl]
        unfold St.tear1
        rw [h2, hC]
        simp only [h1]
        exact upd_same _ _ _
      · rw [if_neg e, tear_other _ _ e]; exact h1
def St.rst (s : St) (ks : List Int) (t : Int) (ct : Nat) (k : Nat) : St := { s with L := fun x => if x < k then rstL s ks t ct x else s.L x, C := fun x => if x < k then none else s.C x }
section
variable {w : World} {rb lb cb ib : Nat} {s : St} {ks : List Int} {t : Int} {ct k : Nat}
theorem rst_zero (h : Ref w rb lb cb ib s) : Ref w rb lb cb ib (s.rst ks t ct 0) :=
  h.congr rfl rfl rfl (fun _ => rfl) (fun i _ => by simp only [St.rst]; rw [if_neg (by omega)]) (fun i _ => by simp only [St.rst]; rw [if_neg (by omega)])
theorem rst_end {cut : Int} (h : Ref w rb lb cb ib (s.rst ks t (cutN cut) s.n)) : Ref ((w.setCell ⟨rb, 3, none⟩ (.bool false)).setCell ⟨rb, 4, none⟩ (.bool false)) rb lb cb ib (s.restart ks t cut) := by
  obtain ⟨left0, hb0, hf0⟩ := h.box
  have h1 := h.box_set (s' := { s.rst ks t (cutN cut) s.n with off := false }) 3 (.bool false) left0 rfl rfl rfl (fun l hb _ => by rw [hb0] at hb; cases hb; rfl) hf0
  have h2 := h1.box_set (s' := { s.rst ks t (cutN cut) s.n with off := false, fused := false }) 4 (.bool false) left0 rfl rfl rfl (fun l hb _ => by
    rw [heap_setCell_box hb0 3 (.bool false)] at hb; cases hb; rfl) (fun e => by cases e)
  refine h2.congr (restart_n s ks t cut) rfl rfl (fun e => by cases e) (fun i hi => ?_) (fun i hi => ?_)
  · have hi' : i < s.n := hi
    rw [restart_L]
    simp only [St.rst]
    rw [if_pos (by omega)]
  · have hi' : i < s.n := hi
    show none = _
    simp only [St.rst]
    rw [if_pos (by omega)]
theorem rst_skip (h : Ref w rb lb cb ib (s.rst ks t ct k)) (hL : rstL s ks t ct (k : Int) = s.L (k : Int)) : Ref (w.setCell ⟨ib, k, none⟩ (.bool false)) rb lb cb ib (s.rst ks t ct (k + 1)) :=
  (h.is_off k).congr rfl rfl rfl (fun _ => rfl) (fun i _ => by
    simp only [St.rst]
    by_cases e : i = k
    · subst e
      rw [if_pos (by omega), if_neg (by omega), hL]
    · by_cases e2 : i < k
      · rw [if_pos (by omega), if_pos (by omega)]
      · rw [if_neg (by omega), if_neg (by omega)]) (fun i _ => by
    simp only [St.rst]
    by_cases e : i = k
    · subst e
      rw [upd_same, if_pos (by omega)]
    · rw [upd_other _ _ (by omega)]
      by_cases e2 : i < k
      · rw [if_pos (by omega), if_pos (by omega)]
      · rw [if_neg (by omega), if_neg (by omega)])
theorem rst_laid (h : Ref w rb lb cb ib (s.rst ks t ct k)) (hk : k < s.n) {A : Option Addr} {c : Nat} {l : Bs} (hL : rstL s ks t ct (k : Int) = laid l) (hl : l.length = 1024) (hc0 : 1024 ≤ c) (hc1 : c ≤ maxLen) (hR : BRow w A l) :
    Ref ((w.setCell ⟨lb, k, none⟩ (.slice A 1024 c)).setCell ⟨ib, k, none⟩ (.bool false)) rb lb cb ib (s.rst ks t ct (k + 1)) :=
  ((h.last_set hk hl hc0 hc1 hR).is_off k).congr rfl rfl rfl (fun _ => rfl) (fun i _ => by
    simp only [St.rst]
    by_cases e : i = k
    · subst e
      rw [if_pos (by omega), upd_same, hL]
    · rw [upd_other _ _ (by omega)]
      by_cases e2 : i < k
      · rw [if_pos (by omega), if_pos (by omega)]
      · rw [if_neg (by omega), if_neg (by omega)]) (fun i _ => by
    simp only [St.rst]
    by_cases e : i = k
    · subst e
      rw [upd_same, if_pos (by omega)]
    · rw [upd_other _ _ (by omega)]
      by_cases e2 : i < k
      · rw [if_pos (by omega), if_pos (by omega)]
      · rw [if_neg (by omega), if_neg (by omega)])
end
/-- A torn sector, in a row of the call's own. -/
theorem torn_row (W : World) (A B : Option Addr) (c d : Nat) (l m : Bs) (ct : Nat) (hl : l.length = 1024) (hm : m.length = 1024) (hct : ct ≤ 1024) (hd : 1024 ≤ d) (hA : BRow W A l) (hB : BRow W B m) :
    ∃ T, (∀ W', (Instr.slice 32 (.slice B 1024 d) (some (.int .i64 ct)) none none).run Try.prog W' = .ok (.slice T (1024 - ct) (d - ct)) W') ∧ ∃ v1 W1 A2 c2 W2,
      (Builtin.append_ #[32, 32] 32 #[.slice (some ⟨W.heap.size, 0, none⟩) 0 0, .slice A ct c]).run Try.prog (W.alloc (.cells #[] 5)) = .ok v1 W1 ∧
      (Builtin.append_ #[32, 32] 32 #[v1, .slice T (1024 - ct) (d - ct)]).run Try.prog W1 = .ok (.slice A2 1024 c2) W2 ∧ 1024 ≤ c2 ∧ c2 ≤ maxLen ∧ BRow W2 A2 (torn l m ct) ∧ Below W.heap.size W W2 ∧ Below W.heap.size W W1 := by
  obtain ⟨b1, o1, rfl, _, _⟩ := hA (len_ne hl)
  obtain ⟨b2, o2, rfl, _, _⟩ := hB (len_ne hm)
  have hT : ∃ T, (∀ W', (Instr.slice 32 (.slice (some ⟨b2, o2, none⟩) 1024 d) (some (.int .i64 ct)) none none).run Try.prog W' = .ok (.slice T (1024 - ct) (d - ct)) W') ∧ BRow W T (m.drop ct) ∧ T ≠ none := by
    refine ⟨if d = ct then some ⟨b2, o2, none⟩ else (some ⟨b2, o2, none⟩ : Option Addr).map (·.add ct), fun W' => ?_, ?_, ?_⟩
    · rw [run_slice_l W' 32 _ 1024 d elem_bytes .i64 (ct : Int) (by omega) (by omega), size_byte]
      unfold sliced
      simp [Result.andThen]
    · intro hne
      have hkl : ct < 1024 := by
        rcases Nat.lt_or_ge ct 1024 with h | h
        · exact h
        · exact absurd (List.drop_eq_nil_of_le (by omega)) hne
      obtain ⟨b, off, e, hb, hcell⟩ := hB (len_ne hm)
      cases e
      rw [if_neg (by omega)]
      refine ⟨b2, o2 + ct, by simp [addr_add], hb, fun j hj => ?_⟩
      rw [List.length_drop] at hj
      rw [Nat.add_assoc, hcell (ct + j) (by omega), List.getElem_drop]
    · split <;> simp
  obtain ⟨T, hT1, hT2, hT3⟩ := hT
  have hb0 : Below W.heap.size W (W.alloc (.cells #[] 5)) := (Below.refl _ _).alloc (Nat.le_refl _) _
  obtain ⟨v1, W1, r1, q1, g1, _⟩ := append_row bytes_elem (W.alloc (.cells #[] 5)) W.heap.size (.slice (some ⟨W.heap.size, 0, none⟩) 0 0) [] (own_none W) (some ⟨b1, o1, none⟩) ct c (l.take ct) (by simp; omega) (fun h => by cases h) (RowG.below (BRow.take hA ct) hb0) (by simp; omega) (by simp)
  have hb1 : Below W.heap.size W W1 := hb0.grown g1 hb0.size (fun j hj => by simp [Value.ownBlock] at hj; omega)
  rw [List.nil_append] at q1
  obtain ⟨v2, W2, r2, q2, g2, _⟩ := append_row bytes_elem W1 W.heap.size v1 (l.take ct) q1 T (1024 - ct) (d - ct) (m.drop ct) (by simp; omega) (fun h => absurd h hT3) (RowG.below hT2 hb1) (by simp; omega) hb1.size
  have hb2 : Below W.heap.size W W2 := below_grown hb1 q1 g2 hb1.size
  have ht : l.take ct ++ m.drop ct = torn l m ct := by
    have e : (l.take ct).length = ct := by simp; omega
    rw [torn, over, e]
  rw [ht] at q2
  obtain ⟨A2, c2, rfl, _, hlc, hcm, hrow⟩ := q2.row
  rw [torn_len hl hm hct] at hlc r2
  exact ⟨T, hT1, v1, W1, A2, c2, W2, r1, r2, hlc, hcm, hrow, hb2, hb1⟩
/-! ### the walk -/
theorem four_keep {w1 : World} {rb o1 o2 cb lb k : Nat} {u v x y : Value} (h1 : w1.cell? ⟨rb, o1, none⟩ = some u) (h2 : w1.cell? ⟨rb, o2, none⟩ = some v) (h3 : w1.cell? ⟨cb, k, none⟩ = some x) (h4 : w1.cell? ⟨lb, k, none⟩ = some y) (hr : rb < w1.heap.size) (hc : cb < w1.heap.size) (hl : lb < w1.heap.size) :
    ∀ W, Below w1.heap.size w1 W → W.cell? ⟨rb, o1, none⟩ = some u ∧ W.cell? ⟨rb, o2, none⟩ = some v ∧ W.cell? ⟨cb, k, none⟩ = some x ∧ W.cell? ⟨lb, k, none⟩ = some y :=
  fun _ m => ⟨(m.cell (p := ⟨rb, o1, none⟩) hr).trans h1, (m.cell (p := ⟨rb, o2, none⟩) hr).trans h2, (m.cell (p := ⟨cb, k, none⟩) hc).trans h3, (m.cell (p := ⟨lb, k, none⟩) hl).trans h4⟩
def RRestRel (w0 : World) (rb lb cb ib N : Nat) (s : St) (ks : List Int) (t : Int) (ct : Nat) (w : World) (i : Value) (wr : World) : Prop :=
  ∃ k : Nat, k ≤ N ∧ i = .int .i64 (k : Int) ∧ RefOn w0 wr rb lb cb ib (s.rst ks t ct k) ∧ Mod [rb, lb, cb, ib] w wr
theorem RefOn.cut {w0 w w' : World} {rb lb cb ib : Nat} {s s' : St} (h : RefOn w0 w rb lb cb ib s) (r : Ref w' rb lb cb ib s') (m : Mod [rb, lb, cb, ib] w w') : RefOn w0 w' rb lb cb ib s' := h.step r m
set_option maxRecDepth 100000 in
set_option maxHeartbeats 8000000 in
theorem rrestart_walk (w0 w : World) (rb lb cb ib N : Nat) (s : St) (hN : s.n = N) (h : RefOn w0 w rb lb cb ib s) (A : Option Addr) (n c : Nat) (t cut : Int) (ks : List Int) (ct : Nat) (hct : cutN cut = ct) (hks : ks.length = n) (hn : n ≤ 9223372036854775807) (hR : IRow w0 A ks) :
    Calls Try.prog 32 #[ptr rb, .slice A n c, .int .i64 t, .int .i64 cut] w fun e w' => e = .returned (.tuple #[]) ∧ Ref w' rb lb cb ib (s.restart ks t cut) ∧ Mod [rb, lb, cb, ib] w w' := by
  have hle := h.ref.nle
  rw [hN] at hle
  have hct2 : ct ≤ 1024 := by rw [← hct]; exact cutN_le cut
  have RF := Lib.hid (h.cut (rst_zero (ks := ks) (t := t) (ct := ct) h.ref) (Mod.refl _ _))
  have HN := Lib.hid hN
  have HCT := Lib.hid hct
  have HKS := Lib.hid hks
  have HR := Lib.hid hR
  have hcase : (decide (cut < 0) = true ∧ ct = 0) ∨ (decide (cut < 0) = false ∧ decide (1024 < cut) = true ∧ ct = 1024) ∨ (decide (cut < 0) = false ∧ decide (1024 < cut) = false ∧ cut = (ct : Int)) := by
    simp only [decide_eq_true_eq, decide_eq_false_iff_not]
    unfold cutN at hct
    omega
  clear h hN hct hks hR
  rcases hcase with ⟨q1, rfl⟩ | ⟨q1, q2, rfl⟩ | ⟨q1, q2, rfl⟩
  all_goals
    go_enter Try.func32, Try.ntmps32
    go_wp2_with fail
  · go_loopw [8] (fun i wr => RRestRel w0 rb lb cb ib N s ks t 0 w i wr) (fun i _ => N - (intOf i).toNat)
    case atStart => exact ⟨0, Nat.zero_le _, rfl, RF.out, Mod.refl _ _⟩
    case round =>
      clear RF
      obtain ⟨k, hk, rfl, r, m⟩ := hrel
      obtain ⟨left, c0, c1, c2, c3, c4, c5, _⟩ := r.ref.cells
      have hn : (s.rst ks t 0 k).n = N := HN.out
      rw [hn] at c0 c1 c2
      have RF := Lib.hid r
      have MM := Lib.hid m
      have hlt := r.ref.lt
      obtain ⟨n1, n2, n3, n4, n5⟩ := r.ref.nes
      have z3 := r.ref.free 3
      have z4 := r.ref.free 4
      clear r m c5 hn
      by_cases hlt2 : k < N
      · have hkn : k < (s.rst ks t 0 k).n := by show k < s.n; have := HN.out; omega
        obtain ⟨hI, hIf⟩ := RF.out.ref.is.at_ hkn
        have hCk : (s.rst ks t 0 k).C (k : Int) = s.C (k : Int) := by simp only [St.rst]; rw [if_neg (by omega)]
        have b0 : decide ((k : Int) < (N : Int)) = true := by simp; omega
        rw [hCk] at hI
        have cI := in_any wr A n c ks (k : Int) HKS.out (by omega) (RowG.below HR.out RF.out.below)
        clear c3 c4 z3 z4
        cases hC : s.C (k : Int) with
        | none =>
          rw [hC] at hI
          simp only [Option.isSome_none] at hI
          have R2 := Lib.hid (rst_skip RF.out.ref (by simp [rstL, hC]))
          have M1 : Hid (Mod [rb, lb, cb, ib] wr (wr.setCell ⟨ib, k, none⟩ (.bool false))) := Lib.hid ((Mod.refl _ _).setCell _ _ (.inl (by simp)))
          have R3 := Lib.hid (RF.out.cut R2.out M1.out)
          have M2 := Lib.hid (MM.out.trans M1.out)
          clear hC hCk hkn RF MM M1 R2 n1 n2 n3 n4 n5
          generalize inB ks (k : Int) = B at cI
          go_wp2_with fail
          refine cI.mono ?_
          rintro e w3 ⟨rfl, rfl⟩
          go_wp2_with fail
          go_roundw
          case rel => exact ⟨k + 1, hlt2, by go_num, R3.out, M2.out⟩
          case measure => simp [intOf]; omega
        | some l =>
          rw [hC] at hI
          simp only [Option.isSome_some] at hI
          obtain ⟨wd, hwd⟩ : ∃ wd, wd = wr.drew := ⟨_, rfl⟩
          have md : Mod [rb, lb, cb, ib] wr wd := by rw [hwd]; exact (Mod.refl _ _).drew
          have rd : RefOn w0 wd rb lb cb ib (s.rst ks t 0 k) := by
            refine RF.out.cut ?_ md
            rw [hwd]; exact RF.out.ref.kept (Mod.refl [] _).drew (fun _ _ => by simp) (fun _ _ _ _ _ _ => by simp)
          obtain ⟨A1, c1', hA, _, hl, hc0, hc1, hRw⟩ := rd.ref.cache.at_ hkn (hCk.trans hC)
          obtain ⟨left', d0, d1, d2, _, _, _, _⟩ := rd.ref.cells
          obtain ⟨hJ, hJf⟩ := rd.ref.is.at_ hkn
          rw [show (s.rst ks t 0 k).n = N from HN.out] at d0 d1 d2
          have HWD := Lib.hid hwd
          have hi0 : (0 : Int) ≤ (k : Int) := by omega
          have hi1 : (k : Int) < (N : Int) := by omega
          by_cases hm : (k : Int) ∈ ks
          · obtain ⟨v0, hv0, hv1⟩ := rd.ref.last.any hkn
            have hin : inB ks (k : Int) = true := decide_eq_true hm
            rw [hin] at cI
            have R2 := Lib.hid (rst_laid rd.ref (by have := HN.out; omega) (by simp [rstL, hC, hm]) hl hc0 hc1 hRw)
            have m4 : Mod [rb, lb, cb, ib] wr ((wd.setCell ⟨lb, k, none⟩ (.slice A1 1024 c1')).setCell ⟨ib, k, none⟩ (.bool false)) := (md.setCell _ _ (.inl (by simp))).setCell _ _ (.inl (by simp))
            have R3 := Lib.hid (RF.out.cut R2.out m4)
            have M2 := Lib.hid (MM.out.trans m4)
            have m3 := mod_set wd lb k (.slice A1 1024 c1')
            have e2 := (m3.cell (p := ⟨rb, 2, none⟩) rd.ref.lt (by simp; exact n1)).trans d2
            have eI := (m3.cell (p := ⟨ib, k, none⟩) rd.ref.is.lt (by simp; exact n4.symm)).trans hJ
            have eIf : (wd.setCell ⟨lb, k, none⟩ (.slice A1 1024 c1')).frozen? ⟨ib, k, none⟩ = false := (World.frozen?_of_block (m3.block ib rd.ref.is.lt (by simp; exact n4.symm))).trans hJf
            have E2 := Lib.hid e2
            have EI := Lib.hid eI
            have EIF := Lib.hid eIf
            clear hC hCk hkn RF MM n1 n2 n3 n4 n5 hl hc0 hc1 hRw m3 m4 e2 eI eIf hwd md rd hJ hJf d2 hin R2 hm
            go_wp2_with fail
            refine cI.mono ?_
            rintro e w3 ⟨rfl, rfl⟩
            go_wp2_with fail
            refine region_tail 13 (by kernel_rfl) (by kernel_rfl) ?_
            intro w3 hw3
            obtain rfl : wd = w3 := HWD.out.trans hw3.symm
            simp only [List.take_succ_cons, List.take_zero, List.drop_succ_cons, List.drop_zero]
            clear c0 c1 c2 hI hIf HWD hw3 cI
            repeat still_step
            refine wpStill_nil ?_
            have e2 := E2.out
            have eI := EI.out
            have eIf := EIF.out
            go_wp2_with fail
            go_roundw
            case rel => exact ⟨k + 1, hlt2, by go_num, R3.out, M2.out⟩
            case measure => simp [intOf]; omega
          · have hin : inB ks (k : Int) = false := decide_eq_false hm
            rw [hin] at cI
            by_cases ht : (k : Int) = t
            · have bt : ((k : Int) == t) = true := by simpa using ht
              obtain ⟨B1, c3', hB, hBf, hlB, hcB, _, hRB⟩ := rd.ref.last.at_ hkn rfl
              have hLk : (s.rst ks t 0 k).L (k : Int) = s.L (k : Int) := by simp only [St.rst]; rw [if_neg (by omega)]
              rw [hLk] at hlB hRB
              obtain ⟨T, hT, v1, W1, A2, c2', W2, q1, q2, q3, q4, q5, q6, q7⟩ := torn_row wd A1 B1 c1' c3' l _ 0 hl hlB (by omega) hcB hRw hRB
              have hhead : ∀ W, (Instr.slice 32 (.slice A1 1024 c1') none (some (.int .i64 0)) none).run Try.prog W = .ok (.slice A1 0 c1') W := fun W => head_run A1 1024 c1' 0 (by omega) W
              have hT2 : ∀ W', (Instr.slice 32 (.slice B1 1024 c3') (some (.int .i64 0)) none none).run Try.prog W' = .ok (.slice T (1024 - 0) (c3' - 0)) W' := hT
              clear hT
              have rd2 := rd.grow q6
              have R2 := Lib.hid (rst_laid rd2.ref (by have := HN.out; omega) (by rw [rstL, hC]; simp only [if_neg hm, if_pos ht]) (torn_len hl hlB (by omega)) q3 q4 q5)
              have m4 : Mod [rb, lb, cb, ib] wr ((W2.setCell ⟨lb, k, none⟩ (.slice A2 1024 c2')).setCell ⟨ib, k, none⟩ (.bool false)) := ((md.trans (Mod.of_below _ q6)).setCell _ _ (.inl (by simp))).setCell _ _ (.inl (by simp))
              have R3 := Lib.hid (RF.out.cut R2.out m4)
              have M2 := Lib.hid (MM.out.trans m4)
              have m3 := mod_set W2 lb k (.slice A2 1024 c2')
              obtain ⟨left2, f0, f1, f2, _, _, _, _⟩ := rd2.ref.cells
              rw [show (s.rst ks t 0 k).n = N from HN.out] at f0 f1 f2
              obtain ⟨hJ2, hJf2⟩ := rd2.ref.is.at_ hkn
              obtain ⟨A1', c1'', hA2, _, _, _, _, _⟩ := rd2.ref.cache.at_ hkn (hCk.trans hC)
              have hA2 := (q6.cell (p := ⟨cb, k, none⟩) rd.ref.cache.lt).trans hA
              obtain ⟨v0, hv0, hv1⟩ := rd2.ref.last.any hkn
              have E0 := Lib.hid ((m3.cell (p := ⟨rb, 0, none⟩) rd2.ref.lt (by simp; exact n1)).trans f0)
              have E1 := Lib.hid ((m3.cell (p := ⟨rb, 1, none⟩) rd2.ref.lt (by simp; exact n1)).trans f1)
              have E2 := Lib.hid ((m3.cell (p := ⟨rb, 2, none⟩) rd2.ref.lt (by simp; exact n1)).trans f2)
              have EA := Lib.hid ((m3.cell (p := ⟨cb, k, none⟩) rd2.ref.cache.lt (by simp; exact rd.ref.ne.symm)).trans hA2)
              have EI := Lib.hid ((m3.cell (p := ⟨ib, k, none⟩) rd2.ref.is.lt (by simp; exact n4.symm)).trans hJ2)
              have EIF : Hid ((W2.setCell ⟨lb, k, none⟩ (.slice A2 1024 c2')).frozen? ⟨ib, k, none⟩ = false) := Lib.hid ((World.frozen?_of_block (m3.block ib rd2.ref.is.lt (by simp; exact n4.symm))).trans hJf2)
              have KS := Lib.hid (four_keep d0 d1 hA hB rd.ref.lt rd.ref.cache.lt rd.ref.last.lt)
              have b0' := (Below.refl wd.heap.size wd).alloc (Nat.le_refl _) (.cells #[] 5)
              have hB0 : wr.cell? ⟨lb, k, none⟩ = some (.slice B1 1024 c3') := by have := hB; rw [hwd] at this; exact this
              have hB1 := (b0'.cell (p := ⟨lb, k, none⟩) rd.ref.last.lt).trans hB
              have hB2 := (q7.cell (p := ⟨lb, k, none⟩) rd.ref.last.lt).trans hB
              have Q1 := Lib.hid q1
              have Q2 := Lib.hid q2
              have B0 := Lib.hid b0'
              have B1' := Lib.hid q7
              have B2' := Lib.hid q6
              have hA0 : wr.cell? ⟨cb, k, none⟩ = some (.slice A1 1024 c1') := by have := hA; rw [hwd] at this; exact this
              have KC := Lib.hid (⟨c0, c1, hA0⟩ : wr.cell? ⟨rb, 0, none⟩ = some (hdr lb N) ∧ wr.cell? ⟨rb, 1, none⟩ = some (hdr cb N) ∧ wr.cell? ⟨cb, k, none⟩ = some (.slice A1 1024 c1'))
              subst hwd
              clear hC hCk hkn RF MM n1 n2 n3 n4 n5 hl hc0 hc1 hRw m3 m4 md rd rd2 hJ hJf hJ2 hJf2 d0 d1 d2 f0 f1 f2 hin hm ht R2 HWD hA hA2 hB hBf hlB hcB hRB hLk q1 q2 q3 q4 q5 q6 q7 b0' hA0
              go_wp2_with fail
              refine cI.mono ?_
              rintro e w3 ⟨rfl, rfl⟩
              go_wp2_with fail
              refine region_last (S := fun w' => w'.cell? ⟨rb, 0, none⟩ = some (hdr lb N) ∧ w'.cell? ⟨rb, 1, none⟩ = some (hdr cb N) ∧ w'.cell? ⟨cb, k, none⟩ = some (.slice A1 1024 c1') ∧ w'.cell? ⟨lb, k, none⟩ = some (.slice B1 1024 c3')) 27 (by kernel_rfl) rfl rfl rfl rfl (by kernel_rfl) (by kernel_rfl) ?_
              intro w3 hw3
              subst hw3
              have hSR := KS.out _ (Below.refl _ _)
              simp only [List.set_cons_zero, List.set_cons_succ]
              refine wpAnyH_take (i := 0) (v := ?_) rfl (by kernel_rfl) (by kernel_rfl) (by kernel_rfl) (fun _ _ _ h => h) (Or.inl ⟨by rfl, ?_⟩) hSR ?_
              rotate_left
              · (intro w' hSw; (try dsimp only at hSw); go_simp; (try with_reducible rfl))
              simp only [Act.put]
              refine wpAnyH_take (i := 1) (v := ?_) rfl (by kernel_rfl) (by kernel_rfl) (by kernel_rfl) (fun _ _ _ h => h) (Or.inl ⟨by rfl, ?_⟩) hSR ?_
              rotate_left
              · (intro w' hSw; (try dsimp only at hSw); go_simp; (try with_reducible rfl))
              simp only [Act.put]
              refine wpAnyH_take (i := 2) (v := ?_) rfl (by kernel_rfl) (by kernel_rfl) (by kernel_rfl) (fun _ _ _ h => h) (Or.inl ⟨by rfl, ?_⟩) hSR ?_
              rotate_left
              · (intro w' hSw; (try dsimp only at hSw); go_simp; (try with_reducible rfl))
              simp only [Act.put]
              refine wpAnyH_take (i := 3) (v := ?_) rfl (by kernel_rfl) (by kernel_rfl) (by kernel_rfl) (fun _ _ _ h => h) (Or.inl ⟨by rfl, ?_⟩) hSR ?_
              rotate_left
              · (intro w' hSw; (try dsimp only at hSw); go_simp; (try with_reducible rfl))
              simp only [Act.put]
              refine wpAnyH_take (i := 4) (v := ?_) rfl (by kernel_rfl) (by kernel_rfl) (by kernel_rfl) (fun _ _ _ h => h) (Or.inl ⟨by rfl, ?_⟩) hSR ?_
              rotate_left
              · (intro w' hSw; (try dsimp only at hSw); go_simp; (try with_reducible rfl))
              simp only [Act.put]
              refine wpAnyH_take (i := 6) (v := ?_) rfl (by kernel_rfl) (by kernel_rfl) (by kernel_rfl) (fun _ _ _ h => h) (Or.inl ⟨by rfl, ?_⟩) hSR ?_
              rotate_left
              · (intro w' hSw; (try dsimp only at hSw); go_simp; (try with_reducible rfl))
              simp only [Act.put]
              refine wpAnyH_take (i := 7) (v := ?_) rfl (by kernel_rfl) (by kernel_rfl) (by kernel_rfl) (fun _ _ _ h => h) (Or.inl ⟨by rfl, ?_⟩) hSR ?_
              rotate_left
              · (intro w' hSw; (try dsimp only at hSw); go_simp; (try with_reducible rfl))
              simp only [Act.put]
              refine wpAnyH_take (i := 8) (v := ?_) rfl (by kernel_rfl) (by kernel_rfl) (by kernel_rfl) (fun _ _ _ h => h) (Or.inl ⟨by rfl, ?_⟩) hSR ?_
              rotate_left
              · (intro w' hSw; (try dsimp only at hSw); go_simp; (try with_reducible rfl))
              simp only [Act.put]
              refine wpAnyH_take (i := 9) (v := ?_) rfl (by kernel_rfl) (by kernel_rfl) (by kernel_rfl) (fun _ _ _ h => h) (Or.inl ⟨by rfl, ?_⟩) hSR ?_
              rotate_left
              · (intro w' hSw; (try dsimp only at hSw); go_simp; (try with_reducible rfl))
              simp only [Act.put]
              refine wpAnyH_take (i := 10) (v := ?_) rfl (by kernel_rfl) (by kernel_rfl) (by kernel_rfl) (fun _ _ _ h => h) (Or.inl ⟨by rfl, ?_⟩) hSR ?_
              rotate_left
              · (intro w' hSw; (try dsimp only at hSw); go_simp; (try with_reducible rfl))
              simp only [Act.put]
              refine wpAnyH_take (i := 11) (v := ?_) rfl (by kernel_rfl) (by kernel_rfl) (by kernel_rfl) (fun _ _ _ h => h) (Or.inl ⟨by rfl, ?_⟩) hSR ?_
              rotate_left
              · (intro w' hSw; (try dsimp only at hSw); go_simp; (try with_reducible rfl))
              simp only [Act.put]
              refine wpAnyH_take (i := 12) (v := ?_) rfl (by kernel_rfl) (by kernel_rfl) (by kernel_rfl) (fun _ _ _ h => h) (Or.inl ⟨by rfl, ?_⟩) hSR ?_
              rotate_left
              · (intro w' hSw; (try dsimp only at hSw); go_simp; (try with_reducible rfl))
              simp only [Act.put]
              refine wpAnyH_take (i := 13) (v := ?_) rfl (by kernel_rfl) (by kernel_rfl) (by kernel_rfl) (fun _ _ _ h => h) (Or.inl ⟨by rfl, ?_⟩) hSR ?_
              rotate_left
              · (intro w' hSw; (try dsimp only at hSw); go_simp; (try with_reducible rfl))
              simp only [Act.put]
              refine wpAnyH_take (i := 14) (v := ?_) rfl (by kernel_rfl) (by kernel_rfl) (by kernel_rfl) (fun _ _ _ h => h) (Or.inl ⟨by rfl, ?_⟩) hSR ?_
              rotate_left
              · (intro w' hSw; (try dsimp only at hSw); go_simp; (try with_reducible rfl))
              simp only [Act.put]
              refine wpAnyH_take (i := 16) (v := ?_) rfl (by kernel_rfl) (by kernel_rfl) (by kernel_rfl) (fun _ _ _ h => h) (Or.inl ⟨by rfl, ?_⟩) hSR ?_
              rotate_left
              · (intro w' hSw; (try dsimp only at hSw); go_simp; (try with_reducible rfl))
              simp only [Act.put]
              refine wpAnyH_take (i := 17) (v := ?_) rfl (by kernel_rfl) (by kernel_rfl) (by kernel_rfl) (fun _ _ _ h => h) (Or.inl ⟨by rfl, ?_⟩) hSR ?_
              rotate_left
              · (intro w' hSw; (try dsimp only at hSw); go_simp; (try with_reducible rfl))
              simp only [Act.put]
              refine wpAnyH_take (i := 18) (v := ?_) rfl (by kernel_rfl) (by kernel_rfl) (by kernel_rfl) (fun _ _ _ h => h) (Or.inl ⟨by rfl, ?_⟩) hSR ?_
              rotate_left
              · (intro w' hSw; (try dsimp only at hSw); go_simp; (try with_reducible rfl))
              simp only [Act.put]
              refine wpAnyH_take (i := 19) (v := ?_) rfl (by kernel_rfl) (by kernel_rfl) (by kernel_rfl) (fun _ _ _ h => h) (Or.inl ⟨by rfl, ?_⟩) hSR ?_
              rotate_left
              · (intro w' hSw; (try dsimp only at hSw); go_simp; (try with_reducible rfl))
              simp only [Act.put]
              refine wpAnyH_take (i := 20) (v := ?_) rfl (by kernel_rfl) (by kernel_rfl) (by kernel_rfl) (fun _ _ _ h => h) (Or.inl ⟨by rfl, ?_⟩) hSR ?_
              rotate_left
              · (intro w' hSw; (try dsimp only at hSw); go_simp; (try with_reducible rfl))
              simp only [Act.put]
              refine wpAnyH_take (i := 21) (v := ?_) rfl (by kernel_rfl) (by kernel_rfl) (by kernel_rfl) (fun _ _ _ h => h) (Or.inl ⟨by rfl, ?_⟩) hSR ?_
              rotate_left
              · (intro w' hSw; (try dsimp only at hSw); go_simp; (try with_reducible rfl))
              simp only [Act.put]
              refine wpAnyH_take (i := 22) (v := ?_) rfl (by kernel_rfl) (by kernel_rfl) (by kernel_rfl) (fun _ _ _ h => h) (Or.inl ⟨by rfl, ?_⟩) hSR ?_
              rotate_left
              · (intro w' hSw; (try dsimp only at hSw); go_simp; (try with_reducible rfl))
              simp only [Act.put]
              refine wpAnyH_take (i := 23) (v := ?_) rfl (by kernel_rfl) (by kernel_rfl) (by kernel_rfl) (fun _ _ _ h => h) (Or.inl ⟨by rfl, ?_⟩) hSR ?_
              rotate_left
              · (intro w' hSw; (try dsimp only at hSw); go_simp; (try with_reducible rfl))
              simp only [Act.put]
              refine wpAnyH_take (i := 24) (v := ?_) rfl (by kernel_rfl) (by kernel_rfl) (by kernel_rfl) (fun _ _ _ h => h) (Or.inl ⟨by rfl, ?_⟩) hSR ?_
              rotate_left
              · (intro w' hSw; (try dsimp only at hSw); go_simp; (try with_reducible rfl))
              simp only [Act.put]
              refine wpAnyH_ready (rs := [5]) (by kernel_rfl) (by simp) (AllReadyH.cons rfl (fun K hK => ?_) AllReadyH.nil)
              go_simp
              refine hK.out _ _ (KS.out _ B0.out) (fun hSR => ?_)
              clear hK K
              refine wpAnyH_ready (rs := [15]) (by kernel_rfl) (by simp) (AllReadyH.cons rfl (fun K hK => ?_) AllReadyH.nil)
              refine step_append2_eq (by rfl) (.tmp 66) (.tmp 75) _ _ (by rfl) (by rfl) (by rfl) Q1.out ?_
              refine hK.out _ _ (KS.out _ B1'.out) (fun hSR => ?_)
              clear hK K
              simp only [Act.put]
              refine wpAnyH_ready (rs := [25]) (by kernel_rfl) (by simp) (AllReadyH.cons rfl (fun K hK => ?_) AllReadyH.nil)
              refine step_append2_eq (by rfl) (.tmp 76) (.tmp 85) _ _ (by rfl) (by rfl) (by rfl) Q2.out ?_
              refine hK.out _ _ (KS.out _ B2'.out) (fun hSR => ?_)
              clear hK K
              simp only [Act.put]
              refine wpAnyH_take (i := 26) (v := ?_) rfl (by kernel_rfl) (by kernel_rfl) (by kernel_rfl) (fun _ _ _ h => h) (Or.inl ⟨by rfl, ?_⟩) hSR ?_
              rotate_left
              · (intro w' hSw; (try dsimp only at hSw); go_simp; (try with_reducible rfl))
              simp only [Act.put]
              refine wpAnyH_take (i := 27) (v := ?_) rfl (by kernel_rfl) (by kernel_rfl) (by kernel_rfl) (fun _ _ _ h => h) (Or.inl ⟨by rfl, ?_⟩) hSR ?_
              rotate_left
              · (intro w' hSw; (try dsimp only at hSw); go_simp; (try with_reducible rfl))
              simp only [Act.put]
              refine wpAnyH_done (by kernel_rfl) ?_ _
              show Oper.wp _ _ _ _ _ _
              unfold Oper.wp
              go_simp
              have e2 := E2.out
              have eI := EI.out
              have eIf := EIF.out
              clear hv0 hv1 hA2
              go_wp2_with fail
              go_roundw
              case rel => exact ⟨k + 1, hlt2, by go_num, R3.out, M2.out⟩
              case measure => simp [intOf]; omega
            · have bt : ((k : Int) == t) = false := by simpa using ht
              have R2 := Lib.hid (rst_skip RF.out.ref (by simp [rstL, hC, hm, ht]))
              have M1 : Hid (Mod [rb, lb, cb, ib] wr (wr.setCell ⟨ib, k, none⟩ (.bool false))) := Lib.hid ((Mod.refl _ _).setCell _ _ (.inl (by simp)))
              have R3 := Lib.hid (RF.out.cut R2.out M1.out)
              have M2 := Lib.hid (MM.out.trans M1.out)
              clear hC hCk hkn RF MM M1 R2 n1 n2 n3 n4 n5 hl hc0 hc1 hRw hA hwd md rd hJ hJf d0 d1 d2 hin HWD hm ht
              go_wp2_with fail
              refine cI.mono ?_
              rintro e w3 ⟨rfl, rfl⟩
              go_wp2_with fail
              go_roundw
              case rel => exact ⟨k + 1, hlt2, by go_num, R3.out, M2.out⟩
              case measure => simp [intOf]; omega
      · obtain rfl : k = N := by omega
        have b0 : decide ((k : Int) < (k : Int)) = false := by simp
        have hend := rst_end (cut := cut) (ks := ks) (t := t) (by rw [HCT.out, HN.out]; exact RF.out.ref)
        have HE := Lib.hid hend
        clear hend
        go_wp2_with fail
        go_end0
        exact ⟨rfl, HE.out, (MM.out.setCell _ _ (.inl (by simp))).setCell _ _ (.inl (by simp))⟩
  · go_loopw [8] (fun i wr => RRestRel w0 rb lb cb ib N s ks t 1024 w i wr) (fun i _ => N - (intOf i).toNat)
    case atStart => exact ⟨0, Nat.zero_le _, rfl, RF.out, Mod.refl _ _⟩
    case round =>
      clear RF
      obtain ⟨k, hk, rfl, r, m⟩ := hrel
      obtain ⟨left, c0, c1, c2, c3, c4, c5, _⟩ := r.ref.cells
      have hn : (s.rst ks t 1024 k).n = N := HN.out
      rw [hn] at c0 c1 c2
      have RF := Lib.hid r
      have MM := Lib.hid m
      have hlt := r.ref.lt
      obtain ⟨n1, n2, n3, n4, n5⟩ := r.ref.nes
      have z3 := r.ref.free 3
      have z4 := r.ref.free 4
      clear r m c5 hn
      by_cases hlt2 : k < N
      · have hkn : k < (s.rst ks t 1024 k).n := by show k < s.n; have := HN.out; omega
        obtain ⟨hI, hIf⟩ := RF.out.ref.is.at_ hkn
        have hCk : (s.rst ks t 1024 k).C (k : Int) = s.C (k : Int) := by simp only [St.rst]; rw [if_neg (by omega)]
        have b0 : decide ((k : Int) < (N : Int)) = true := by simp; omega
        rw [hCk] at hI
        have cI := in_any wr A n c ks (k : Int) HKS.out (by omega) (RowG.below HR.out RF.out.below)
        clear c3 c4 z3 z4
        cases hC : s.C (k : Int) with
        | none =>
          rw [hC] at hI
          simp only [Option.isSome_none] at hI
          have R2 := Lib.hid (rst_skip RF.out.ref (by simp [rstL, hC]))
          have M1 : Hid (Mod [rb, lb, cb, ib] wr (wr.setCell ⟨ib, k, none⟩ (.bool false))) := Lib.hid ((Mod.refl _ _).setCell _ _ (.inl (by simp)))
          have R3 := Lib.hid (RF.out.cut R2.out M1.out)
          have M2 := Lib.hid (MM.out.trans M1.out)
          clear hC hCk hkn RF MM M1 R2 n1 n2 n3 n4 n5
          generalize inB ks (k : Int) = B at cI
          go_wp2_with fail
          refine cI.mono ?_
          rintro e w3 ⟨rfl, rfl⟩
          go_wp2_with fail
          go_roundw
          case rel => exact ⟨k + 1, hlt2, by go_num, R3.out, M2.out⟩
          case measure => simp [intOf]; omega
        | some l =>
          rw [hC] at hI
          simp only [Option.isSome_some] at hI
          obtain ⟨wd, hwd⟩ : ∃ wd, wd = wr.drew := ⟨_, rfl⟩
          have md : Mod [rb, lb, cb, ib] wr wd := by rw [hwd]; exact (Mod.refl _ _).drew
          have rd : RefOn w0 wd rb lb cb ib (s.rst ks t 1024 k) := by
            refine RF.out.cut ?_ md
            rw [hwd]; exact RF.out.ref.kept (Mod.refl [] _).drew (fun _ _ => by simp) (fun _ _ _ _ _ _ => by simp)
          obtain ⟨A1, c1', hA, _, hl, hc0, hc1, hRw⟩ := rd.ref.cache.at_ hkn (hCk.trans hC)
          obtain ⟨left', d0, d1, d2, _, _, _, _⟩ := rd.ref.cells
          obtain ⟨hJ, hJf⟩ := rd.ref.is.at_ hkn
          rw [show (s.rst ks t 1024 k).n = N from HN.out] at d0 d1 d2
          have HWD := Lib.hid hwd
          have hi0 : (0 : Int) ≤ (k : Int) := by omega
          have hi1 : (k : Int) < (N : Int) := by omega
          by_cases hm : (k : Int) ∈ ks
          · obtain ⟨v0, hv0, hv1⟩ := rd.ref.last.any hkn
            have hin : inB ks (k : Int) = true := decide_eq_true hm
            rw [hin] at cI
            have R2 := Lib.hid (rst_laid rd.ref (by have := HN.out; omega) (by simp [rstL, hC, hm]) hl hc0 hc1 hRw)
            have m4 : Mod [rb, lb, cb, ib] wr ((wd.setCell ⟨lb, k, none⟩ (.slice A1 1024 c1')).setCell ⟨ib, k, none⟩ (.bool false)) := (md.setCell _ _ (.inl (by simp))).setCell _ _ (.inl (by simp))
            have R3 := Lib.hid (RF.out.cut R2.out m4)
            have M2 := Lib.hid (MM.out.trans m4)
            have m3 := mod_set wd lb k (.slice A1 1024 c1')
            have e2 := (m3.cell (p := ⟨rb, 2, none⟩) rd.ref.lt (by simp; exact n1)).trans d2
            have eI := (m3.cell (p := ⟨ib, k, none⟩) rd.ref.is.lt (by simp; exact n4.symm)).trans hJ
            have eIf : (wd.setCell ⟨lb, k, none⟩ (.slice A1 1024 c1')).frozen? ⟨ib, k, none⟩ = false := (World.frozen?_of_block (m3.block ib rd.ref.is.lt (by simp; exact n4.symm))).trans hJf
            have E2 := Lib.hid e2
            have EI := Lib.hid eI
            have EIF := Lib.hid eIf
            clear hC hCk hkn RF MM n1 n2 n3 n4 n5 hl hc0 hc1 hRw m3 m4 e2 eI eIf hwd md rd hJ hJf d2 hin R2 hm
            go_wp2_with fail
            refine cI.mono ?_
            rintro e w3 ⟨rfl, rfl⟩
            go_wp2_with fail
            refine region_tail 13 (by kernel_rfl) (by kernel_rfl) ?_
            intro w3 hw3
            obtain rfl : wd = w3 := HWD.out.trans hw3.symm
            simp only [List.take_succ_cons, List.take_zero, List.drop_succ_cons, List.drop_zero]
            clear c0 c1 c2 hI hIf HWD hw3 cI
            repeat still_step
            refine wpStill_nil ?_
            have e2 := E2.out
            have eI := EI.out
            have eIf := EIF.out
            go_wp2_with fail
            go_roundw
            case rel => exact ⟨k + 1, hlt2, by go_num, R3.out, M2.out⟩
            case measure => simp [intOf]; omega
          · have hin : inB ks (k : Int) = false := decide_eq_false hm
            rw [hin] at cI
            by_cases ht : (k : Int) = t
            · have bt : ((k : Int) == t) = true := by simpa using ht
              obtain ⟨B1, c3', hB, hBf, hlB, hcB, _, hRB⟩ := rd.ref.last.at_ hkn rfl
              have hLk : (s.rst ks t 1024 k).L (k : Int) = s.L (k : Int) := by simp only [St.rst]; rw [if_neg (by omega)]
              rw [hLk] at hlB hRB
              obtain ⟨T, hT, v1, W1, A2, c2', W2, q1, q2, q3, q4, q5, q6, q7⟩ := torn_row wd A1 B1 c1' c3' l _ 1024 hl hlB (by omega) hcB hRw hRB
              have hhead : ∀ W, (Instr.slice 32 (.slice A1 1024 c1') none (some (.int .i64 1024)) none).run Try.prog W = .ok (.slice A1 1024 c1') W := fun W => head_run A1 1024 c1' 1024 (by omega) W
              have hT2 : ∀ W', (Instr.slice 32 (.slice B1 1024 c3') (some (.int .i64 1024)) none none).run Try.prog W' = .ok (.slice T (1024 - 1024) (c3' - 1024)) W' := hT
              clear hT
              have rd2 := rd.grow q6
              have R2 := Lib.hid (rst_laid rd2.ref (by have := HN.out; omega) (by rw [rstL, hC]; simp only [if_neg hm, if_pos ht]) (torn_len hl hlB (by omega)) q3 q4 q5)
              have m4 : Mod [rb, lb, cb, ib] wr ((W2.setCell ⟨lb, k, none⟩ (.slice A2 1024 c2')).setCell ⟨ib, k, none⟩ (.bool false)) := ((md.trans (Mod.of_below _ q6)).setCell _ _ (.inl (by simp))).setCell _ _ (.inl (by simp))
              have R3 := Lib.hid (RF.out.cut R2.out m4)
              have M2 := Lib.hid (MM.out.trans m4)
              have m3 := mod_set W2 lb k (.slice A2 1024 c2')
              obtain ⟨left2, f0, f1, f2, _, _, _, _⟩ := rd2.ref.cells
              rw [show (s.rst ks t 1024 k).n = N from HN.out] at f0 f1 f2
              obtain ⟨hJ2, hJf2⟩ := rd2.ref.is.at_ hkn
              obtain ⟨A1', c1'', hA2, _, _, _, _, _⟩ := rd2.ref.cache.at_ hkn (hCk.trans hC)
              have hA2 := (q6.cell (p := ⟨cb, k, none⟩) rd.ref.cache.lt).trans hA
              obtain ⟨v0, hv0, hv1⟩ := rd2.ref.last.any hkn
              have E0 := Lib.hid ((m3.cell (p := ⟨rb, 0, none⟩) rd2.ref.lt (by simp; exact n1)).trans f0)
              have E1 := Lib.hid ((m3.cell (p := ⟨rb, 1, none⟩) rd2.ref.lt (by simp; exact n1)).trans f1)
              have E2 := Lib.hid ((m3.cell (p := ⟨rb, 2, none⟩) rd2.ref.lt (by simp; exact n1)).trans f2)
              have EA := Lib.hid ((m3.cell (p := ⟨cb, k, none⟩) rd2.ref.cache.lt (by simp; exact rd.ref.ne.symm)).trans hA2)
              have EI := Lib.hid ((m3.cell (p := ⟨ib, k, none⟩) rd2.ref.is.lt (by simp; exact n4.symm)).trans hJ2)
              have EIF : Hid ((W2.setCell ⟨lb, k, none⟩ (.slice A2 1024 c2')).frozen? ⟨ib, k, none⟩ = false) := Lib.hid ((World.frozen?_of_block (m3.block ib rd2.ref.is.lt (by simp; exact n4.symm))).trans hJf2)
              have KS := Lib.hid (four_keep d0 d1 hA hB rd.ref.lt rd.ref.cache.lt rd.ref.last.lt)
              have b0' := (Below.refl wd.heap.size wd).alloc (Nat.le_refl _) (.cells #[] 5)
              have hB0 : wr.cell? ⟨lb, k, none⟩ = some (.slice B1 1024 c3') := by have := hB; rw [hwd] at this; exact this
              have hB1 := (b0'.cell (p := ⟨lb, k, none⟩) rd.ref.last.lt).trans hB
              have hB2 := (q7.cell (p := ⟨lb, k, none⟩) rd.ref.last.lt).trans hB
              have Q1 := Lib.hid q1
              have Q2 := Lib.hid q2
              have B0 := Lib.hid b0'
              have B1' := Lib.hid q7
              have B2' := Lib.hid q6
              have hA0 : wr.cell? ⟨cb, k, none⟩ = some (.slice A1 1024 c1') := by have := hA; rw [hwd] at this; exact this
              have KC := Lib.hid (⟨c0, c1, hA0⟩ : wr.cell? ⟨rb, 0, none⟩ = some (hdr lb N) ∧ wr.cell? ⟨rb, 1, none⟩ = some (hdr cb N) ∧ wr.cell? ⟨cb, k, none⟩ = some (.slice A1 1024 c1'))
              subst hwd
              clear hC hCk hkn RF MM n1 n2 n3 n4 n5 hl hc0 hc1 hRw m3 m4 md rd rd2 hJ hJf hJ2 hJf2 d0 d1 d2 f0 f1 f2 hin hm ht R2 HWD hA hA2 hB hBf hlB hcB hRB hLk q1 q2 q3 q4 q5 q6 q7 b0' hA0
              go_wp2_with fail
              refine cI.mono ?_
              rintro e w3 ⟨rfl, rfl⟩
              go_wp2_with fail
              refine region_last (S := fun w' => w'.cell? ⟨rb, 0, none⟩ = some (hdr lb N) ∧ w'.cell? ⟨rb, 1, none⟩ = some (hdr cb N) ∧ w'.cell? ⟨cb, k, none⟩ = some (.slice A1 1024 c1') ∧ w'.cell? ⟨lb, k, none⟩ = some (.slice B1 1024 c3')) 27 (by kernel_rfl) rfl rfl rfl rfl (by kernel_rfl) (by kernel_rfl) ?_
              intro w3 hw3
              subst hw3
              have hSR := KS.out _ (Below.refl _ _)
              simp only [List.set_cons_zero, List.set_cons_succ]
              refine wpAnyH_take (i := 0) (v := ?_) rfl (by kernel_rfl) (by kernel_rfl) (by kernel_rfl) (fun _ _ _ h => h) (Or.inl ⟨by rfl, ?_⟩) hSR ?_
              rotate_left
              · (intro w' hSw; (try dsimp only at hSw); go_simp; (try with_reducible rfl))
              simp only [Act.put]
              refine wpAnyH_take (i := 1) (v := ?_) rfl (by kernel_rfl) (by kernel_rfl) (by kernel_rfl) (fun _ _ _ h => h) (Or.inl ⟨by rfl, ?_⟩) hSR ?_
              rotate_left
              · (intro w' hSw; (try dsimp only at hSw); go_simp; (try with_reducible rfl))
              simp only [Act.put]
              refine wpAnyH_take (i := 2) (v := ?_) rfl (by kernel_rfl) (by kernel_rfl) (by kernel_rfl) (fun _ _ _ h => h) (Or.inl ⟨by rfl, ?_⟩) hSR ?_
              rotate_left
              · (intro w' hSw; (try dsimp only at hSw); go_simp; (try with_reducible rfl))
              simp only [Act.put]
              refine wpAnyH_take (i := 3) (v := ?_) rfl (by kernel_rfl) (by kernel_rfl) (by kernel_rfl) (fun _ _ _ h => h) (Or.inl ⟨by rfl, ?_⟩) hSR ?_
              rotate_left
              · (intro w' hSw; (try dsimp only at hSw); go_simp; (try with_reducible rfl))
              simp only [Act.put]
              refine wpAnyH_take (i := 4) (v := ?_) rfl (by kernel_rfl) (by kernel_rfl) (by kernel_rfl) (fun _ _ _ h => h) (Or.inl ⟨by rfl, ?_⟩) hSR ?_
              rotate_left
              · (intro w' hSw; (try dsimp only at hSw); go_simp; (try with_reducible rfl))
              simp only [Act.put]
              refine wpAnyH_take (i := 6) (v := ?_) rfl (by kernel_rfl) (by kernel_rfl) (by kernel_rfl) (fun _ _ _ h => h) (Or.inl ⟨by rfl, ?_⟩) hSR ?_
              rotate_left
              · (intro w' hSw; (try dsimp only at hSw); go_simp; (try with_reducible rfl))
              simp only [Act.put]
              refine wpAnyH_take (i := 7) (v := ?_) rfl (by kernel_rfl) (by kernel_rfl) (by kernel_rfl) (fun _ _ _ h => h) (Or.inl ⟨by rfl, ?_⟩) hSR ?_
              rotate_left
              · (intro w' hSw; (try dsimp only at hSw); go_simp; (try with_reducible rfl))
              simp only [Act.put]
              refine wpAnyH_take (i := 8) (v := ?_) rfl (by kernel_rfl) (by kernel_rfl) (by kernel_rfl) (fun _ _ _ h => h) (Or.inl ⟨by rfl, ?_⟩) hSR ?_
              rotate_left
              · (intro w' hSw; (try dsimp only at hSw); go_simp; (try with_reducible rfl))
              simp only [Act.put]
              refine wpAnyH_take (i := 9) (v := ?_) rfl (by kernel_rfl) (by kernel_rfl) (by kernel_rfl) (fun _ _ _ h => h) (Or.inl ⟨by rfl, ?_⟩) hSR ?_
              rotate_left
              · (intro w' hSw; (try dsimp only at hSw); go_simp; (try with_reducible rfl))
              simp only [Act.put]
              refine wpAnyH_take (i := 10) (v := ?_) rfl (by kernel_rfl) (by kernel_rfl) (by kernel_rfl) (fun _ _ _ h => h) (Or.inl ⟨by rfl, ?_⟩) hSR ?_
              rotate_left
              · (intro w' hSw; (try dsimp only at hSw); go_simp; (try with_reducible rfl))
              simp only [Act.put]
              refine wpAnyH_take (i := 11) (v := ?_) rfl (by kernel_rfl) (by kernel_rfl) (by kernel_rfl) (fun _ _ _ h => h) (Or.inl ⟨by rfl, ?_⟩) hSR ?_
              rotate_left
              · (intro w' hSw; (try dsimp only at hSw); go_simp; (try with_reducible rfl))
              simp only [Act.put]
              refine wpAnyH_take (i := 12) (v := ?_) rfl (by kernel_rfl) (by kernel_rfl) (by kernel_rfl) (fun _ _ _ h => h) (Or.inl ⟨by rfl, ?_⟩) hSR ?_
              rotate_left
              · (intro w' hSw; (try dsimp only at hSw); go_simp; (try with_reducible rfl))
              simp only [Act.put]
              refine wpAnyH_take (i := 13) (v := ?_) rfl (by kernel_rfl) (by kernel_rfl) (by kernel_rfl) (fun _ _ _ h => h) (Or.inl ⟨by rfl, ?_⟩) hSR ?_
              rotate_left
              · (intro w' hSw; (try dsimp only at hSw); go_simp; (try with_reducible rfl))
              simp only [Act.put]
              refine wpAnyH_take (i := 14) (v := ?_) rfl (by kernel_rfl) (by kernel_rfl) (by kernel_rfl) (fun _ _ _ h => h) (Or.inl ⟨by rfl, ?_⟩) hSR ?_
              rotate_left
              · (intro w' hSw; (try dsimp only at hSw); go_simp; (try with_reducible rfl))
              simp only [Act.put]
              refine wpAnyH_take (i := 16) (v := ?_) rfl (by kernel_rfl) (by kernel_rfl) (by kernel_rfl) (fun _ _ _ h => h) (Or.inl ⟨by rfl, ?_⟩) hSR ?_
              rotate_left
              · (intro w' hSw; (try dsimp only at hSw); go_simp; (try with_reducible rfl))
              simp only [Act.put]
              refine wpAnyH_take (i := 17) (v := ?_) rfl (by kernel_rfl) (by kernel_rfl) (by kernel_rfl) (fun _ _ _ h => h) (Or.inl ⟨by rfl, ?_⟩) hSR ?_
              rotate_left
              · (intro w' hSw; (try dsimp only at hSw); go_simp; (try with_reducible rfl))
              simp only [Act.put]
              refine wpAnyH_take (i := 18) (v := ?_) rfl (by kernel_rfl) (by kernel_rfl) (by kernel_rfl) (fun _ _ _ h => h) (Or.inl ⟨by rfl, ?_⟩) hSR ?_
              rotate_left
              · (intro w' hSw; (try dsimp only at hSw); go_simp; (try with_reducible rfl))
              simp only [Act.put]
              refine wpAnyH_take (i := 19) (v := ?_) rfl (by kernel_rfl) (by kernel_rfl) (by kernel_rfl) (fun _ _ _ h => h) (Or.inl ⟨by rfl, ?_⟩) hSR ?_
              rotate_left
              · (intro w' hSw; (try dsimp only at hSw); go_simp; (try with_reducible rfl))
              simp only [Act.put]
              refine wpAnyH_take (i := 20) (v := ?_) rfl (by kernel_rfl) (by kernel_rfl) (by kernel_rfl) (fun _ _ _ h => h) (Or.inl ⟨by rfl, ?_⟩) hSR ?_
              rotate_left
              · (intro w' hSw; (try dsimp only at hSw); go_simp; (try with_reducible rfl))
              simp only [Act.put]
              refine wpAnyH_take (i := 21) (v := ?_) rfl (by kernel_rfl) (by kernel_rfl) (by kernel_rfl) (fun _ _ _ h => h) (Or.inl ⟨by rfl, ?_⟩) hSR ?_
              rotate_left
              · (intro w' hSw; (try dsimp only at hSw); go_simp; (try with_reducible rfl))
              simp only [Act.put]
              refine wpAnyH_take (i := 22) (v := ?_) rfl (by kernel_rfl) (by kernel_rfl) (by kernel_rfl) (fun _ _ _ h => h) (Or.inl ⟨by rfl, ?_⟩) hSR ?_
              rotate_left
              · (intro w' hSw; (try dsimp only at hSw); go_simp; (try with_reducible rfl))
              simp only [Act.put]
              refine wpAnyH_take (i := 23) (v := ?_) rfl (by kernel_rfl) (by kernel_rfl) (by kernel_rfl) (fun _ _ _ h => h) (Or.inl ⟨by rfl, ?_⟩) hSR ?_
              rotate_left
              · (intro w' hSw; (try dsimp only at hSw); go_simp; (try with_reducible rfl))
              simp only [Act.put]
              refine wpAnyH_take (i := 24) (v := ?_) rfl (by kernel_rfl) (by kernel_rfl) (by kernel_rfl) (fun _ _ _ h => h) (Or.inl ⟨by rfl, ?_⟩) hSR ?_
              rotate_left
              · (intro w' hSw; (try dsimp only at hSw); go_simp; (try with_reducible rfl))
              simp only [Act.put]
              refine wpAnyH_ready (rs := [5]) (by kernel_rfl) (by simp) (AllReadyH.cons rfl (fun K hK => ?_) AllReadyH.nil)
              go_simp
              refine hK.out _ _ (KS.out _ B0.out) (fun hSR => ?_)
              clear hK K
              refine wpAnyH_ready (rs := [15]) (by kernel_rfl) (by simp) (AllReadyH.cons rfl (fun K hK => ?_) AllReadyH.nil)
              refine step_append2_eq (by rfl) (.tmp 66) (.tmp 75) _ _ (by rfl) (by rfl) (by rfl) Q1.out ?_
              refine hK.out _ _ (KS.out _ B1'.out) (fun hSR => ?_)
              clear hK K
              simp only [Act.put]
              refine wpAnyH_ready (rs := [25]) (by kernel_rfl) (by simp) (AllReadyH.cons rfl (fun K hK => ?_) AllReadyH.nil)
              refine step_append2_eq (by rfl) (.tmp 76) (.tmp 85) _ _ (by rfl) (by rfl) (by rfl) Q2.out ?_
              refine hK.out _ _ (KS.out _ B2'.out) (fun hSR => ?_)
              clear hK K
              simp only [Act.put]
              refine wpAnyH_take (i := 26) (v := ?_) rfl (by kernel_rfl) (by kernel_rfl) (by kernel_rfl) (fun _ _ _ h => h) (Or.inl ⟨by rfl, ?_⟩) hSR ?_
              rotate_left
              · (intro w' hSw; (try dsimp only at hSw); go_simp; (try with_reducible rfl))
              simp only [Act.put]
              refine wpAnyH_take (i := 27) (v := ?_) rfl (by kernel_rfl) (by kernel_rfl) (by kernel_rfl) (fun _ _ _ h => h) (Or.inl ⟨by rfl, ?_⟩) hSR ?_
              rotate_left
              · (intro w' hSw; (try dsimp only at hSw); go_simp; (try with_reducible rfl))
              simp only [Act.put]
              refine wpAnyH_done (by kernel_rfl) ?_ _
              show Oper.wp _ _ _ _ _ _
              unfold Oper.wp
              go_simp
              have e2 := E2.out
              have eI := EI.out
              have eIf := EIF.out
              clear hv0 hv1 hA2
              go_wp2_with fail
              go_roundw
              case rel => exact ⟨k + 1, hlt2, by go_num, R3.out, M2.out⟩
              case measure => simp [intOf]; omega
            · have bt : ((k : Int) == t) = false := by simpa using ht
              have R2 := Lib.hid (rst_skip RF.out.ref (by simp [rstL, hC, hm, ht]))
              have M1 : Hid (Mod [rb, lb, cb, ib] wr (wr.setCell ⟨ib, k, none⟩ (.bool false))) := Lib.hid ((Mod.refl _ _).setCell _ _ (.inl (by simp)))
              have R3 := Lib.hid (RF.out.cut R2.out M1.out)
              have M2 := Lib.hid (MM.out.trans M1.out)
              clear hC hCk hkn RF MM M1 R2 n1 n2 n3 n4 n5 hl hc0 hc1 hRw hA hwd md rd hJ hJf d0 d1 d2 hin HWD hm ht
              go_wp2_with fail
              refine cI.mono ?_
              rintro e w3 ⟨rfl, rfl⟩
              go_wp2_with fail
              go_roundw
              case rel => exact ⟨k + 1, hlt2, by go_num, R3.out, M2.out⟩
              case measure => simp [intOf]; omega
      · obtain rfl : k = N := by omega
        have b0 : decide ((k : Int) < (k : Int)) = false := by simp
        have hend := rst_end (cut := cut) (ks := ks) (t := t) (by rw [HCT.out, HN.out]; exact RF.out.ref)
        have HE := Lib.hid hend
        clear hend
        go_wp2_with fail
        go_end0
        exact ⟨rfl, HE.out, (MM.out.setCell _ _ (.inl (by simp))).setCell _ _ (.inl (by simp))⟩
  · go_loopw [8] (fun i wr => RRestRel w0 rb lb cb ib N s ks t ct w i wr) (fun i _ => N - (intOf i).toNat)
    case atStart => exact ⟨0, Nat.zero_le _, rfl, RF.out, Mod.refl _ _⟩
    case round =>
      clear RF
      obtain ⟨k, hk, rfl, r, m⟩ := hrel
      obtain ⟨left, c0, c1, c2, c3, c4, c5, _⟩ := r.ref.cells
      have hn : (s.rst ks t ct k).n = N := HN.out
      rw [hn] at c0 c1 c2
      have RF := Lib.hid r
      have MM := Lib.hid m
      have hlt := r.ref.lt
      obtain ⟨n1, n2, n3, n4, n5⟩ := r.ref.nes
      have z3 := r.ref.free 3
      have z4 := r.ref.free 4
      clear r m c5 hn
      by_cases hlt2 : k < N
      · have hkn : k < (s.rst ks t ct k).n := by show k < s.n; have := HN.out; omega
        obtain ⟨hI, hIf⟩ := RF.out.ref.is.at_ hkn
        have hCk : (s.rst ks t ct k).C (k : Int) = s.C (k : Int) := by simp only [St.rst]; rw [if_neg (by omega)]
        have b0 : decide ((k : Int) < (N : Int)) = true := by simp; omega
        rw [hCk] at hI
        have cI := in_any wr A n c ks (k : Int) HKS.out (by omega) (RowG.below HR.out RF.out.below)
        clear c3 c4 z3 z4
        cases hC : s.C (k : Int) with
        | none =>
          rw [hC] at hI
          simp only [Option.isSome_none] at hI
          have R2 := Lib.hid (rst_skip RF.out.ref (by simp [rstL, hC]))
          have M1 : Hid (Mod [rb, lb, cb, ib] wr (wr.setCell ⟨ib, k, none⟩ (.bool false))) := Lib.hid ((Mod.refl _ _).setCell _ _ (.inl (by simp)))
          have R3 := Lib.hid (RF.out.cut R2.out M1.out)
          have M2 := Lib.hid (MM.out.trans M1.out)
          clear hC hCk hkn RF MM M1 R2 n1 n2 n3 n4 n5
          generalize inB ks (k : Int) = B at cI
          go_wp2_with fail
          refine cI.mono ?_
          rintro e w3 ⟨rfl, rfl⟩
          go_wp2_with fail
          go_roundw
          case rel => exact ⟨k + 1, hlt2, by go_num, R3.out, M2.out⟩
          case measure => simp [intOf]; omega
        | some l =>
          rw [hC] at hI
          simp only [Option.isSome_some] at hI
          obtain ⟨wd, hwd⟩ : ∃ wd, wd = wr.drew := ⟨_, rfl⟩
          have md : Mod [rb, lb, cb, ib] wr wd := by rw [hwd]; exact (Mod.refl _ _).drew
          have rd : RefOn w0 wd rb lb cb ib (s.rst ks t ct k) := by
            refine RF.out.cut ?_ md
            rw [hwd]; exact RF.out.ref.kept (Mod.refl [] _).drew (fun _ _ => by simp) (fun _ _ _ _ _ _ => by simp)
          obtain ⟨A1, c1', hA, _, hl, hc0, hc1, hRw⟩ := rd.ref.cache.at_ hkn (hCk.trans hC)
          obtain ⟨left', d0, d1, d2, _, _, _, _⟩ := rd.ref.cells
          obtain ⟨hJ, hJf⟩ := rd.ref.is.at_ hkn
          rw [show (s.rst ks t ct k).n = N from HN.out] at d0 d1 d2
          have HWD := Lib.hid hwd
          have hi0 : (0 : Int) ≤ (k : Int) := by omega
          have hi1 : (k : Int) < (N : Int) := by omega
          by_cases hm : (k : Int) ∈ ks
          · obtain ⟨v0, hv0, hv1⟩ := rd.ref.last.any hkn
            have hin : inB ks (k : Int) = true := decide_eq_true hm
            rw [hin] at cI
            have R2 := Lib.hid (rst_laid rd.ref (by have := HN.out; omega) (by simp [rstL, hC, hm]) hl hc0 hc1 hRw)
            have m4 : Mod [rb, lb, cb, ib] wr ((wd.setCell ⟨lb, k, none⟩ (.slice A1 1024 c1')).setCell ⟨ib, k, none⟩ (.bool false)) := (md.setCell _ _ (.inl (by simp))).setCell _ _ (.inl (by simp))
            have R3 := Lib.hid (RF.out.cut R2.out m4)
            have M2 := Lib.hid (MM.out.trans m4)
            have m3 := mod_set wd lb k (.slice A1 1024 c1')
            have e2 := (m3.cell (p := ⟨rb, 2, none⟩) rd.ref.lt (by simp; exact n1)).trans d2
            have eI := (m3.cell (p := ⟨ib, k, none⟩) rd.ref.is.lt (by simp; exact n4.symm)).trans hJ
            have eIf : (wd.setCell ⟨lb, k, none⟩ (.slice A1 1024 c1')).frozen? ⟨ib, k, none⟩ = false := (World.frozen?_of_block (m3.block ib rd.ref.is.lt (by simp; exact n4.symm))).trans hJf
            have E2 := Lib.hid e2
            have EI := Lib.hid eI
            have EIF := Lib.hid eIf
            clear hC hCk hkn RF MM n1 n2 n3 n4 n5 hl hc0 hc1 hRw m3 m4 e2 eI eIf hwd md rd hJ hJf d2 hin R2 hm
            go_wp2_with fail
            refine cI.mono ?_
            rintro e w3 ⟨rfl, rfl⟩
            go_wp2_with fail
            refine region_tail 13 (by kernel_rfl) (by kernel_rfl) ?_
            intro w3 hw3
            obtain rfl : wd = w3 := HWD.out.trans hw3.symm
            simp only [List.take_succ_cons, List.take_zero, List.drop_succ_cons, List.drop_zero]
            clear c0 c1 c2 hI hIf HWD hw3 cI
            repeat still_step
            refine wpStill_nil ?_
            have e2 := E2.out
            have eI := EI.out
            have eIf := EIF.out
            go_wp2_with fail
            go_roundw
            case rel => exact ⟨k + 1, hlt2, by go_num, R3.out, M2.out⟩
            case measure => simp [intOf]; omega
          · have hin : inB ks (k : Int) = false := decide_eq_false hm
            rw [hin] at cI
            by_cases ht : (k : Int) = t
            · have bt : ((k : Int) == t) = true := by simpa using ht
              obtain ⟨B1, c3', hB, hBf, hlB, hcB, _, hRB⟩ := rd.ref.last.at_ hkn rfl
              have hLk : (s.rst ks t ct k).L (k : Int) = s.L (k : Int) := by simp only [St.rst]; rw [if_neg (by omega)]
              rw [hLk] at hlB hRB
              obtain ⟨T, hT, v1, W1, A2, c2', W2, q1, q2, q3, q4, q5, q6, q7⟩ := torn_row wd A1 B1 c1' c3' l _ ct hl hlB (by omega) hcB hRw hRB
              have hhead : ∀ W, (Instr.slice 32 (.slice A1 1024 c1') none (some (.int .i64 (ct : Int))) none).run Try.prog W = .ok (.slice A1 ct c1') W := fun W => head_run A1 1024 c1' ct (by omega) W
              have hT2 : ∀ W', (Instr.slice 32 (.slice B1 1024 c3') (some (.int .i64 (ct : Int))) none none).run Try.prog W' = .ok (.slice T (1024 - ct) (c3' - ct)) W' := hT
              clear hT
              have rd2 := rd.grow q6
              have R2 := Lib.hid (rst_laid rd2.ref (by have := HN.out; omega) (by rw [rstL, hC]; simp only [if_neg hm, if_pos ht]) (torn_len hl hlB (by omega)) q3 q4 q5)
              have m4 : Mod [rb, lb, cb, ib] wr ((W2.setCell ⟨lb, k, none⟩ (.slice A2 1024 c2')).setCell ⟨ib, k, none⟩ (.bool false)) := ((md.trans (Mod.of_below _ q6)).setCell _ _ (.inl (by simp))).setCell _ _ (.inl (by simp))
              have R3 := Lib.hid (RF.out.cut R2.out m4)
              have M2 := Lib.hid (MM.out.trans m4)
              have m3 := mod_set W2 lb k (.slice A2 1024 c2')
              obtain ⟨left2, f0, f1, f2, _, _, _, _⟩ := rd2.ref.cells
              rw [show (s.rst ks t ct k).n = N from HN.out] at f0 f1 f2
              obtain ⟨hJ2, hJf2⟩ := rd2.ref.is.at_ hkn
              obtain ⟨A1', c1'', hA2, _, _, _, _, _⟩ := rd2.ref.cache.at_ hkn (hCk.trans hC)
              have hA2 := (q6.cell (p := ⟨cb, k, none⟩) rd.ref.cache.lt).trans hA
              obtain ⟨v0, hv0, hv1⟩ := rd2.ref.last.any hkn
              have E0 := Lib.hid ((m3.cell (p := ⟨rb, 0, none⟩) rd2.ref.lt (by simp; exact n1)).trans f0)
              have E1 := Lib.hid ((m3.cell (p := ⟨rb, 1, none⟩) rd2.ref.lt (by simp; exact n1)).trans f1)
              have E2 := Lib.hid ((m3.cell (p := ⟨rb, 2, none⟩) rd2.ref.lt (by simp; exact n1)).trans f2)
              have EA := Lib.hid ((m3.cell (p := ⟨cb, k, none⟩) rd2.ref.cache.lt (by simp; exact rd.ref.ne.symm)).trans hA2)
              have EI := Lib.hid ((m3.cell (p := ⟨ib, k, none⟩) rd2.ref.is.lt (by simp; exact n4.symm)).trans hJ2)
              have EIF : Hid ((W2.setCell ⟨lb, k, none⟩ (.slice A2 1024 c2')).frozen? ⟨ib, k, none⟩ = false) := Lib.hid ((World.frozen?_of_block (m3.block ib rd2.ref.is.lt (by simp; exact n4.symm))).trans hJf2)
              have KS := Lib.hid (four_keep d0 d1 hA hB rd.ref.lt rd.ref.cache.lt rd.ref.last.lt)
              have b0' := (Below.refl wd.heap.size wd).alloc (Nat.le_refl _) (.cells #[] 5)
              have hB0 : wr.cell? ⟨lb, k, none⟩ = some (.slice B1 1024 c3') := by have := hB; rw [hwd] at this; exact this
              have hB1 := (b0'.cell (p := ⟨lb, k, none⟩) rd.ref.last.lt).trans hB
              have hB2 := (q7.cell (p := ⟨lb, k, none⟩) rd.ref.last.lt).trans hB
              have Q1 := Lib.hid q1
              have Q2 := Lib.hid q2
              have B0 := Lib.hid b0'
              have B1' := Lib.hid q7
              have B2' := Lib.hid q6
              have hA0 : wr.cell? ⟨cb, k, none⟩ = some (.slice A1 1024 c1') := by have := hA; rw [hwd] at this; exact this
              have KC := Lib.hid (⟨c0, c1, hA0⟩ : wr.cell? ⟨rb, 0, none⟩ = some (hdr lb N) ∧ wr.cell? ⟨rb, 1, none⟩ = some (hdr cb N) ∧ wr.cell? ⟨cb, k, none⟩ = some (.slice A1 1024 c1'))
              subst hwd
              clear hC hCk hkn RF MM n1 n2 n3 n4 n5 hl hc0 hc1 hRw m3 m4 md rd rd2 hJ hJf hJ2 hJf2 d0 d1 d2 f0 f1 f2 hin hm ht R2 HWD hA hA2 hB hBf hlB hcB hRB hLk q1 q2 q3 q4 q5 q6 q7 b0' hA0
              go_wp2_with fail
              refine cI.mono ?_
              rintro e w3 ⟨rfl, rfl⟩
              go_wp2_with fail
              refine region_last (S := fun w' => w'.cell? ⟨rb, 0, none⟩ = some (hdr lb N) ∧ w'.cell? ⟨rb, 1, none⟩ = some (hdr cb N) ∧ w'.cell? ⟨cb, k, none⟩ = some (.slice A1 1024 c1') ∧ w'.cell? ⟨lb, k, none⟩ = some (.slice B1 1024 c3')) 27 (by kernel_rfl) rfl rfl rfl rfl (by kernel_rfl) (by kernel_rfl) ?_
              intro w3 hw3
              subst hw3
              have hSR := KS.out _ (Below.refl _ _)
              simp only [List.set_cons_zero, List.set_cons_succ]
              refine wpAnyH_take (i := 0) (v := ?_) rfl (by kernel_rfl) (by kernel_rfl) (by kernel_rfl) (fun _ _ _ h => h) (Or.inl ⟨by rfl, ?_⟩) hSR ?_
              rotate_left
              · (intro w' hSw; (try dsimp only at hSw); go_simp; (try with_reducible rfl))
              simp only [Act.put]
              refine wpAnyH_take (i := 1) (v := ?_) rfl (by kernel_rfl) (by kernel_rfl) (by kernel_rfl) (fun _ _ _ h => h) (Or.inl ⟨by rfl, ?_⟩) hSR ?_
              rotate_left
              · (intro w' hSw; (try dsimp only at hSw); go_simp; (try with_reducible rfl))
              simp only [Act.put]
              refine wpAnyH_take (i := 2) (v := ?_) rfl (by kernel_rfl) (by kernel_rfl) (by kernel_rfl) (fun _ _ _ h => h) (Or.inl ⟨by rfl, ?_⟩) hSR ?_
              rotate_left
              · (intro w' hSw; (try dsimp only at hSw); go_simp; (try with_reducible rfl))
              simp only [Act.put]
              refine wpAnyH_take (i := 3) (v := ?_) rfl (by kernel_rfl) (by kernel_rfl) (by kernel_rfl) (fun _ _ _ h => h) (Or.inl ⟨by rfl, ?_⟩) hSR ?_
              rotate_left
              · (intro w' hSw; (try dsimp only at hSw); go_simp; (try with_reducible rfl))
              simp only [Act.put]
              refine wpAnyH_take (i := 4) (v := ?_) rfl (by kernel_rfl) (by kernel_rfl) (by kernel_rfl) (fun _ _ _ h => h) (Or.inl ⟨by rfl, ?_⟩) hSR ?_
              rotate_left
              · (intro w' hSw; (try dsimp only at hSw); go_simp; (try with_reducible rfl))
              simp only [Act.put]
              refine wpAnyH_take (i := 6) (v := ?_) rfl (by kernel_rfl) (by kernel_rfl) (by kernel_rfl) (fun _ _ _ h => h) (Or.inl ⟨by rfl, ?_⟩) hSR ?_
              rotate_left
              · (intro w' hSw; (try dsimp only at hSw); go_simp; (try with_reducible rfl))
              simp only [Act.put]
              refine wpAnyH_take (i := 7) (v := ?_) rfl (by kernel_rfl) (by kernel_rfl) (by kernel_rfl) (fun _ _ _ h => h) (Or.inl ⟨by rfl, ?_⟩) hSR ?_
              rotate_left
              · (intro w' hSw; (try dsimp only at hSw); go_simp; (try with_reducible rfl))
              simp only [Act.put]
              refine wpAnyH_take (i := 8) (v := ?_) rfl (by kernel_rfl) (by kernel_rfl) (by kernel_rfl) (fun _ _ _ h => h) (Or.inl ⟨by rfl, ?_⟩) hSR ?_
              rotate_left
              · (intro w' hSw; (try dsimp only at hSw); go_simp; (try with_reducible rfl))
              simp only [Act.put]
              refine wpAnyH_take (i := 9) (v := ?_) rfl (by kernel_rfl) (by kernel_rfl) (by kernel_rfl) (fun _ _ _ h => h) (Or.inl ⟨by rfl, ?_⟩) hSR ?_
              rotate_left
              · (intro w' hSw; (try dsimp only at hSw); go_simp; (try with_reducible rfl))
              simp only [Act.put]
              refine wpAnyH_take (i := 10) (v := ?_) rfl (by kernel_rfl) (by kernel_rfl) (by kernel_rfl) (fun _ _ _ h => h) (Or.inl ⟨by rfl, ?_⟩) hSR ?_
              rotate_left
              · (intro w' hSw; (try dsimp only at hSw); go_simp; (try with_reducible rfl))
              simp only [Act.put]
              refine wpAnyH_take (i := 11) (v := ?_) rfl (by kernel_rfl) (by kernel_rfl) (by kernel_rfl) (fun _ _ _ h => h) (Or.inl ⟨by rfl, ?_⟩) hSR ?_
              rotate_left
              · (intro w' hSw; (try dsimp only at hSw); go_simp; (try with_reducible rfl))
              simp only [Act.put]
              refine wpAnyH_take (i := 12) (v := ?_) rfl (by kernel_rfl) (by kernel_rfl) (by kernel_rfl) (fun _ _ _ h => h) (Or.inl ⟨by rfl, ?_⟩) hSR ?_
              rotate_left
              · (intro w' hSw; (try dsimp only at hSw); go_simp; (try with_reducible rfl))
              simp only [Act.put]
              refine wpAnyH_take (i := 13) (v := ?_) rfl (by kernel_rfl) (by kernel_rfl) (by kernel_rfl) (fun _ _ _ h => h) (Or.inl ⟨by rfl, ?_⟩) hSR ?_
              rotate_left
              · (intro w' hSw; (try dsimp only at hSw); go_simp; (try with_reducible rfl))
              simp only [Act.put]
              refine wpAnyH_take (i := 14) (v := ?_) rfl (by kernel_rfl) (by kernel_rfl) (by kernel_rfl) (fun _ _ _ h => h) (Or.inl ⟨by rfl, ?_⟩) hSR ?_
              rotate_left
              · (intro w' hSw; (try dsimp only at hSw); go_simp; (try with_reducible rfl))
              simp only [Act.put]
              refine wpAnyH_take (i := 16) (v := ?_) rfl (by kernel_rfl) (by kernel_rfl) (by kernel_rfl) (fun _ _ _ h => h) (Or.inl ⟨by rfl, ?_⟩) hSR ?_
              rotate_left
              · (intro w' hSw; (try dsimp only at hSw); go_simp; (try with_reducible rfl))
              simp only [Act.put]
              refine wpAnyH_take (i := 17) (v := ?_) rfl (by kernel_rfl) (by kernel_rfl) (by kernel_rfl) (fun _ _ _ h => h) (Or.inl ⟨by rfl, ?_⟩) hSR ?_
              rotate_left
              · (intro w' hSw; (try dsimp only at hSw); go_simp; (try with_reducible rfl))
              simp only [Act.put]
              refine wpAnyH_take (i := 18) (v := ?_) rfl (by kernel_rfl) (by kernel_rfl) (by kernel_rfl) (fun _ _ _ h => h) (Or.inl ⟨by rfl, ?_⟩) hSR ?_
              rotate_left
              · (intro w' hSw; (try dsimp only at hSw); go_simp; (try with_reducible rfl))
              simp only [Act.put]
              refine wpAnyH_take (i := 19) (v := ?_) rfl (by kernel_rfl) (by kernel_rfl) (by kernel_rfl) (fun _ _ _ h => h) (Or.inl ⟨by rfl, ?_⟩) hSR ?_
              rotate_left
              · (intro w' hSw; (try dsimp only at hSw); go_simp; (try with_reducible rfl))
              simp only [Act.put]
              refine wpAnyH_take (i := 20) (v := ?_) rfl (by kernel_rfl) (by kernel_rfl) (by kernel_rfl) (fun _ _ _ h => h) (Or.inl ⟨by rfl, ?_⟩) hSR ?_
              rotate_left
              · (intro w' hSw; (try dsimp only at hSw); go_simp; (try with_reducible rfl))
              simp only [Act.put]
              refine wpAnyH_take (i := 21) (v := ?_) rfl (by kernel_rfl) (by kernel_rfl) (by kernel_rfl) (fun _ _ _ h => h) (Or.inl ⟨by rfl, ?_⟩) hSR ?_
              rotate_left
              · (intro w' hSw; (try dsimp only at hSw); go_simp; (try with_reducible rfl))
              simp only [Act.put]
              refine wpAnyH_take (i := 22) (v := ?_) rfl (by kernel_rfl) (by kernel_rfl) (by kernel_rfl) (fun _ _ _ h => h) (Or.inl ⟨by rfl, ?_⟩) hSR ?_
              rotate_left
              · (intro w' hSw; (try dsimp only at hSw); go_simp; (try with_reducible rfl))
              simp only [Act.put]
              refine wpAnyH_take (i := 23) (v := ?_) rfl (by kernel_rfl) (by kernel_rfl) (by kernel_rfl) (fun _ _ _ h => h) (Or.inl ⟨by rfl, ?_⟩) hSR ?_
              rotate_left
              · (intro w' hSw; (try dsimp only at hSw); go_simp; (try with_reducible rfl))
              simp only [Act.put]
              refine wpAnyH_take (i := 24) (v := ?_) rfl (by kernel_rfl) (by kernel_rfl) (by kernel_rfl) (fun _ _ _ h => h) (Or.inl ⟨by rfl, ?_⟩) hSR ?_
              rotate_left
              · (intro w' hSw; (try dsimp only at hSw); go_simp; (try with_reducible rfl))
              simp only [Act.put]
              refine wpAnyH_ready (rs := [5]) (by kernel_rfl) (by simp) (AllReadyH.cons rfl (fun K hK => ?_) AllReadyH.nil)
              go_simp
              refine hK.out _ _ (KS.out _ B0.out) (fun hSR => ?_)
              clear hK K
              refine wpAnyH_ready (rs := [15]) (by kernel_rfl) (by simp) (AllReadyH.cons rfl (fun K hK => ?_) AllReadyH.nil)
              refine step_append2_eq (by rfl) (.tmp 66) (.tmp 75) _ _ (by rfl) (by rfl) (by rfl) Q1.out ?_
              refine hK.out _ _ (KS.out _ B1'.out) (fun hSR => ?_)
              clear hK K
              simp only [Act.put]
              refine wpAnyH_ready (rs := [25]) (by kernel_rfl) (by simp) (AllReadyH.cons rfl (fun K hK => ?_) AllReadyH.nil)
              refine step_append2_eq (by rfl) (.tmp 76) (.tmp 85) _ _ (by rfl) (by rfl) (by rfl) Q2.out ?_
              refine hK.out _ _ (KS.out _ B2'.out) (fun hSR => ?_)
              clear hK K
              simp only [Act.put]
              refine wpAnyH_take (i := 26) (v := ?_) rfl (by kernel_rfl) (by kernel_rfl) (by kernel_rfl) (fun _ _ _ h => h) (Or.inl ⟨by rfl, ?_⟩) hSR ?_
              rotate_left
              · (intro w' hSw; (try dsimp only at hSw); go_simp; (try with_reducible rfl))
              simp only [Act.put]
              refine wpAnyH_take (i := 27) (v := ?_) rfl (by kernel_rfl) (by kernel_rfl) (by kernel_rfl) (fun _ _ _ h => h) (Or.inl ⟨by rfl, ?_⟩) hSR ?_
              rotate_left
              · (intro w' hSw; (try dsimp only at hSw); go_simp; (try with_reducible rfl))
              simp only [Act.put]
              refine wpAnyH_done (by kernel_rfl) ?_ _
              show Oper.wp _ _ _ _ _ _
              unfold Oper.wp
              go_simp
              have e2 := E2.out
              have eI := EI.out
              have eIf := EIF.out
              clear hv0 hv1 hA2
              go_wp2_with fail
              go_roundw
              case rel => exact ⟨k + 1, hlt2, by go_num, R3.out, M2.out⟩
              case measure => simp [intOf]; omega
            · have bt : ((k : Int) == t) = false := by simpa using ht
              have R2 := Lib.hid (rst_skip RF.out.ref (by simp [rstL, hC, hm, ht]))
              have M1 : Hid (Mod [rb, lb, cb, ib] wr (wr.setCell ⟨ib, k, none⟩ (.bool false))) := Lib.hid ((Mod.refl _ _).setCell _ _ (.inl (by simp)))
              have R3 := Lib.hid (RF.out.cut R2.out M1.out)
              have M2 := Lib.hid (MM.out.trans M1.out)
              clear hC hCk hkn RF MM M1 R2 n1 n2 n3 n4 n5 hl hc0 hc1 hRw hA hwd md rd hJ hJf d0 d1 d2 hin HWD hm ht
              go_wp2_with fail
              refine cI.mono ?_
              rintro e w3 ⟨rfl, rfl⟩
              go_wp2_with fail
              go_roundw
              case rel => exact ⟨k + 1, hlt2, by go_num, R3.out, M2.out⟩
              case measure => simp [intOf]; omega
      · obtain rfl : k = N := by omega
        have b0 : decide ((k : Int) < (k : Int)) = false := by simp
        have hend := rst_end (cut := (ct : Int)) (ks := ks) (t := t) (by rw [HCT.out, HN.out]; exact RF.out.ref)
        have HE := Lib.hid hend
        clear hend
        go_wp2_with fail
        go_end0
        exact ⟨rfl, HE.out, (MM.out.setCell _ _ (.inl (by simp))).setCell _ _ (.inl (by simp))⟩
theorem rrestart_ref (w0 w : World) (rb lb cb ib : Nat) (s : St) (h : RefOn w0 w rb lb cb ib s) (A : Option Addr) (n c : Nat) (t cut : Int) (ks : List Int) (hks : ks.length = n) (hn : n ≤ 9223372036854775807) (hR : IRow w0 A ks) :
    Calls Try.prog 32 #[ptr rb, .slice A n c, .int .i64 t, .int .i64 cut] w fun e w' => e = .returned (.tuple #[]) ∧ Ref w' rb lb cb ib (s.restart ks t cut) ∧ Mod [rb, lb, cb, ib] w w' :=
  rrestart_walk w0 w rb lb cb ib _ s rfl h A n c t cut ks _ rfl hks hn hR
end Go.Proofs.Ytoldkhfnebjacaa.Disk
