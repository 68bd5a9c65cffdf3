/-
  Contract of alloc's laid.
-/
import Derived.Test.YtdkpnoinccdaiaaQSort
namespace Go.Proofs.Ytdkpnoinccdaiaa.Pool
open Go.RowKit Gen

theorem lists_elem : Elem Try.prog 36 23 encS :=
  ⟨Try.underlying36, ⟨_, _, 24, rfl, rfl, rfl, rfl, rfl, by omega⟩, fun _ => rfl⟩
abbrev OwnL (w : World) (B : Nat) (v : Value) (xs : List Part) : Prop := OwnG w 23 encS B v xs
theorem row_grown {α : Type} {enc : α → Value} {w w' : World} {A : Option Addr} {l : List α} {row : Option Nat} (h : RowG w enc A l) (g : w.grownBy w' row) (hA : l ≠ [] → ∀ a, A = some a → some a.block ≠ row) : RowG w' enc A l := fun hne => by
  obtain ⟨b, off, e, hlt, hc⟩ := h hne
  refine ⟨b, off, e, Nat.lt_of_lt_of_le hlt g.size, fun k hk => ?_⟩
  rw [World.cell?_of_block (w := w) (a := ⟨b, off + k, none⟩) (g.block b hlt (hA hne _ e))]; exact hc k hk
/-- A part lies in memory, apart from a block. -/
structure Lies (w : World) (row : Option Nat) (x : Part) : Prop where
  at_ : NAt w x.1 x.2.2.length x.2.1 x.2.2
  apart : x.2.2 ≠ [] → ∀ a, x.1 = some a → a.block < w.heap.size ∧ some a.block ≠ row
theorem Lies.alloc {w : World} {row : Option Nat} {x : Part} (h : Lies w row x) (o : Obj) : Lies (w.alloc o) row x :=
  ⟨h.at_.below (below_box w o), fun hne a e => by have := h.apart hne a e; exact ⟨by simp; omega, this.2⟩⟩
theorem Lies.grown {w w' : World} {row row' : Option Nat} {x : Part} (h : Lies w row x) (g : w.grownBy w' row) (hr : row' = row ∨ row' = some w.heap.size) : Lies w' row' x :=
  ⟨⟨h.at_.len, h.at_.cap, h.at_.max, h.at_.nil, row_grown h.at_.row g (fun hne a e => (h.apart hne a e).2)⟩, fun hne a e => by
    have h1 := h.apart hne a e
    refine ⟨Nat.lt_of_lt_of_le h1.1 g.size, ?_⟩
    rcases hr with rfl | rfl
    · exact h1.2
    · intro e2
      have := Option.some.inj e2
      omega⟩
/-- Parts in a list of the call's own, behind w. -/
structure PS (w wr : World) (v : Value) (xs : List Part) : Prop where
  own : OwnL wr w.heap.size v xs
  parts : ∀ x ∈ xs, Lies wr v.ownBlock x
  below : Below w.heap.size w wr
theorem PS.nil (w : World) : PS w w (.slice none 0 0) [] := ⟨OwnG.nil _ _ _ _, fun x hx => by simp at hx, Below.refl _ _⟩
theorem PS.alloc {w wr : World} {v : Value} {xs : List Part} (h : PS w wr v xs) (o : Obj) : PS w (wr.alloc o) v xs :=
  ⟨OwnG.kept h.own (below_box wr o), fun x hx => (h.parts x hx).alloc o, h.below.alloc h.below.size o⟩
theorem PS.app {w wr : World} {v : Value} {xs : List Part} (h : PS w wr v xs) (zs : List Part) (hz : ∀ x ∈ zs, Lies wr v.ownBlock x) (m : Nat) (hm : zs.length = m) (C : Array Value) (hC : C = (zs.map encS).toArray) (hn : xs.length + m ≤ 1000000) :
    ∃ v' W', (Builtin.append_ #[36, 36] 36 #[v, .slice (some ⟨wr.heap.size, 0, none⟩) m m]).run Try.prog (wr.alloc (.cells C 23)) = .ok v' W' ∧ PS w W' v' (xs ++ zs) ∧ Below w.heap.size wr W' := by
  have h2 := h.alloc (.cells C 23)
  have hrow : RowG (wr.alloc (.cells C 23)) encS (some ⟨wr.heap.size, 0, none⟩) zs := fun _ => ⟨wr.heap.size, 0, rfl, by simp, fun k hk => by
    rw [Nat.zero_add, cell_of_row _ _ k C _ _ (heap_alloc_new wr _), hC]
    simp [hk]⟩
  obtain ⟨v', W', hrun, ho', hg, hv⟩ := append_row lists_elem _ w.heap.size v xs h2.own (some ⟨wr.heap.size, 0, none⟩) m m zs hm (fun e => by cases e) hrow (by omega) h2.below.size
  refine ⟨v', W', hrun, ⟨ho', fun x hx => ?_, below_grown h2.below h2.own hg h2.below.size⟩, ?_⟩
  · rcases List.mem_append.1 hx with hx | hx
    · exact (h2.parts x hx).grown hg hv
    · exact ((hz x hx).alloc _).grown hg hv
  · exact below_grown ((Below.refl _ wr).alloc h.below.size _) h2.own hg h2.below.size
/-- .. a part and one page. -/
theorem PS.two {w wr : World} {v : Value} {xs : List Part} (h : PS w wr v xs) (A : Option Addr) (j c : Nat) (l1 : List Int) (hj : l1.length = j) (hy : Lies wr v.ownBlock (A, c, l1)) (p : Int) (hn : xs.length ≤ 900000) :
    ∃ v' W', (Builtin.append_ #[36, 36] 36 #[v, .slice (some ⟨wr.heap.size + 1, 0, none⟩) 2 2]).run Try.prog ((wr.alloc (.cells #[.int .i64 p] 3)).alloc (.cells #[.slice A j c, .slice (some ⟨wr.heap.size, 0, none⟩) 1 1] 23)) = .ok v' W' ∧
      PS w W' v' (xs ++ [(A, c, l1), (some ⟨wr.heap.size, 0, none⟩, 1, [p])]) ∧ Below w.heap.size wr W' := by
  subst hj
  have h1 := h.alloc (.cells #[.int .i64 p] 3)
  have hlt : ∀ k, v.ownBlock = some k → k < wr.heap.size := fun k hk => (World.ownsRow.lt h.own k hk).2
  have hp : Lies (wr.alloc (.cells #[.int .i64 p] 3)) v.ownBlock (some ⟨wr.heap.size, 0, none⟩, 1, [p]) :=
    ⟨⟨rfl, Nat.le_refl _, (show (1 : Nat) ≤ maxLen by unfold maxLen; omega), fun e => (by cases e), fun _ => ⟨wr.heap.size, 0, rfl, by simp, fun k hk => by
      obtain rfl : k = 0 := by simp at hk; omega
      simp⟩⟩, fun _ a e => by
      cases e
      exact ⟨by simp, fun e => absurd (hlt _ e.symm) (Nat.lt_irrefl _)⟩⟩
  obtain ⟨v', W', hrun, hps, hb⟩ := h1.app [(A, c, l1), (some ⟨wr.heap.size, 0, none⟩, 1, [p])] (fun x hx => by
    rcases List.mem_cons.1 hx with rfl | hx
    · exact hy.alloc _
    · rw [List.mem_singleton.1 hx]; exact hp) 2 rfl #[.slice A l1.length c, .slice (some ⟨wr.heap.size, 0, none⟩) 1 1] rfl (by omega)
  rw [World.size_alloc] at hrun
  exact ⟨v', W', hrun, hps, ((Below.refl _ wr).alloc h.below.size _).trans hb⟩
theorem drop_cons {l : List Int} {k : Nat} (h : k < l.length) : l.drop k = l[k] :: l.drop (k + 1) := List.drop_eq_getElem_cons h
/-- What a round of laid turns. -/
theorem laid_round {S r T : List Int} {xs : List Part} {k : Nat} (hk : k < S.length) (h : allOf xs ++ laidS r (S.drop k) = T) (B : Option Addr) (A : Option Addr) (c : Nat) :
    allOf (xs ++ [(A, c, r.take (plc S[k] r)), (B, 1, [S[k]])]) ++ laidS (r.drop (plc S[k] r)) (S.drop (k + 1)) = T := by
  rw [drop_cons hk, laidS] at h
  rw [← h, allOf_append]
  simp [allOf]
set_option maxRecDepth 100000 in
set_option maxHeartbeats 4000000 in
theorem laid_any (A B : Option Addr) (n c m d : Nat) (l ps : List Int) (w : World) (h : NAt w A n c l) (g : NAt w B m d ps) (hn : n ≤ 100000) (hm : m ≤ 100000) :
    Calls Try.prog 31 #[.slice A n c, .slice B m d] w (Owns (layAll l ps) w) := by
  have hT := laid_eq l ps
  have hTl := layAll_len l ps
  have hl := h.len
  have hp := g.len
  have b1 := below_box w (.cells #[.slice B m d] 23)
  have cS := sorted_any w.heap.size B m d ps (w.alloc (.cells #[.slice B m d] 23)) (g.below b1) (by omega) (by simp) (by simp)
  have HG := Lib.hid h
  have HB1 := Lib.hid b1
  have HSL := Lib.hid (srt_len ps)
  obtain ⟨T, hTT⟩ : ∃ T, layAll l ps = T := ⟨_, rfl⟩
  rw [hTT] at hT hTl ⊢
  have HTl := Lib.hid (show T.length ≤ 200000 by omega)
  have HP := Lib.hid hp
  clear h g b1 hTT hTl hl hp
  generalize srt ps = S at *
  have HT := Lib.hid hT
  clear hT
  go_enter Try.func31, Try.ntmps31
  go_wp2_with (go_at_call 44; refine (values_any _ _ _ _).mono ?_; rintro e w' ⟨rfl, rfl⟩)
  refine cS.mono ?_
  rintro e W0 ⟨v0, rfl, ho, hb⟩
  obtain ⟨A2, n2, c2, rfl, hS, -⟩ := own_nums ho
  have HS := Lib.hid hS
  have HL := Lib.hid hS.len
  have HB := Lib.hid (HB1.out.trans (hb.mono HB1.out.size))
  have HN := Lib.hid (HG.out.below HB.out)
  have hn2 : n2 ≤ 100000 := by have := hS.len; have := HSL.out; have := HP.out; omega
  clear ho hb cS HG HB1 hS HSL
  go_wp2_with fail
  go_loopw [0, 5, 13] (fun s0 s5 i wr => ∃ (k : Nat) (A' : Option Addr) (n' c' : Nat) (r : List Int) (xs : List Part) (v : Value), v = s5 ∧ s0 = .slice A' n' c' ∧ i = .int .i64 (k : Int) ∧ k ≤ n2 ∧ NAt W0 A' n' c' r ∧ PS W0 wr v xs ∧ Hid (allOf xs ++ laidS r (S.drop k) = T) ∧ xs.length = 2 * k) (fun _ _ i _ => n2 - (intOf i).toNat)
  case atStart => exact ⟨0, A, n, c, l, [], _, rfl, rfl, rfl, Nat.zero_le _, HN.out, PS.nil _, Lib.hid (by rw [List.drop_zero]; exact HT.out), rfl⟩
  case round =>
    obtain ⟨k, A', n', c', r, xs, v, rfl, rfl, rfl, hk, hr, hps, hQ, hx⟩ := hrel
    by_cases hlt : k < n2
    · have hkl : k < S.length := by have := HL.out; omega
      obtain ⟨b, off, rfl, hb, hc⟩ := HS.out.row (by intro e; rw [e] at hkl; simp at hkl)
      have hck := (hps.below.cell (p := ⟨b, off + k, none⟩) hb).trans (hc k hkl)
      have hrw := hr.below hps.below
      have HQ := Lib.hid (fun B' : Option Addr => laid_round hkl hQ.out B' A' c')
      have hj := plc_le S[k] r
      have cP := place_any A' n' c' r S[k] wr hrw
      generalize S[k] = p at hck HQ hj cP
      rw [hr.len] at hj
      clear hc hQ
      obtain ⟨j, hjj⟩ : ∃ j, plc p r = j := ⟨_, rfl⟩
      rw [hjj] at hj HQ cP
      clear hjj
      have HR := Lib.hid hr
      have HPS := Lib.hid hps
      have q1 : ∀ W, (Instr.slice 23 (.slice A' n' c') none (some (.int .i64 (j : Int))) none).run Try.prog W = .ok (.slice A' j c') W := fun W => head_run A' n' c' j (Nat.le_trans hj hr.cap) W
      have q2 : ∀ W, (Instr.slice 23 (.slice A' n' c') (some (.int .i64 (j : Int))) none none).run Try.prog W = .ok (.slice (if c' = j then A' else A'.map (·.add j)) (n' - j) (c' - j)) W := fun W => tail_run A' n' c' j hj W
      have HT2 := Lib.hid (hr.tail hj)
      generalize (if c' = j then A' else A'.map (·.add j)) = A3 at q2 HT2
      generalize c' - j = c3 at q2 HT2
      generalize hn3 : n' - j = n3 at q2 HT2
      clear hn3 hr hps hrw
      go_wp2_with fail
      refine cP.mono ?_
      rintro e w1 ⟨rfl, hb1⟩
      have hps1 : PS W0 w1 v xs := ⟨OwnG.kept HPS.out.own hb1, fun x hx => ⟨(HPS.out.parts x hx).at_.below hb1, fun hne a e => by
        have := (HPS.out.parts x hx).apart hne a e
        exact ⟨Nat.lt_of_lt_of_le this.1 hb1.size, this.2⟩⟩, HPS.out.below.trans (hb1.mono HPS.out.below.size)⟩
      have hh := (HR.out.head hj).below hps1.below
      have hy : Lies w1 v.ownBlock (A', c', r.take j) := by
        refine ⟨by rw [show (A', c', r.take j).2.2.length = j from hh.len]; exact hh, fun hne a e => ?_⟩
        obtain ⟨b', o', e', hlt', -⟩ := HR.out.row (fun e3 => hne (by show r.take j = []; rw [e3]; simp))
        have e4 : some a = some ⟨b', o', none⟩ := e.symm.trans e'
        cases e4
        refine ⟨Nat.lt_of_lt_of_le hlt' hps1.below.size, fun e5 => ?_⟩
        have := (World.ownsRow.lt hps1.own b' e5.symm).1
        omega
      obtain ⟨v', W', hrun, hps2, -⟩ := hps1.two A' j c' (r.take j) hh.len hy p (by omega)
      have Q := Lib.hid hrun
      have HQ2 := Lib.hid (HQ.out (some ⟨w1.heap.size, 0, none⟩))
      have HX : Hid ((xs ++ [(A', c', r.take j), (some ⟨w1.heap.size, 0, none⟩, 1, [p])]).length = 2 * (k + 1)) := Lib.hid (by rw [List.length_append, hx]; rfl)
      have HP2 := Lib.hid hps2
      clear cP hb1 hps1 hh hy hrun hps2 HQ hx HPS HR
      go_wp2_with (at_builtin; (refine wpList_append_eq rfl (.tmp 20) (.tmp 26) _ rfl rfl rfl Q.out ?_; clear Q))
      go_roundw
      case rel => exact ⟨k + 1, _, _, _, _, _, _, rfl, rfl, by go_num, by omega, HT2.out, HP2.out, HQ2, HX.out⟩
      case measure => simp [intOf]; omega
    · have hkn : k = n2 := by omega
      subst hkn
      have HQ2 : Hid (allOf (xs ++ [(A', c', r)]) = T) := Lib.hid (by
        have := hQ.out
        rw [List.drop_of_length_le (by have := HL.out; omega), laidS] at this
        rw [← this, allOf_append]; simp [allOf])
      have hrw := hr.below hps.below
      have hln := hr.len
      subst hln
      have hy : Lies wr v.ownBlock (A', c', r) := by
        refine ⟨hrw, fun hne a e => ?_⟩
        obtain ⟨b', o', e', hlt', -⟩ := hr.row hne
        have e4 : some a = some ⟨b', o', none⟩ := e.symm.trans e'
        cases e4
        refine ⟨Nat.lt_of_lt_of_le hlt' hps.below.size, fun e5 => ?_⟩
        have := (World.ownsRow.lt hps.own b' e5.symm).1
        omega
      obtain ⟨v', W', hrun, hps2, -⟩ := hps.app [(A', c', r)] (fun x hx => by rw [List.mem_singleton.1 hx]; exact hy) 1 rfl #[.slice A' r.length c'] rfl (by omega)
      obtain ⟨A4, c4, rfl, h4, -, -, h5⟩ := OwnG.row hps2.own
      have cJ := joined_any A4 _ c4 _ W' rfl (by rw [List.length_append, hx]; simp; omega) h5 (fun x hx => (hps2.parts x hx).at_) (by rw [HQ2.out]; have := HTl.out; omega)
      rw [HQ2.out] at cJ
      have HBB := Lib.hid hps2.below
      generalize (xs ++ [(A', c', r)]).length = n4 at hrun cJ
      have Q := Lib.hid hrun
      clear hrun hps2 h4 h5 hy hrw hQ HQ2
      generalize r.length = n' at *
      go_wp2_with (at_builtin; (refine wpList_append_eq rfl (.tmp 32) (.tmp 34) _ rfl rfl rfl Q.out ?_; clear Q))
      refine cJ.mono ?_
      rintro e w2 ⟨v2, rfl, ho2, hb2⟩
      have HO2 := Lib.hid (own_base ho2 (Nat.le_trans HB.out.size HBB.out.size))
      have HB2 := Lib.hid (HB.out.trans ((HBB.out.trans (hb2.mono HBB.out.size)).mono HB.out.size))
      clear cJ ho2 hb2
      go_wp2_with fail
      go_ret
      exact ⟨_, rfl, HO2.out, HB2.out⟩
end Go.Proofs.Ytdkpnoinccdaiaa.Pool
