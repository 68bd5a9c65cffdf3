/-
  Texts of one family, one behind the other: QLaid, QTurn, QLent, QGive.
-/
import Derived.Test.YtboaamaneeodfaaGreatKQ1
import Derived.Deep.RegionHeld3
namespace Go.Proofs.YtboaamaneeodfaaGreat.Pool
open Go.RowKit Gen

set_option maxRecDepth 100000 in
theorem lists_elem : Elem Tryz.prog 98 68 encS :=
  ⟨Tryz.underlying98, ⟨_, _, 24, rfl, rfl, rfl, rfl, rfl, by omega⟩, fun _ => rfl⟩
abbrev OwnL (w : World) (B : Nat) (v : Value) (xs : List Part) : Prop := OwnG w 68 encS B v xs
theorem row_grown {α : Type} {enc : α → Value} {w w' : World} {A : Option Addr} {l : List α} {row : Option Nat} (h : RowG w enc A l) (g : w.grownBy w' row) (hA : l ≠ [] → ∀ a, A = some a → some a.block ≠ row) : RowG w' enc A l := fun hne => by
  obtain ⟨b, off, e, hlt, hc⟩ := h hne
  refine ⟨b, off, e, Nat.lt_of_lt_of_le hlt g.size, fun k hk => ?_⟩
  rw [World.cell?_of_block (w := w) (a := ⟨b, off + k, none⟩) (g.block b hlt (hA hne _ e))]; exact hc k hk
/-- A part lies in memory, apart from a block. -/
structure Lies (w : World) (row : Option Nat) (x : Part) : Prop where
  at_ : NAt w x.1 x.2.2.length x.2.1 x.2.2
  apart : x.2.2 ≠ [] → ∀ a, x.1 = some a → a.block < w.heap.size ∧ some a.block ≠ row
theorem Lies.alloc {w : World} {row : Option Nat} {x : Part} (h : Lies w row x) (o : Obj) : Lies (w.alloc o) row x :=
  ⟨h.at_.below (below_box w o), fun hne a e => by have := h.apart hne a e; exact ⟨by simp; omega, this.2⟩⟩
theorem Lies.grown {w w' : World} {row row' : Option Nat} {x : Part} (h : Lies w row x) (g : w.grownBy w' row) (hr : row' = row ∨ row' = some w.heap.size) : Lies w' row' x :=
  ⟨⟨h.at_.len, h.at_.cap, h.at_.max, h.at_.nil, row_grown h.at_.row g (fun hne a e => (h.apart hne a e).2)⟩, fun hne a e => by
    have h1 := h.apart hne a e
    refine ⟨Nat.lt_of_lt_of_le h1.1 g.size, ?_⟩
    rcases hr with rfl | rfl
    · exact h1.2
    · intro e2
      have := Option.some.inj e2
      omega⟩
/-- Parts in a list of the call's own, behind w. -/
structure PS (w wr : World) (v : Value) (xs : List Part) : Prop where
  own : OwnL wr w.heap.size v xs
  parts : ∀ x ∈ xs, Lies wr v.ownBlock x
  below : Below w.heap.size w wr
theorem PS.nil (w : World) : PS w w (.slice none 0 0) [] := ⟨OwnG.nil _ _ _ _, fun x hx => by simp at hx, Below.refl _ _⟩
theorem PS.alloc {w wr : World} {v : Value} {xs : List Part} (h : PS w wr v xs) (o : Obj) : PS w (wr.alloc o) v xs :=
  ⟨OwnG.kept h.own (below_box wr o), fun x hx => (h.parts x hx).alloc o, h.below.alloc h.below.size o⟩
theorem PS.app {w wr : World} {v : Value} {xs : List Part} (h : PS w wr v xs) (zs : List Part) (hz : ∀ x ∈ zs, Lies wr v.ownBlock x) (m : Nat) (hm : zs.length = m) (C : Array Value) (hC : C = (zs.map encS).toArray) (hn : xs.length + m ≤ 1000000) :
    ∃ v' W', (Builtin.append_ #[98, 98] 98 #[v, .slice (some ⟨wr.heap.size, 0, none⟩) m m]).run Tryz.prog (wr.alloc (.cells C 68)) = .ok v' W' ∧ PS w W' v' (xs ++ zs) ∧ Below w.heap.size wr W' := by
  have h2 := h.alloc (.cells C 68)
  have hrow : RowG (wr.alloc (.cells C 68)) encS (some ⟨wr.heap.size, 0, none⟩) zs := fun _ => ⟨wr.heap.size, 0, rfl, by simp, fun k hk => by
    rw [Nat.zero_add, cell_of_row _ _ k C _ _ (heap_alloc_new wr _), hC]
    simp [hk]⟩
  obtain ⟨v', W', hrun, ho', hg, hv⟩ := append_row lists_elem _ w.heap.size v xs h2.own (some ⟨wr.heap.size, 0, none⟩) m m zs hm (fun e => by cases e) hrow (by omega) h2.below.size
  refine ⟨v', W', hrun, ⟨ho', fun x hx => ?_, below_grown h2.below h2.own hg h2.below.size⟩, ?_⟩
  · rcases List.mem_append.1 hx with hx | hx
    · exact (h2.parts x hx).grown hg hv
    · exact ((hz x hx).alloc _).grown hg hv
  · exact below_grown ((Below.refl _ wr).alloc h.below.size _) h2.own hg h2.below.size
/-- .. a part and one page. -/
theorem PS.two {w wr : World} {v : Value} {xs : List Part} (h : PS w wr v xs) (A : Option Addr) (j c : Nat) (l1 : List Int) (hj : l1.length = j) (hy : Lies wr v.ownBlock (A, c, l1)) (p : Int) (hn : xs.length ≤ 900000) :
    ∃ v' W', (Builtin.append_ #[98, 98] 98 #[v, .slice (some ⟨wr.heap.size + 1, 0, none⟩) 2 2]).run Tryz.prog ((wr.alloc (.cells #[.int .i64 p] 3)).alloc (.cells #[.slice A j c, .slice (some ⟨wr.heap.size, 0, none⟩) 1 1] 68)) = .ok v' W' ∧
      PS w W' v' (xs ++ [(A, c, l1), (some ⟨wr.heap.size, 0, none⟩, 1, [p])]) ∧ Below w.heap.size wr W' := by
  subst hj
  have h1 := h.alloc (.cells #[.int .i64 p] 3)
  have hlt : ∀ k, v.ownBlock = some k → k < wr.heap.size := fun k hk => (World.ownsRow.lt h.own k hk).2
  have hp : Lies (wr.alloc (.cells #[.int .i64 p] 3)) v.ownBlock (some ⟨wr.heap.size, 0, none⟩, 1, [p]) :=
    ⟨⟨rfl, Nat.le_refl _, (show (1 : Nat) ≤ maxLen by unfold maxLen; omega), fun e => (by cases e), fun _ => ⟨wr.heap.size, 0, rfl, by simp, fun k hk => by
      obtain rfl : k = 0 := by simp at hk; omega
      simp⟩⟩, fun _ a e => by
      cases e
      exact ⟨by simp, fun e => absurd (hlt _ e.symm) (Nat.lt_irrefl _)⟩⟩
  obtain ⟨v', W', hrun, hps, hb⟩ := h1.app [(A, c, l1), (some ⟨wr.heap.size, 0, none⟩, 1, [p])] (fun x hx => by
    rcases List.mem_cons.1 hx with rfl | hx
    · exact hy.alloc _
    · rw [List.mem_singleton.1 hx]; exact hp) 2 rfl #[.slice A l1.length c, .slice (some ⟨wr.heap.size, 0, none⟩) 1 1] rfl (by omega)
  rw [World.size_alloc] at hrun
  exact ⟨v', W', hrun, hps, ((Below.refl _ wr).alloc h.below.size _).trans hb⟩
theorem drop_cons {l : List Int} {k : Nat} (h : k < l.length) : l.drop k = l[k] :: l.drop (k + 1) := List.drop_eq_getElem_cons h
/-- What a round of laid turns. -/
theorem laid_round {S r T : List Int} {xs : List Part} {k : Nat} (hk : k < S.length) (h : allOf xs ++ laidS r (S.drop k) = T) (B : Option Addr) (A : Option Addr) (c : Nat) :
    allOf (xs ++ [(A, c, r.take (plc S[k] r)), (B, 1, [S[k]])]) ++ laidS (r.drop (plc S[k] r)) (S.drop (k + 1)) = T := by
  rw [drop_cons hk, laidS] at h
  rw [← h, allOf_append]
  simp [allOf]
set_option maxRecDepth 100000 in
set_option maxHeartbeats 4000000 in
theorem laid_any (A B : Option Addr) (n c m d : Nat) (l ps : List Int) (w : World) (h : NAt w A n c l) (g : NAt w B m d ps) (hn : n ≤ 100000) (hm : m ≤ 100000) :
    Calls Tryz.prog 105 #[.slice A n c, .slice B m d] w (Owns (layAll l ps) w) := by
  have hT := laid_eq l ps
  have hTl := layAll_len l ps
  have hl := h.len
  have hp := g.len
  have b1 := below_box w (.cells #[.slice B m d] 68)
  have cS := sorted_any w.heap.size B m d ps (w.alloc (.cells #[.slice B m d] 68)) (g.below b1) (by omega) (by simp) (by simp)
  have HG := Lib.hid h
  have HB1 := Lib.hid b1
  have HSL := Lib.hid (srt_len ps)
  obtain ⟨T, hTT⟩ : ∃ T, layAll l ps = T := ⟨_, rfl⟩
  rw [hTT] at hT hTl ⊢
  have HTl := Lib.hid (show T.length ≤ 200000 by omega)
  have HP := Lib.hid hp
  clear h g b1 hTT hTl hl hp
  generalize srt ps = S at *
  have HT := Lib.hid hT
  clear hT
  go_enter Tryz.func105, Tryz.ntmps105
  go_wp2_with (go_at_call 134; refine (values_any _ _ _ _).mono ?_; rintro e w' ⟨rfl, rfl⟩)
  refine cS.mono ?_
  rintro e W0 ⟨v0, rfl, ho, hb⟩
  obtain ⟨A2, n2, c2, rfl, hS, -⟩ := own_nums ho
  have HS := Lib.hid hS
  have HL := Lib.hid hS.len
  have HB := Lib.hid (HB1.out.trans (hb.mono HB1.out.size))
  have HN := Lib.hid (HG.out.below HB.out)
  have hn2 : n2 ≤ 100000 := by have := hS.len; have := HSL.out; have := HP.out; omega
  clear ho hb cS HG HB1 hS HSL
  go_wp2_with fail
  go_loopw [0, 5, 13] (fun s0 s5 i wr => ∃ (k : Nat) (A' : Option Addr) (n' c' : Nat) (r : List Int) (xs : List Part) (v : Value), v = s5 ∧ s0 = .slice A' n' c' ∧ i = .int .i64 (k : Int) ∧ k ≤ n2 ∧ NAt W0 A' n' c' r ∧ PS W0 wr v xs ∧ Hid (allOf xs ++ laidS r (S.drop k) = T) ∧ xs.length = 2 * k) (fun _ _ i _ => n2 - (intOf i).toNat)
  case atStart => exact ⟨0, A, n, c, l, [], _, rfl, rfl, rfl, Nat.zero_le _, HN.out, PS.nil _, Lib.hid (by rw [List.drop_zero]; exact HT.out), rfl⟩
  case round =>
    obtain ⟨k, A', n', c', r, xs, v, rfl, rfl, rfl, hk, hr, hps, hQ, hx⟩ := hrel
    by_cases hlt : k < n2
    · have hkl : k < S.length := by have := HL.out; omega
      obtain ⟨b, off, rfl, hb, hc⟩ := HS.out.row (by intro e; rw [e] at hkl; simp at hkl)
      have hck := (hps.below.cell (p := ⟨b, off + k, none⟩) hb).trans (hc k hkl)
      have hrw := hr.below hps.below
      have HQ := Lib.hid (fun B' : Option Addr => laid_round hkl hQ.out B' A' c')
      have hj := plc_le S[k] r
      have cP := place_any A' n' c' r S[k] wr hrw
      generalize S[k] = p at hck HQ hj cP
      rw [hr.len] at hj
      clear hc hQ
      obtain ⟨j, hjj⟩ : ∃ j, plc p r = j := ⟨_, rfl⟩
      rw [hjj] at hj HQ cP
      clear hjj
      have HR := Lib.hid hr
      have HPS := Lib.hid hps
      have q1 : ∀ W, (Instr.slice 68 (.slice A' n' c') none (some (.int .i64 (j : Int))) none).run Tryz.prog W = .ok (.slice A' j c') W := fun W => head_run A' n' c' j (Nat.le_trans hj hr.cap) W
      have q2 : ∀ W, (Instr.slice 68 (.slice A' n' c') (some (.int .i64 (j : Int))) none none).run Tryz.prog W = .ok (.slice (if c' = j then A' else A'.map (·.add j)) (n' - j) (c' - j)) W := fun W => tail_run A' n' c' j hj W
      have HT2 := Lib.hid (hr.tail hj)
      generalize (if c' = j then A' else A'.map (·.add j)) = A3 at q2 HT2
      generalize c' - j = c3 at q2 HT2
      generalize hn3 : n' - j = n3 at q2 HT2
      clear hn3 hr hps hrw
      go_wp2_with fail
      refine cP.mono ?_
      rintro e w1 ⟨rfl, hb1⟩
      have hps1 : PS W0 w1 v xs := ⟨OwnG.kept HPS.out.own hb1, fun x hx => ⟨(HPS.out.parts x hx).at_.below hb1, fun hne a e => by
        have := (HPS.out.parts x hx).apart hne a e
        exact ⟨Nat.lt_of_lt_of_le this.1 hb1.size, this.2⟩⟩, HPS.out.below.trans (hb1.mono HPS.out.below.size)⟩
      have hh := (HR.out.head hj).below hps1.below
      have hy : Lies w1 v.ownBlock (A', c', r.take j) := by
        refine ⟨by rw [show (A', c', r.take j).2.2.length = j from hh.len]; exact hh, fun hne a e => ?_⟩
        obtain ⟨b', o', e', hlt', -⟩ := HR.out.row (fun e3 => hne (by show r.take j = []; rw [e3]; simp))
        have e4 : some a = some ⟨b', o', none⟩ := e.symm.trans e'
        cases e4
        refine ⟨Nat.lt_of_lt_of_le hlt' hps1.below.size, fun e5 => ?_⟩
        have := (World.ownsRow.lt hps1.own b' e5.symm).1
        omega
      obtain ⟨v', W', hrun, hps2, -⟩ := hps1.two A' j c' (r.take j) hh.len hy p (by omega)
      have Q := Lib.hid hrun
      have HQ2 := Lib.hid (HQ.out (some ⟨w1.heap.size, 0, none⟩))
      have HX : Hid ((xs ++ [(A', c', r.take j), (some ⟨w1.heap.size, 0, none⟩, 1, [p])]).length = 2 * (k + 1)) := Lib.hid (by rw [List.length_append, hx]; rfl)
      have HP2 := Lib.hid hps2
      clear cP hb1 hps1 hh hy hrun hps2 HQ hx HPS HR
      go_wp2_with (at_builtin; (refine wpList_append_eq rfl (.tmp 20) (.tmp 26) _ rfl rfl rfl Q.out ?_; clear Q))
      go_roundw
      case rel => exact ⟨k + 1, _, _, _, _, _, _, rfl, rfl, by go_num, by omega, HT2.out, HP2.out, HQ2, HX.out⟩
      case measure => simp [intOf]; omega
    · have hkn : k = n2 := by omega
      subst hkn
      have HQ2 : Hid (allOf (xs ++ [(A', c', r)]) = T) := Lib.hid (by
        have := hQ.out
        rw [List.drop_of_length_le (by have := HL.out; omega), laidS] at this
        rw [← this, allOf_append]; simp [allOf])
      have hrw := hr.below hps.below
      have hln := hr.len
      subst hln
      have hy : Lies wr v.ownBlock (A', c', r) := by
        refine ⟨hrw, fun hne a e => ?_⟩
        obtain ⟨b', o', e', hlt', -⟩ := hr.row hne
        have e4 : some a = some ⟨b', o', none⟩ := e.symm.trans e'
        cases e4
        refine ⟨Nat.lt_of_lt_of_le hlt' hps.below.size, fun e5 => ?_⟩
        have := (World.ownsRow.lt hps.own b' e5.symm).1
        omega
      obtain ⟨v', W', hrun, hps2, -⟩ := hps.app [(A', c', r)] (fun x hx => by rw [List.mem_singleton.1 hx]; exact hy) 1 rfl #[.slice A' r.length c'] rfl (by omega)
      obtain ⟨A4, c4, rfl, h4, -, -, h5⟩ := OwnG.row hps2.own
      have cJ := joined_any A4 _ c4 _ W' rfl (by rw [List.length_append, hx]; simp; omega) h5 (fun x hx => (hps2.parts x hx).at_) (by rw [HQ2.out]; have := HTl.out; omega)
      rw [HQ2.out] at cJ
      have HBB := Lib.hid hps2.below
      generalize (xs ++ [(A', c', r)]).length = n4 at hrun cJ
      have Q := Lib.hid hrun
      clear hrun hps2 h4 h5 hy hrw hQ HQ2
      generalize r.length = n' at *
      go_wp2_with (at_builtin; (refine wpList_append_eq rfl (.tmp 32) (.tmp 34) _ rfl rfl rfl Q.out ?_; clear Q))
      refine cJ.mono ?_
      rintro e w2 ⟨v2, rfl, ho2, hb2⟩
      have HO2 := Lib.hid (own_base ho2 (Nat.le_trans HB.out.size HBB.out.size))
      have HB2 := Lib.hid (HB.out.trans ((HBB.out.trans (hb2.mono HBB.out.size)).mono HB.out.size))
      clear cJ ho2 hb2
      go_wp2_with fail
      go_ret
      exact ⟨_, rfl, HO2.out, HB2.out⟩
end Go.Proofs.YtboaamaneeodfaaGreat.Pool
namespace Go.Proofs.YtboaamaneeodfaaGreat.Pool
open Go.RowKit Gen

def set3 (w : World) (b : Nat) (v0 v1 v2 : Value) : World := ((w.setCell ⟨b, 0, none⟩ v0).setCell ⟨b, 1, none⟩ v1).setCell ⟨b, 2, none⟩ v2
theorem set3_at {w : World} {b : Nat} {C : Array Value} (h : At w b C) (hC : C.size = 3) (v0 v1 v2 : Value) : At (set3 w b v0 v1 v2) b #[v0, v1, v2] := by
  have h1 := ((h.set 0 v0 (by omega)).set 1 v1 (by simp; omega)).set 2 v2 (by simp; omega)
  have e : ((C.setIfInBounds 0 v0).setIfInBounds 1 v1).setIfInBounds 2 v2 = #[v0, v1, v2] := by
    rcases C with ⟨l⟩
    match l, hC with
    | [x, y, z], _ => rfl
  rw [e] at h1
  exact h1
theorem set3_below {w0 w : World} {n b : Nat} (h : Below n w0 w) (hb : n ≤ b) (v0 v1 v2 : Value) : Below n w0 (set3 w b v0 v1 v2) :=
  ((h.setCell (p := ⟨b, 0, none⟩) hb v0).setCell (p := ⟨b, 1, none⟩) hb v1).setCell (p := ⟨b, 2, none⟩) hb v2
/-- Below a block that is turned, all lies as it lay. -/
theorem NAt.beneath {w w' : World} {A : Option Addr} {n c B : Nat} {l : List Int} (h : NAt w A n c l) (hw : w.heap.size ≤ B) (hb : Below B w w') : NAt w' A n c l := h.below (hb.mono hw)
theorem own_kept {w w' : World} {row : Option Nat} {B : Nat} {v : Value} {l : List Int} (h : OwnI w B v l) (g : w.grownBy w' row) (hne : v.ownBlock = none ∨ v.ownBlock ≠ row) : OwnI w' B v l := by
  obtain ⟨hl, h | ⟨k, cap, cur, rfl, hg, hh, h4, h5, h6, h7⟩⟩ := h
  · exact ⟨hl, .inl h⟩
  · exact ⟨hl, .inr ⟨k, cap, cur, rfl, hg, by rw [g.block k (Array.getElem?_eq_some_iff.1 hh).1 (by rcases hne with h | h; cases h; exact h)]; exact hh, h4, h5, h6, h7⟩⟩
theorem grown_set (w : World) (b j : Nat) (v : Value) : w.grownBy (w.setCell ⟨b, j, none⟩ v) (some b) :=
  ⟨rfl, rfl, rfl, by simp, fun k _ hk => Below.heap_setCell _ _ _ k (fun e => hk (by rw [e]))⟩
theorem set3_grown (w : World) (b : Nat) (v0 v1 v2 : Value) : w.grownBy (set3 w b v0 v1 v2) (some b) := ((grown_set w b 0 v0).trans (grown_set _ b 1 v1)).trans (grown_set _ b 2 v2)
/-- A list of the call's own lies apart from a pool that the call has made. -/
theorem own_set3 {w : World} {B b : Nat} {v : Value} {l : List Int} (h : OwnI w B v l) (hb : b < B) (v0 v1 v2 : Value) : OwnI (set3 w b v0 v1 v2) B v l :=
  own_kept h (set3_grown _ _ _ _ _) (by
    by_cases e : v.ownBlock = none
    · exact .inl e
    · refine .inr fun e2 => ?_
      have := (World.ownsRow.lt h b e2).1
      omega)
theorem set3_other {w : World} {b b' : Nat} {C : Array Value} (h : At w b C) (hne : b' ≠ b) (v0 v1 v2 : Value) : At (set3 w b' v0 v1 v2) b C := ((h.set_other (i := 0) (v := v0) hne).set_other (i := 1) (v := v1) hne).set_other (i := 2) (v := v2) hne
theorem po_cells {w : World} {b : Nat} {p : Po} {a : La} (h : At w b (poC p a)) : w.cell? ⟨b, 0, none⟩ = some (.int .i64 p.high) ∧ w.cell? ⟨b, 1, none⟩ = some (.slice a.A1 p.free.length a.c1) ∧ w.cell? ⟨b, 2, none⟩ = some (.slice a.A2 p.limbo.length a.c2) := ⟨h.2.2 0 _ rfl, h.2.2 1 _ rfl, h.2.2 2 _ rfl⟩
/-- A pool is handed back. -/
def Pools (q : Po) (w : World) (e : Ending) (w' : World) : Prop := ∃ a, e = .returned (poV q a) ∧ PoAt w' q a ∧ Below w.heap.size w w' ∧ ∀ x, a.A1 = some x → w.heap.size + 2 ≤ x.block
def PoolsT (q : Po) (w : World) (e : Ending) (w' : World) : Prop := ∃ a, e = .returned (poV q a) ∧ PoAt w' q a ∧ Below w.heap.size w w' ∧ (∀ x, a.A1 = some x → w.heap.size + 2 ≤ x.block) ∧ a.A2 = none
/-- A pool's two boxes: it, and the one that is handed back. -/
theorem two_boxes (w : World) (p : Po) (a : La) : At ((w.alloc (.cells (poC p a) 73)).alloc (.cells (poC { high := 0 } {}) 73)) w.heap.size (poC p a) ∧ At ((w.alloc (.cells (poC p a) 73)).alloc (.cells (poC { high := 0 } {}) 73)) (w.heap.size + 1) (poC { high := 0 } {}) ∧
    Below w.heap.size w ((w.alloc (.cells (poC p a) 73)).alloc (.cells (poC { high := 0 } {}) 73)) ∧ ((w.alloc (.cells (poC p a) 73)).alloc (.cells (poC { high := 0 } {}) 73)).heap.size = w.heap.size + 2 := by
  have h1 := po_box w p a
  have h2 := po_box (w.alloc (.cells (poC p a) 73)) { high := 0 } {}
  rw [World.size_alloc] at h2
  exact ⟨h1.below (n := w.heap.size + 1) ((Below.refl _ _).alloc (by simp) _) (by omega), h2, (below_box w _).alloc (by simp) _, by simp⟩
set_option maxRecDepth 100000 in
set_option maxHeartbeats 4000000 in
theorem turn_full (p : Po) (a : La) (w : World) (h : PoAt w p a) (hf : p.free.length ≤ 100000) (hl : p.limbo.length ≤ 100000) :
    Calls Tryz.prog 71 #[poV p a] w (PoolsT { high := p.high, free := layAll p.free p.limbo } w) := by
  obtain ⟨t1, t2, t3, t4⟩ := two_boxes w p a
  have h0 := h.below t3
  have AT := Lib.hid t1
  have AZ := Lib.hid t2
  have BB := Lib.hid t3
  unfold poV
  obtain ⟨W0, hW0⟩ : ∃ W0, (w.alloc (.cells (poC p a) 73)).alloc (.cells #[.int .i64 0, .slice none 0 0, .slice none 0 0] 73) = W0 := ⟨_, rfl⟩
  have e0 : poC { high := 0 } {} = #[.int .i64 0, .slice none 0 0, .slice none 0 0] := rfl
  rw [e0] at t4 h0 AT AZ BB
  rw [hW0] at AT AZ BB t4 h0
  have HD : Below W0.heap.size W0 W0.drew := (Below.refl _ _).drew
  have cL := laid_any a.A1 a.A2 _ a.c1 _ a.c2 p.free p.limbo W0.drew (h0.f.below HD) (h0.l.below HD) hf hl
  have c0 : W0.drew.cell? ⟨w.heap.size, 0, none⟩ = some (.int .i64 p.high) := AT.out.2.2 0 _ rfl
  have c1 : W0.drew.cell? ⟨w.heap.size, 1, none⟩ = some (.slice a.A1 p.free.length a.c1) := AT.out.2.2 1 _ rfl
  have c2 : W0.drew.cell? ⟨w.heap.size, 2, none⟩ = some (.slice a.A2 p.limbo.length a.c2) := AT.out.2.2 2 _ rfl
  have HS := Lib.hid t4
  clear t1 t2 t3 t4 h0 h hf hl HD e0
  go_enter Tryz.func71, Tryz.ntmps71
  go_wp2_with fail
  generalize layAll p.free p.limbo = R at *
  have K0 := Lib.hid (show W0.drew.cell? ⟨w.heap.size, 0, none⟩ = some (.int .i64 p.high) ∧ W0.drew.cell? ⟨w.heap.size, 1, none⟩ = some (.slice a.A1 p.free.length a.c1) ∧ W0.drew.cell? ⟨w.heap.size, 2, none⟩ = some (.slice a.A2 p.limbo.length a.c2) from ⟨c0, c1, c2⟩)
  clear hW0 c0 c1 c2
  go_region_held3 (fun w' => w'.cell? ⟨w.heap.size, 0, none⟩ = some (.int .i64 p.high) ∧ w'.cell? ⟨w.heap.size, 1, none⟩ = some (.slice a.A1 p.free.length a.c1) ∧ w'.cell? ⟨w.heap.size, 2, none⟩ = some (.slice a.A2 p.limbo.length a.c2))
    (with_reducible (first | exact K0.out | exact K1.out | exact K2.out))
    ((go_at_call 105; (with_reducible refine cL.mono ?_); rintro e w1 ⟨v, rfl, ho, hb⟩
      have hb' : Below W0.heap.size W0 w1 := (Below.refl W0.heap.size W0).drew.trans hb
      have K1 := Lib.hid (po_cells (AT.out.below hb' AT.out.1))
      have HO := Lib.hid (own_set3 ho (b := w.heap.size + 1) (show w.heap.size + 1 < W0.drew.heap.size by have := HS.out; simp; omega) (.int .i64 p.high) v (.slice none 0 0))
      have AZ2 := Lib.hid (AZ.out.below hb' (by have := HS.out; omega))
      have A3 := Lib.hid (set3_at AZ2.out rfl (.int .i64 p.high) v (.slice none 0 0))
      have B3 := Lib.hid (set3_below (BB.out.trans (hb'.mono BB.out.size)) (Nat.le_succ _) (.int .i64 p.high) v (.slice none 0 0))
      have K2 := Lib.hid (po_cells (set3_other (AT.out.below hb' AT.out.1) (Nat.succ_ne_self _) (.int .i64 p.high) v (.slice none 0 0)))
      have r0 : w1.cell? ⟨w.heap.size + 1, 0, none⟩ = some (.int .i64 0) := AZ2.out.2.2 0 _ rfl
      have r1 : w1.cell? ⟨w.heap.size + 1, 1, none⟩ = some (.slice none 0 0) := AZ2.out.2.2 1 _ rfl
      have r2 : w1.cell? ⟨w.heap.size + 1, 2, none⟩ = some (.slice none 0 0) := AZ2.out.2.2 2 _ rfl
      have fz := AZ2.out.2.1
      obtain ⟨A', n', c', rfl, hN, hbl⟩ := own_nums HO.out
      have HBL := Lib.hid hbl
      clear hbl
      have HN := Lib.hid hN
      unfold set3 at K2
      clear ho hb hb' hN HO))
  go_wp2_with fail
  change bodyPost _ _ _ _ _ (set3 w1 (w.heap.size + 1) (.int .i64 p.high) (.slice A' n' c') (.slice none 0 0))
  generalize set3 w1 (w.heap.size + 1) (.int .i64 p.high) (.slice A' n' c') (.slice none 0 0) = W9 at *
  clear r0 r1 r2 fz K0 K1 K2
  have c0 := A3.out.2.2 0 _ rfl
  have c1 := A3.out.2.2 1 _ rfl
  have c2 := A3.out.2.2 2 _ rfl
  have hl := HN.out.len
  subst hl
  refine bodyPost_ret (v := poV { high := p.high, free := R } { A1 := A', c1 := c' }) (by simp [results, Tryz.results71, go_sem, *]) rfl ?_
  exact ⟨_, rfl, ⟨HN.out, NAt.none _⟩, B3.out, ⟨fun x e => by have := HBL.out x e; have := HS.out; simp at *; omega, rfl⟩⟩
theorem turn_any (p : Po) (a : La) (w : World) (h : PoAt w p a) (hf : p.free.length ≤ 100000) (hl : p.limbo.length ≤ 100000) :
    Calls Tryz.prog 71 #[poV p a] w (Pools { high := p.high, free := layAll p.free p.limbo } w) :=
  (turn_full p a w h hf hl).mono (fun _ _ ⟨a, h1, h2, h3, h4⟩ => ⟨a, h1, h2, h3, h4.1⟩)
end Go.Proofs.YtboaamaneeodfaaGreat.Pool
namespace Go.Proofs.YtboaamaneeodfaaGreat.Pool
open Go.RowKit Gen

instance (high n : Int) : Decidable (Covers high n) := inferInstanceAs (Decidable (_ ∧ _))
instance (p : Po) (most : Int) : Decidable (PoolOk p most) := decidable_of_iff _ (poolOk_iff p most).symm
/-- A page that may come back. -/
def May (p : Po) (n : Int) : Prop := Covers p.high n ∧ n ∉ p.free ∧ n ∉ p.limbo
instance (p : Po) (n : Int) : Decidable (May p n) := inferInstanceAs (Decidable (_ ∧ _))
set_option maxRecDepth 100000 in
theorem lent_any (p : Po) (a : La) (n : Int) (w : World) (h : PoAt w p a) : Calls Tryz.prog 113 #[poV p a, .int .i64 n] w (Tells (May p n) w) := by
  have hb := below_box w (.cells (poC p a) 73)
  have hat := po_box w p a
  have cV := covers_any p a n (w.alloc (.cells (poC p a) 73))
  have HP := Lib.hid (h.below hb)
  have HB := Lib.hid hb
  have AT := Lib.hid hat
  obtain ⟨c0, c1, c2⟩ := po_cells hat
  clear h hb hat
  obtain ⟨W0, hW0⟩ : ∃ W0, w.alloc (.cells (poC p a) 73) = W0 := ⟨_, rfl⟩
  rw [hW0] at HP HB AT cV c0 c1 c2
  unfold poV
  go_enter Tryz.func113, Tryz.ntmps113
  go_wp2_with fail
  refine cV.mono ?_
  rintro e w1 ⟨r, rfl, hr, hb⟩
  clear hW0 c0 c1 c2 cV
  rcases r with _ | _
  · have HN : Hid (¬ May p n) := Lib.hid (fun g => by cases (hr.2 g.1))
    have HB1 := Lib.hid (HB.out.trans (hb.mono HB.out.size))
    clear hr hb
    go_wp2_with fail
    go_ret
    exact ⟨_, rfl, ⟨fun h => (by cases h), fun h => absurd h HN.out⟩, HB1.out⟩
  have HC := Lib.hid (hr.1 rfl)
  have HP1 := Lib.hid (HP.out.below hb)
  obtain ⟨c0, c1, c2⟩ := po_cells (AT.out.below hb AT.out.1)
  have cF := contains_any a.A1 _ a.c1 p.free n w1 HP1.out.f
  have cL := contains_any a.A2 _ a.c2 p.limbo n w1 HP1.out.l
  have HB1 := Lib.hid (HB.out.trans (hb.mono HB.out.size))
  clear hr hb
  go_wp2_with fail
  refine cF.mono ?_
  rintro e w2 ⟨r, rfl, hr, rfl⟩
  clear cF
  rcases r with _ | _
  rotate_left
  · have HN : Hid (¬ May p n) := Lib.hid (fun g => g.2.1 (hr.1 rfl))
    clear hr cL
    go_wp2_with fail
    go_ret
    exact ⟨_, rfl, ⟨fun h => (by cases h), fun h => absurd h HN.out⟩, HB1.out⟩
  have HF : Hid (n ∉ p.free) := Lib.hid (fun g => by cases (hr.2 g))
  clear hr
  go_wp2_with fail
  refine cL.mono ?_
  rintro e w2 ⟨r, rfl, hr, rfl⟩
  clear cL
  have HR : Hid ((!r) = true ↔ May p n) := Lib.hid ⟨fun e => ⟨HC.out, HF.out, fun g => by rw [hr.2 g] at e; cases e⟩, fun g => by
    rcases r with _ | _
    · rfl
    · exact absurd (hr.1 rfl) g.2.2⟩
  clear hr
  go_wp2_with fail
  go_ret
  exact ⟨_, rfl, HR.out, HB1.out⟩
/-- Check's own closure. -/
theorem check1_any (b : Nat) (p : Po) (a : La) (x : Int) (w : World) (h : At w b (poC p a)) : Calls Tryz.prog 110 #[.int .i64 x, .pointer (some ⟨b, 0, none⟩)] w fun e w' => e = .returned (.bool (!decide (Covers p.high x))) ∧ Below w.heap.size w w' := by
  obtain ⟨c0, c1, c2⟩ := po_cells h
  have cV := covers_any p a x w
  unfold poV at cV
  unfold poC at cV
  clear h
  go_enter Tryz.func110, Tryz.ntmps110
  go_wp2_with fail
  refine cV.mono ?_
  rintro e w1 ⟨r, rfl, hr, hb⟩
  have HR : Hid ((!r) = !decide (Covers p.high x)) := Lib.hid (by
    rw [show r = decide (Covers p.high x) by
      rcases r with _ | _
      · exact (decide_eq_false (fun g => by cases hr.2 g)).symm
      · exact (decide_eq_true (hr.1 rfl)).symm])
  have HB := Lib.hid hb
  clear hr hb c0 c1 c2 cV
  go_wp2_with fail
  go_ret
  exact ⟨by rw [← HR.out]; rfl, HB.out⟩
theorem field_run (h : Int) (A1 A2 : Option Addr) (n1 n2 c1 c2 : Nat) (W : World) : (Instr.field 73 (.agg #[.int .i64 h, .slice A1 n1 c1, .slice A2 n2 c2]) 1).run Tryz.prog W = .ok (.slice A1 n1 c1) W := by
  kernel_rfl
def Checks (p : Po) (most : Int) (w : World) (e : Ending) (w' : World) : Prop := e = .returned (numV (if PoolOk p most then 0 else 61)) ∧ Below w.heap.size w w'
set_option maxRecDepth 100000 in
set_option maxHeartbeats 4000000 in
theorem check_any (p : Po) (a : La) (most : Int) (w : World) (h : PoAt w p a) (hf : p.free.length ≤ 100000) (hl : p.limbo.length ≤ 100000) : Calls Tryz.prog 79 #[poV p a, .int .i64 most] w (Checks p most w) := by
  have hb := below_box w (.cells (poC p a) 73)
  have hat := po_box w p a
  have HP := Lib.hid (h.below hb)
  have cT := turn_any p a (w.alloc (.cells (poC p a) 73)) HP.out hf hl
  have HB := Lib.hid hb
  have AT := Lib.hid hat
  have HI := Lib.hid (poolOk_iff p most)
  obtain ⟨c0, c1, c2⟩ := po_cells hat
  clear h hb hat
  obtain ⟨W0, hW0⟩ : ∃ W0, w.alloc (.cells (poC p a) 73) = W0 := ⟨_, rfl⟩
  rw [hW0] at HP HB AT cT c0 c1 c2
  unfold poV at cT
  unfold poV
  go_enter Tryz.func79, Tryz.ntmps79
  go_wp2_with fail
  refine cT.mono ?_
  rintro e w1 ⟨b, rfl, hp, hb, -⟩
  obtain ⟨R, hR⟩ : ∃ R, layAll p.free p.limbo = R := ⟨_, rfl⟩
  have HF := Lib.hid hp.f
  rw [hR] at HF HI
  unfold poV
  unfold poC
  simp only [hR]
  clear hW0 c0 c1 c2 cT hp hR
  have HP1 := Lib.hid (HP.out.below hb)
  have AT1 := Lib.hid (AT.out.below hb AT.out.1)
  have HB1 := Lib.hid (HB.out.trans (hb.mono HB.out.size))
  obtain ⟨c0, c1, c2⟩ := po_cells AT1.out
  have qf := field_run p.high b.A1 b.A2 R.length 0 b.c1 b.c2
  clear hb
  by_cases h2 : p.high < 2
  · have d1 : decide (p.high < 2) = true := by simp [h2]
    have HN : Hid (¬ PoolOk p most) := Lib.hid (fun g => by have := g.low; omega)
    go_wp2_with fail
    go_ret
    exact ⟨by rw [if_neg HN.out]; rfl, HB1.out⟩
  have d1 : decide (p.high < 2) = false := by simp [h2]
  by_cases hm : most < p.high
  · have d2 : decide (most < p.high) = true := by simp [hm]
    have HN : Hid (¬ PoolOk p most) := Lib.hid (fun g => by have := g.top; omega)
    go_wp2_with fail
    go_ret
    exact ⟨by rw [if_neg HN.out]; rfl, HB1.out⟩
  have d2 : decide (most < p.high) = false := by simp [hm]
  have H2 := Lib.hid h2
  have HM := Lib.hid hm
  clear h2 hm
  have cR1 := rises_any a.A2 _ a.c2 p.limbo w1 HP1.out.l
  go_wp2_with fail
  refine cR1.mono ?_
  rintro e w2 ⟨r, rfl, hr, hb⟩
  have HB2 := Lib.hid (HB1.out.trans (hb.mono HB1.out.size))
  have AT2 := Lib.hid (AT1.out.below hb AT1.out.1)
  have HF2 := Lib.hid (HF.out.below hb)
  clear cR1 hb c0 c1 c2 d1 d2 AT1 HF HB1 HP1
  rcases r with _ | _
  · have HN : Hid (¬ PoolOk p most) := Lib.hid (fun g => by cases hr.2 g.limbo)
    clear hr
    go_wp2_with fail
    go_ret
    exact ⟨by rw [if_neg HN.out]; rfl, HB2.out⟩
  have HR1 := Lib.hid (hr.1 rfl)
  clear hr
  have cR2 := rises_any b.A1 _ b.c1 R w2 HF2.out
  go_wp2_with fail
  refine cR2.mono ?_
  rintro e w3 ⟨r, rfl, hr, hb⟩
  have HB3 := Lib.hid (HB2.out.trans (hb.mono HB2.out.size))
  have AT3 := Lib.hid (AT2.out.below hb AT2.out.1)
  have HF3 := Lib.hid (HF2.out.below hb)
  clear cR2 hb AT2 HF2 HB2
  rcases r with _ | _
  · have HN : Hid (¬ PoolOk p most) := Lib.hid (fun g => by cases hr.2 (HI.out.1 g).2.2.2.1)
    clear hr
    go_wp2_with fail
    go_ret
    exact ⟨by rw [if_neg HN.out]; rfl, HB3.out⟩
  have HR2 := Lib.hid (hr.1 rfl)
  clear hr
  have cC := containsFunc_any 110 #[.pointer (some ⟨w.heap.size, 0, none⟩)] (fun x => !decide (Covers p.high x)) (Go.Proofs.enters_of Tryz.func110 (by kernel_rfl) rfl) b.A1 _ b.c1 R w3 HF3.out (fun W x hW =>
    (check1_any w.heap.size p a x W (AT3.out.below hW AT3.out.1)).mono (by rintro e w' ⟨rfl, hb⟩; exact ⟨rfl, hW.trans (hb.mono hW.size)⟩))
  go_wp2_with fail
  refine cC.mono ?_
  rintro e w4 ⟨r, rfl, hr, hb⟩
  have HB4 := Lib.hid (HB3.out.trans (hb.mono HB3.out.size))
  clear cC hb
  rcases r with _ | _
  · have HN : Hid (PoolOk p most) := Lib.hid (HI.out.2 ⟨by have := H2.out; omega, by have := HM.out; omega, HR1.out, HR2.out, fun x hx => by
      by_cases g : Covers p.high x
      · exact g
      · have := hr.2 ⟨x, hx, by simp [g]⟩
        cases this⟩)
    clear hr
    go_wp2_with fail
    go_ret
    exact ⟨by rw [if_pos HN.out]; rfl, HB4.out⟩
  · have HN : Hid (¬ PoolOk p most) := Lib.hid (fun g => by
      obtain ⟨x, hx, e⟩ := hr.1 rfl
      have := (HI.out.1 g).2.2.2.2 x hx
      simp [Covers, this] at e)
    clear hr
    go_wp2_with fail
    go_ret
    exact ⟨by rw [if_neg HN.out]; rfl, HB4.out⟩
end Go.Proofs.YtboaamaneeodfaaGreat.Pool
namespace Go.Proofs.YtboaamaneeodfaaGreat.Pool
open Go.RowKit Gen

/-- joined, of a list that a literal holds. -/
theorem join_at (x : Part) (W : World) (b : Nat) (hc : W.cell? ⟨b, 0, none⟩ = some (encS x)) (hb : b < W.heap.size) (h : NAt W x.1 x.2.2.length x.2.1 x.2.2) (hn : x.2.2.length ≤ 1000000) :
    Calls Tryz.prog 78 #[.slice (some ⟨b, 0, none⟩) 1 1] W (Owns x.2.2 W) := by
  have e : allOf [x] = x.2.2 := by simp [allOf]
  rw [← e]
  exact joined_any (some ⟨b, 0, none⟩) 1 1 [x] W rfl (by omega) (fun _ => ⟨b, 0, rfl, hb, fun k hk => by
    obtain rfl : k = 0 := by simp at hk; omega
    exact hc⟩) (fun y hy => by rw [List.mem_singleton.1 hy]; exact h) (by rw [e]; omega)
/-- laid, of a page that a literal holds. -/
theorem laid_at (A : Option Addr) (n c : Nat) (l : List Int) (p : Int) (W : World) (b : Nat) (hc : W.cell? ⟨b, 0, none⟩ = some (.int .i64 p)) (hb : b < W.heap.size) (h : NAt W A n c l) (hn : n ≤ 100000) :
    Calls Tryz.prog 105 #[.slice A n c, .slice (some ⟨b, 0, none⟩) 1 1] W (Owns (lay1 p l) W) :=
  laid_any A (some ⟨b, 0, none⟩) n c 1 1 l [p] W h ⟨rfl, Nat.le_refl _, by unfold maxLen; omega, fun e => (by cases e), fun _ => ⟨b, 0, rfl, hb, fun k hk => by
    obtain rfl : k = 0 := by simp at hk; omega
    exact hc⟩⟩ hn (by omega)
theorem cell1 (W : World) (x : Value) (t : TypeId) : (W.alloc (.cells #[x] t)).cell? ⟨W.heap.size, 0, none⟩ = some x ∧ W.heap.size < (W.alloc (.cells #[x] t)).heap.size := ⟨by simp, by simp⟩
theorem cell1D (W : World) (x : Value) (t : TypeId) : (W.drew.alloc (.cells #[x] t)).cell? ⟨W.heap.size, 0, none⟩ = some x ∧ W.heap.size < (W.drew.alloc (.cells #[x] t)).heap.size := cell1 W.drew x t
theorem cell2D (W : World) (x : Value) (t : TypeId) (y : Value) (s : TypeId) : ((W.drew.alloc (.cells #[x] t)).alloc (.cells #[y] s)).cell? ⟨W.heap.size, 0, none⟩ = some x ∧ ((W.drew.alloc (.cells #[x] t)).alloc (.cells #[y] s)).cell? ⟨W.heap.size + 1, 0, none⟩ = some y ∧
    W.heap.size + 1 < ((W.drew.alloc (.cells #[x] t)).alloc (.cells #[y] s)).heap.size ∧ W.heap.size < ((W.drew.alloc (.cells #[x] t)).alloc (.cells #[y] s)).heap.size := by
  have h1 := cell1D W x t
  have h2 := cell1 (W.drew.alloc (.cells #[x] t)) y s
  have e : (W.drew.alloc (.cells #[x] t)).heap.size = W.heap.size + 1 := World.size_alloc _ _
  rw [e] at h2
  exact ⟨((below_box _ _).cell (p := ⟨W.heap.size, 0, none⟩) h1.2).trans h1.1, h2.1, h2.2, by omega⟩
def takeP (p : Po) (most : Int) : Po × Int × Int := match p.free with
  | x :: fs => ({ high := p.high, free := fs, limbo := p.limbo }, x, 0)
  | [] => if most ≤ p.high then ({ high := 0 }, 0, 60) else ({ high := p.high + 1, limbo := p.limbo }, p.high, 0)
def giveP (p : Po) (n : Int) : Po × Int := if May p n then ({ high := p.high, free := p.free, limbo := lay1 n p.limbo }, 0) else ({ high := 0 }, 1)
def backP (p : Po) (n : Int) : Po × Int := if May p n then ({ high := p.high, free := lay1 n p.free, limbo := p.limbo }, 0) else ({ high := 0 }, 1)
/-- A pool's lists lie in blocks from n on. -/
def Fresh (n : Nat) (a : La) : Prop := (∀ x, a.A1 = some x → n ≤ x.block) ∧ ∀ x, a.A2 = some x → n ≤ x.block
theorem Fresh.nil (n : Nat) : Fresh n {} := ⟨fun x e => (by cases e), fun x e => (by cases e)⟩
/-- A pool and an error are handed back. -/
def PoolE (r : Po × Int) (w : World) (e : Ending) (w' : World) : Prop := ∃ a, e = .returned (.tuple #[poV r.1 a, numV r.2]) ∧ PoAt w' r.1 a ∧ Below w.heap.size w w' ∧ Fresh w.heap.size a
/-- A pool, a page and an error. -/
def PoolN (r : Po × Int × Int) (w : World) (e : Ending) (w' : World) : Prop := ∃ a, e = .returned (.tuple #[poV r.1 a, numV r.2.1, numV r.2.2]) ∧ PoAt w' r.1 a ∧ Below w.heap.size w w'
def PoolNF (r : Po × Int × Int) (w : World) (e : Ending) (w' : World) : Prop := ∃ a, e = .returned (.tuple #[poV r.1 a, numV r.2.1, numV r.2.2]) ∧ PoAt w' r.1 a ∧ Below w.heap.size w w' ∧ Fresh w.heap.size a
theorem none_at (w : World) : PoAt w { high := 0 } {} := ⟨NAt.none w, NAt.none w⟩
set_option maxRecDepth 100000 in
set_option maxHeartbeats 8000000 in
theorem give_any (p : Po) (a : La) (n : Int) (w : World) (h : PoAt w p a) (hf : p.free.length ≤ 100000) (hl : p.limbo.length ≤ 100000) : Calls Tryz.prog 81 #[poV p a, .int .i64 n] w (PoolE (giveP p n) w) := by
  obtain ⟨t1, t2, t3, t4⟩ := two_boxes w p a
  have h0 := h.below t3
  have AT := Lib.hid t1
  have AZ := Lib.hid t2
  have BB := Lib.hid t3
  unfold poV
  obtain ⟨W0, hW0⟩ : ∃ W0, (w.alloc (.cells (poC p a) 73)).alloc (.cells #[.int .i64 0, .slice none 0 0, .slice none 0 0] 73) = W0 := ⟨_, rfl⟩
  have e0 : poC { high := 0 } {} = #[.int .i64 0, .slice none 0 0, .slice none 0 0] := rfl
  rw [e0] at t4 h0 AT AZ BB
  rw [hW0] at AT AZ BB t4 h0
  have HP := Lib.hid h0
  have HS := Lib.hid (Nat.le_of_eq t4.symm)
  obtain ⟨c0, c1, c2⟩ := po_cells AT.out
  clear t1 t2 t3 t4 h0 h e0
  have cM := lent_any p a n W0 HP.out
  have hh0 : W0.cell? ⟨w.heap.size + 1, 0, none⟩ = some (.int .i64 0) := AZ.out.2.2 0 _ rfl
  unfold poV at cM
  go_enter Tryz.func81, Tryz.ntmps81
  go_wp2_with fail
  refine cM.mono ?_
  rintro e W1 ⟨r, rfl, hr, hb⟩
  clear hW0 c0 c1 c2 cM hh0
  replace AT := Lib.hid (AT.out.below hb AT.out.1)
  replace AZ := Lib.hid (AZ.out.below hb (by have := HS.out; omega))
  replace BB := Lib.hid (BB.out.trans (hb.mono BB.out.size))
  replace HP := Lib.hid (HP.out.below hb)
  replace HS := Lib.hid (Nat.le_trans HS.out hb.size)
  clear hb
  rcases r with _ | _
  · have HN : Hid (giveP p n = ({ high := 0 }, 1)) := Lib.hid (by unfold giveP; rw [if_neg (fun g => by cases hr.2 g)])
    have r0 : W1.cell? ⟨w.heap.size + 1, 0, none⟩ = some (.int .i64 0) := AZ.out.2.2 0 _ rfl
    have r1 : W1.cell? ⟨w.heap.size + 1, 1, none⟩ = some (.slice none 0 0) := AZ.out.2.2 1 _ rfl
    have r2 : W1.cell? ⟨w.heap.size + 1, 2, none⟩ = some (.slice none 0 0) := AZ.out.2.2 2 _ rfl
    have fz := AZ.out.2.1
    have A3 := Lib.hid (set3_at AZ.out rfl (.int .i64 0) (.slice none 0 0) (.slice none 0 0))
    have B3 := Lib.hid (set3_below BB.out (Nat.le_succ _) (.int .i64 0) (.slice none 0 0) (.slice none 0 0))
    clear hr
    go_wp2_with fail
    change bodyPost _ _ _ _ _ (set3 W1 (w.heap.size + 1) (.int .i64 0) (.slice none 0 0) (.slice none 0 0))
    generalize set3 W1 (w.heap.size + 1) (.int .i64 0) (.slice none 0 0) (.slice none 0 0) = W9 at *
    clear r0 r1 r2 fz
    have c0 := A3.out.2.2 0 _ rfl
    have c1 := A3.out.2.2 1 _ rfl
    have c2 := A3.out.2.2 2 _ rfl
    refine bodyPost_ret (v := .tuple #[poV { high := 0 } {}, numV 1]) (by simp [results, Tryz.results81, go_sem, *]) rfl ?_
    rw [HN.out]
    exact ⟨{}, rfl, none_at _, B3.out, Fresh.nil _⟩
  have HN : Hid (giveP p n = ({ high := p.high, free := p.free, limbo := (lay1 n p.limbo) }, 0)) := Lib.hid (by unfold giveP; rw [if_pos (hr.1 rfl)])
  clear hr
  go_wp2_with fail
  have KS := Lib.hid (show ∀ w', Below W1.heap.size W1 w' → w'.cell? ⟨w.heap.size, 0, none⟩ = some (.int .i64 p.high) ∧ w'.cell? ⟨w.heap.size, 1, none⟩ = some (.slice a.A1 p.free.length a.c1) ∧ w'.cell? ⟨w.heap.size, 2, none⟩ = some (.slice a.A2 p.limbo.length a.c2) from fun w' hB => po_cells (AT.out.below hB AT.out.1))
  have KX := Lib.hid (show ∀ w', Below W1.heap.size W1 w' → ∀ v1 v2, (fun w' => w'.cell? ⟨w.heap.size, 0, none⟩ = some (.int .i64 p.high) ∧ w'.cell? ⟨w.heap.size, 1, none⟩ = some (.slice a.A1 p.free.length a.c1) ∧ w'.cell? ⟨w.heap.size, 2, none⟩ = some (.slice a.A2 p.limbo.length a.c2)) (set3 w' (w.heap.size + 1) (.int .i64 p.high) v1 v2) from fun w' hB v1 v2 => po_cells (set3_other (AT.out.below hB AT.out.1) (Nat.succ_ne_self _) _ v1 v2))
  have J1 := Lib.hid (show ∀ W b, Below W1.heap.size W1 W → W.cell? ⟨b, 0, none⟩ = some (.slice a.A1 p.free.length a.c1) → b < W.heap.size → Calls Tryz.prog 78 #[.slice (some ⟨b, 0, none⟩) 1 1] W (Owns p.free W) from fun W b hB hc hb => join_at (a.A1, a.c1, p.free) W b hc hb (HP.out.f.below hB) (by simp only; omega))
  have J2 := Lib.hid (show ∀ W b, Below W1.heap.size W1 W → W.cell? ⟨b, 0, none⟩ = some (.int .i64 n) → b < W.heap.size → Calls Tryz.prog 105 #[.slice a.A2 p.limbo.length a.c2, .slice (some ⟨b, 0, none⟩) 1 1] W (Owns (lay1 n p.limbo) W) from fun W b hB hc hb => laid_at a.A2 _ a.c2 p.limbo n W b hc hb (HP.out.l.below hB) hl)
  have BD := Lib.hid (show Below W1.heap.size W1 W1.drew from (Below.refl _ _).drew)
  have Ba := Lib.hid (show Below W1.heap.size W1 (W1.alloc (.cells #[.slice a.A1 p.free.length a.c1] 68)).drew from (below_box W1 _).drew)
  have Bb := Lib.hid (show Below W1.heap.size W1 (W1.alloc (.cells #[.int .i64 n] 3)).drew from (below_box W1 _).drew)
  have Bab := Lib.hid (show Below W1.heap.size W1 ((W1.alloc (.cells #[.slice a.A1 p.free.length a.c1] 68)).alloc (.cells #[.int .i64 n] 3)).drew from ((below_box W1 _).alloc (below_box W1 _).size _).drew)
  have Bba := Lib.hid (show Below W1.heap.size W1 ((W1.alloc (.cells #[.int .i64 n] 3)).alloc (.cells #[.slice a.A1 p.free.length a.c1] 68)).drew from ((below_box W1 _).alloc (below_box W1 _).size _).drew)
  have K0 := Lib.hid (KS.out _ BD.out)
  have Ka := Lib.hid (KS.out _ Ba.out)
  have Kb := Lib.hid (KS.out _ Bb.out)
  have Kab := Lib.hid (KS.out _ Bab.out)
  have Kba := Lib.hid (KS.out _ Bba.out)
  have cA := J1.out (W1.alloc (.cells #[.slice a.A1 p.free.length a.c1] 68)).drew W1.heap.size Ba.out (cell1D W1 (.slice a.A1 p.free.length a.c1) 68).1 (cell1D W1 (.slice a.A1 p.free.length a.c1) 68).2
  have cB := J1.out ((W1.alloc (.cells #[.slice a.A1 p.free.length a.c1] 68)).alloc (.cells #[.int .i64 n] 3)).drew W1.heap.size Bab.out (cell2D W1 (.slice a.A1 p.free.length a.c1) 68 (.int .i64 n) 3).1 (cell2D W1 (.slice a.A1 p.free.length a.c1) 68 (.int .i64 n) 3).2.2.2
  have cC := J1.out ((W1.alloc (.cells #[.int .i64 n] 3)).alloc (.cells #[.slice a.A1 p.free.length a.c1] 68)).drew (W1.heap.size + 1) Bba.out (cell2D W1 (.int .i64 n) 3 (.slice a.A1 p.free.length a.c1) 68).2.1 (cell2D W1 (.int .i64 n) 3 (.slice a.A1 p.free.length a.c1) 68).2.2.1
  have xb := Lib.hid (cell2D W1 (.slice a.A1 p.free.length a.c1) 68 (.int .i64 n) 3).2.1
  have xc := Lib.hid (cell2D W1 (.int .i64 n) 3 (.slice a.A1 p.free.length a.c1) 68).1
  have sb := Lib.hid (cell2D W1 (.slice a.A1 p.free.length a.c1) 68 (.int .i64 n) 3).2.2.1
  have sc := Lib.hid (cell2D W1 (.int .i64 n) 3 (.slice a.A1 p.free.length a.c1) 68).2.2.2
  clear J1
  go_region_held3 (fun w' => w'.cell? ⟨w.heap.size, 0, none⟩ = some (.int .i64 p.high) ∧ w'.cell? ⟨w.heap.size, 1, none⟩ = some (.slice a.A1 p.free.length a.c1) ∧ w'.cell? ⟨w.heap.size, 2, none⟩ = some (.slice a.A2 p.limbo.length a.c2))
    (with_reducible (first | exact K0.out | exact Ka.out | exact Kb.out | exact Kab.out | exact Kba.out | exact K1.out | exact K1b.out | exact K2.out | exact K3.out))
    (first
      | (go_at_call 78; (with_reducible refine cA.mono ?_); rintro e w1 ⟨v1, rfl, ho, hb⟩
         have hB : Below W1.heap.size W1 w1 := Ba.out.trans (hb.mono Ba.out.size); have ho' := own_base ho Ba.out.size; have K1 := Lib.hid (KS.out _ hB); have hB2 := hB.alloc hB.size (.cells #[.int .i64 n] 3); have K1b := Lib.hid (KS.out _ hB2); have HBc := Lib.hid hB2; have HO1 := Lib.hid (OwnG.kept ho' (below_box w1 (.cells #[.int .i64 n] 3))); have cD := J2.out _ w1.heap.size hB2 (cell1 w1 (.int .i64 n) 3).1 (cell1 w1 (.int .i64 n) 3).2; clear hB2; clear ho hb hB ho')
      | (go_at_call 78; (with_reducible refine cB.mono ?_); rintro e w1 ⟨v1, rfl, ho, hb⟩
         have hB : Below W1.heap.size W1 w1 := Bab.out.trans (hb.mono Bab.out.size); have ho' := own_base ho Bab.out.size; have K1 := Lib.hid (KS.out _ hB); have HBc := Lib.hid hB; have HO1 := Lib.hid ho'; have cD := J2.out w1 (W1.heap.size + 1) hB ((hb.cell (p := ⟨W1.heap.size + 1, 0, none⟩) sb.out).trans xb.out) (Nat.lt_of_lt_of_le sb.out hb.size); clear ho hb hB ho')
      | (go_at_call 78; (with_reducible refine cC.mono ?_); rintro e w1 ⟨v1, rfl, ho, hb⟩
         have hB : Below W1.heap.size W1 w1 := Bba.out.trans (hb.mono Bba.out.size); have ho' := own_base ho Bba.out.size; have K1 := Lib.hid (KS.out _ hB); have HBc := Lib.hid hB; have HO1 := Lib.hid ho'; have cD := J2.out w1 W1.heap.size hB ((hb.cell (p := ⟨W1.heap.size, 0, none⟩) sc.out).trans xc.out) (Nat.lt_of_lt_of_le sc.out hb.size); clear ho hb hB ho')
      | (go_at_call 105; (with_reducible refine cD.mono ?_); rintro e w2 ⟨v2, rfl, ho2, hb2⟩
         have hB3 := HBc.out.trans (hb2.mono HBc.out.size)
         have K2 := Lib.hid (KS.out _ hB3)
         have HO1' := own_set3 (OwnG.kept HO1.out hb2) (b := w.heap.size + 1) (show w.heap.size + 1 < W1.heap.size by have := HS.out; omega) (.int .i64 p.high) v1 v2
         have HO2' := own_set3 (own_base ho2 HBc.out.size) (b := w.heap.size + 1) (show w.heap.size + 1 < W1.heap.size by have := HS.out; omega) (.int .i64 p.high) v1 v2
         have AZ2 := Lib.hid (AZ.out.below hB3 (by have := HS.out; omega))
         have A3 := Lib.hid (set3_at AZ2.out rfl (.int .i64 p.high) v1 v2)
         have B3 := Lib.hid (set3_below (BB.out.trans (hB3.mono BB.out.size)) (Nat.le_succ _) (.int .i64 p.high) v1 v2)
         have K3 := Lib.hid (KX.out _ hB3 v1 v2)
         have r0 : w2.cell? ⟨w.heap.size + 1, 0, none⟩ = some (.int .i64 0) := AZ2.out.2.2 0 _ rfl
         have r1 : w2.cell? ⟨w.heap.size + 1, 1, none⟩ = some (.slice none 0 0) := AZ2.out.2.2 1 _ rfl
         have r2 : w2.cell? ⟨w.heap.size + 1, 2, none⟩ = some (.slice none 0 0) := AZ2.out.2.2 2 _ rfl
         have fz := AZ2.out.2.1
         obtain ⟨X1', n1', d1', rfl, hN1, hf1⟩ := own_nums HO1'
         obtain ⟨X2', n2', d2', rfl, hN2, hf2⟩ := own_nums HO2'
         have HN1 := Lib.hid hN1
         have HN2 := Lib.hid hN2
         have HF1 := Lib.hid hf1
         have HF2 := Lib.hid hf2
         unfold set3 at K3
         clear ho2 hb2 hB3 hN1 hN2 hf1 hf2 HO1' HO2' HO1 cD))
  all_goals
    go_wp2_with fail
    change bodyPost _ _ _ _ _ (set3 w2 (w.heap.size + 1) (.int .i64 p.high) (.slice X1' n1' d1') (.slice X2' n2' d2'))
    generalize set3 w2 (w.heap.size + 1) (.int .i64 p.high) (.slice X1' n1' d1') (.slice X2' n2' d2') = W9 at *
    clear r0 r1 r2 fz K0 Ka Kb Kab Kba K2 K3
    have c0 := A3.out.2.2 0 _ rfl
    have c1 := A3.out.2.2 1 _ rfl
    have c2 := A3.out.2.2 2 _ rfl
    obtain rfl := HN1.out.len
    obtain rfl := HN2.out.len
    refine bodyPost_ret (v := .tuple #[poV { high := p.high, free := p.free, limbo := (lay1 n p.limbo) } { A1 := X1', c1 := d1', A2 := X2', c2 := d2' }, numV 0]) (by simp [results, Tryz.results81, go_sem, *]) rfl ?_
    exact ⟨{ A1 := X1', c1 := d1', A2 := X2', c2 := d2' }, by rw [HN.out], by rw [HN.out]; exact ⟨HN1.out, HN2.out⟩, B3.out, fun x e => Nat.le_trans BB.out.size (HF1.out x e), fun x e => Nat.le_trans BB.out.size (HF2.out x e)⟩
set_option maxRecDepth 100000 in
set_option maxHeartbeats 8000000 in
theorem back_any (p : Po) (a : La) (n : Int) (w : World) (h : PoAt w p a) (hf : p.free.length ≤ 100000) (hl : p.limbo.length ≤ 100000) : Calls Tryz.prog 98 #[poV p a, .int .i64 n] w (PoolE (backP p n) w) := by
  obtain ⟨t1, t2, t3, t4⟩ := two_boxes w p a
  have h0 := h.below t3
  have AT := Lib.hid t1
  have AZ := Lib.hid t2
  have BB := Lib.hid t3
  unfold poV
  obtain ⟨W0, hW0⟩ : ∃ W0, (w.alloc (.cells (poC p a) 73)).alloc (.cells #[.int .i64 0, .slice none 0 0, .slice none 0 0] 73) = W0 := ⟨_, rfl⟩
  have e0 : poC { high := 0 } {} = #[.int .i64 0, .slice none 0 0, .slice none 0 0] := rfl
  rw [e0] at t4 h0 AT AZ BB
  rw [hW0] at AT AZ BB t4 h0
  have HP := Lib.hid h0
  have HS := Lib.hid (Nat.le_of_eq t4.symm)
  obtain ⟨c0, c1, c2⟩ := po_cells AT.out
  clear t1 t2 t3 t4 h0 h e0
  have cM := lent_any p a n W0 HP.out
  have hh0 : W0.cell? ⟨w.heap.size + 1, 0, none⟩ = some (.int .i64 0) := AZ.out.2.2 0 _ rfl
  unfold poV at cM
  go_enter Tryz.func98, Tryz.ntmps98
  go_wp2_with fail
  refine cM.mono ?_
  rintro e W1 ⟨r, rfl, hr, hb⟩
  clear hW0 c0 c1 c2 cM hh0
  replace AT := Lib.hid (AT.out.below hb AT.out.1)
  replace AZ := Lib.hid (AZ.out.below hb (by have := HS.out; omega))
  replace BB := Lib.hid (BB.out.trans (hb.mono BB.out.size))
  replace HP := Lib.hid (HP.out.below hb)
  replace HS := Lib.hid (Nat.le_trans HS.out hb.size)
  clear hb
  rcases r with _ | _
  · have HN : Hid (backP p n = ({ high := 0 }, 1)) := Lib.hid (by unfold backP; rw [if_neg (fun g => by cases hr.2 g)])
    have r0 : W1.cell? ⟨w.heap.size + 1, 0, none⟩ = some (.int .i64 0) := AZ.out.2.2 0 _ rfl
    have r1 : W1.cell? ⟨w.heap.size + 1, 1, none⟩ = some (.slice none 0 0) := AZ.out.2.2 1 _ rfl
    have r2 : W1.cell? ⟨w.heap.size + 1, 2, none⟩ = some (.slice none 0 0) := AZ.out.2.2 2 _ rfl
    have fz := AZ.out.2.1
    have A3 := Lib.hid (set3_at AZ.out rfl (.int .i64 0) (.slice none 0 0) (.slice none 0 0))
    have B3 := Lib.hid (set3_below BB.out (Nat.le_succ _) (.int .i64 0) (.slice none 0 0) (.slice none 0 0))
    clear hr
    go_wp2_with fail
    change bodyPost _ _ _ _ _ (set3 W1 (w.heap.size + 1) (.int .i64 0) (.slice none 0 0) (.slice none 0 0))
    generalize set3 W1 (w.heap.size + 1) (.int .i64 0) (.slice none 0 0) (.slice none 0 0) = W9 at *
    clear r0 r1 r2 fz
    have c0 := A3.out.2.2 0 _ rfl
    have c1 := A3.out.2.2 1 _ rfl
    have c2 := A3.out.2.2 2 _ rfl
    refine bodyPost_ret (v := .tuple #[poV { high := 0 } {}, numV 1]) (by simp [results, Tryz.results98, go_sem, *]) rfl ?_
    rw [HN.out]
    exact ⟨{}, rfl, none_at _, B3.out, Fresh.nil _⟩
  have HN : Hid (backP p n = ({ high := p.high, free := (lay1 n p.free), limbo := p.limbo }, 0)) := Lib.hid (by unfold backP; rw [if_pos (hr.1 rfl)])
  clear hr
  go_wp2_with fail
  have KS := Lib.hid (show ∀ w', Below W1.heap.size W1 w' → w'.cell? ⟨w.heap.size, 0, none⟩ = some (.int .i64 p.high) ∧ w'.cell? ⟨w.heap.size, 1, none⟩ = some (.slice a.A1 p.free.length a.c1) ∧ w'.cell? ⟨w.heap.size, 2, none⟩ = some (.slice a.A2 p.limbo.length a.c2) from fun w' hB => po_cells (AT.out.below hB AT.out.1))
  have KX := Lib.hid (show ∀ w', Below W1.heap.size W1 w' → ∀ v1 v2, (fun w' => w'.cell? ⟨w.heap.size, 0, none⟩ = some (.int .i64 p.high) ∧ w'.cell? ⟨w.heap.size, 1, none⟩ = some (.slice a.A1 p.free.length a.c1) ∧ w'.cell? ⟨w.heap.size, 2, none⟩ = some (.slice a.A2 p.limbo.length a.c2)) (set3 w' (w.heap.size + 1) (.int .i64 p.high) v1 v2) from fun w' hB v1 v2 => po_cells (set3_other (AT.out.below hB AT.out.1) (Nat.succ_ne_self _) _ v1 v2))
  have J1 := Lib.hid (show ∀ W b, Below W1.heap.size W1 W → W.cell? ⟨b, 0, none⟩ = some (.int .i64 n) → b < W.heap.size → Calls Tryz.prog 105 #[.slice a.A1 p.free.length a.c1, .slice (some ⟨b, 0, none⟩) 1 1] W (Owns (lay1 n p.free) W) from fun W b hB hc hb => laid_at a.A1 _ a.c1 p.free n W b hc hb (HP.out.f.below hB) hf)
  have J2 := Lib.hid (show ∀ W b, Below W1.heap.size W1 W → W.cell? ⟨b, 0, none⟩ = some (.slice a.A2 p.limbo.length a.c2) → b < W.heap.size → Calls Tryz.prog 78 #[.slice (some ⟨b, 0, none⟩) 1 1] W (Owns p.limbo W) from fun W b hB hc hb => join_at (a.A2, a.c2, p.limbo) W b hc hb (HP.out.l.below hB) (by simp only; omega))
  have BD := Lib.hid (show Below W1.heap.size W1 W1.drew from (Below.refl _ _).drew)
  have Ba := Lib.hid (show Below W1.heap.size W1 (W1.alloc (.cells #[.int .i64 n] 3)).drew from (below_box W1 _).drew)
  have Bb := Lib.hid (show Below W1.heap.size W1 (W1.alloc (.cells #[.slice a.A2 p.limbo.length a.c2] 68)).drew from (below_box W1 _).drew)
  have Bab := Lib.hid (show Below W1.heap.size W1 ((W1.alloc (.cells #[.int .i64 n] 3)).alloc (.cells #[.slice a.A2 p.limbo.length a.c2] 68)).drew from ((below_box W1 _).alloc (below_box W1 _).size _).drew)
  have Bba := Lib.hid (show Below W1.heap.size W1 ((W1.alloc (.cells #[.slice a.A2 p.limbo.length a.c2] 68)).alloc (.cells #[.int .i64 n] 3)).drew from ((below_box W1 _).alloc (below_box W1 _).size _).drew)
  have K0 := Lib.hid (KS.out _ BD.out)
  have Ka := Lib.hid (KS.out _ Ba.out)
  have Kb := Lib.hid (KS.out _ Bb.out)
  have Kab := Lib.hid (KS.out _ Bab.out)
  have Kba := Lib.hid (KS.out _ Bba.out)
  have cA := J1.out (W1.alloc (.cells #[.int .i64 n] 3)).drew W1.heap.size Ba.out (cell1D W1 (.int .i64 n) 3).1 (cell1D W1 (.int .i64 n) 3).2
  have cB := J1.out ((W1.alloc (.cells #[.int .i64 n] 3)).alloc (.cells #[.slice a.A2 p.limbo.length a.c2] 68)).drew W1.heap.size Bab.out (cell2D W1 (.int .i64 n) 3 (.slice a.A2 p.limbo.length a.c2) 68).1 (cell2D W1 (.int .i64 n) 3 (.slice a.A2 p.limbo.length a.c2) 68).2.2.2
  have cC := J1.out ((W1.alloc (.cells #[.slice a.A2 p.limbo.length a.c2] 68)).alloc (.cells #[.int .i64 n] 3)).drew (W1.heap.size + 1) Bba.out (cell2D W1 (.slice a.A2 p.limbo.length a.c2) 68 (.int .i64 n) 3).2.1 (cell2D W1 (.slice a.A2 p.limbo.length a.c2) 68 (.int .i64 n) 3).2.2.1
  have xb := Lib.hid (cell2D W1 (.int .i64 n) 3 (.slice a.A2 p.limbo.length a.c2) 68).2.1
  have xc := Lib.hid (cell2D W1 (.slice a.A2 p.limbo.length a.c2) 68 (.int .i64 n) 3).1
  have sb := Lib.hid (cell2D W1 (.int .i64 n) 3 (.slice a.A2 p.limbo.length a.c2) 68).2.2.1
  have sc := Lib.hid (cell2D W1 (.slice a.A2 p.limbo.length a.c2) 68 (.int .i64 n) 3).2.2.2
  clear J1
  go_region_held3 (fun w' => w'.cell? ⟨w.heap.size, 0, none⟩ = some (.int .i64 p.high) ∧ w'.cell? ⟨w.heap.size, 1, none⟩ = some (.slice a.A1 p.free.length a.c1) ∧ w'.cell? ⟨w.heap.size, 2, none⟩ = some (.slice a.A2 p.limbo.length a.c2))
    (with_reducible (first | exact K0.out | exact Ka.out | exact Kb.out | exact Kab.out | exact Kba.out | exact K1.out | exact K1b.out | exact K2.out | exact K3.out))
    (first
      | (go_at_call 105; (with_reducible refine cA.mono ?_); rintro e w1 ⟨v1, rfl, ho, hb⟩
         have hB : Below W1.heap.size W1 w1 := Ba.out.trans (hb.mono Ba.out.size); have ho' := own_base ho Ba.out.size; have K1 := Lib.hid (KS.out _ hB); have hB2 := hB.alloc hB.size (.cells #[.slice a.A2 p.limbo.length a.c2] 68); have K1b := Lib.hid (KS.out _ hB2); have HBc := Lib.hid hB2; have HO1 := Lib.hid (OwnG.kept ho' (below_box w1 (.cells #[.slice a.A2 p.limbo.length a.c2] 68))); have cD := J2.out _ w1.heap.size hB2 (cell1 w1 (.slice a.A2 p.limbo.length a.c2) 68).1 (cell1 w1 (.slice a.A2 p.limbo.length a.c2) 68).2; clear hB2; clear ho hb hB ho')
      | (go_at_call 105; (with_reducible refine cB.mono ?_); rintro e w1 ⟨v1, rfl, ho, hb⟩
         have hB : Below W1.heap.size W1 w1 := Bab.out.trans (hb.mono Bab.out.size); have ho' := own_base ho Bab.out.size; have K1 := Lib.hid (KS.out _ hB); have HBc := Lib.hid hB; have HO1 := Lib.hid ho'; have cD := J2.out w1 (W1.heap.size + 1) hB ((hb.cell (p := ⟨W1.heap.size + 1, 0, none⟩) sb.out).trans xb.out) (Nat.lt_of_lt_of_le sb.out hb.size); clear ho hb hB ho')
      | (go_at_call 105; (with_reducible refine cC.mono ?_); rintro e w1 ⟨v1, rfl, ho, hb⟩
         have hB : Below W1.heap.size W1 w1 := Bba.out.trans (hb.mono Bba.out.size); have ho' := own_base ho Bba.out.size; have K1 := Lib.hid (KS.out _ hB); have HBc := Lib.hid hB; have HO1 := Lib.hid ho'; have cD := J2.out w1 W1.heap.size hB ((hb.cell (p := ⟨W1.heap.size, 0, none⟩) sc.out).trans xc.out) (Nat.lt_of_lt_of_le sc.out hb.size); clear ho hb hB ho')
      | (go_at_call 78; (with_reducible refine cD.mono ?_); rintro e w2 ⟨v2, rfl, ho2, hb2⟩
         have hB3 := HBc.out.trans (hb2.mono HBc.out.size)
         have K2 := Lib.hid (KS.out _ hB3)
         have HO1' := own_set3 (OwnG.kept HO1.out hb2) (b := w.heap.size + 1) (show w.heap.size + 1 < W1.heap.size by have := HS.out; omega) (.int .i64 p.high) v1 v2
         have HO2' := own_set3 (own_base ho2 HBc.out.size) (b := w.heap.size + 1) (show w.heap.size + 1 < W1.heap.size by have := HS.out; omega) (.int .i64 p.high) v1 v2
         have AZ2 := Lib.hid (AZ.out.below hB3 (by have := HS.out; omega))
         have A3 := Lib.hid (set3_at AZ2.out rfl (.int .i64 p.high) v1 v2)
         have B3 := Lib.hid (set3_below (BB.out.trans (hB3.mono BB.out.size)) (Nat.le_succ _) (.int .i64 p.high) v1 v2)
         have K3 := Lib.hid (KX.out _ hB3 v1 v2)
         have r0 : w2.cell? ⟨w.heap.size + 1, 0, none⟩ = some (.int .i64 0) := AZ2.out.2.2 0 _ rfl
         have r1 : w2.cell? ⟨w.heap.size + 1, 1, none⟩ = some (.slice none 0 0) := AZ2.out.2.2 1 _ rfl
         have r2 : w2.cell? ⟨w.heap.size + 1, 2, none⟩ = some (.slice none 0 0) := AZ2.out.2.2 2 _ rfl
         have fz := AZ2.out.2.1
         obtain ⟨X1', n1', d1', rfl, hN1, hf1⟩ := own_nums HO1'
         obtain ⟨X2', n2', d2', rfl, hN2, hf2⟩ := own_nums HO2'
         have HN1 := Lib.hid hN1
         have HN2 := Lib.hid hN2
         have HF1 := Lib.hid hf1
         have HF2 := Lib.hid hf2
         unfold set3 at K3
         clear ho2 hb2 hB3 hN1 hN2 hf1 hf2 HO1' HO2' HO1 cD))
  all_goals
    go_wp2_with fail
    change bodyPost _ _ _ _ _ (set3 w2 (w.heap.size + 1) (.int .i64 p.high) (.slice X1' n1' d1') (.slice X2' n2' d2'))
    generalize set3 w2 (w.heap.size + 1) (.int .i64 p.high) (.slice X1' n1' d1') (.slice X2' n2' d2') = W9 at *
    clear r0 r1 r2 fz K0 Ka Kb Kab Kba K2 K3
    have c0 := A3.out.2.2 0 _ rfl
    have c1 := A3.out.2.2 1 _ rfl
    have c2 := A3.out.2.2 2 _ rfl
    obtain rfl := HN1.out.len
    obtain rfl := HN2.out.len
    refine bodyPost_ret (v := .tuple #[poV { high := p.high, free := (lay1 n p.free), limbo := p.limbo } { A1 := X1', c1 := d1', A2 := X2', c2 := d2' }, numV 0]) (by simp [results, Tryz.results98, go_sem, *]) rfl ?_
    exact ⟨{ A1 := X1', c1 := d1', A2 := X2', c2 := d2' }, by rw [HN.out], by rw [HN.out]; exact ⟨HN1.out, HN2.out⟩, B3.out, fun x e => Nat.le_trans BB.out.size (HF1.out x e), fun x e => Nat.le_trans BB.out.size (HF2.out x e)⟩
end Go.Proofs.YtboaamaneeodfaaGreat.Pool
