/-
  AccountStays: the walk.
-/
import Derived.Test.YtobpbbldgbgcdaaALawBack
import Derived.Test.YtobpbbldgbgcdaaALawOrder
import Derived.Test.YtobpbbldgbgcdaaAHoldsQ
import Derived.Deep.Cut
namespace Go.Proofs.Ytobpbbldgbgcdaa.Acc
open Go.RowKit Go.Sort

theorem fit_nil : FitA [] := fun _ h => absurd h (Nat.not_lt_zero _)
theorem postR_fit {l l' : List Ac} {legs : List Lg} {er : Int} (hi : ∀ x ∈ l, AcIn x) (h : PostR l legs (l', er)) : FitA l' ∧ (er ≠ 0 → l' = []) ∧ l'.length ≤ l.length + legs.length ∧ ∀ x ∈ l', AcIn x := by
  by_cases he : er = 0
  · subst he
    have hp := (post_split h).2.2.2
    obtain ⟨h1, h2⟩ := posted_in hi hp
    exact ⟨h1, fun g => absurd rfl g, posted_len hp, h2⟩
  · have e : l' = [] := by
      unfold PostR at h
      split at h
      · exact (Prod.mk.inj h).1
      · rcases h with ⟨h1, _⟩ | ⟨h1, _⟩
        · exact absurd h1 he
        · exact h1
    subst e
    exact ⟨fit_nil, fun _ => rfl, Nat.zero_le _, fun x h => by cases h⟩
theorem find_real {l : List Ac} {o : Own} (h : (findA l o).bal ≠ 0 ∨ (findA l o).held ≠ 0) : findA l o ∈ l := by
  rcases find_cases l o with ⟨h1, _⟩ | ⟨_, h2⟩
  · exact h1
  · rw [h2] at h
    rcases h with h | h <;> exact absurd rfl h
theorem with_len (l : List Ac) (x : Ac) : (withA l x).length = l.length := by
  unfold withA
  split
  · rw [List.length_set]
  · rfl
theorem hold_fit {l : List Ac} (h : FitA l) (hi : ∀ x ∈ l, AcIn x) (who asset : Bs) (n : Int) (hn : n ≤ 9223372036854775807) : FitA (holdA l who asset n).1 ∧ ((holdA l who asset n).2 ≠ 0 → (holdA l who asset n).1 = []) ∧ (holdA l who asset n).1.length ≤ l.length := by
  unfold holdA
  by_cases hb : holdB who asset n = true
  rotate_left
  · rw [if_neg hb]
    exact ⟨fit_nil, fun _ => rfl, Nat.zero_le _⟩
  rw [if_pos hb]
  by_cases hd : IntKind.i64.wrap ((findA l (who, asset)).bal - (findA l (who, asset)).held) < n
  · rw [if_pos hd]
    exact ⟨fit_nil, fun _ => rfl, Nat.zero_le _⟩
  rw [if_neg hd]
  refine ⟨?_, fun g => absurd rfl g, by rw [with_len]; exact Nat.le_refl _⟩
  have hb' : 1 ≤ n ∧ who ≠ worldB := by
    unfold holdB at hb
    simp only [Bool.and_eq_true, decide_eq_true_eq, Bool.not_eq_true', beq_eq_false_iff_ne] at hb
    exact hb.1
  have hx : findA l (who, asset) ∈ l := by
    refine find_real ?_
    by_cases e : (findA l (who, asset)).bal = 0
    · refine .inr (fun e2 => hd ?_)
      rw [e, e2]
      have : IntKind.i64.wrap (0 - 0) = 0 := IntWalk.i64_in _ (by omega)
      rw [this]; omega
    · exact .inl e
  have ho := find_own l (who, asset)
  have hw : (findA l (who, asset)).who ≠ worldB := by
    have := congrArg Prod.fst ho
    intro e
    exact hb'.2 (this.symm.trans e)
  obtain ⟨g1, g2, g3, g4, g5⟩ := may_out h hx (hi _ hx) hw
  rw [g5] at hd
  generalize findA l (who, asset) = a at *
  rw [IntWalk.i64_in _ (by omega)]
  exact (with_fit h hx (y := a.hold (a.held + n)) rfl (held_may h hx hw (by omega) (by omega))).1
theorem free_fit {l : List Ac} (h : FitA l) (hi : ∀ x ∈ l, AcIn x) (who asset : Bs) (n : Int) : FitA (freeA l who asset n).1 ∧ ((freeA l who asset n).2 ≠ 0 → (freeA l who asset n).1 = []) ∧ (freeA l who asset n).1.length ≤ l.length := by
  unfold freeA
  by_cases hb : holdB who asset n = true
  rotate_left
  · rw [if_neg hb]
    exact ⟨fit_nil, fun _ => rfl, Nat.zero_le _⟩
  rw [if_pos hb]
  by_cases hd : (findA l (who, asset)).held < n
  · rw [if_pos hd]
    exact ⟨fit_nil, fun _ => rfl, Nat.zero_le _⟩
  rw [if_neg hd]
  refine ⟨?_, fun g => absurd rfl g, by rw [with_len]; exact Nat.le_refl _⟩
  have hb' : 1 ≤ n ∧ who ≠ worldB := by
    unfold holdB at hb
    simp only [Bool.and_eq_true, decide_eq_true_eq, Bool.not_eq_true', beq_eq_false_iff_ne] at hb
    exact hb.1
  have hx : findA l (who, asset) ∈ l := find_real (.inr (by omega))
  have ho := find_own l (who, asset)
  have hw : (findA l (who, asset)).who ≠ worldB := by
    have := congrArg Prod.fst ho
    intro e
    exact hb'.2 (this.symm.trans e)
  obtain ⟨g1, g2, g3, g4, g5⟩ := may_out h hx (hi _ hx) hw
  generalize findA l (who, asset) = a at *
  rw [IntWalk.i64_in _ (by omega)]
  exact (with_fit h hx (y := a.hold (a.held - n)) rfl (held_may h hx hw (by omega) (by omega))).1
/-- A copy of accounts. -/
theorem copy_acs {w W : World} {A : Option Addr} {n c : Nat} {l : List Ac} (h : AAt w A n c l) (hb : Below w.heap.size w W) (hn : n ≤ 1000) :
    ∃ v W', (Builtin.append_ #[23, 23] 23 #[.slice (some ⟨W.heap.size, 0, none⟩) 0 0, .slice A n c]).run Try.prog (W.alloc (.cells #[] 35)) = .ok v W' ∧ OwnA W' W.heap.size v l ∧ Below W.heap.size W W' := by
  have b1 := below_box W (.cells #[] 35)
  have h1 := (h.below hb).below b1
  have s1 : (W.alloc (.cells #[] 35)).heap.size = W.heap.size + 1 := by simp
  obtain ⟨v, W', r, o, g, hB⟩ := append_acs (W.alloc (.cells #[] 35)) W.heap.size _ [] (own_empty W) A n c l h1.len h1.nil h1.row (by simp; omega) (by omega)
  exact ⟨v, W', r, by simpa using o, b1.grown g (by omega) hB⟩
/-- A row that is written over, one cell at a time. -/
def RowN (w : World) (B : Nat) (v : Value) (n : Nat) : Prop := ∃ xs, w.ownsRow B 35 4 v n xs
theorem RowN.of {w : World} {B B' : Nat} {v : Value} {l : List Ac} (h : OwnA w B v l) (hb : B' ≤ B) : RowN w B' v l.length := ⟨_, h.down hb⟩
theorem RowN.below {w w' : World} {B : Nat} {v : Value} {n : Nat} (h : RowN w B v n) (hb : Below w.heap.size w w') : RowN w' B v n := by
  obtain ⟨xs, hl, ⟨rfl, hn⟩ | ⟨g, cap, cur, rfl, hg, hh, h1⟩⟩ := h
  · exact ⟨xs, hl, .inl ⟨rfl, hn⟩⟩
  · exact ⟨xs, hl, .inr ⟨g, cap, cur, rfl, hg, (hb.block g (Array.getElem?_eq_some_iff.1 hh).1).trans hh, h1⟩⟩
theorem RowN.at {w : World} {B : Nat} {v : Value} {n k : Nat} (h : RowN w B v n) (hk : k < n) : ∃ g c, v = .slice (some ⟨g, 0, none⟩) n c ∧ B ≤ g ∧ (∃ u, w.cell? ⟨g, k * 4 + 2, none⟩ = some u) ∧ w.frozen? ⟨g, k * 4 + 2, none⟩ = false := by
  obtain ⟨xs, h⟩ := h
  have h0 := h
  obtain ⟨hl, ⟨_, hn⟩ | ⟨g, cap, cur, rfl, hg, _⟩⟩ := h
  · omega
  · refine ⟨g, cap, rfl, hg, ?_, World.ownsRow.frozenAt h0 _⟩
    have hj : k * 4 + 2 < n * 4 := by omega
    rw [World.ownsRow.cellAt h0 _ hj]
    exact ⟨_, List.getElem?_eq_getElem (by omega)⟩
theorem RowN.set {w : World} {B g n c : Nat} (h : RowN w B (.slice (some ⟨g, 0, none⟩) n c) n) (j : Nat) (u : Value) : RowN (w.setCell ⟨g, j, none⟩ u) B (.slice (some ⟨g, 0, none⟩) n c) n := by
  obtain ⟨xs, h⟩ := h
  exact ⟨_, (World.ownsRow.stored h j u).1⟩
theorem RowN.aside {w : World} {B n g : Nat} {v : Value} (h : RowN w B v n) (hne : v.ownBlock ≠ some g) (j : Nat) (u : Value) : RowN (w.setCell ⟨g, j, none⟩ u) B v n := by
  obtain ⟨xs, h⟩ := h
  refine ⟨xs, World.ownsRow.kept h (row := some g) ⟨rfl, rfl, rfl, by simp, fun k _ hk => Below.heap_setCell w _ u k (fun e => hk (by rw [e]))⟩ (.inr hne)⟩
theorem fit_names {l : List Ac} (h : FitA l) : ∀ x ∈ l, x.who.length ≤ 200000000000000 ∧ x.asset.length ≤ 200000000000000 := fun x hx => named_ok (o := x.own) (may_parts.1 (((fit_iff l).1 h).1 x hx)).1
theorem check_fit {W : World} {A : Option Addr} {n c : Nat} {l : List Ac} (h : AAt W A n c l) (hf : FitA l) (hn : n ≤ 1000000) : Calls Try.prog 12 #[.slice A n c] W (fun e w' => e = .returned (.int .i64 0) ∧ Below W.heap.size W w') := by
  have := check_any h (by omega) (fit_names hf)
  rwa [check_yes (show FitTo l l.length from hf)] at this
/-- Between two stores. -/
structure Rows3 (W4 : World) (va vb vc : Value) (na nb nc : Nat) (wr : World) : Prop where
  out : Below W4.heap.size W4 wr
  ra : RowN wr W4.heap.size va na
  rb : RowN wr W4.heap.size vb nb
  rc : RowN wr W4.heap.size vc nc
  ab : ∀ g, va.ownBlock = some g → vb.ownBlock ≠ some g
  ac : ∀ g, va.ownBlock = some g → vc.ownBlock ≠ some g
  bc : ∀ g, vb.ownBlock = some g → vc.ownBlock ≠ some g
theorem ne_sym {v u : Value} (h : ∀ g, v.ownBlock = some g → u.ownBlock ≠ some g) : ∀ g, u.ownBlock = some g → v.ownBlock ≠ some g := fun g e e2 => h g e2 e
theorem Rows3.a {W4 wr : World} {g c : Nat} {vb vc : Value} {na nb nc : Nat} (h : Rows3 W4 (.slice (some ⟨g, 0, none⟩) na c) vb vc na nb nc wr) (hg : W4.heap.size ≤ g) (j : Nat) (u : Value) : Rows3 W4 (.slice (some ⟨g, 0, none⟩) na c) vb vc na nb nc (wr.setCell ⟨g, j, none⟩ u) :=
  ⟨h.out.setCell (p := ⟨g, j, none⟩) hg u, h.ra.set j u, h.rb.aside (h.ab g rfl) j u, h.rc.aside (h.ac g rfl) j u, h.ab, h.ac, h.bc⟩
theorem Rows3.turn {W4 wr : World} {va vb vc : Value} {na nb nc : Nat} (h : Rows3 W4 va vb vc na nb nc wr) : Rows3 W4 vb vc va nb nc na wr := ⟨h.out, h.rb, h.rc, h.ra, h.bc, ne_sym h.ab, ne_sym h.ac⟩
set_option maxRecDepth 100000 in
set_option maxHeartbeats 8000000 in
theorem stays_walk (A A' : Option Addr) (n c m c' : Nat) (l : List Ac) (legs : List Lg) (who asset : Bs) (q : Int) (w : World) (h : AcsIn w A n c l) (hL : LgsIn w A' m c' legs) (hn : n ≤ 9223372036854775807) (hm : m ≤ 9223372036854775807) (hw1 : who.length ≤ 140737488355328) (hw2 : asset.length ≤ 140737488355328) (hq : q ≤ 9223372036854775807) :
    Calls Try.prog 5 #[.slice A n c, .slice A' m c', strV who, strV asset, .int .i64 q] w (fun e w' => e = .returned (.bool true) ∧ Below w.heap.size w w') := by
  have HH := Lib.hid h
  have HG := Lib.hid hL
  have HW1 := Lib.hid hw1
  have HW2 := Lib.hid hw2
  have HQ := Lib.hid hq
  clear h hL hw1 hw2 hq
  obtain ⟨sX, hX⟩ : ∃ X, strB who = X := ⟨_, rfl⟩
  obtain ⟨sY, hY⟩ : ∃ Y, strB asset = Y := ⟨_, rfl⟩
  have HX := Lib.hid hX
  have HY := Lib.hid hY
  rw [show strV who = .string sX by rw [← hX], show strV asset = .string sY by rw [← hY]]
  clear hX hY
  go_enter Try.func5, Try.ntmps5
  go_wp2_with fail
  refine (awake_any w).mono ?_
  rintro e w1 ⟨rfl, b1⟩
  have B1 := Lib.hid b1
  have cF := few_any (c' := c') (HH.out.1.below b1) HG.out.len (HG.out.row.below b1) hn hm
  clear b1
  go_wp2_with fail
  refine cF.mono ?_
  rintro e w2 ⟨r, rfl, hr, b2⟩
  have B2 := Lib.hid (B1.out.trans (b2.mono B1.out.size))
  clear b2 cF B1
  rcases r with _ | _
  · clear hr
    go_wp2_with fail
    go_ret
    exact ⟨rfl, B2.out⟩
  have HF := Lib.hid (hr rfl)
  clear hr
  have cC := check_any (HH.out.1.below B2.out) (by have := HF.out.n; rw [HH.out.1.len] at this; omega) (fun x hx => by have := HF.out.l x hx; omega)
  by_cases hfit : FitA l
  rotate_left
  · rw [show checkA l = 110 by unfold checkA; rw [if_neg hfit]] at cC
    clear hfit
    go_wp2_with (go_at_call 12; refine cC.mono ?_; rintro e w3 ⟨rfl, b3⟩)
    go_ret
    exact ⟨rfl, B2.out.trans (b3.mono B2.out.size)⟩
  rw [check_yes (show FitTo l l.length from hfit)] at cC
  have HFIT := Lib.hid hfit
  clear hfit
  have hn2 : n ≤ 200 := by have := HF.out.n; rw [HH.out.1.len] at this; exact this
  have HN2 := Lib.hid hn2
  have HM2 := Lib.hid (show m ≤ 210 by have := HF.out.m; rw [HG.out.len] at this; exact this)
  clear hn2
  go_wp2_with (first
    | (go_at_call 12; refine cC.mono ?_; rintro e w3 ⟨rfl, b3⟩; have B3 := Lib.hid (B2.out.trans (b3.mono B2.out.size)); clear b3 cC B2; obtain ⟨v4, W4, r4, o4, b4⟩ := copy_acs HH.out.1 B3.out (by have := HN2.out; omega); have R4 := Lib.hid r4; have O4 := Lib.hid o4; have B34 := Lib.hid b4; clear r4 o4 b4)
    | ((with_reducible refine Coin.wpList_append_eq rfl (.tmp 34) (.tmp 35) 23 rfl ?_ ?_ R4.out ?_); (next => rfl); (next => rfl)))
  obtain ⟨A5, c5, e5, a4, _⟩ := O4.out.at
  rw [HH.out.1.len] at e5 a4
  subst e5
  have AT := Lib.hid a4
  have B4 := Lib.hid (B3.out.trans (B34.out.mono B3.out.size))
  have cP := post_any (c' := c') a4 (by have := HN2.out; omega) HFIT.out (fun x hx => ⟨(HH.out.2 x hx).b0, (HH.out.2 x hx).b1⟩) HG.out.len (by have := HM2.out; omega) (HG.out.row.below B4.out) (fun x hx => by have := HF.out.g x hx; omega) (fun x hx => HG.out.ins x hx)
  have CH := Lib.hid (show ∀ W, Below W4.heap.size W4 W → Calls Try.prog 16 #[.slice A5 n c5, .string sX, .string sY, .int .i64 q] W (AcsE (holdA l who asset q).1 (holdA l who asset q).2 W) from fun W hb => by
    have := hold_any (AT.out.below hb) (by have := HN2.out; omega) who asset q (by have := HW1.out; omega) (by have := HW2.out; omega)
    unfold strV at this
    rw [HX.out, HY.out] at this
    exact this)
  have CFR := Lib.hid (show ∀ W, Below W4.heap.size W4 W → Calls Try.prog 18 #[.slice A5 n c5, .string sX, .string sY, .int .i64 q] W (AcsE (freeA l who asset q).1 (freeA l who asset q).2 W) from fun W hb => by
    have := free_any (AT.out.below hb) (by have := HN2.out; omega) who asset q (by have := HW1.out; omega) (by have := HW2.out; omega)
    unfold strV at this
    rw [HX.out, HY.out] at this
    exact this)
  obtain ⟨fb1, fb2, fb3⟩ := hold_fit HFIT.out HH.out.2 who asset q HQ.out
  obtain ⟨fc1, fc2, fc3⟩ := free_fit HFIT.out HH.out.2 who asset q
  obtain ⟨lb, hlb⟩ : ∃ lb, (holdA l who asset q).1 = lb := ⟨_, rfl⟩
  obtain ⟨eb, heb⟩ : ∃ eb, (holdA l who asset q).2 = eb := ⟨_, rfl⟩
  obtain ⟨lc, hlc⟩ : ∃ lc, (freeA l who asset q).1 = lc := ⟨_, rfl⟩
  obtain ⟨ec, hec⟩ : ∃ ec, (freeA l who asset q).2 = ec := ⟨_, rfl⟩
  rw [hlb, heb] at CH
  rw [hlc, hec] at CFR
  rw [hlb] at fb1 fb3
  rw [hlb, heb] at fb2
  rw [hlc] at fc1 fc3
  rw [hlc, hec] at fc2
  have hl200 := HF.out.n
  have FB := Lib.hid (show FitA lb ∧ (eb ≠ 0 → lb = []) ∧ lb.length ≤ 1000 from ⟨fb1, fb2, by omega⟩)
  have FC := Lib.hid (show FitA lc ∧ (ec ≠ 0 → lc = []) ∧ lc.length ≤ 1000 from ⟨fc1, fc2, by omega⟩)
  clear fb1 fb2 fb3 fc1 fc2 fc3 hlb heb hlc hec a4 R4 hl200
  refine cP.mono ?_
  rintro e w5 ⟨la, ea, hp, va, rfl, oa, b5⟩
  obtain ⟨fa1, fa2, fa3, _⟩ := postR_fit HH.out.2 hp
  have FA := Lib.hid (show FitA la ∧ (ea ≠ 0 → la = []) ∧ la.length ≤ 1000 from ⟨fa1, fa2, by have := HF.out.n; have := HF.out.m; omega⟩)
  have B5 := Lib.hid b5
  have OA := Lib.hid oa
  clear fa1 fa2 fa3 hp oa b5 cP
  go_wp2_with fail
  refine (CH.out w5 B5.out).mono ?_
  rintro e w6 ⟨vb, rfl, ob, b6⟩
  have B6 := Lib.hid (B5.out.trans (b6.mono B5.out.size))
  have OB := Lib.hid ob
  have OA6 := Lib.hid (OA.out.below b6)
  have B56 := Lib.hid b6.size
  clear ob b6
  go_wp2_with fail
  refine (CFR.out w6 B6.out).mono ?_
  rintro e w7 ⟨vc, rfl, oc, b7⟩
  have B7 := Lib.hid (B6.out.trans (b7.mono B6.out.size))
  have OC := Lib.hid oc
  have OA7 := Lib.hid (OA6.out.below b7)
  have OB7 := Lib.hid (OB.out.below b7)
  have DAB := Lib.hid (show (∀ g, va.ownBlock = some g → vb.ownBlock ≠ some g) ∧ (∀ g, va.ownBlock = some g → vc.ownBlock ≠ some g) ∧ (∀ g, vb.ownBlock = some g → vc.ownBlock ≠ some g) from by
    have z56 := B56.out
    refine ⟨fun g h1 h2 => ?_, fun g h1 h2 => ?_, fun g h1 h2 => ?_⟩
    · have := (World.ownsRow.lt OA.out g h1).2
      have := (World.ownsRow.lt OB.out g h2).1
      omega
    · have := (World.ownsRow.lt OA.out g h1).2
      have := (World.ownsRow.lt OC.out g h2).1
      omega
    · have := (World.ownsRow.lt OB.out g h1).2
      have := (World.ownsRow.lt OC.out g h2).1
      omega)
  clear oc b7 OA OA6 OB B56 CH CFR
  obtain ⟨Aa, ca, rfl, aa, _⟩ := OA7.out.at
  obtain ⟨Ab, cb, rfl, ab, _⟩ := OB7.out.at
  obtain ⟨Ac', cc, rfl, ac, _⟩ := OC.out.at
  have cKa := check_fit aa FA.out.1 (by have := FA.out.2.2; omega)
  have CKb := Lib.hid (fun W (hb : Below w7.heap.size w7 W) => check_fit (ab.below hb) FB.out.1 (by have := FB.out.2.2; omega))
  have CKc := Lib.hid (fun W (hb : Below w7.heap.size w7 W) => check_fit (ac.below hb) FC.out.1 (by have := FC.out.2.2; omega))
  clear aa ab ac
  have RR := Lib.hid (show ∀ W, Below w7.heap.size w7 W → Rows3 W4 (.slice Aa la.length ca) (.slice Ab lb.length cb) (.slice Ac' lc.length cc) la.length lb.length lc.length W from fun W hb =>
    ⟨B7.out.trans (hb.mono B7.out.size), (RowN.of OA7.out (Nat.le_refl _)).below hb, (RowN.of OB7.out B5.out.size).below hb, (RowN.of OC.out B6.out.size).below hb, DAB.out.1, DAB.out.2.1, DAB.out.2.2⟩)
  have ZA := Lib.hid (show ea ≠ 0 → la.length = 0 from fun h => by rw [FA.out.2.1 h]; rfl)
  have ZB := Lib.hid (show eb ≠ 0 → lb.length = 0 from fun h => by rw [FB.out.2.1 h]; rfl)
  have ZC := Lib.hid (show ec ≠ 0 → lc.length = 0 from fun h => by rw [FC.out.2.1 h]; rfl)
  have NA := Lib.hid (show la.length ≤ 1000 ∧ lb.length ≤ 1000 ∧ lc.length ≤ 1000 from ⟨FA.out.2.2, FB.out.2.2, FC.out.2.2⟩)
  clear OA7 OB7 OC DAB FA FB FC
  generalize la.length = na at *
  generalize lb.length = nb at *
  generalize lc.length = nc at *
  go_upto_region 10 with (first
    | (go_at_call 12; refine cKa.mono ?_; rintro e w8 ⟨rfl, b8⟩; have B8 := Lib.hid b8; have cKb := CKb.out w8 b8; clear b8 cKa CKb)
    | (go_at_call 12; refine cKb.mono ?_; rintro e w9 ⟨rfl, b9⟩; have B9 := Lib.hid (B8.out.trans (b9.mono B8.out.size)); have cKc := CKc.out w9 B9.out; clear b9 cKb CKc)
    | (go_at_call 12; refine cKc.mono ?_; rintro e w10 ⟨rfl, b10⟩; have B10 := Lib.hid (B9.out.trans (b10.mono B9.out.size)); clear b10 cKc))
  have ST1 := Lib.hid (RR.out w10 B10.out)
  go_cut [96] from 72 (fun s96 wx => wx = w10 ∧ s96 = .bool false)
  case first =>
    by_cases h1 : ea = 0
    all_goals by_cases h2 : eb = 0
    all_goals by_cases h3 : ec = 0
    all_goals
      (try have z1 := ZA.out h1)
      (try have z2 := ZB.out h2)
      (try have z3 := ZC.out h3)
      (try subst h1)
      (try subst h2)
      (try subst h3)
      (try subst z1)
      (try subst z2)
      (try subst z3)
      go_wp2_with fail
      go_meet
      case rel => exact ⟨rfl, rfl⟩
  case rest =>
    obtain ⟨rfl, rfl⟩ := hcut
    clear RR ZA ZB ZC
    go_wp2_with fail
    go_loopw [19] (fun i wr => ∃ k : Nat, i = .int .i64 (k : Int) ∧ k ≤ na ∧ Hid (Rows3 W4 (.slice Aa na ca) (.slice Ab nb cb) (.slice Ac' nc cc) na nb nc wr)) (fun i _ => na - (intOf i).toNat)
    case atStart => exact ⟨0, rfl, Nat.zero_le _, ST1⟩
    case round =>
      obtain ⟨k, rfl, hk, HB⟩ := hrel
      by_cases hlt : k < na
      · have hwr : IntKind.i64.wrap ((k : Int) + 1) = (k : Int) + 1 := IntWalk.i64_in _ (by have := NA.out; omega)
        have t1 : (k : Int) < (na : Int) := by omega
        have t2 : (0 : Int) ≤ (k : Int) := by omega
        obtain ⟨g, cg, e, hg, ⟨u, hu⟩, hf⟩ := HB.out.ra.at hlt
        injection e with e1 e2 e3
        subst e1 e3
        have NB := Lib.hid (HB.out.a hg (k * 4 + 2) (.int .i64 1))
        clear HB hg
        go_wp2_with fail
        go_roundw
        case rel => exact ⟨k + 1, by go_num, by omega, NB⟩
        case measure => simp [intOf]; omega
      · obtain rfl : k = na := by omega
        have ST2 := Lib.hid HB.out.turn
        clear HB ST1
        go_wp2_with fail
        go_loopw [20] (fun i wr => ∃ p : Nat, i = .int .i64 (p : Int) ∧ p ≤ nb ∧ Hid (Rows3 W4 (.slice Ab nb cb) (.slice Ac' nc cc) (.slice Aa k ca) nb nc k wr)) (fun i _ => nb - (intOf i).toNat)
        case atStart => exact ⟨0, rfl, Nat.zero_le _, ST2⟩
        case round =>
          obtain ⟨p, rfl, hp, HB⟩ := hrel
          by_cases hlt2 : p < nb
          · have hwr : IntKind.i64.wrap ((p : Int) + 1) = (p : Int) + 1 := IntWalk.i64_in _ (by have := NA.out; omega)
            have t1 : (p : Int) < (nb : Int) := by omega
            have t2 : (0 : Int) ≤ (p : Int) := by omega
            obtain ⟨g, cg, e, hg, ⟨u, hu⟩, hf⟩ := HB.out.ra.at hlt2
            injection e with e1 e2 e3
            subst e1 e3
            have NB := Lib.hid (HB.out.a hg (p * 4 + 2) (.int .i64 1))
            clear HB hg
            go_wp2_with fail
            go_roundw
            case rel => exact ⟨p + 1, by go_num, by omega, NB⟩
            case measure => simp [intOf]; omega
          · obtain rfl : p = nb := by omega
            have ST3 := Lib.hid HB.out.turn
            clear HB ST2
            go_wp2_with fail
            go_loopw [21] (fun i wr => ∃ r : Nat, i = .int .i64 (r : Int) ∧ r ≤ nc ∧ Hid (Rows3 W4 (.slice Ac' nc cc) (.slice Aa k ca) (.slice Ab p cb) nc k p wr)) (fun i _ => nc - (intOf i).toNat)
            case atStart => exact ⟨0, rfl, Nat.zero_le _, ST3⟩
            case round =>
              obtain ⟨r, rfl, hr, HB⟩ := hrel
              by_cases hlt3 : r < nc
              · have hwr : IntKind.i64.wrap ((r : Int) + 1) = (r : Int) + 1 := IntWalk.i64_in _ (by have := NA.out; omega)
                have t1 : (r : Int) < (nc : Int) := by omega
                have t2 : (0 : Int) ≤ (r : Int) := by omega
                obtain ⟨g, cg, e, hg, ⟨u, hu⟩, hf⟩ := HB.out.ra.at hlt3
                injection e with e1 e2 e3
                subst e1 e3
                have NB := Lib.hid (HB.out.a hg (r * 4 + 2) (.int .i64 1))
                clear HB hg
                go_wp2_with fail
                go_roundw
                case rel => exact ⟨r + 1, by go_num, by omega, NB⟩
                case measure => simp [intOf]; omega
              · obtain rfl : r = nc := by omega
                have BL := Lib.hid HB.out.out
                have cS := same_any (AT.out.below BL.out) (HH.out.1.below (B4.out.trans (BL.out.mono B4.out.size))) (by have := HN2.out; omega)
                clear HB ST3
                go_wp2_with fail
                refine cS.mono ?_
                rintro e w11 ⟨rb, rfl, hrb, b11⟩
                obtain rfl : rb = true := hrb.2 trivial
                have B11 := Lib.hid ((B4.out.trans (BL.out.mono B4.out.size)).trans (b11.mono (B4.out.trans (BL.out.mono B4.out.size)).size))
                clear hrb b11 cS
                go_wp2_with fail
                go_ret
                exact ⟨rfl, B11.out⟩
end Go.Proofs.Ytobpbbldgbgcdaa.Acc
