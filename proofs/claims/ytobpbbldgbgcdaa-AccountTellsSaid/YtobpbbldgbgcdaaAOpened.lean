/-
  Contract of opened: all accounts in order, with one of balance 0 for each owner that had none.
-/
import Derived.Test.YtobpbbldgbgcdaaAGather
import Derived.Test.YtobpbbldgbgcdaaASort
namespace Go.Proofs.Ytobpbbldgbgcdaa.Acc
open Go.RowKit Go.Sort

abbrev ownT : TypeId := 56
def zeroOf (o : Own) : Ac := ⟨o.1, o.2, 0, 0⟩
/-- Between two rounds of the loop over the map: these owners have been opened. -/
structure Opn (l : List Ac) (F : Own → List Int) (D : DataW Value) (N : Nat) (left : Lit → Bool) (cnt : Nat) (done : List Own) : Prop where
  nodup : done.Nodup
  mem : ∀ o ∈ done, okO o ∧ F o ≠ [] ∧ (∀ x ∈ l, x.own ≠ o) ∧ left (litO o) = false
  all : ∀ o, okO o → F o ≠ [] → left (litO o) = false → o ∈ done ∨ ∃ x ∈ l, x.own = o
  few : done.length + cnt ≤ N
/-- All that are opened. -/
structure News (l : List Ac) (F : Own → List Int) (done : List Own) : Prop where
  nodup : done.Nodup
  mem : ∀ o, o ∈ done ↔ okO o ∧ F o ≠ [] ∧ ∀ x ∈ l, x.own ≠ o
section
variable {w : World} {base b N : Nat} {F : Own → List Int} {D : DataW Value} {l : List Ac} {left : Lit → Bool} {cnt : Nat} {done : List Own}
theorem opn_start (hG : Coin.Grp ownT litO okO w base b N F D) : Opn l F D N (Maps.has D) (Maps.size D) [] :=
  ⟨List.nodup_nil, fun o h => by simp at h, fun o ho hF hl => by
    obtain ⟨v, hv, _⟩ := hG.some o ho hF
    rw [Maps.has_true_of_atKey hv] at hl
    exact absurd hl (by simp), by simpa using World.ownsMap.size_le hG.own⟩
/-- What the loop's step gives. -/
theorem opn_key (hG : Coin.Grp ownT litO okO w base b N F D) {x : Value} {kl : Lit} {y : DataW Value} (hk : keyOf Try.prog ownT x = some kl) (hat : ∀ zd, D.atKey kl zd = y) : ∃ o, okO o ∧ kl = litO o ∧ x = keyO o ∧ F o ≠ [] := by
  obtain ⟨o, ho, e, hF⟩ := hG.only kl (Maps.has_true_of_atKey hat)
  subst e
  exact ⟨o, ho, rfl, ownK.law.inj hk (ownK.of o ho), hF⟩
theorem strike (o' o : Own) (ho : okO o) (ho' : okO o') (h : (left (litO o') && !(litO o').sameKey (litO o)) = false) : left (litO o') = false ∨ o' = o := by
  by_cases e : o' = o
  · exact .inr e
  · rw [Maps.sameKey_ne (ownK.lit_ne ho' ho e)] at h
    exact .inl (by simpa using h)
theorem Opn.more (h : Opn l F D N left cnt done) {o : Own} (ho : okO o) (hF : F o ≠ []) (hl : left (litO o) = true) (hno : ∀ x ∈ l, x.own ≠ o) {cnt' : Nat} (hc : cnt' < cnt) : Opn l F D N (fun z => left z && !z.sameKey (litO o)) cnt' (done ++ [o]) :=
  ⟨by
    refine List.nodup_append.2 ⟨h.nodup, by simp, fun a ha c hc e => ?_⟩
    rw [List.mem_singleton] at hc
    rw [e, hc] at ha
    rw [(h.mem o ha).2.2.2] at hl
    exact absurd hl (by simp), fun a ha => by
    rcases List.mem_append.1 ha with ha | ha
    · obtain ⟨a1, a2, a3, a4⟩ := h.mem a ha
      exact ⟨a1, a2, a3, by rw [a4]; rfl⟩
    · rw [List.mem_singleton] at ha
      subst ha
      exact ⟨ho, hF, hno, by rw [WideAt.sameKey_self (ownK.isKey ho)]; simp⟩, fun a ha hFa hla => by
    rcases strike a o ho ha hla with h1 | h1
    · exact (h.all a ha hFa h1).imp (fun h => List.mem_append.2 (.inl h)) id
    · exact .inl (List.mem_append.2 (.inr (by simp [h1]))), by
    have := h.few
    rw [List.length_append, List.length_singleton]; omega⟩
theorem Opn.skip (h : Opn l F D N left cnt done) {o : Own} (ho : okO o) (hex : ∃ x ∈ l, x.own = o) {cnt' : Nat} (hc : cnt' < cnt) : Opn l F D N (fun z => left z && !z.sameKey (litO o)) cnt' done :=
  ⟨h.nodup, fun a ha => by
    obtain ⟨a1, a2, a3, a4⟩ := h.mem a ha
    exact ⟨a1, a2, a3, by rw [a4]; rfl⟩, fun a ha hFa hla => by
    rcases strike a o ho ha hla with h1 | h1
    · exact h.all a ha hFa h1
    · exact .inr (h1 ▸ hex), by have := h.few; omega⟩
theorem Opn.fin (h : Opn l F D N left cnt done) (hl : ∀ kl, left kl = false) : News l F done :=
  ⟨h.nodup, fun o => ⟨fun hm => ⟨(h.mem o hm).1, (h.mem o hm).2.1, (h.mem o hm).2.2.1⟩, fun ⟨h1, h2, h3⟩ => (h.all o h1 h2 (hl _)).elim id (fun ⟨x, hx, e⟩ => absurd e (h3 x hx))⟩⟩
end
theorem ranges_below {w w' : World} {b r n : Nat} {D : DataW Value} {left : Lit → Bool} {cnt : Nat} (h : w.ranges Try.prog ownT Coin.asIs b r n D left cnt) (hb : Below w.heap.size w w') : w'.ranges Try.prog ownT Coin.asIs b r n D left cnt :=
  h.kept (row := none) ⟨hb.os, hb.tape, hb.output, hb.size, fun k hk _ => hb.block k hk⟩ (by simp) (by simp)
/-- A row of accounts lies in no map, and in no loop over one. -/
theorem own_off {w : World} {b r n : Nat} {D : DataW Value} {left : Lit → Bool} {cnt : Nat} (h : w.ranges Try.prog ownT Coin.asIs b r n D left cnt) {B : Nat} {v : Value} {l : List Ac} (ho : OwnA w B v l) : v.ownBlock ≠ some b ∧ v.ownBlock ≠ some r := by
  obtain ⟨es, clock, since, seen, c0, hb, _, _, _, hr, _⟩ := h
  obtain ⟨_, ⟨rfl, _⟩ | ⟨g, cap, cur, rfl, _, hh, _⟩⟩ := ho
  · exact ⟨by simp [Value.ownBlock], by simp [Value.ownBlock]⟩
  · refine ⟨fun e => ?_, fun e => ?_⟩
    all_goals
      simp only [Value.ownBlock, Option.some.injEq] at e
      subst e
    · rw [hb] at hh; cases hh
    · rw [hr] at hh; cases hh
/-- Between two rounds. -/
def OpnW (w : World) (B b r N : Nat) (l : List Ac) (F : Own → List Int) (D : DataW Value) (v : Value) (wr : World) : Prop :=
  ∃ left cnt done, wr.ranges Try.prog ownT Coin.asIs b r N D left cnt ∧ Below B w wr ∧ B ≤ wr.heap.size ∧ B ≤ r ∧ OwnA wr B v (l ++ done.map zeroOf) ∧ Opn l F D N left cnt done
/-- .. and what is known where it ends. -/
def OpnEnd (w : World) (B : Nat) (l : List Ac) (F : Own → List Int) (N : Nat) (v : Value) (wr : World) : Prop :=
  ∃ done, Below B w wr ∧ B ≤ wr.heap.size ∧ OwnA wr B v (l ++ done.map zeroOf) ∧ News l F done ∧ done.length ≤ N
/-- Accounts and those that are opened, in order. -/
structure Opened (l : List Ac) (F : Own → List Int) (l2 : List Ac) : Prop where
  perm : ∃ done, News l F done ∧ l2.Perm (l ++ done.map zeroOf)
  sorted : SortedA l2
theorem put_zero (o : Own) : (encA (zeroOf o)).toArray = #[.string (strB o.1), .string (strB o.2), .int .i64 0, .int .i64 0] := rfl
set_option maxRecDepth 100000 in
set_option maxHeartbeats 4000000 in
theorem opened_any {A : Option Addr} {n c : Nat} {l : List Ac} {w : World} {base b N : Nat} {F : Own → List Int} {D : DataW Value} (h : AAt w A n c l) (hn : n ≤ 100000) (hG : Coin.Grp ownT litO okO w base b N F D) (hN : N ≤ 100000) (hex : ∃ o, okO o ∧ F o ≠ []) :
    Calls Try.prog 34 #[.slice A n c, .map (some b)] w (fun e w' => ∃ v l2, e = .returned v ∧ OwnA w' w.heap.size v l2 ∧ Opened l F l2 ∧ l2.length ≤ n + N ∧ Below w.heap.size w w') := by
  have cC := clone_any A n c l w h hn
  have HH := Lib.hid h
  have HG := Lib.hid hG
  have HEX := Lib.hid hex
  have HN := Lib.hid hN
  have HNN := Lib.hid hn
  clear h hG hex hN hn
  go_enter Try.func34, Try.ntmps34
  go_wp2_with fail
  refine cC.mono ?_
  rintro e w1 ⟨v0, rfl, ho1, b1⟩
  have hG1 := HG.out.below b1
  have HO1 := Lib.hid ho1
  have B1 := Lib.hid b1
  have hown := hG1.own
  clear cC ho1 b1
  go_wp2_with (first
    | (at_range; refine wpList_range_own _ rfl _ 51 rfl ownT 40 (Maps.Keyed.of_law ownLaw) Try.underlying51 _ b N D rfl hown ?_; intro w2 hrg2 hg2 hs2))
  go_frame
  have hst : OpnW w w.heap.size b w1.heap.size N l F D v0 w2 := by
    refine ⟨_, _, [], hrg2, B1.out.grown hg2 B1.out.size (fun k e => by cases e), Nat.le_trans B1.out.size hg2.size, B1.out.size, ?_, opn_start hG1⟩
    have := HO1.out.below (w' := w2) ⟨hg2.os, hg2.tape, hg2.output, hg2.size, fun k hk => hg2.block k hk (by simp)⟩
    simpa using this
  have ST := Lib.hid hst
  obtain ⟨r, hr⟩ : ∃ r, w1.heap.size = r := ⟨_, rfl⟩
  rw [hr] at ST ⊢
  have hG1' := Lib.hid hG1
  clear hrg2 hg2 hs2 hst HO1 B1 hown hG1 hr
  go_loopw [5] (fun v wr => Hid (OpnW w w.heap.size b r N l F D v wr)) (fun _ wr => wr.rangeLeft b r)
  case atStart => exact ST
  case round =>
    obtain ⟨left, cnt, done, hrg, hB, hsz, hBr, hO, hOp⟩ := hrel.out
    have HB := Lib.hid hB
    have HSZ := Lib.hid hsz
    have HBR := Lib.hid hBr
    have HO := Lib.hid hO
    have HOP := Lib.hid hOp
    have HRG := Lib.hid hrg
    clear hrel hB hsz hBr hO hOp ST
    go_wp2_with (first
      | (at_next; refine wpList_next_ranges _ rfl _ rfl ownT (Maps.Keyed.of_law ownLaw) Coin.asIs id id (fun key kl h => ⟨key, rfl⟩) (fun v y h => ⟨v, rfl⟩) b r N D left cnt rfl hrg ?_ ?_))
    · intro _ hl0
      have hN := HOP.out.fin hl0
      have hlen : done.length ≤ N := by have := HOP.out.few; omega
      have hne : l ++ done.map zeroOf ≠ [] := fun e => by
        obtain ⟨e1, e2⟩ := List.append_eq_nil_iff.1 e
        rw [List.map_eq_nil_iff] at e2
        obtain ⟨o, ho, hF⟩ := HEX.out
        have := (hN.mem o).2 ⟨ho, hF, fun x hx => by rw [e1] at hx; cases hx⟩
        rw [e2] at this; cases this
      have hl2 : (l ++ done.map zeroOf).length ≤ n + N := by rw [List.length_append, List.length_map, HH.out.len]; omega
      have cS := sort_any HO.out hne (by have := HN.out; have := HNN.out; omega) HSZ.out
      have FIN := Lib.hid (show ∀ l2 W, OwnA W w.heap.size u5 l2 → l2.Perm (l ++ done.map zeroOf) → SortedA l2 → Below w.heap.size wr W → ∃ v l2, Ending.returned u5 = .returned v ∧ OwnA W w.heap.size v l2 ∧ Opened l F l2 ∧ l2.length ≤ n + N ∧ Below w.heap.size w W from fun l2 W h1 h2 h3 h4 =>
        ⟨u5, l2, rfl, h1, ⟨⟨done, hN, h2⟩, h3⟩, by rw [h2.length_eq]; exact hl2, HB.out.trans h4⟩)
      clear hN hlen hne hl2 hl0 hrg
      go_wp2_with fail
      refine cS.mono ?_
      rintro e w5 ⟨rfl, l2, o2, hp, hs, b5⟩
      have E := Lib.hid (FIN.out l2 w5 o2 hp hs b5)
      clear o2 hp hs b5 cS FIN
      go_wp2_with fail
      go_ret
      exact E.out
    · intro x c' kl yd yp w1 cnt1 hkey hlk hv hat hrg1 hlt hg1 hs1 hen
      obtain ⟨o, ho, rfl, rfl, hF⟩ := opn_key hG1'.out hkey hat
      have o1 : OwnA w1 w.heap.size u5 (l ++ done.map zeroOf) := World.ownsRow.kept HO.out hg1 (.inr (own_off HRG.out HO.out).2)
      have b1 := HB.out.grown hg1 HSZ.out (fun k e => by cases e; exact HBR.out)
      have z1 : w.heap.size ≤ w1.heap.size := by rw [hs1]; exact HSZ.out
      have b2 := below_box w1 (.cells #[.string (strB o.1), .string (strB o.2)] 56)
      have a2 := at_new w1 #[.string (strB o.1), .string (strB o.2)] 56
      have P2 := Lib.hid (put_own w1 (strB o.1) (strB o.2))
      obtain ⟨W2, hW2⟩ : ∃ W2, w1.alloc (.cells #[.string (strB o.1), .string (strB o.2)] 56) = W2 := ⟨_, rfl⟩
      rw [hW2] at b2 a2 P2
      have L2 := Lib.hid (load_own a2)
      have B2 := Lib.hid (b1.trans (b2.mono z1))
      have O2 := Lib.hid (o1.below b2)
      have RG2 := Lib.hid (ranges_below hrg1 b2)
      have cP := place_any (HH.out.below (B2.out)) (by have := HNN.out; omega) o
      have CC := Lib.hid (show ∀ W, Below W2.heap.size W2 W → W.cell? ⟨w1.heap.size, 0, none⟩ = some (.string (strB o.1)) ∧ W.cell? ⟨w1.heap.size, 1, none⟩ = some (.string (strB o.2)) from fun W hb => ⟨(a2.below hb a2.1).2.2 0 _ rfl, (a2.below hb a2.1).2.2 1 _ rfl⟩)
      have hZ := put_zero o
      have LE := Lib.hid HRG.out.left_eq
      rcases pos_find o l with ⟨e1, _, e3⟩ | ⟨k, hk, e1, e2, e3, e4⟩
      · rw [e1] at cP
        have hno : ∀ x ∈ l, x.own ≠ o := fun x hx => by simpa using List.find?_eq_none.1 e3 x hx
        have NX := Lib.hid (HOP.out.more ho hF hlk hno hlt)
        have LT := Lib.hid hlt
        have HZ := Lib.hid hZ
        have HO' := Lib.hid (show (l ++ done.map zeroOf).length + 1 ≤ 1000000 by
          have := HOP.out.few; have := HN.out; have := HNN.out
          rw [List.length_append, List.length_map, HH.out.len]; omega)
        unfold keyO encO strV at hen
        unfold encO strV at cP
        generalize strB o.1 = X at *
        generalize strB o.2 = Y at *
        clear hkey hlk hv hat hrg1 hlt hg1 hs1 o1 b1 z1 b2 a2 hW2 e1 e3 hno hZ hrg hF
        go_wp2_with (first
          | ((with_reducible refine wpList_store_eq rfl 56 (.tmp 6) (.tmp 14) rfl _ _ ?_ ?_ P2.out ?_); (next => rfl); (next => rfl))
          | ((with_reducible refine wpList_load_eq rfl 56 (.tmp 6) rfl _ ?_ L2.out ?_); (next => rfl)))
        refine cP.mono ?_
        rintro e w3 ⟨rfl, b3⟩
        obtain ⟨c0, c1⟩ := CC.out w3 b3
        have z3 : w.heap.size ≤ w3.heap.size := Nat.le_trans B2.out.size b3.size
        have b4 := below_box w3 (.cells #[.string X, .string Y, .int .i64 0, .int .i64 0] 35)
        have a4 := at_new w3 #[.string X, .string Y, .int .i64 0, .int .i64 0] 35
        have o4 := (O2.out.below b3).below b4
        have rg4 := ranges_below (ranges_below RG2.out b3) b4
        have B4 := (B2.out.trans (b3.mono B2.out.size)).trans (b4.mono z3)
        have s4 : (w3.alloc (.cells #[.string X, .string Y, .int .i64 0, .int .i64 0] 35)).heap.size = w3.heap.size + 1 := by simp
        obtain ⟨W4, hW4⟩ : ∃ W4, w3.alloc (.cells #[.string X, .string Y, .int .i64 0, .int .i64 0] 35) = W4 := ⟨_, rfl⟩
        rw [hW4] at b4 a4 o4 rg4 B4 s4
        obtain ⟨v', W5, hrun, o5, g5, hB5⟩ := append_acs W4 w.heap.size u5 _ o4 (some ⟨w3.heap.size, 0, none⟩) 1 1 [zeroOf o] rfl (fun e => by cases e) (fun _ => ⟨w3.heap.size, 0, rfl, by rw [s4]; omega, fun j hj i v hv => by
          obtain rfl : j = 0 := by simpa using hj
          rw [Nat.zero_mul, Nat.add_zero, Nat.zero_add]
          refine a4.2.2 i v ?_
          rw [← HZ.out]
          simpa using hv⟩) HO'.out (by omega)
        have R5 := Lib.hid hrun
        have rg5 := rg4.kept g5 (Ne.symm (own_off rg4 o4).1) (Ne.symm (own_off rg4 o4).2)
        have NB := Lib.hid (show OpnW w w.heap.size b r N l F D v' W5 from ⟨_, _, _, rg5, B4.grown g5 (by omega) hB5, by have := g5.size; omega, HBR.out, by rw [List.map_append, ← List.append_assoc]; exact o5, NX.out⟩)
        have M := Lib.hid (show W5.rangeLeft b r < wr.rangeLeft b r by rw [rg5.left_eq, LE.out]; exact LT.out)
        have HW4 := Lib.hid hW4
        clear b3 z3 b4 a4 o4 rg4 B4 s4 hW4 hrun o5 g5 hB5 rg5
        go_wp2_with (first
          | (at_builtin; rw [HW4.out]; (with_reducible refine Coin.wpList_append_eq rfl (.tmp 19) (.tmp 25) 23 rfl ?_ ?_ R5.out ?_); (next => rfl); (next => rfl)))
        go_roundw
        case rel => exact NB
        case measure => exact M.out
      · rw [e1] at cP
        have hex : ∃ x ∈ l, x.own = o := ⟨l[k], List.getElem_mem hk, e3⟩
        have NX := Lib.hid (HOP.out.skip ho hex hlt)
        have LT := Lib.hid hlt
        have t1 : ¬ (k : Int) < 0 := by omega
        unfold keyO encO strV at hen
        unfold encO strV at cP
        generalize strB o.1 = X at *
        generalize strB o.2 = Y at *
        clear hkey hlk hv hat hrg1 hlt hg1 hs1 o1 b1 z1 b2 a2 hW2 e1 e2 e3 e4 hex hZ hrg hF hk
        go_wp2_with (first
          | ((with_reducible refine wpList_store_eq rfl 56 (.tmp 6) (.tmp 14) rfl _ _ ?_ ?_ P2.out ?_); (next => rfl); (next => rfl))
          | ((with_reducible refine wpList_load_eq rfl 56 (.tmp 6) rfl _ ?_ L2.out ?_); (next => rfl)))
        refine cP.mono ?_
        rintro e w3 ⟨rfl, b3⟩
        have rg3 := ranges_below RG2.out b3
        have NB := Lib.hid (show OpnW w w.heap.size b r N l F D u5 w3 from ⟨_, _, _, rg3, B2.out.trans (b3.mono B2.out.size), Nat.le_trans B2.out.size b3.size, HBR.out, O2.out.below b3, NX.out⟩)
        have M := Lib.hid (show w3.rangeLeft b r < wr.rangeLeft b r by rw [rg3.left_eq, LE.out]; exact LT.out)
        clear b3 rg3
        go_wp2_with fail
        go_roundw
        case rel => exact NB
        case measure => exact M.out
end Go.Proofs.Ytobpbbldgbgcdaa.Acc
