/-
  Contract of Post.
-/
import Derived.Test.YtobpbbldgbgcdaaAPostP
namespace Go.Proofs.Ytobpbbldgbgcdaa.Acc
open Go.RowKit Go.Sort

/-- The accounts behind k rounds. -/
def curA (F : Own → List Int) (l2 : List Ac) (k : Nat) : List Ac := (l2.take k).map (stepA F) ++ l2.drop k
section
variable {F : Own → List Int} {l2 : List Ac} {k : Nat}
theorem cur_len : (curA F l2 k).length = l2.length := by unfold curA; rw [List.length_append, List.length_map, List.length_take, List.length_drop]; omega
theorem cur_zero : curA F l2 0 = l2 := by simp [curA]
theorem cur_end : curA F l2 l2.length = l2.map (stepA F) := by simp [curA]
theorem cur_get (hk : k < l2.length) : (curA F l2 k)[k]'(by rw [cur_len]; exact hk) = l2[k] := by
  unfold curA
  have h1 : ((l2.take k).map (stepA F)).length = k := by rw [List.length_map, List.length_take]; omega
  rw [List.getElem_append_right (by omega)]
  simp only [List.getElem_drop, h1]
  simp
theorem cur_set (hk : k < l2.length) : (curA F l2 k).set k (stepA F l2[k]) = curA F l2 (k + 1) := by
  unfold curA
  have h1 : ((l2.take k).map (stepA F)).length = k := by rw [List.length_map, List.length_take]; omega
  rw [List.set_append_right _ _ (by omega), h1, Nat.sub_self, List.drop_eq_getElem_cons hk, List.set_cons_zero, List.take_succ_eq_append_getElem hk, List.map_append]
  simp
theorem cur_skip (hk : k < l2.length) (h : F l2[k].own = []) : curA F l2 (k + 1) = curA F l2 k := by
  rw [← cur_set hk]
  have e : stepA F l2[k] = l2[k] := by unfold stepA; rw [if_pos h]
  rw [e]
  have := cur_get (F := F) hk
  conv => lhs; rw [← this]
  exact List.set_getElem_self _
theorem okTo_next (h : OkTo F l2 k) (hk : k < l2.length) (hp : F l2[k].own ≠ [] → (postedA l2[k] (F l2[k].own).sum).2 = 0) : OkTo F l2 (k + 1) := fun j hj hjk => by
  by_cases e : j = k
  · subst e; exact hp
  · exact h j hj (by omega)
end
theorem named_ok {o : Own} (h : namedB o.1 o.2 = true) : okO o := by
  unfold namedB Label.whoS Label.madeB at h
  simp only [Bool.and_eq_true, decide_eq_true_eq] at h
  unfold okO
  omega
theorem opened_ok {l l2 : List Ac} {F : Own → List Int} (hl : FitA l) (h : Opened l F l2) (hF : Named F) {x : Ac} (hx : x ∈ l2) : okO x.own := by
  rcases (opened_mem h hF x).1 hx with h1 | ⟨h1, _⟩
  · exact named_ok (o := x.own) (may_parts.1 (((fit_iff l).1 hl).1 x h1)).1
  · exact (hF _ h1).1
/-- What Post tells of any legs. -/
def PostR (l : List Ac) (legs : List Lg) (r : List Ac × Int) : Prop :=
  if legs.length < 1 ∨ 200 < legs.length ∨ legs.any namelessB = true then r = ([], 1) else PostS l (amtsOf legs) r
theorem amts_named {legs : List Lg} (hs : ∀ x ∈ legs, x.who.length ≤ 200000000000000 ∧ x.asset.length ≤ 200000000000000) (hn : legs.any namelessB = false) : Named (amtsOf legs) := fun o ho => by
  unfold amtsOf at ho
  rw [ne_eq, List.map_eq_nil_iff] at ho
  obtain ⟨x, hx⟩ := List.exists_mem_of_ne_nil _ ho
  obtain ⟨hm, e⟩ := List.mem_filter.1 hx
  have e : x.own = o := by simpa using e
  subst e
  refine ⟨hs x hm, ?_⟩
  have := List.any_eq_false.1 hn x hm
  unfold namelessB at this
  simpa [Lg.own] using this
theorem amts_some {legs : List Lg} (h : ¬ legs.length < 1) : ∃ x ∈ legs, amtsOf legs x.own ≠ [] := by
  rcases legs with _ | ⟨x, l⟩
  · exact absurd (by simp) h
  · exact ⟨x, by simp, by simp [amtsOf]⟩
theorem own_load {w : World} {B g n cap : Nat} {l : List Ac} (h : OwnA w B (.slice (some ⟨g, 0, none⟩) n cap) l) {k : Nat} (hk : k < l.length) : (Instr.loadAt 35 (.pointer (some ⟨g, k * 4, none⟩))).run Try.prog w = .ok (.agg (encA l[k]).toArray) w := by
  obtain ⟨A, c, e, ha, _⟩ := h.at
  obtain ⟨b, off, e', hbl, hc⟩ := ha.row (by intro e; rw [e] at hk; simp at hk)
  injection e with e4 e5 e9
  rw [← e4] at e'
  injection e' with e6
  injection e6 with e7 e8 _
  subst e7 e8
  have hr := hc k hk
  rw [Nat.zero_add] at hr
  exact load_ac hr
/-- Between two rounds of Post's loop. -/
structure PLoop (w w1 : World) (B g cap n2 : Nat) (F : Own → List Int) (l2 : List Ac) (k : Nat) (wr : World) : Prop where
  out : Below w.heap.size w wr
  grp : Below w1.heap.size w1 wr
  own : OwnA wr B (.slice (some ⟨g, 0, none⟩) n2 cap) (curA F l2 k)
  ok : OkTo F l2 k
set_option maxRecDepth 100000 in
set_option maxHeartbeats 8000000 in
theorem post_any {A A' : Option Addr} {n c m c' : Nat} {l : List Ac} {legs : List Lg} {w : World} (h : AAt w A n c l) (hn : n ≤ 50000) (hl : FitA l) (hb : ∀ x ∈ l, -9223372036854775808 ≤ x.bal ∧ x.bal ≤ 9223372036854775807)
    (hlen : legs.length = m) (hm : m ≤ 1000000) (hrow : RowL w A' legs) (hs : ∀ x ∈ legs, x.who.length ≤ 200000000000000 ∧ x.asset.length ≤ 200000000000000) (ha : ∀ x ∈ legs, -9223372036854775808 ≤ x.amt ∧ x.amt ≤ 9223372036854775807) :
    Calls Try.prog 14 #[.slice A n c, .slice A' m c'] w (fun e w' => ∃ l' er, PostR l legs (l', er) ∧ AcsE l' er w e w') := by
  have NIL := Lib.hid (fun (k : Int) w' (hb : Below w.heap.size w w') (hp : PostR l legs ([], k)) => show ∃ l' er, PostR l legs (l', er) ∧ AcsE l' er w (.returned (.tuple #[.slice none 0 0, .int .i64 k])) w' from ⟨[], k, hp, _, rfl, OwnA.nil _ _, hb⟩)
  by_cases c1 : m < 1
  · have PR := Lib.hid (show PostR l legs ([], 1) by unfold PostR; rw [if_pos (.inl (by rw [hlen]; exact c1))])
    obtain rfl : m = 0 := by omega
    clear h hl hb hlen hrow hs ha c1
    go_enter Try.func14, Try.ntmps14
    go_wp2_with fail
    go_ret2
    exact NIL.out 1 _ (Below.refl _ _) PR.out
  by_cases c2 : 200 < m
  · have PR := Lib.hid (show PostR l legs ([], 1) by unfold PostR; rw [if_pos (.inr (.inl (by rw [hlen]; exact c2)))])
    have t1 : ¬ (m : Int) < 1 := by omega
    have t2 : (200 : Int) < (m : Int) := by omega
    clear h hl hb hlen hrow hs ha c1 c2
    go_enter Try.func14, Try.ntmps14
    go_wp2_with fail
    go_ret2
    exact NIL.out 1 _ (Below.refl _ _) PR.out
  have cI := contains_any (c := c') hlen hrow (by omega) hs
  have t1 : ¬ (m : Int) < 1 := by omega
  have t2 : ¬ (200 : Int) < (m : Int) := by omega
  rcases hany : legs.any namelessB with _ | _
  rotate_left
  · have PR := Lib.hid (show PostR l legs ([], 1) by unfold PostR; rw [if_pos (.inr (.inr hany))])
    rw [hany] at cI
    clear h hl hb hlen hrow hs ha c1 c2 hany
    go_enter Try.func14, Try.ntmps14
    go_wp2_with (go_at_call 32; refine cI.mono ?_; rintro e w1 ⟨rfl, b1⟩)
    go_ret2
    exact NIL.out 1 _ b1 PR.out
  have PR := Lib.hid (show ∀ r, PostS l (amtsOf legs) r → PostR l legs r from fun r hr => by
    unfold PostR
    rw [if_neg (by rw [hlen, hany]; simp; omega)]
    exact hr)
  rw [hany] at cI
  have HF := Lib.hid (amts_named hs hany)
  have HEX := Lib.hid (show ∃ o, okO o ∧ amtsOf legs o ≠ [] by
    obtain ⟨x, hx, e⟩ := amts_some (by rw [hlen]; exact c1)
    exact ⟨x.own, hs x hx, e⟩)
  have HFL := Lib.hid (show ∀ o, (amtsOf legs o).length ≤ 1000000000000 from fun o => by have := amts_len legs o; omega)
  have HFA := Lib.hid (show ∀ o, Coin.Amounts (amtsOf legs o) from fun o z hz => by
    unfold amtsOf at hz
    obtain ⟨x, hx, rfl⟩ := List.mem_map.1 hz
    exact ha x (List.mem_filter.1 hx).1)
  have CG := Lib.hid (fun W (hb : Below w.heap.size w W) => gathered_any (c := c') hlen (hrow.below hb) (by omega) hs)
  have HH := Lib.hid h
  have HFIT := Lib.hid hl
  have HBAL := Lib.hid hb
  obtain ⟨F, hF⟩ : ∃ F, amtsOf legs = F := ⟨_, rfl⟩
  rw [hF] at PR HF HEX HFL HFA CG
  have hm2 : m ≤ 200 := by omega
  clear h hl hb hlen hrow hs ha c1 c2 hany hF
  go_enter Try.func14, Try.ntmps14
  go_wp2_with (go_at_call 32; refine cI.mono ?_; rintro e w0 ⟨rfl, b0⟩; have B0 := Lib.hid b0; have cG := CG.out w0 b0; clear b0 cI CG)
  refine cG.mono ?_
  rintro e w1 ⟨b, base, D, rfl, hG, b1⟩
  have B1 := Lib.hid (B0.out.trans (b1.mono B0.out.size))
  have G1 := Lib.hid hG
  have cO := opened_any (HH.out.below B1.out) (by omega) hG (by omega) HEX.out
  clear b1 hG cG B0
  go_wp2_with fail
  refine cO.mono ?_
  rintro e w2 ⟨v, l2, rfl, ho2, hop, hl2, b2⟩
  have HOP := Lib.hid hop
  have hne : l2 ≠ [] := fun e => by
    obtain ⟨o, ho, hFo⟩ := HEX.out
    obtain ⟨x, hx, _⟩ := opened_has hop HF.out hFo
    rw [e] at hx; simp at hx
  obtain ⟨g, cap, rfl, hg1, hg2⟩ := ho2.some hne
  obtain ⟨n2, hn2⟩ : ∃ n2, l2.length = n2 := ⟨_, rfl⟩
  rw [hn2] at ho2 hl2 ⊢
  have HN2 := Lib.hid hn2
  have HG1 := Lib.hid hg1
  have ST := Lib.hid (show PLoop w w1 w1.heap.size g cap n2 F l2 0 w2 from ⟨B1.out.trans (b2.mono B1.out.size), b2, by rw [cur_zero]; exact ho2, fun j _ h => absurd h (Nat.not_lt_zero _)⟩)
  have HBL := Lib.hid (show ∀ x ∈ l2, -9223372036854775808 ≤ x.bal ∧ x.bal ≤ 9223372036854775807 from fun x hx => by
    rcases (opened_mem hop HF.out x).1 hx with h1 | ⟨_, _, h3⟩
    · exact HBAL.out x h1
    · rw [h3]; simp [zeroOf])
  have HOX := Lib.hid (show ∀ x ∈ l2, okO x.own from fun x hx => opened_ok HFIT.out hop HF.out hx)
  clear ho2 hop hne hg1 hg2 hn2 b2 cO
  go_wp2_with fail
  go_loopw [35] (fun i wr => ∃ k : Nat, i = .int .i64 (k : Int) ∧ k ≤ n2 ∧ Hid (PLoop w w1 w1.heap.size g cap n2 F l2 k wr)) (fun i _ => n2 - (intOf i).toNat)
  case atStart => exact ⟨0, rfl, Nat.zero_le _, ST⟩
  case round =>
    obtain ⟨k, rfl, hk, HB⟩ := hrel
    by_cases hlt : k < n2
    · have hkl : k < l2.length := by rw [HN2.out]; exact hlt
      have hwr : IntKind.i64.wrap ((k : Int) + 1) = (k : Int) + 1 := IntWalk.i64_in _ (by omega)
      have t3 : (k : Int) < (n2 : Int) := by omega
      have t4 : (0 : Int) ≤ (k : Int) := by omega
      obtain ⟨x, hx⟩ : ∃ x, l2[k] = x := ⟨_, rfl⟩
      have HX := Lib.hid hx
      have hcl : k < (curA F l2 k).length := by rw [cur_len]; exact hkl
      have L := Lib.hid (own_load HB.out.own hcl)
      rw [cur_get hkl, hx] at L
      have P1 := Lib.hid (put_new wr x)
      have b2 := below_box wr (.cells (encA x).toArray 35)
      have a2 := at_new wr (encA x).toArray 35
      obtain ⟨W2, hW2⟩ : ∃ W2, wr.alloc (.cells (encA x).toArray 35) = W2 := ⟨_, rfl⟩
      rw [hW2] at P1 b2 a2
      have L7 := Lib.hid (show ∀ W, Below W2.heap.size W2 W → (Instr.loadAt 35 (.pointer (Option.some ⟨wr.heap.size, 0, Option.none⟩))).run Try.prog W = .ok (.agg (encA x).toArray) W from fun W hb => load_at (o := 0) (a2.below hb a2.1) Try.underlying35 rfl (by simpa [encA] using size_ac) (by simp))
      have L7a := Lib.hid (L7.out W2 (Below.refl _ _))
      have cF := Lib.hid (ownerOf_any x W2)
      have hsz := HB.out.out.size
      have hsz1 := HB.out.grp.size
      have B2 := Lib.hid (HB.out.out.trans (b2.mono hsz))
      have B21 := Lib.hid (HB.out.grp.trans (b2.mono hsz1))
      have O2 := Lib.hid (HB.out.own.below b2)
      have OK := Lib.hid HB.out.ok
      have hxb := HBL.out x (hx ▸ List.getElem_mem hkl)
      have XB := Lib.hid hxb
      obtain ⟨C, hC⟩ : ∃ C, (encA x).toArray = C := ⟨_, rfl⟩
      have HC := Lib.hid hC
      rw [hC] at L P1 L7a cF
      clear HB hcl b2 a2 hW2 hsz hsz1 hxb hx hC
      go_wp2_with (first
        | ((with_reducible refine wpList_load_eq rfl 35 (.tmp 38) rfl _ ?_ L.out ?_); (next => rfl))
        | ((with_reducible refine wpList_store_eq rfl 35 (.tmp 10) (.tmp 39) rfl _ _ ?_ ?_ P1.out ?_); (next => rfl); (next => rfl))
        | ((with_reducible refine wpList_load_eq rfl 35 (.tmp 10) rfl _ ?_ L7a.out ?_); (next => rfl)))
      refine cF.out.mono ?_
      rintro e w3 ⟨rfl, b3⟩
      have B3 := Lib.hid (B2.out.trans (b3.mono B2.out.size))
      have B31 := Lib.hid (B21.out.trans (b3.mono B21.out.size))
      have O3 := Lib.hid (O2.out.below b3)
      have L8 := Lib.hid (L7.out w3 b3)
      rw [HC.out] at L8
      have hG3 := G1.out.below B31.out
      by_cases hFx : F x.own = []
      · obtain ⟨v, hvo, hlk⟩ : ∃ v, Coin.Own w3 base v (F x.own) ∧ (Instr.lookup 51 (.map (some b)) (.agg (encO x.own)) true).run Try.prog w3 = .ok (.tuple #[v, .bool false]) w3 := by
          obtain ⟨v, h1, h2⟩ := hG3.look ownK (HOX.out x (HX.out ▸ List.getElem_mem hkl))
          exact ⟨v, h1, by rw [hFx] at h2; simpa [keyO] using h2⟩
        have LK := Lib.hid hlk
        have NB := Lib.hid (show PLoop w w1 w1.heap.size g cap n2 F l2 (k + 1) w3 from ⟨B3.out, B31.out, by rw [cur_skip hkl (by rw [HX.out]; exact hFx)]; exact O3.out, okTo_next OK.out hkl (fun h => absurd (by rw [HX.out]; exact hFx) h)⟩)
        clear hG3 hlk hvo hFx b3 L8 O3 B3 B31
        go_wp2_with ((with_reducible refine Coin.wpList_lookup_eq rfl 51 (.tmp 41) (.tmp 43) true rfl _ _ ?_ ?_ LK.out ?_); (next => rfl); (next => rfl))
        go_roundw
        case rel => exact ⟨k + 1, by go_num, by omega, NB⟩
        case measure => simp [intOf]; omega
      · obtain ⟨v, hvo, hlk⟩ := hG3.look ownK (HF.out _ hFx).1
        have LK := Lib.hid (show (Instr.lookup 51 (.map (some b)) (.agg (encO x.own)) true).run Try.prog w3 = .ok (.tuple #[v, .bool true]) w3 by simpa [keyO, hFx] using hlk)
        obtain ⟨A3, c3, rfl, _, hrow3⟩ := Coin.Own.row hvo
        have cP := posted_any (c := c3) x rfl (HFL.out x.own) hrow3 (HFA.out x.own) XB.out.1 XB.out.2
        rw [HC.out] at cP
        obtain ⟨R, hR⟩ : ∃ R, postedA x (F x.own).sum = R := ⟨_, rfl⟩
        rw [hR] at cP
        have HR := Lib.hid hR
        have HFX := Lib.hid hFx
        generalize (F x.own).length = n3 at *
        clear hG3 hlk hvo hFx b3 hrow3 hR
        go_wp2_with (first
          | ((with_reducible refine Coin.wpList_lookup_eq rfl 51 (.tmp 41) (.tmp 43) true rfl _ _ ?_ ?_ LK.out ?_); (next => rfl); (next => rfl))
          | ((with_reducible refine wpList_load_eq rfl 35 (.tmp 10) rfl _ ?_ L8.out ?_); (next => rfl)))
        refine cP.mono ?_
        rintro e w4 ⟨rfl, b4⟩
        have B4 := Lib.hid (B3.out.trans (b4.mono B3.out.size))
        have B41 := Lib.hid (B31.out.trans (b4.mono B31.out.size))
        have O4 := Lib.hid (O3.out.below b4)
        have P5 := Lib.hid (put_new w4 R.1)
        have b5 := below_box w4 (.cells (encA R.1).toArray 35)
        have a5 := at_new w4 (encA R.1).toArray 35
        obtain ⟨W5, hW5⟩ : ∃ W5, w4.alloc (.cells (encA R.1).toArray 35) = W5 := ⟨_, rfl⟩
        rw [hW5] at P5 b5 a5
        have L5 := Lib.hid (show (Instr.loadAt 35 (.pointer (Option.some ⟨w4.heap.size, 0, Option.none⟩))).run Try.prog W5 = .ok (.agg (encA R.1).toArray) W5 from load_at (o := 0) a5 Try.underlying35 rfl (by simpa [encA] using size_ac) (by simp))
        have B5 := Lib.hid (B4.out.trans (b5.mono B4.out.size))
        have B51 := Lib.hid (B41.out.trans (b5.mono B41.out.size))
        have O5 := Lib.hid (O4.out.below b5)
        by_cases hE : R.2 = 0
        · have ST := Lib.hid (O5.out.there k (by rw [cur_len]; exact hkl) R.1)
          have hst : R.1 = stepA F l2[k] := by
            unfold stepA
            rw [HX.out, if_neg HFX.out, HR.out]
          have NB := Lib.hid (show PLoop w w1 w1.heap.size g cap n2 F l2 (k + 1) (W5.setCells g (k * 4) (encA R.1)) from
            ⟨B5.out.trans (below_put (by have := B1.out.size; have := HG1.out; omega) _ _ _), B51.out.trans (below_put HG1.out _ _ _), by
              have := O5.out.set k (by rw [cur_len]; exact hkl) R.1
              rw [hst, cur_set hkl, ← hst] at this
              exact this, okTo_next OK.out hkl (fun _ => by rw [HX.out, HR.out]; exact hE)⟩)
          have hq : (R.2 != 0) = false := by rw [hE]; rfl
          generalize W5.setCells g (k * 4) (encA R.1) = W6 at *
          obtain ⟨E, hEE⟩ : ∃ E, (encA R.1).toArray = E := ⟨_, rfl⟩
          rw [hEE] at P5 L5 ST ⊢
          rw [hE]
          clear hst hq b4 b5 a5 hW5 hEE hE
          go_wp2_with (first
            | ((with_reducible refine wpList_store_eq rfl 35 (.tmp 13) (.tmp 53) rfl _ _ ?_ ?_ P5.out ?_); (next => rfl); (next => rfl))
            | ((with_reducible refine wpList_load_eq rfl 35 (.tmp 13) rfl _ ?_ L5.out ?_); (next => rfl))
            | ((with_reducible refine wpList_store_eq rfl 35 (.tmp 61) (.tmp 60) rfl _ _ ?_ ?_ ST.out ?_); (next => rfl); (next => rfl)))
          go_roundw
          case rel => exact ⟨k + 1, by go_num, by omega, NB⟩
          case measure => simp [intOf]; omega
        · have FIN := Lib.hid (show PostS l F ([], R.2) by
            have := post_err HFIT.out HOP.out HF.out hkl OK.out (by rw [HX.out]; exact HFX.out) (by rw [HX.out, HR.out]; exact hE)
            rw [HX.out, HR.out] at this
            exact this)
          obtain ⟨z, hz⟩ : ∃ z, R.2 = z := ⟨_, rfl⟩
          rw [hz] at hE FIN ⊢
          have hq : (z == 0) = false := beq_eq_false_iff_ne.2 hE
          obtain ⟨E, hEE⟩ : ∃ E, (encA R.1).toArray = E := ⟨_, rfl⟩
          rw [hEE] at P5 ⊢
          clear b4 b5 a5 hW5 hEE hz
          go_wp2_with (first
            | ((with_reducible refine wpList_store_eq rfl 35 (.tmp 13) (.tmp 53) rfl _ _ ?_ ?_ P5.out ?_); (next => rfl); (next => rfl)))
          go_ret2
          exact NIL.out _ _ B5.out (PR.out _ FIN.out)
    · obtain rfl : k = n2 := by omega
      have O := Lib.hid (show OwnA wr w1.heap.size (.slice (some ⟨g, 0, none⟩) k cap) (l2.map (stepA F)) by
        have := HB.out.own
        rw [← HN2.out, cur_end, HN2.out] at this
        exact this)
      have cD := delete_any O.out (by rw [List.length_map, HN2.out]; omega) HB.out.grp.size
      have FIN := Lib.hid (PR.out _ (post_end HFIT.out HOP.out HF.out (by have := HB.out.ok; rw [← HN2.out] at this; exact this)))
      have BB := Lib.hid HB.out.out
      have BG := Lib.hid B1.out.size
      clear HB O
      go_wp2_with (go_at_call 37; refine cD.mono ?_; rintro e w9 ⟨v9, rfl, o9, b9⟩)
      go_ret2
      exact ⟨_, _, FIN.out, _, rfl, o9.down BG.out, BB.out.trans (b9.mono BG.out)⟩
end Go.Proofs.Ytobpbbldgbgcdaa.Acc
