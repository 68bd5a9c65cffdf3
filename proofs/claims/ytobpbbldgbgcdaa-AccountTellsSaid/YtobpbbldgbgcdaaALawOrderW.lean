/-
  AccountOrder: the walk.
-/
import Derived.Test.YtobpbbldgbgcdaaALawOrder
import Derived.Test.YtobpbbldgbgcdaaALawBack
import Derived.Test.YtobpbbldgbgcdaaAHoldsQ
namespace Go.Proofs.Ytobpbbldgbgcdaa.Acc
open Go.RowKit Go.Sort

theorem ownL_lit (W : World) (l : List Lg) (h : l.length ≤ 1000) : OwnL (W.alloc (.cells (flatL l).toArray 39)) W.heap.size (.slice (some ⟨W.heap.size, 0, none⟩) l.length l.length) l := by
  have e : (flatL l).toArray.size = l.length * 3 := by rw [List.size_toArray, flatL_len]
  refine ⟨flatL_len l, .inr ⟨W.heap.size, l.length, (flatL l).toArray, rfl, Nat.le_refl _, heap_alloc_last W _, Nat.le_refl _, by simp only [maxLen]; omega, e, ?_⟩⟩
  exact List.take_of_length_le (by rw [flatL_len]; exact Nat.le_refl _)
/-- The legs with the first one in two parts. -/
theorem parts_row {w1 : World} {c : Nat} {x : Lg} {t : List Lg} (p : Int) (A : Option Addr) (hA : A = none → c = 0) (hR : RowL w1 A t) (ht : t.length ≤ 1000) :
    ∃ v2 W2, (Builtin.append_ #[24, 24] 24 #[.slice (some ⟨w1.heap.size, 0, none⟩) 2 2, .slice A t.length c]).run Try.prog (w1.drew.alloc (.cells #[.string (strB x.who), .string (strB x.asset), .int .i64 (x.amt - p), .string (strB x.who), .string (strB x.asset), .int .i64 p] 39)) = .ok v2 W2 ∧
      OwnL W2 w1.heap.size v2 (x.part p ++ t) ∧ Below w1.heap.size w1 W2 := by
  have C1 : Below w1.heap.size w1 (w1.drew.alloc (.cells (flatL (x.part p)).toArray 39)) := (Below.refl _ _).drew.alloc (Nat.le_refl _) _
  have O1 : OwnL (w1.drew.alloc (.cells (flatL (x.part p)).toArray 39)) w1.heap.size (.slice (some ⟨w1.heap.size, 0, none⟩) 2 2) (x.part p) := ownL_lit w1.drew (x.part p) (by simp [Lg.part])
  have s1 : (w1.drew.alloc (.cells (flatL (x.part p)).toArray 39)).heap.size = w1.heap.size + 1 := by simp
  have e : (flatL (x.part p)).toArray = #[.string (strB x.who), .string (strB x.asset), .int .i64 (x.amt - p), .string (strB x.who), .string (strB x.asset), .int .i64 p] := rfl
  rw [← e]
  obtain ⟨v2, W2, r2, o2, g2, h2⟩ := append_lgs _ w1.heap.size _ (x.part p) O1 A t.length c t rfl hA (hR.below C1) (by simp [Lg.part]; omega) (by omega)
  exact ⟨v2, W2, r2, o2, C1.grown g2 (by omega) h2⟩
theorem turn_at {legs : List Lg} {k : Nat} (hk : k < legs.length) : ∃ t, legs.drop k ++ legs.take k = legs[k] :: t ∧ t.length + 1 = legs.length ∧ (∀ y ∈ t, y ∈ legs) := by
  refine ⟨legs.drop (k + 1) ++ legs.take k, by rw [List.drop_eq_getElem_cons hk]; rfl, ?_, fun y hy => ?_⟩
  · rw [List.length_append, List.length_drop, List.length_take]; omega
  · rcases List.mem_append.1 hy with h | h
    · exact List.mem_of_mem_drop h
    · exact List.mem_of_mem_take h
theorem postR_len {l l' : List Ac} {legs : List Lg} {er : Int} (h : PostR l legs (l', er)) : l'.length ≤ l.length + legs.length := by
  by_cases he : er = 0
  · subst he
    exact posted_len (post_split h).2.2.2
  · unfold PostR at h
    split at h
    · injection h with h1 _
      rw [h1]; exact Nat.zero_le _
    · rcases h with ⟨h1, _⟩ | ⟨h1, _⟩
      · exact absurd h1 he
      · have h1 : l' = [] := h1
        rw [h1]; exact Nat.zero_le _
theorem post_at {w W : World} {A A' : Option Addr} {n c m c' : Nat} {l : List Ac} {legs : List Lg} (h : AcsIn w A n c l) (hb : Below w.heap.size w W) (hf : FitA l) (hn : n ≤ 200) (hlen : legs.length = m) (hm : m ≤ 1000) (hr : RowL W A' legs) (hs : ∀ x ∈ legs, x.who.length ≤ 200000000000000 ∧ x.asset.length ≤ 200000000000000) (hi : ∀ x ∈ legs, LgIn x) :
    Calls Try.prog 14 #[.slice A n c, .slice A' m c'] W (fun e w' => ∃ l' er, PostR l legs (l', er) ∧ AcsE l' er W e w') :=
  post_any (h.1.below hb) (by omega) hf (fun x hx => ⟨(h.2 x hx).b0, (h.2 x hx).b1⟩) hlen (by omega) hr hs hi
theorem own_rowL {w : World} {B n c : Nat} {A : Option Addr} {l : List Lg} (h : OwnL w B (.slice A n c) l) : RowL w A l ∧ l.length = n := by
  obtain ⟨A', c', e, hr, _⟩ := ownL_at h
  injection e with e1 e2 e3
  subst e1 e2
  exact ⟨hr, rfl⟩
set_option maxRecDepth 100000 in
set_option maxHeartbeats 8000000 in
theorem order_core (A : Option Addr) (b off n c m c' k : Nat) (l : List Ac) (legs : List Lg) (at0 p : Int) (w : World) (h : AcsIn w A n c l) (hL : LgsIn w (some ⟨b, off, none⟩) m c' legs) (hn : n ≤ 9223372036854775807) (hm : m ≤ 100) (hk : k < m) (hb : b < w.heap.size)
    (a0 : -9223372036854775808 ≤ at0) (a1 : at0 ≤ 9223372036854775807) (p0 : -2147483648 ≤ p) (p1 : p ≤ 2147483647) (hfit : FitA l) (hq : at0 < 0 ∧ -((at0 + 1).tmod (m : Int)) = (k : Int) ∨ ¬ at0 < 0 ∧ at0 % (m : Int) = (k : Int)) :
    Calls Try.prog 8 #[.slice A n c, .slice (some ⟨b, off, none⟩) m c', .int .i64 at0, .int .i32 p] w (fun e w' => e = .returned (.bool true) ∧ Below w.heap.size w w') := by
  have HH := Lib.hid h
  have HG := Lib.hid hL
  have HFIT := Lib.hid hfit
  have CK : Hid (checkA l = 0) := Lib.hid (check_yes (show FitTo l l.length from hfit))
  have t0 : ¬ (100 : Int) < (m : Int) := by omega
  have d0 : ((m : Int) == 0) = false := by simp; omega
  have hk0 : (0 : Int) ≤ (k : Int) := by omega
  have hk1 : (k : Int) ≤ (m : Int) := by omega
  have hmc : m ≤ c' := hL.cap
  have hk2 : (k : Int) ≤ (c' : Int) := by omega
  have hk3 : (m : Int) ≤ (c' : Int) := by omega
  have hne : ¬ c' = k := by omega
  have hk4 : k ≤ c' := by omega
  have hk5 : k ≤ m := by omega
  have hkl : k < legs.length := by rw [hL.len]; exact hk
  obtain ⟨t, ht1, ht2, ht3⟩ := turn_at hkl
  have HT1 := Lib.hid ht1
  have HT2 := Lib.hid ht2
  have HT3 := Lib.hid ht3
  have HXL := Lib.hid (List.getElem_mem hkl)
  obtain ⟨x, hx⟩ : ∃ x, legs[k] = x := ⟨_, rfl⟩
  rw [hx] at HT1 HXL
  have HHB := Lib.hid hb
  have HMC := Lib.hid hmc
  clear h hL hfit ht1 ht2 ht3 hx hkl hb
  rcases hq with ⟨hcut, hq⟩ | ⟨hcut, hq⟩
  all_goals
    go_enter Try.func8, Try.ntmps8
    go_wp2_with fail
    refine (awake_any w).mono ?_
    rintro e w1 ⟨rfl, b1⟩
    have B1 := Lib.hid b1
    have cF := few_any (c' := c') (HH.out.1.below b1) HG.out.len (HG.out.row.below b1) hn (by omega)
    clear b1
    go_wp2_with fail
    refine cF.mono ?_
    rintro e w2 ⟨r, rfl, hr, b2⟩
    have B2 := Lib.hid (B1.out.trans (b2.mono B1.out.size))
    clear b2 cF B1
    rcases r with _ | _
    · clear hr
      go_wp2_with fail
      go_ret
      exact ⟨rfl, B2.out⟩
    have HF := Lib.hid (hr rfl)
    clear hr
    have cC := check_any (HH.out.1.below B2.out) (by have := HF.out.n; rw [HH.out.1.len] at this; omega) (fun x hx => by have := HF.out.l x hx; omega)
    rw [CK.out] at cC
    go_wp2_with (go_at_call 12; refine cC.mono ?_; rintro e w3 ⟨rfl, b3⟩; have B3 := Lib.hid (B2.out.trans (b3.mono B2.out.size)); clear b3 cC B2)
    obtain ⟨v2, W2, v3, W3, r2, r3, o3, b3⟩ := turned_row (c := c') HG.out.len (by omega) HG.out.row HHB.out hk B3.out
    have R2 := Lib.hid r2
    have R3 := Lib.hid r3
    have O3 := Lib.hid o3
    have B4 := Lib.hid (B3.out.trans (b3.mono B3.out.size))
    clear r2 r3 o3 b3
    go_region_law (first
      | (refine step_append_eq (by rfl) (.tmp 51) (.tmp 54) 24 (by rfl) (by rfl) (by rfl) (by rfl) R2.out ?_)
      | (refine step_append_eq (by rfl) (.tmp 55) (.tmp 58) 24 (by rfl) (by rfl) (by rfl) (by rfl) R3.out ?_))
    obtain ⟨A3, c3, e3, rl3, hc3, hc3m, hn3, _⟩ := ownL_at O3.out
    rw [HT1.out] at e3 rl3 hc3
    have hlt3 : (x :: t).length = m := by rw [List.length_cons, HT2.out, HG.out.len]
    rw [hlt3] at e3 hc3
    subst e3
    obtain ⟨g3, o3, rfl, hg3, hr3⟩ := rl3 (by simp)
    have O3' := Lib.hid (show OwnL W3 w3.heap.size (.slice (some ⟨g3, o3, none⟩) m c3) (x :: t) by rw [← HT1.out]; exact O3.out)
    have L := Lib.hid (show (Instr.loadAt 39 (.pointer (some ⟨g3, o3, none⟩))).run Try.prog W3 = .ok (.agg (encL x).toArray) W3 from by
      have := load_lg (hr3 0 (by simp))
      simpa using this)
    have P1 := Lib.hid (put_lg W3 x)
    have b5 := below_box W3 (.cells (encL x).toArray 39)
    have a5 := at_new W3 (encL x).toArray 39
    obtain ⟨W5, hW5⟩ : ∃ W5, W3.alloc (.cells (encL x).toArray 39) = W5 := ⟨_, rfl⟩
    rw [hW5] at P1 b5 a5
    have c0 : W5.cell? ⟨W3.heap.size, 0, none⟩ = some (strV x.who) := a5.2.2 0 _ rfl
    have c1 : W5.cell? ⟨W3.heap.size, 1, none⟩ = some (strV x.asset) := a5.2.2 1 _ rfl
    have c2 : W5.cell? ⟨W3.heap.size, 2, none⟩ = some (.int .i64 x.amt) := a5.2.2 2 _ rfl
    have B5 := Lib.hid (B4.out.trans (b5.mono B4.out.size))
    have O5 := Lib.hid (O3'.out.below b5)
    have h1m : (1 : Int) ≤ (m : Int) := by omega
    have h1c : (1 : Int) ≤ (c3 : Int) := by omega
    have rl5 := rl3.below b5
    have htl : t.length = m - 1 := by rw [← hlt3, List.length_cons]; rfl
    have hrt : RowL W5 (if c3 = 1 then some ⟨g3, o3, none⟩ else some ⟨g3, o3 + 3, none⟩) t := fun hne => by
      have ht0 : 0 < t.length := List.length_pos_iff.2 hne
      rw [if_neg (by omega)]
      have := rowL_drop (k := 1) rl5 (by simp)
      rw [Nat.one_mul] at this
      exact this hne
    obtain ⟨v6, W6, r6, o6, b6⟩ := parts_row (x := x) (c := c3 - 1) p _ (fun e => by split at e <;> cases e) hrt (by omega)
    rw [htl] at r6
    have hxin := HG.out.ins x HXL.out
    by_cases g1 : 4611686018427387904 < x.amt
    · clear r6 o6 b6 hrt a5 b5
      generalize (encL x).toArray = C at *
      generalize x.amt = s at *
      go_wp2_with (first
        | ((with_reducible refine wpList_load_eq rfl 39 (.tmp 61) rfl _ ?_ L.out ?_); (next => rfl))
        | ((with_reducible refine wpList_store_eq rfl 39 (.tmp 11) (.tmp 62) rfl _ _ ?_ ?_ P1.out ?_); (next => rfl); (next => rfl)))
      go_ret
      exact ⟨rfl, B5.out⟩
    by_cases g2 : x.amt < -4611686018427387904
    · clear r6 o6 b6 hrt a5 b5
      generalize (encL x).toArray = C at *
      generalize x.amt = s at *
      go_wp2_with (first
        | ((with_reducible refine wpList_load_eq rfl 39 (.tmp 61) rfl _ ?_ L.out ?_); (next => rfl))
        | ((with_reducible refine wpList_store_eq rfl 39 (.tmp 11) (.tmp 62) rfl _ _ ?_ ?_ P1.out ?_); (next => rfl); (next => rfl)))
      go_ret
      exact ⟨rfl, B5.out⟩
    have O6 := Lib.hid o6
    have B6 := Lib.hid (B5.out.trans (b6.mono B5.out.size))
    have KS := Lib.hid (show ∀ W, Below W5.heap.size W5 W → W.cell? ⟨W3.heap.size, 0, none⟩ = some (.string (strB x.who)) ∧ W.cell? ⟨W3.heap.size, 1, none⟩ = some (.string (strB x.asset)) ∧ W.cell? ⟨W3.heap.size, 2, none⟩ = some (.int .i64 x.amt) from fun W hb => ⟨(a5.below hb a5.1).2.2 0 _ rfl, (a5.below hb a5.1).2.2 1 _ rfl, (a5.below hb a5.1).2.2 2 _ rfl⟩)
    have K6 := Lib.hid (KS.out W6 b6)
    have KD := Lib.hid (show Below W5.heap.size W5 W5.drew from (Below.refl _ _).drew)
    obtain ⟨d, hd⟩ : ∃ d, x.amt - p = d := ⟨_, rfl⟩
    have hwd : IntKind.i64.wrap (x.amt - p) = d := by rw [hd]; exact IntWalk.i64_in _ (by omega)
    have hwp : IntKind.i64.wrap p = p := IntWalk.i64_in _ (by omega)
    have hd0 : -9223372036854775808 ≤ d := by omega
    have hd1 : d ≤ 9223372036854775807 := by omega
    rw [hd] at r6
    have KA := Lib.hid (show Below W5.heap.size W5 (W5.drew.alloc (.cells #[.string (strB x.who), .string (strB x.asset), .int .i64 d, .string (strB x.who), .string (strB x.asset), .int .i64 p] 39)) from (Below.refl _ _).drew.alloc (Nat.le_refl _) _)
    have R6 := Lib.hid r6
    have HD := Lib.hid hd
    have O5' := Lib.hid (O5.out.below b6)
    have HXIN := Lib.hid hxin
    clear hrt a5 b5 b6 r6 o6 O3 O3' rl3 rl5 hr3 hg3 hn3 hW5 hd hxin R2 R3 O5 htl hlt3
    unfold strV at c0 c1
    generalize (encL x).toArray = C at *
    obtain ⟨X, hX⟩ : ∃ X, strB x.who = X := ⟨_, rfl⟩
    obtain ⟨Y, hY⟩ : ∃ Y, strB x.asset = Y := ⟨_, rfl⟩
    obtain ⟨s, hs⟩ : ∃ s, x.amt = s := ⟨_, rfl⟩
    rw [hX, hY] at R6 KA
    rw [hX] at c0
    rw [hY] at c1
    rw [hs] at c2 hwd g1 g2
    rw [hX, hY, hs] at KS K6
    clear hX hY hs
    go_wp2_with (first
      | ((with_reducible refine wpList_load_eq rfl 39 (.tmp 61) rfl _ ?_ L.out ?_); (next => rfl))
      | ((with_reducible refine wpList_store_eq rfl 39 (.tmp 11) (.tmp 62) rfl _ _ ?_ ?_ P1.out ?_); (next => rfl); (next => rfl)))
    clear P1 L g1 g2
    go_region_held3 (fun w' => w'.cell? ⟨W3.heap.size, 0, none⟩ = some (.string X) ∧ w'.cell? ⟨W3.heap.size, 1, none⟩ = some (.string Y) ∧ w'.cell? ⟨W3.heap.size, 2, none⟩ = some (.int .i64 s))
      (first | exact KS.out _ (Below.refl _ _) | exact KS.out _ KD.out | exact KS.out _ KA.out | exact K6.out)
      (refine step_append_eq (by rfl) (.tmp 89) (.tmp 91) 24 (by rfl) (by rfl) (by rfl) (by rfl) R6.out ?_)
    generalize (if c3 = 1 then (some ⟨g3, o3, none⟩ : Option Addr) else some ⟨g3, o3 + 3, none⟩) = A91 at *
    clear c0 c1 c2 K6 KS KA KD R6 hwd hwp
    obtain ⟨A6, c6, rfl, _, _, _, _, _⟩ := ownL_at O6.out
    obtain ⟨m6, hm6⟩ : ∃ m6, (x.part p ++ t).length = m6 := ⟨_, rfl⟩
    rw [hm6] at O6 ⊢
    have hm6' : m6 = m + 1 := by rw [← hm6, List.length_append, ← HG.out.len, ← HT2.out]; simp [Lg.part]; omega
    have nm : ∀ y ∈ legs, y.who.length ≤ 200000000000000 ∧ y.asset.length ≤ 200000000000000 := fun y hy => by have := HF.out.g y hy; omega
    have hnl := HF.out.n
    have hnn := HH.out.1.len
    have hn2 : n ≤ 200 := by omega
    have hpa : ∀ y ∈ x.part p ++ t, (y.who.length ≤ 200000000000000 ∧ y.asset.length ≤ 200000000000000) ∧ LgIn y := fun y hy => by
      rcases List.mem_append.1 hy with hy | hy
      · unfold Lg.part at hy
        rcases List.mem_cons.1 hy with rfl | hy
        · exact ⟨nm x HXL.out, by rw [← HD.out] at hd0 hd1; exact ⟨hd0, hd1⟩⟩
        · rw [List.mem_singleton] at hy
          subst hy
          exact ⟨nm x HXL.out, by show _ ≤ p; omega, by show p ≤ _; omega⟩
      · exact ⟨nm y (HT3.out y hy), HG.out.ins y (HT3.out y hy)⟩
    have hxt : ∀ y ∈ x :: t, y ∈ legs := fun y hy => (List.mem_cons.1 hy).elim (fun e => e ▸ HXL.out) (HT3.out y)
    have NM := Lib.hid nm
    have HPA := Lib.hid hpa
    have HXT := Lib.hid hxt
    have HM6 := Lib.hid hm6'
    have E12 := Lib.hid (show ∀ r, PostR l legs r → PostR l (x :: t) r from fun r hr => by
      have hl1 : (legs.drop k ++ legs.take k).length = m := by rw [HT1.out, List.length_cons, HT2.out, HG.out.len]
      have := PostR_congr (g' := legs.drop k ++ legs.take k) (by rw [HG.out.len]; omega) (by rw [HG.out.len]; omega) (by omega) (by omega) (turn_any legs k) (turn_nil legs k) (turn_sum legs k) hr
      rwa [HT1.out] at this)
    have E23 := Lib.hid (show ∀ r, PostR l (x :: t) r → PostR l (x.part p ++ t) r from fun r hr =>
      PostR_congr (by simp) (by rw [List.length_cons, HT2.out, HG.out.len]; omega) (by rw [hm6]; omega) (by rw [hm6]; omega) (part_any x p t) (part_nil x p t) (part_sum x p t) hr)
    have HLL := Lib.hid (show ∀ l' er, PostR l legs (l', er) → l'.length ≤ 1000000000000 from fun l' er h => by
      have := postR_len h
      rw [HG.out.len] at this
      omega)
    clear hm6 hm6' nm hnl hnn hpa hxt
    have cP := post_at (c' := c') HH.out B6.out HFIT.out hn2 HG.out.len (by omega) (HG.out.row.below B6.out) NM.out (fun x hx => HG.out.ins x hx)
    go_wp2_with fail
    refine cP.mono ?_
    rintro e w7 ⟨la, ea, ha, va, rfl, oa, b7⟩
    have HA := Lib.hid ha
    have OA := Lib.hid oa
    have B7 := Lib.hid (B6.out.trans (b7.mono B6.out.size))
    have O7 := Lib.hid (O5'.out.below b7)
    have Q7 := Lib.hid (O6.out.below b7)
    clear ha oa b7 O5' O6
    go_wp2_with fail
    have cP2 := post_at (c' := c3) HH.out B7.out HFIT.out hn2 (own_rowL O7.out).2 (by omega) (own_rowL O7.out).1 (fun y hy => NM.out y (HXT.out y hy)) (fun y hy => HG.out.ins y (HXT.out y hy))
    refine cP2.mono ?_
    rintro e w8 ⟨lb, eb, hb, vb, rfl, ob, b8⟩
    obtain ⟨rfl, rfl⟩ := Prod.mk.inj (PostR_one hb (E12.out _ HA.out))
    have OB := Lib.hid ob
    have OA8 := Lib.hid (OA.out.below b8)
    have B8 := Lib.hid (B7.out.trans (b8.mono B7.out.size))
    have Q8 := Lib.hid (Q7.out.below b8)
    clear hb ob b8 O7 Q7 OA
    go_wp2_with fail
    have cP3 := post_at (c' := c6) HH.out B8.out HFIT.out hn2 (own_rowL Q8.out).2 (by have := HM6.out; omega) (own_rowL Q8.out).1 (fun y hy => (HPA.out y hy).1) (fun y hy => (HPA.out y hy).2)
    refine cP3.mono ?_
    rintro e w9 ⟨lc, ec, hc, vc, rfl, oc, b9⟩
    obtain ⟨rfl, rfl⟩ := Prod.mk.inj (PostR_one hc (E23.out _ (E12.out _ HA.out)))
    have B9 := Lib.hid (B8.out.trans (b9.mono B8.out.size))
    obtain ⟨AA, ca, rfl, aa, _⟩ := (OA8.out.below b9).at
    obtain ⟨AB, cb, rfl, ab, _⟩ := (OB.out.below b9).at
    obtain ⟨AC, cc, rfl, ac, _⟩ := oc.at
    have AA9 := Lib.hid aa
    have AC9 := Lib.hid ac
    have cS := same_any aa ab (HLL.out _ _ HA.out)
    have HN := Lib.hid (HLL.out _ _ HA.out)
    clear hc oc b9 aa ab ac OA8 OB Q8 E12 E23 HLL HA cP cP2 cP3
    generalize lc.length = nl at *
    go_wp2_with fail
    refine cS.mono ?_
    rintro e w10 ⟨r, rfl, hr, b10⟩
    obtain rfl : r = true := hr.2 trivial
    have B10 := Lib.hid (B9.out.trans (b10.mono B9.out.size))
    have cS2 := same_any (AA9.out.below b10) (AC9.out.below b10) HN.out
    clear hr b10 cS
    go_wp2_with fail
    refine cS2.mono ?_
    rintro e w11 ⟨r, rfl, hr, b11⟩
    obtain rfl : r = true := hr.2 trivial
    have B11 := Lib.hid (B10.out.trans (b11.mono B10.out.size))
    clear hr b11 cS2
    go_wp2_with fail
    go_ret
    exact ⟨rfl, B11.out⟩
set_option maxRecDepth 100000 in
set_option maxHeartbeats 8000000 in
theorem order_bad (A A' : Option Addr) (n c m c' : Nat) (l : List Ac) (legs : List Lg) (at0 p : Int) (w : World) (h : AcsIn w A n c l) (hL : LgsIn w A' m c' legs) (hn : n ≤ 9223372036854775807) (hm : m ≤ 9223372036854775807) (hb : 100 < m ∨ m = 0 ∨ ¬ FitA l) :
    Calls Try.prog 8 #[.slice A n c, .slice A' m c', .int .i64 at0, .int .i32 p] w (fun e w' => e = .returned (.bool true) ∧ Below w.heap.size w w') := by
  have HH := Lib.hid h
  have HG := Lib.hid hL
  have HB := Lib.hid hb
  clear h hL hb
  go_enter Try.func8, Try.ntmps8
  go_wp2_with fail
  refine (awake_any w).mono ?_
  rintro e w1 ⟨rfl, b1⟩
  have B1 := Lib.hid b1
  have cF := few_any (c' := c') (HH.out.1.below b1) HG.out.len (HG.out.row.below b1) hn (by omega)
  clear b1
  go_wp2_with fail
  refine cF.mono ?_
  rintro e w2 ⟨r, rfl, hr, b2⟩
  have B2 := Lib.hid (B1.out.trans (b2.mono B1.out.size))
  clear b2 cF B1
  rcases r with _ | _
  · clear hr
    go_wp2_with fail
    go_ret
    exact ⟨rfl, B2.out⟩
  have HF := Lib.hid (hr rfl)
  clear hr
  by_cases h1 : 100 < m
  · have t1 : (100 : Int) < (m : Int) := by omega
    clear h1
    go_wp2_with fail
    go_ret
    exact ⟨rfl, B2.out⟩
  have t1 : ¬ (100 : Int) < (m : Int) := by omega
  by_cases h2 : m = 0
  · subst h2
    clear h1 t1
    go_wp2_with fail
    go_ret
    exact ⟨rfl, B2.out⟩
  have d0 : ((m : Int) == 0) = false := by simp; omega
  have cC := check_any (HH.out.1.below B2.out) (by have := HF.out.n; rw [HH.out.1.len] at this; omega) (fun x hx => by have := HF.out.l x hx; omega)
  rw [show checkA l = 110 by unfold checkA; rw [if_neg (HB.out.resolve_left h1 |>.resolve_left h2)]] at cC
  clear h1 h2
  go_wp2_with (go_at_call 12; refine cC.mono ?_; rintro e w3 ⟨rfl, b3⟩)
  go_ret
  exact ⟨rfl, B2.out.trans (b3.mono B2.out.size)⟩
theorem order_main (A A' : Option Addr) (n c m c' : Nat) (l : List Ac) (legs : List Lg) (at0 p : Int) (w : World) (h : AcsIn w A n c l) (hL : LgsIn w A' m c' legs) (hn : n ≤ 9223372036854775807) (hm : m ≤ 9223372036854775807)
    (a : -9223372036854775808 ≤ at0 ∧ at0 ≤ 9223372036854775807) (p0 : -2147483648 ≤ p ∧ p ≤ 2147483647) :
    Calls Try.prog 8 #[.slice A n c, .slice A' m c', .int .i64 at0, .int .i32 p] w (fun e w' => e = .returned (.bool true) ∧ Below w.heap.size w w') := by
  by_cases hb : 100 < m ∨ m = 0 ∨ ¬ FitA l
  · exact order_bad A A' n c m c' l legs at0 p w h hL hn hm hb
  · simp only [not_or, Nat.not_lt, Classical.not_not] at hb
    obtain ⟨h1, h2, h3⟩ := hb
    obtain ⟨k, hk, hq⟩ := place_at at0 m (by omega)
    obtain ⟨b, off, rfl, hbl, _⟩ := hL.row (fun e => h2 (by rw [← hL.len, e]; rfl))
    exact order_core A b off n c m c' k l legs at0 p w h hL hn h1 hk hbl a.1 a.2 p0.1 p0.2 h3 hq
end Go.Proofs.Ytobpbbldgbgcdaa.Acc
