/-
  awake: what the document's own examples are told.
-/
import Derived.Test.YtobpbbldgbgcdaaAPost
namespace Go.Proofs.Ytobpbbldgbgcdaa.Acc
open Go.RowKit Go.Sort

theorem post_unique {l : List Ac} {F : Own → List Int} {r r' : List Ac × Int} (h : PostS l F r) (h' : PostS l F r') : r = r' := by
  rcases h with ⟨a1, a2, a3, a4⟩ | ⟨a1, a2, o, a3, a4, a5⟩
  · rcases h' with ⟨b1, b2, b3, b4⟩ | ⟨b1, b2, o', b3, b4, b5⟩
    · exact Prod.ext (fit_ext a3 b3 (fun o => by rw [a4, b4])) (by rw [a1, b1])
    · exact absurd (b4.trans (a2 o' b3)) b2
  · rcases h' with ⟨b1, b2, b3, b4⟩ | ⟨b1, b2, o', b3, b4, b5⟩
    · exact absurd (a4.trans (b2 o a3)) a2
    · refine Prod.ext (by rw [a1, b1]) ?_
      by_cases e : o = o'
      · subst e; rw [a4, b4]
      · rcases k : ahead o o' with _ | _
        · have := a5 o' b3 (ahead_tri k e)
          rw [this] at b4
          exact absurd b4 b2
        · have := b5 o a3 k
          rw [this] at a4
          exact absurd a4 a2
def annB : Bs := [97, 110, 110]
def usdB : Bs := [85, 83, 68]
def bobB : Bs := [98, 111, 98]
def aw1 : List Lg := [⟨worldB, usdB, -500⟩, ⟨annB, usdB, 500⟩]
def aw2 : List Lg := [⟨annB, usdB, -300⟩, ⟨bobB, usdB, 300⟩]
def ac1 : List Ac := [⟨annB, usdB, 500, 0⟩, ⟨worldB, usdB, -500, 0⟩]
def ac2 : List Ac := [⟨annB, usdB, 500, 300⟩, ⟨worldB, usdB, -500, 0⟩]
theorem ac1_fit : FitA ac1 := (fit_iff _).2 ⟨by decide, by unfold RisesA ac1; simp only [List.pairwise_cons]; decide⟩
theorem ac2_fit : FitA ac2 := (fit_iff _).2 ⟨by decide, by unfold RisesA ac2; simp only [List.pairwise_cons]; decide⟩
theorem amts_two (a b : Lg) (o : Own) : amtsOf [a, b] o ≠ [] → o = a.own ∨ o = b.own := fun h => by
  unfold amtsOf at h
  rw [ne_eq, List.map_eq_nil_iff] at h
  obtain ⟨x, hx⟩ := List.exists_mem_of_ne_nil _ h
  obtain ⟨hx, e⟩ := List.mem_filter.1 hx
  have e : x.own = o := by simpa using e
  rcases List.mem_cons.1 hx with rfl | hx
  · exact .inl e.symm
  · rw [List.mem_singleton] at hx
    subst hx
    exact .inr e.symm
theorem post1 : PostS [] (amtsOf aw1) (ac1, 0) := by
  have two := fun o => amts_two ⟨worldB, usdB, -500⟩ ⟨annB, usdB, 500⟩ o
  refine .inl ⟨rfl, fun o ho => ?_, ac1_fit, fun o => ?_⟩
  · rcases two o ho with rfl | rfl <;> decide
  · by_cases ho : amtsOf aw1 o = []
    · unfold newA
      rw [if_pos ho]
      rw [find_no (l := []) (fun x h => by cases h)]
      refine find_no (fun x hx e => ?_)
      subst e
      rcases List.mem_cons.1 hx with rfl | hx
      · exact absurd ho (by decide)
      · rw [List.mem_singleton] at hx
        subst hx
        exact absurd ho (by decide)
    · rcases two o ho with rfl | rfl <;> decide
theorem post2 : PostS ac2 (amtsOf aw2) ([], 111) := by
  have two := fun o => amts_two ⟨annB, usdB, -300⟩ ⟨bobB, usdB, 300⟩ o
  refine .inr ⟨rfl, by decide, (annB, usdB), by decide, by decide, fun o' ho ha => ?_⟩
  rcases two o' ho with rfl | rfl
  · exact absurd ha (by decide)
  · exact absurd ha (by decide)
theorem hold1 : holdA ac1 annB usdB 300 = (ac2, 0) := by decide
theorem free1 : freeA ac2 annB usdB 301 = ([], 112) := by decide
/-- Legs that the call lays one behind the other. -/
theorem row_legs (w : World) (l : List Lg) : RowL (w.alloc (.cells (l.flatMap encL).toArray 39)) (some ⟨w.heap.size, 0, none⟩) l := fun _ => by
  refine ⟨w.heap.size, 0, rfl, by simp, fun j hj i v hv => ?_⟩
  have a := at_new w (l.flatMap encL).toArray 39
  refine a.2.2 _ v ?_
  have hi : i < 3 := by have := (List.getElem?_eq_some_iff.1 hv).1; simpa [encL] using this
  have key : ∀ (l : List Lg) (j : Nat) (hj : j < l.length), (l.flatMap encL)[j * 3 + i]? = (encL l[j])[i]? := by
    intro l
    induction l with
    | nil => intro j hj; simp at hj
    | cons x l ih =>
      intro j hj
      rw [List.flatMap_cons]
      rcases j with _ | j
      · rw [Nat.zero_mul, Nat.zero_add, List.getElem?_append_left (by simpa [encL] using hi)]
        rfl
      · rw [List.getElem?_append_right (by simp [encL]; omega)]
        have := ih j (by simpa using hj)
        rw [show (encL x).length = 3 from rfl, show (j + 1) * 3 + i - 3 = j * 3 + i by omega, this]
        rfl
  rw [Nat.zero_add, List.getElem?_toArray, key l j hj]
  exact hv
theorem own_at {w : World} {B g n cap : Nat} {l : List Ac} (h : OwnA w B (.slice (some ⟨g, 0, none⟩) n cap) l) {k : Nat} (hk : k < l.length) (i : Nat) (v : Value) (hv : (encA l[k])[i]? = some v) : w.cell? ⟨g, k * 4 + i, none⟩ = some v := by
  obtain ⟨A, c, e, ha, _⟩ := h.at
  obtain ⟨b, off, e', hbl, hc⟩ := ha.row (by intro e; rw [e] at hk; simp at hk)
  injection e with e4 e5 e9
  rw [← e4] at e'
  injection e' with e6
  injection e6 with e7 e8 _
  subst e7 e8
  have hr := hc k hk i v hv
  rwa [Nat.zero_add] at hr
theorem own_aat {w : World} {B g n cap : Nat} {l : List Ac} (h : OwnA w B (.slice (some ⟨g, 0, none⟩) n cap) l) : AAt w (some ⟨g, 0, none⟩) n cap l := by
  obtain ⟨A, c, e, ha, _⟩ := h.at
  injection e with e4 e5 e9
  subst e4 e5 e9
  exact ha
theorem field_held (a b : ByteArray) (m h : Int) (W : World) : (Instr.field 35 (.agg #[.string a, .string b, .int .i64 m, .int .i64 h]) 3).run Try.prog W = .ok (.int .i64 h) W := by kernel_rfl
set_option maxRecDepth 100000 in
set_option maxHeartbeats 8000000 in
theorem awake_any (w : World) : Calls Try.prog 10 #[] w (fun e w' => e = .returned (.bool true) ∧ Below w.heap.size w w') := by
  have b1 := below_box w (.cells (aw1.flatMap encL).toArray 39)
  have r1 := row_legs w aw1
  obtain ⟨W1, hW1⟩ : ∃ W1, w.alloc (.cells (aw1.flatMap encL).toArray 39) = W1 := ⟨_, rfl⟩
  have HW1 := Lib.hid (show w.alloc (.cells #[.string ⟨#[119, 111, 114, 108, 100]⟩, .string ⟨#[85, 83, 68]⟩, .int .i64 (-500), .string ⟨#[97, 110, 110]⟩, .string ⟨#[85, 83, 68]⟩, .int .i64 500] 39) = W1 from hW1)
  rw [hW1] at b1 r1
  have cP := post_any (c' := 2) (AAt.none W1) (Nat.zero_le _) (show FitA [] from fun j h => absurd h (Nat.not_lt_zero _)) (fun x h => by cases h) (m := 2) rfl (by omega) r1 (by decide) (by decide)
  have B1 := Lib.hid b1
  clear b1 r1 hW1
  go_enter Try.func10, Try.ntmps10
  go_wp2_with fail
  rw [HW1.out]
  refine cP.mono ?_
  rintro e w2 ⟨l', er, hr, v1, rfl, o1, b2⟩
  unfold PostR at hr
  rw [if_neg (by decide)] at hr
  obtain ⟨rfl, rfl⟩ := Prod.mk.inj (post_unique hr post1)
  have B2 := Lib.hid (B1.out.trans (b2.mono B1.out.size))
  obtain ⟨g1, k1, e1, _, _⟩ := o1.some (by simp [ac1])
  obtain rfl : v1 = .slice (some ⟨g1, 0, none⟩) 2 k1 := e1
  have cH := hold_any (own_aat o1) (by omega) annB usdB 300 (by decide) (by decide)
  rw [hold1] at cH
  have cH : Calls Try.prog 16 #[.slice (some ⟨g1, 0, none⟩) 2 k1, .string ⟨#[97, 110, 110]⟩, .string ⟨#[85, 83, 68]⟩, .int .i64 300] w2 (AcsE ac2 0 w2) := cH
  have O1 := Lib.hid o1
  clear hr b2 o1 cP HW1 B1
  go_wp2_with fail
  refine cH.mono ?_
  rintro e w3 ⟨v3, rfl, o3, b3⟩
  have B3 := Lib.hid (B2.out.trans (b3.mono B2.out.size))
  obtain ⟨g3, k3, e3, _, _⟩ := o3.some (by simp [ac2])
  obtain rfl : v3 = .slice (some ⟨g3, 0, none⟩) 2 k3 := e3
  have O13 := Lib.hid (O1.out.below b3)
  have bq := below_box w3 (.cells (aw2.flatMap encL).toArray 39)
  have rq := row_legs w3 aw2
  obtain ⟨W4, hW4⟩ : ∃ W4, w3.alloc (.cells (aw2.flatMap encL).toArray 39) = W4 := ⟨_, rfl⟩
  have HW4 := Lib.hid (show w3.alloc (.cells #[.string ⟨#[97, 110, 110]⟩, .string ⟨#[85, 83, 68]⟩, .int .i64 (-300), .string ⟨#[98, 111, 98]⟩, .string ⟨#[85, 83, 68]⟩, .int .i64 300] 39) = W4 from hW4)
  rw [hW4] at bq rq
  have B4 := Lib.hid (B3.out.trans (bq.mono B3.out.size))
  have o4 := o3.below bq
  have O14 := Lib.hid (O13.out.below bq)
  have O4 := Lib.hid o4
  have cP := post_any (c' := 2) (own_aat o4) (by omega) ac2_fit (by decide) (m := 2) rfl (by omega) rq (by decide) (by decide)
  clear b3 o3 bq rq hW4 o4 cH O1 O13 B2
  go_wp2_with fail
  rw [HW4.out]
  refine cP.mono ?_
  rintro e w5 ⟨l', er, hr, v5, rfl, _, b5⟩
  unfold PostR at hr
  rw [if_neg (by decide)] at hr
  obtain ⟨rfl, rfl⟩ := Prod.mk.inj (post_unique hr post2)
  have B5 := Lib.hid (B4.out.trans (b5.mono B4.out.size))
  have O5 := Lib.hid (O4.out.below b5)
  have O15 := Lib.hid (O14.out.below b5)
  have cF := free_any (own_aat O5.out) (by omega) annB usdB 301 (by decide) (by decide)
  rw [free1] at cF
  have cF : Calls Try.prog 18 #[.slice (some ⟨g3, 0, none⟩) 2 k3, .string ⟨#[97, 110, 110]⟩, .string ⟨#[85, 83, 68]⟩, .int .i64 301] w5 (AcsE [] 112 w5) := cF
  clear hr b5 cP HW4 B4 B3 O4 O14
  go_wp2_with fail
  refine cF.mono ?_
  rintro e w6 ⟨v6, rfl, _, b6⟩
  have B6 := Lib.hid (B5.out.trans (b6.mono B5.out.size))
  have O6 := Lib.hid (O5.out.below b6)
  have O16 := Lib.hid (O15.out.below b6)
  have cT := total_any (own_aat O6.out) (by omega) usdB (by decide)
  rw [show Coin.val (balsA ac2 usdB).sum = 0 by decide, show Coin.err (balsA ac2 usdB).sum = 0 by decide] at cT
  have cT : Calls Try.prog 20 #[.slice (some ⟨g3, 0, none⟩) 2 k3, .string ⟨#[85, 83, 68]⟩] w6 _ := cT
  clear b6 cF O5 O15 B5
  go_wp2_with fail
  refine cT.mono ?_
  rintro e w7 ⟨rfl, b7⟩
  have B7 := Lib.hid (B6.out.trans (b7.mono B6.out.size))
  have o7 := O6.out.below b7
  have o17 := O16.out.below b7
  have c10 : w7.cell? ⟨g1, 2, none⟩ = some (.int .i64 500) := own_at o17 (k := 0) (by decide) 2 _ rfl
  have c11 : w7.cell? ⟨g1, 6, none⟩ = some (.int .i64 (-500)) := own_at o17 (k := 1) (by decide) 2 _ rfl
  have c30 : w7.cell? ⟨g3, 3, none⟩ = some (.int .i64 300) := own_at o7 (k := 0) (by decide) 3 _ rfl
  have O7 := Lib.hid o7
  have hf := field_held ⟨#[97, 110, 110]⟩ ⟨#[85, 83, 68]⟩ 500 300
  have cC := check_any (own_aat o7) (by omega) (by decide)
  rw [check_yes (show FitTo ac2 ac2.length from ac2_fit)] at cC
  have CF := Lib.hid (show ∀ W, Below w7.heap.size w7 W → Calls Try.prog 23 #[.slice (some ⟨g3, 0, none⟩) 2 k3, .string ⟨#[97, 110, 110]⟩, .string ⟨#[85, 83, 68]⟩] W (fun e w' => e = .returned (.agg #[.string ⟨#[97, 110, 110]⟩, .string ⟨#[85, 83, 68]⟩, .int .i64 500, .int .i64 300]) ∧ Below W.heap.size W w') from fun W hb => find_any (own_aat (o7.below hb)) (by omega) annB usdB)
  clear b7 cT O6 O16 o7 o17 B6
  go_wp2_with (first
    | (go_at_call 12; refine cC.mono ?_; rintro e w8 ⟨rfl, b8⟩; have B8 := Lib.hid b8; have cFi := CF.out w8 b8; clear b8 cC CF)
    | (go_at_call 23; refine cFi.mono ?_; rintro e w9 ⟨rfl, b9⟩))
  go_ret
  exact ⟨rfl, (B7.out.trans (B8.out.mono B7.out.size)).trans (b9.mono (B7.out.trans (B8.out.mono B7.out.size)).size)⟩
end Go.Proofs.Ytobpbbldgbgcdaa.Acc
