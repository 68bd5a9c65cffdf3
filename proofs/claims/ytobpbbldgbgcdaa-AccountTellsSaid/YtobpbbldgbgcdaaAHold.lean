/-
  Contracts of holdable, with, Hold, Free.
-/
import Derived.Test.YtobpbbldgbgcdaaACheck
namespace Go.Proofs.Ytobpbbldgbgcdaa.Acc
open Go.RowKit Go.Sort

/-- So much may be held of someone's asset. -/
def holdB (who asset : Bs) (n : Int) : Bool := decide (1 ≤ n) && !(who == worldB) && namedB who asset
set_option maxRecDepth 100000 in
theorem holdable_any (who asset : Bs) (n : Int) (w : World) (h1 : who.length ≤ 200000000000000) (h2 : asset.length ≤ 200000000000000) : Calls Try.prog 43 #[strV who, strV asset, .int .i64 n] w (fun e w' => e = .returned (.bool (holdB who asset n)) ∧ w = w') := by
  have cN := named_any who asset w h1 h2
  have g1 : ((strB who).toList == [119, 111, 114, 108, 100]) = (who == worldB) := by rw [strB_list]; rfl
  have hs : holdB who asset n = (decide (1 ≤ n) && !(who == worldB) && namedB who asset) := rfl
  generalize holdB who asset n = r at *
  generalize namedB who asset = rn at *
  unfold strV at *
  have HS := Lib.hid hs
  clear hs h1 h2
  rcases e : (who == worldB) with _ | _
  all_goals
    rw [e] at g1 HS
    generalize strB who = X at *
    generalize strB asset = Y at *
    clear e
    by_cases hn : 1 ≤ n
  all_goals
    have HN := Lib.hid hn
    go_enter Try.func43, Try.ntmps43
    go_wp2_with (go_at_call 31; refine cN.mono ?_; rintro e w' ⟨rfl, rfl⟩)
    go_ret
    exact ⟨by first | (rw [HS.out, show decide (1 ≤ n) = true from decide_eq_true (by have := HN.out; omega)]; simp; done) | (rw [HS.out, show decide (1 ≤ n) = false from decide_eq_false (by have := HN.out; omega)]; simp; done), rfl⟩
/-- One account of a row of the call's own is written anew. -/
theorem flat_set : ∀ (l : List Ac) (k : Nat) (x : Ac), k < l.length → flatA (l.set k x) = ((((flatA l).set (k * 4) (strV x.who)).set (k * 4 + 1) (strV x.asset)).set (k * 4 + 2) (.int .i64 x.bal)).set (k * 4 + 3) (.int .i64 x.held)
  | [], _, _, h => by simp at h
  | y :: l, 0, x, _ => by simp [flatA, encA]
  | y :: l, k + 1, x, h => by
    have ih := flat_set l k x (by simpa using h)
    have e1 : (k + 1) * 4 = k * 4 + 1 + 1 + 1 + 1 := by omega
    simp only [flatA, List.set_cons_succ, List.flatMap_cons] at ih ⊢
    rw [ih, e1]
    simp [encA]
theorem OwnA.set {w : World} {B : Nat} {g n cap : Nat} {l : List Ac} (h : OwnA w B (.slice (some ⟨g, 0, none⟩) n cap) l) (k : Nat) (hk : k < l.length) (x : Ac) : OwnA (w.setCells g (k * 4) (encA x)) B (.slice (some ⟨g, 0, none⟩) n cap) (l.set k x) := by
  have hn := h.at
  obtain ⟨A, c, e, _, _⟩ := hn
  injection e with e1 e2 e3
  subst e1 e2 e3
  unfold OwnA at h ⊢
  rw [flat_set l k x hk, List.length_set]
  have s1 := (World.ownsRow.stored h (k * 4) (strV x.who)).1
  have s2 := (World.ownsRow.stored s1 (k * 4 + 1) (strV x.asset)).1
  have s3 := (World.ownsRow.stored s2 (k * 4 + 2) (.int .i64 x.bal)).1
  exact (World.ownsRow.stored s3 (k * 4 + 3) (.int .i64 x.held)).1
theorem OwnA.there {w : World} {B : Nat} {g n cap : Nat} {l : List Ac} (h : OwnA w B (.slice (some ⟨g, 0, none⟩) n cap) l) (k : Nat) (hk : k < l.length) (x : Ac) : (Instr.storeAt 35 (.pointer (some ⟨g, k * 4, none⟩)) (.agg (encA x).toArray)).run Try.prog w = .ok () (w.setCells g (k * 4) (encA x)) := by
  obtain ⟨A, c, e, ha, _⟩ := h.at
  injection e with e1 e2 e3
  subst e1 e2 e3
  obtain ⟨b, off, e, hb, hc⟩ := ha.row (by intro e; rw [e] at hk; simp at hk)
  simp only [Option.some.injEq, Addr.mk.injEq, and_true] at e
  obtain ⟨rfl, rfl⟩ := e
  have hr := hc k hk
  rw [Nat.zero_add] at hr
  refine run_storeAt_mid (P := Try.prog) w g (k * 4) 35 (encA x).toArray (fun j hj => ?_) (by simpa [encA] using size_ac) (by simp [encA, Value.oneCell'])
  have hj' : j < (encA l[k]).length := by simpa [encA] using hj
  exact ⟨by rw [hr j _ (List.getElem?_eq_getElem hj')]; rfl, World.ownsRow.frozenAt h _⟩
/-- All accounts, one in the place of its owner's. -/
def withA (l : List Ac) (x : Ac) : List Ac := match l.findIdx? (fun y => decide (y.own = x.own)) with
  | some k => l.set k x
  | none => l
end Go.Proofs.Ytobpbbldgbgcdaa.Acc
