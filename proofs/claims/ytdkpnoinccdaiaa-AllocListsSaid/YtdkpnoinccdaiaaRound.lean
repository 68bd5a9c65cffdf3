/-
  A region that draws its order and whose last operation is a store, in the round of a loop over a function, at the fence that asks nothing: by what is shown of it outside of a round. Over any program.
-/
import Derived.Test.YtdkpnoinccdaiaaLast
import Derived.OrdersIn
import Derived.RangeFuncCalls
namespace Go.Proofs.Ytdkpnoinccdaiaa.Gen
open Go.RowKit
variable {P : Program}

theorem op_in {l n : Nat} {o : Oper} {a : Act} {w : World} {K : Act → World → Prop} {Q : Exit → Act → World → Prop} (hnd : ∀ c, o.op ≠ .defer c) (h : o.wp P a w K Q) : o.wpIn (Fence.wide.inRound l) n P a w K Q := by
  refine ⟨fun _ _ => trivial, ?_⟩
  rw [Oper.semAt_eq _ _ _ hnd]
  unfold Oper.wp at h
  generalize (execOp a.eval o).run P w = r at h ⊢
  cases r with
  | ok x w' =>
    cases x
    case value v => exact h
    case skip => exact h
    case defer d => exact h
    case enter f args => exact ⟨fun h => by simp [Fence.wide] at h, CallsIn.inRound l (callsIn_wide.2 h)⟩
    case row row args => exact ⟨fun h => by simp [Fence.wide] at h, fun c cs _ => by
      obtain ⟨v, w2, r, s⟩ := h c cs
      exact ⟨v, w2, r, stepsIn_wide.2 s⟩⟩
    all_goals exact h.elim
  | halt x w' => cases x <;> first | exact h | exact h.elim
theorem any_in {l n : Nat} {md : Region.Mode} {ops : Array Oper} {Q : Exit → Act → World → Prop} (hnd : ∀ (i : Nat) (o : Oper), ops[i]? = some o → ∀ c, o.op ≠ .defer c) (hL : ¬ LetsOut Q) :
    ∀ (fuel : Nat) (listed : Array Bool) (a : Act) (w : World), wpAny P md ops Q fuel listed a w → wpAnyIn (Fence.wide.inRound l) n P md ops Q fuel listed a w := by
  intro fuel
  induction fuel with
  | zero => intro listed a w h; exact h
  | succ fuel ih =>
    intro listed a w h
    refine ⟨h.1, fun i hi => ?_⟩
    have h2 := h.2 i hi
    unfold wpOp at h2
    unfold wpOpIn
    cases ho : ops[i]? with
    | none => rw [ho] at h2; exact ih _ _ _ h2
    | some o =>
      rw [ho] at h2
      simp only at h2 ⊢
      split at h2
      · rename_i hw
        rw [if_pos hw]
        rcases h2 with h2 | ⟨_, h2⟩
        · exact op_in (hnd i o ho) (Oper.wp_mono (fun a w h => ih _ _ _ h) h2)
        · exact absurd h2 hL
      · rename_i hw
        rw [if_neg hw]
        exact ⟨fun _ _ => trivial, ih _ _ _ h2⟩
def noDefer (ops : Array Oper) : Bool := ops.all fun o => match o.op with | .defer .. => false | _ => true
theorem noDefer_spec {ops : Array Oper} (h : noDefer ops = true) : ∀ (i : Nat) (o : Oper), ops[i]? = some o → ∀ c, o.op ≠ .defer c := fun i o ho c e => by
  have h1 := Array.all_eq_true'.1 h o (Array.mem_of_getElem? ho)
  rw [e] at h1
  cases h1
/-- THE REGION: its last operation behind all others. -/
theorem region_last_in {ln rn : Nat} {id : Nat} {Q : Exit → Act → World → Prop} {S : World → Prop} {a : Act} {w : World} {l : List Oper} {o : Oper} (n : Nat) (hm : P.follows .mixedOrders = true) (hL : ¬ LetsOut Q) (hnd : noDefer l.toArray = true) (ho : l.toArray[n]? = some o) (hn : l.length = n + 1) (hd : o.dst = none) (hg : o.guard = none)
    (hs : Region.sinkB .any l.toArray n = true) (hb : backB .any l.toArray = true) (h : ∀ w1, w1 = w.drew → wpAnyH P .any (l.set n (nop o)).toArray (LastQ P o Q) S (n + 1) (Array.replicate (n + 1) false) a w1) : (Code.region id l.toArray true).wpIn (Fence.wide.inRound ln) rn P Q a w := by
  have hsz : l.toArray.size = n + 1 := by simpa using hn
  refine wpIn_region_any hm ?_
  refine any_in (noDefer_spec hnd) hL _ _ _ _ ?_
  have hl : lastOps l.toArray n o = (l.set n (nop o)).toArray := by simp [lastOps]
  refine wpAny_last (S := S) (n := n) (o := o) hsz ho hd hg hs hb _ _ _ _ inv_none ?_ (by rw [hsz]; exact unl_le _ _) ?_
  · simp [Array.getD_eq_getD_getElem?, hsz]
  · rw [hl, hsz]; exact h _ rfl
end Go.Proofs.Ytdkpnoinccdaiaa.Gen
