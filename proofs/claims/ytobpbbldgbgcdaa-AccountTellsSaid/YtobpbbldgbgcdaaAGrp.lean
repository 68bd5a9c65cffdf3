/-
  A map whose elements are lists of amounts that the call has gathered: 'm[k] = append(m[k], x)'; over any type of keys.
-/
import Derived.Test.YtobpbbldgbgcdaaAAppend
import Derived.Maps.RangeWalk
import Derived.Maps.OwnSet
import Derived.WideKeyEntry
namespace Go.Proofs.Ytobpbbldgbgcdaa.Coin
open Go.RowKit Go.Maps Go.WideElems Go.ChangeMaps Go.MapKept

/-- An element as it stands. -/
def asIs (v : Value) : Option (DataW Value × List MemPlace) := some (.held v, [])
/-- What is known of a map's keys. -/
structure KeyK (t k : TypeId) {κ : Type} (key : κ → Value) (lit : κ → Lit) (ok : κ → Prop) : Prop where
  law : WideMaps.KeyLaw Try.prog k
  ty : Try.prog.underlying t = some (.map k 40)
  of : ∀ o, ok o → keyOf Try.prog k (key o) = some (lit o)
  inj : ∀ o o', ok o → ok o' → key o = key o' → o = o'
section
variable {t k : TypeId} {κ : Type} {key : κ → Value} {lit : κ → Lit} {ok : κ → Prop}
theorem KeyK.lit_ne (K : KeyK t k key lit ok) {o o' : κ} (h : ok o) (h' : ok o') (hne : o ≠ o') : lit o ≠ lit o' := fun e => hne (K.inj o o' h h' (K.law.inj (K.of o h) (by rw [e]; exact K.of o' h')))
theorem KeyK.isKey (K : KeyK t k key lit ok) {o : κ} (h : ok o) : WideAt.IsKeyLit (lit o) := (Keyed.of_law K.law).key (K.of o h)
open Classical in
/-- One more list. -/
noncomputable def updF (F : κ → List Int) (o : κ) (zs : List Int) : κ → List Int := fun x => if x = o then zs else F x
theorem updF_same (F : κ → List Int) (o : κ) (zs : List Int) : updF F o zs o = zs := by simp [updF]
theorem updF_other (F : κ → List Int) {o x : κ} (zs : List Int) (h : x ≠ o) : updF F o zs x = F x := by simp [updF, h]
/-- Block b is a map of at most n keys; each that has anything (F) has a row of the call's own, no two the same one. -/
structure Grp (k : TypeId) (lit : κ → Lit) (ok : κ → Prop) (w : World) (base b n : Nat) (F : κ → List Int) (D : DataW Value) : Prop where
  own : w.ownsMap Try.prog k asIs b n D
  lo : b < base
  none : ∀ o, ok o → F o = [] → Maps.has D (lit o) = false
  some : ∀ o, ok o → F o ≠ [] → ∃ v, (∀ z, D.atKey (lit o) z = .held v) ∧ Own w base v (F o)
  only : ∀ kl, Maps.has D kl = true → ∃ o, ok o ∧ kl = lit o ∧ F o ≠ []
  apart : ∀ o o' v v', ok o → ok o' → o ≠ o' → (∀ z, D.atKey (lit o) z = .held v) → (∀ z, D.atKey (lit o') z = .held v') → v.ownBlock ≠ v'.ownBlock
theorem held_inj {a b : Value} (h : (DataW.held a : DataW Value) = .held b) : a = b := by injection h
theorem ownsMap_of_block {w w' : World} {R : Value → Option (DataW Value × List MemPlace)} {b n : Nat} {D : DataW Value} (h : w.ownsMap Try.prog k R b n D) (e : w'.heap[b]? = w.heap[b]?) : w'.ownsMap Try.prog k R b n D := by
  obtain ⟨es, c, hb, r⟩ := h
  exact ⟨es, c, e.trans hb, r⟩
theorem Grp.made (w : World) : Grp k lit ok (w.alloc (.map #[] 0)) (w.heap.size + 1) w.heap.size 0 (fun _ => []) (.map []) where
  own := World.ownsMap_made w _ _ _
  lo := Nat.lt_succ_self _
  none _ _ _ := rfl
  some _ _ h := absurd rfl h
  only _ h := by cases h
  apart _ _ _ _ _ _ _ h _ := absurd (h .nil) (by simp [DataW.atKey])
theorem Grp.below {w w' : World} {base b n : Nat} {F : κ → List Int} {D : DataW Value} (h : Grp k lit ok w base b n F D) (hb : Below w.heap.size w w') : Grp k lit ok w' base b n F D :=
  ⟨ownsMap_of_block h.own (hb.block b h.own.lt), h.lo, h.none, fun o ho hF => by
    obtain ⟨v, hv, hO⟩ := h.some o ho hF
    exact ⟨v, hv, World.ownsRow.kept hO (row := Option.none) ⟨hb.os, hb.tape, hb.output, hb.size, fun k hk _ => hb.block k hk⟩ (.inr (by
      obtain ⟨A, c, e, _, hr⟩ := Own.row hO
      obtain ⟨g, o, e2, _⟩ := hr hF
      rw [e, e2]; simp [Value.ownBlock]))⟩, h.only, h.apart⟩
theorem Grp.ext {w : World} {base b n : Nat} {F G : κ → List Int} {D : DataW Value} (h : Grp k lit ok w base b n F D) (e : ∀ o, ok o → F o = G o) : Grp k lit ok w base b n G D :=
  ⟨h.own, h.lo, fun o ho hG => h.none o ho (by rw [e o ho]; exact hG), fun o ho hG => by
    obtain ⟨v, hv, hO⟩ := h.some o ho (by rw [e o ho]; exact hG)
    exact ⟨v, hv, by rw [← e o ho]; exact hO⟩, fun kl hk => by
    obtain ⟨o, ho, e1, hF⟩ := h.only kl hk
    exact ⟨o, ho, e1, by rw [← e o ho]; exact hF⟩, h.apart⟩
theorem own_block {w : World} {base : Nat} {v : Value} {zs : List Int} (h : Own w base v zs) (hne : zs ≠ []) : ∃ g, v.ownBlock = Option.some g ∧ base ≤ g ∧ g < w.heap.size := by
  obtain ⟨A, c, e, _, hr⟩ := Own.row h
  obtain ⟨g, o, e2, _⟩ := hr hne
  have hg : v.ownBlock = Option.some g := by rw [e, e2]; rfl
  exact ⟨g, hg, World.ownsRow.lt h g hg⟩
/-- What lies at a key. -/
theorem Grp.value (K : KeyK t k key lit ok) {w : World} {base b n : Nat} {F : κ → List Int} {D : DataW Value} (h : Grp k lit ok w base b n F D) {o : κ} (ho : ok o) {v : Value} (hv : ∀ z, D.atKey (lit o) z = .held v) : F o ≠ [] ∧ Own w base v (F o) := by
  have hh := has_true_of_atKey hv
  obtain ⟨o', ho', e, hF⟩ := h.only _ hh
  obtain rfl : o = o' := by
    by_cases hne : o = o'
    · exact hne
    · exact absurd e (K.lit_ne ho ho' hne)
  obtain ⟨v', hv', hO⟩ := h.some o ho hF
  obtain rfl := held_inj ((hv .nil).symm.trans (hv' .nil))
  exact ⟨hF, hO⟩
theorem zero_ints (u : World) : (zeroValue 40).run Try.prog u = .ok (.slice Option.none 0 0) u := by kernel_rfl
/-- 'm[k]' and 'v, ok := m[k]'. -/
theorem Grp.look (K : KeyK t k key lit ok) {w : World} {base b n : Nat} {F : κ → List Int} {D : DataW Value} (h : Grp k lit ok w base b n F D) {o : κ} (ho : ok o) :
    ∃ v, Own w base v (F o) ∧ (Instr.lookup t (.map (Option.some b)) (key o) true).run Try.prog w = .ok (.tuple #[v, .bool (decide (F o ≠ []))]) w := by
  obtain ⟨es, clock, hb, Fi, hs, hD⟩ := h.own
  rcases Maps.fit_look true (Keyed.of_law K.law) K.ty (zero_ints w) hb Fi (K.of o ho) with ⟨hrun, _, hat⟩ | ⟨e0, y, _, _, hrun, hR, hat, _⟩
  · rw [← hD] at hat
    have hF : F o = [] := by
      by_cases hF : F o = []
      · exact hF
      · obtain ⟨v, hv, _⟩ := h.some o ho hF
        have := (hat .nil).symm.trans (hv .nil)
        cases this
    exact ⟨.slice Option.none 0 0, by rw [hF]; exact World.ownsRow_nil _ _ _ _, by rw [hrun, hF]; simp⟩
  · rw [← hD] at hat
    simp only [asIs, Option.some.injEq] at hR
    subst hR
    obtain ⟨hF, hO⟩ := h.value K ho hat
    exact ⟨e0.val, hO, by rw [hrun]; simp [hF]⟩
/-- 'm[k] = append(m[k], x)': the three operations of one statement. -/
theorem Grp.add (K : KeyK t k key lit ok) {w : World} {base b n : Nat} {F : κ → List Int} {D : DataW Value} (h : Grp k lit ok w base b n F D) {o : κ} (ho : ok o) (x : Int) (hl : (F o).length ≤ 1000000) (hn : n < 1000000) (hB : base ≤ w.heap.size) :
    ∃ v0 st W1 v' W2 W3 D', (Instr.mapEntry t (.map (Option.some b)) (key o)).run Try.prog (w.alloc (.cells #[.int .i64 x] 2)) = .ok (.tuple #[v0, .int .i64 st]) W1 ∧
      (Builtin.append_ #[40, 40] 40 #[v0, .slice (Option.some ⟨w.heap.size, 0, Option.none⟩) 1 1]).run Try.prog W1 = .ok v' W2 ∧
      (Instr.entryStore t (.map (Option.some b)) (.int .i64 st) v').run Try.prog W2 = .ok () W3 ∧ Grp k lit ok W3 base b (n + 1) (updF F o (F o ++ [x])) D' ∧ Below b w W3 := by
  obtain ⟨W0, hW0⟩ : ∃ W0, w.alloc (.cells #[.int .i64 x] 2) = W0 := ⟨_, rfl⟩
  have g0 : w.grownBy W0 Option.none := hW0 ▸ World.grownBy_alloc w _ _
  have hbs := h.own.lt
  have h0 : W0.ownsMap Try.prog k asIs b n D := ownsMap_of_block h.own (g0.block b hbs (by simp))
  obtain ⟨es, clock, hb, Fi, hs, hD⟩ := h0
  obtain ⟨v0, st, es1, clock1, r1, hv, hst⟩ := entry_then_store K.law K.ty zero_ints hb Fi (K.of o ho)
  obtain ⟨W1, hW1⟩ : ∃ W1, setBlock W0 b (.map es1 clock1) = W1 := ⟨_, rfl⟩
  have hb1 : W1.heap[b]? = Option.some (.map es1 clock1) := hW1 ▸ heap_setBlock_same hb _
  have g1 : W0.grownBy W1 (Option.some b) := hW1 ▸ ⟨rfl, rfl, rfl, by simp [setBlock], fun i _ hi => heap_setBlock_other hb _ (fun e => hi (by rw [e]))⟩
  -- what lay at the key
  have hv0 : Own w base v0 (F o) ∧ (F o ≠ [] → ∀ z, D.atKey (lit o) z = .held v0) := by
    rcases Maps.fit_look false (Keyed.of_law K.law) K.ty (zero_ints W0) hb Fi (K.of o ho) with ⟨_, hno, hat⟩ | ⟨e1, y, hm1, hk1, _, hR, hat, _⟩
    · rcases hv with ⟨e0, he0, hk0, _⟩ | ⟨_, rfl⟩
      · exact absurd hk0 (hno e0 he0)
      · rw [← hD] at hat
        have hF : F o = [] := by
          by_cases hF : F o = []
          · exact hF
          · obtain ⟨v, hv, _⟩ := h.some o ho hF
            have := (hat .nil).symm.trans (hv .nil)
            cases this
        exact ⟨by rw [hF]; exact World.ownsRow_nil _ _ _ _, fun hne => absurd hF hne⟩
    · rcases hv with ⟨e0, he0, hk0, rfl⟩ | ⟨hno, _⟩
      · obtain rfl := entry_eq_of_key ((stamped_iff es clock).1 Fi.stamped).2.2 he0 hm1 (hk0.trans hk1.symm)
        rw [← hD] at hat
        simp only [asIs, Option.some.injEq] at hR
        subst hR
        exact ⟨(h.value K ho hat).2, fun _ => hat⟩
      · exact absurd hk1 (hno e1 hm1)
  obtain ⟨hO0, hat0⟩ := hv0
  have hne0 : v0.ownBlock ≠ Option.some b := fun e => by
    have := (World.ownsRow.lt hO0 b e).1
    have := h.lo
    omega
  have off0 : ∀ {v : Value} {zs : List Int}, Own w base v zs → v.ownBlock ≠ Option.some b := fun {v zs} hO e => by
    have := (World.ownsRow.lt hO b e).1
    have := h.lo
    omega
  have up01 : ∀ {v : Value} {zs : List Int}, Own w base v zs → Own W1 base v zs := fun {v zs} hO => by
    have hO' : Own W0 base v zs := hW0 ▸ World.ownsRow.alloc hO _
    exact World.ownsRow.kept hO' g1 (.inr (off0 hO))
  have hbe : ¬ w.heap.size = b := by omega
  have hrow : Row W1 (Option.some ⟨w.heap.size, 0, Option.none⟩) [x] := fun _ => ⟨w.heap.size, 0, rfl, by
    have := g1.size
    rw [← hW0] at this
    simp at this; omega, fun j hj => by
    obtain rfl : j = 0 := by simpa using hj
    refine g1.cell (a := ⟨w.heap.size, 0 + 0, Option.none⟩) ?_ (by simpa using hbe)
    rw [← hW0]
    simp [go_sem]⟩
  obtain ⟨v', W2, r2, hO2, g2, hloc⟩ := append_row W1 base v0 (F o) (up01 hO0) (Option.some ⟨w.heap.size, 0, Option.none⟩) 1 1 [x] rfl (fun e => by cases e) hrow (by omega) (by have := g0.size; have := g1.size; omega)
  have hb2 : W2.heap[b]? = Option.some (.map es1 clock1) := by
    rw [← hb1]
    exact g2.block b (by have := g0.size; have := g1.size; omega) (fun e => hne0 e.symm)
  obtain ⟨es', clock', r3, ru⟩ := hst W2 v' hb2
  obtain ⟨W3, hW3⟩ : ∃ W3, setBlock W2 b (.map es' clock') = W3 := ⟨_, rfl⟩
  have hb3 : W3.heap[b]? = Option.some (.map es' clock') := hW3 ▸ heap_setBlock_same hb2 _
  have g3 : W2.grownBy W3 (Option.some b) := hW3 ▸ ⟨rfl, rfl, rfl, by simp [setBlock], fun i _ hi => heap_setBlock_other hb2 _ (fun e => hi (by rw [e]))⟩
  obtain ⟨Wu, ru', hou, _⟩ := World.ownsMap.update (d := .held v') (ps := []) (val := v') ⟨es, clock, hb, Fi, hs, hD⟩ (Keyed.of_law K.law) K.ty (by simp only [maxLen]; omega) (K.of o ho) rfl
  rw [ru] at ru'
  obtain rfl : setBlock W0 b (.map es' clock') = Wu := by injection ru'
  have own3 : W3.ownsMap Try.prog k asIs b (n + 1) (D.put (lit o) (.held v')) := ownsMap_of_block hou (hb3.trans (heap_setBlock_same hb _).symm)
  have hDm : IsMap D := ⟨_, hD⟩
  have hO3 : Own W3 base v' (F o ++ [x]) := World.ownsRow.kept hO2 g3 (.inr (fun e => by
    have := (World.ownsRow.lt hO2 b e).1
    have := h.lo
    omega))
  have old : ∀ {o' : κ} {v : Value}, ok o' → o' ≠ o → (∀ z, D.atKey (lit o') z = .held v) → Own W3 base v (F o') := fun {o' v} ho' hne hat => by
    obtain ⟨hF', hO'⟩ := h.value K ho' hat
    have h1 := up01 hO'
    obtain ⟨g, hg, _⟩ := own_block hO' hF'
    have hn2 : v.ownBlock ≠ v0.ownBlock := by
      by_cases hF : F o = []
      · obtain ⟨hl0, h0⟩ := hO0
        rw [hF] at h0
        rcases h0 with ⟨rfl, _⟩ | ⟨g', cap, cur, rfl, _, hh, _⟩
        · rw [hg]; simp [Value.ownBlock]
        · rcases hv with ⟨e0, he0, hk0, hve⟩ | ⟨_, hve⟩
          · exfalso
            rcases Maps.fit_look false (Keyed.of_law K.law) K.ty (zero_ints W0) hb Fi (K.of o ho) with ⟨_, hno, _⟩ | ⟨e1, y, _, _, _, hR, hat, _⟩
            · exact hno e0 he0 hk0
            · rw [← hD] at hat
              simp only [asIs, Option.some.injEq] at hR
              subst hR
              exact (h.value K ho hat).1 hF
          · cases hve
      · exact h.apart o' o v v0 ho' ho hne hat (hat0 hF)
    have h2 := World.ownsRow.kept h1 g2 (.inr hn2)
    exact World.ownsRow.kept h2 g3 (.inr (off0 hO'))
  rw [hW1] at r1
  rw [hW3] at r3
  rw [hW0]
  refine ⟨v0, st, W1, v', W2, W3, D.put (lit o) (.held v'), r1, r2, r3, ⟨own3, h.lo, ?_, ?_, ?_, ?_⟩, ?_⟩
  · intro o' ho' hF'
    have hne : o' ≠ o := fun e => by subst e; rw [updF_same] at hF'; simp at hF'
    rw [updF_other F _ hne] at hF'
    rw [has_put_other (K.lit_ne ho' ho hne)]
    exact h.none o' ho' hF'
  · intro o' ho' hF'
    by_cases hne : o' = o
    · subst hne
      exact ⟨v', fun z => atKey_put_same hDm (K.isKey ho) _ z, by rw [updF_same]; exact hO3⟩
    · rw [updF_other F _ hne] at hF' ⊢
      obtain ⟨v, hv, _⟩ := h.some o' ho' hF'
      exact ⟨v, fun z => by rw [atKey_put_other (K.lit_ne ho' ho hne)]; exact hv z, old ho' hne hv⟩
  · intro kl hkl
    by_cases e : kl = lit o
    · exact ⟨o, ho, e, by rw [updF_same]; simp⟩
    · rw [has_put_other e] at hkl
      obtain ⟨o', ho', e', hF'⟩ := h.only kl hkl
      exact ⟨o', ho', e', by rw [updF_other F _ (fun e2 => e (by rw [e', e2]))]; exact hF'⟩
  · have key1 : ∀ o1 v1, ok o1 → o1 ≠ o → (∀ z, D.atKey (lit o1) z = .held v1) → v1.ownBlock ≠ v'.ownBlock := fun o1 v1 ho1 hne hat => by
      obtain ⟨hF1, hO1⟩ := h.value K ho1 hat
      obtain ⟨g, hg, hg1, hg2⟩ := own_block hO1 hF1
      rcases hloc with e | e
      · rw [e]
        by_cases hF : F o = []
        · intro e2
          have := old ho1 hne hat
          obtain ⟨hl0, h0⟩ := hO0
          rw [hF] at h0
          rcases h0 with ⟨rfl, _⟩ | ⟨g', cap, cur, rfl, _, hh, _⟩
          · rw [hg] at e2; simp [Value.ownBlock] at e2
          · rcases hv with ⟨e0, he0, hk0, hve⟩ | ⟨_, hve⟩
            · rcases Maps.fit_look false (Keyed.of_law K.law) K.ty (zero_ints W0) hb Fi (K.of o ho) with ⟨_, hno, _⟩ | ⟨e1, y, _, _, _, hR, hat', _⟩
              · exact hno e0 he0 hk0
              · rw [← hD] at hat'
                simp only [asIs, Option.some.injEq] at hR
                subst hR
                exact (h.value K ho hat').1 hF
            · cases hve
        · exact h.apart o1 o v1 v0 ho1 ho hne hat (hat0 hF)
      · rw [e, hg]
        intro e2
        injection e2 with e2
        have := g0.size
        have := g1.size
        omega
    intro o1 o2 v1 v2 ho1 ho2 hne a1 a2
    by_cases e1 : o1 = o
    · subst e1
      have hat := fun z => (atKey_put_other (D := D) (K.lit_ne ho2 ho1 (Ne.symm hne)) (.held v') z).symm.trans (a2 z)
      obtain rfl := held_inj ((atKey_put_same hDm (K.isKey ho1) (.held v') .nil).symm.trans (a1 .nil))
      exact (key1 o2 v2 ho2 (Ne.symm hne) hat).symm
    · have hat := fun z => (atKey_put_other (D := D) (K.lit_ne ho1 ho e1) (.held v') z).symm.trans (a1 z)
      by_cases e2 : o2 = o
      · subst e2
        obtain rfl := held_inj ((atKey_put_same hDm (K.isKey ho2) (.held v') .nil).symm.trans (a2 .nil))
        exact key1 o1 v1 ho1 e1 hat
      · exact h.apart o1 o2 v1 v2 ho1 ho2 hne hat (fun z => (atKey_put_other (D := D) (K.lit_ne ho2 ho e2) (.held v') z).symm.trans (a2 z))
  · have hlo := h.lo
    have B0 : Below b w W0 := (Below.refl b w).grown g0 (Nat.le_of_lt hbs) (fun k e => by cases e)
    have B1 := B0.grown g1 (by have := g0.size; omega) (fun k e => by cases e; exact Nat.le_refl _)
    have B2 := B1.grown g2 (by have := g0.size; have := g1.size; omega) (fun k e => Nat.le_of_lt (Nat.lt_of_lt_of_le hlo (World.ownsRow.lt hO0 k e).1))
    exact B2.grown g3 (by have := g0.size; have := g1.size; have := g2.size; omega) (fun k e => by cases e; exact Nat.le_refl _)
end
section
variable {P : Program} {ops : Array Oper} {rest : List Oper} {o : Oper} {a : Act} {Q : Exit → Act → World → Prop} {w w' : World} {v : Value}
theorem wpList_lookup_eq (hgd : o.guard = none) (t : TypeId) (x y : Operand) (ok : Bool) (ho : o.op = .lookup t x y ok) (p u : Value) (hx : a.eval x = p) (hy : a.eval y = u) (hrun : (Instr.lookup t p u ok).run P w = .ok v w)
    (h : wpList P ops Q rest (a.put o.dst v) w) : wpList P ops Q (o :: rest) a w := by
  refine wpList_plain hgd fun K hK => ?_
  unfold Oper.wp
  simp [execOp, ho, hx, hy, hrun, Result.andThen]
  exact hK _ _ h
theorem wpList_mapEntry_eq (hgd : o.guard = none) (t : TypeId) (x y : Operand) (ho : o.op = .mapEntry t x y) (p u : Value) (hx : a.eval x = p) (hy : a.eval y = u) (hrun : (Instr.mapEntry t p u).run P w = .ok v w')
    (h : wpList P ops Q rest (a.put o.dst v) w') : wpList P ops Q (o :: rest) a w := by
  refine wpList_plain hgd fun K hK => ?_
  unfold Oper.wp
  simp [execOp, ho, hx, hy, hrun, Result.andThen]
  exact hK _ _ h
theorem wpList_entryStore_eq (hgd : o.guard = none) (t : TypeId) (x y z : Operand) (ho : o.op = .entryStore t x y z) (p u q : Value) (hx : a.eval x = p) (hy : a.eval y = u) (hz : a.eval z = q) (hrun : (Instr.entryStore t p u q).run P w = .ok () w')
    (h : wpList P ops Q rest (a.put o.dst undef) w') : wpList P ops Q (o :: rest) a w := by
  refine wpList_plain hgd fun K hK => ?_
  unfold Oper.wp
  simp [execOp, ho, hx, hy, hz, hrun, Result.andThen]
  exact hK _ _ h
end
end Go.Proofs.Ytobpbbldgbgcdaa.Coin
