/-
  A map from sectors' numbers to sectors: what it holds, as a function; the laws of its operations.
-/
import Derived.Test.YtoldkhfnebjacaaDBase
namespace Go.Proofs.Ytoldkhfnebjacaa.Disk
open Go.RowKit Go.Maps

abbrev keyL (x : Int) : Lit := .int .i64 x
abbrev zd : DataW Unit := .lit (.string zeros)
def textOf : DataW Unit → Bs
  | .lit (.string l) => l
  | _ => []
def look (D : DataW Unit) (x : Int) : Option Bs := if Maps.has D (keyL x) then some (textOf (D.atKey (keyL x) zd)) else none
def upd (f : Int → Option Bs) (n : Int) (v : Option Bs) : Int → Option Bs := fun x => if x = n then v else f x
theorem upd_same (f : Int → Option Bs) (n : Int) (v : Option Bs) : upd f n v n = v := by simp [upd]
theorem upd_other (f : Int → Option Bs) {n x : Int} (v : Option Bs) (h : x ≠ n) : upd f n v x = f x := by simp [upd, h]
/-- Block b of w is a map of sectors below N that holds f. -/
structure SMap (w : World) (b N : Nat) (f : Int → Option Bs) : Prop where
  own : ∃ D n, w.ownsMap Try.prog 3 SecR b n D ∧ (∀ x, look D x = f x) ∧ ∀ kl, Maps.has D kl = true → ∃ x : Int, kl = keyL x ∧ 0 ≤ x ∧ x < N
  fit : ∀ x l, f x = some l → 0 ≤ x ∧ x < N ∧ l.length = 1024

theorem intKeyed : Keyed Try.prog 3 := int_keyed Try.underlying3
theorem keyWf {x : Int} (h0 : -9223372036854775808 ≤ x) (h1 : x ≤ 9223372036854775807) : keyOf Try.prog 3 (.int .i64 x) = some (keyL x) := keyOf_int_mk Try.underlying3 (WalkArith.wf_i64 (by omega))
theorem isKey (x : Int) : WideAt.IsKeyLit (keyL x) := by simp [WideAt.IsKeyLit]
theorem keyL_ne {x y : Int} (h : x ≠ y) : keyL x ≠ keyL y := fun e => h (by injection e)

theorem SMap.made (w : World) (N : Nat) : SMap (w.alloc (.map #[] 0)) w.heap.size N (fun _ => none) :=
  ⟨⟨.map [], 0, World.ownsMap_made w _ _ _, fun x => by simp [look, Maps.has], fun kl h => by simp [Maps.has] at h⟩, fun _ _ h => by cases h⟩
theorem SMap.lt {w : World} {b N : Nat} {f : Int → Option Bs} (h : SMap w b N f) : b < w.heap.size := by
  obtain ⟨D, n, h1, _⟩ := h.own
  exact h1.lt
theorem SMap.ext {w : World} {b N : Nat} {f g : Int → Option Bs} (h : SMap w b N f) (e : ∀ x, f x = g x) : SMap w b N g := by
  obtain rfl : f = g := funext e
  exact h
theorem SMap.of_block {w w' : World} {b N : Nat} {f : Int → Option Bs} (h : SMap w b N f) (e : w'.heap[b]? = w.heap[b]?) : SMap w' b N f := by
  obtain ⟨D, n, ⟨es, c, hb, r⟩, h2⟩ := h.own
  exact ⟨⟨D, n, ⟨es, c, e.trans hb, r⟩, h2⟩, h.fit⟩
theorem SMap.kept {w w' : World} {row : Option Nat} {b N : Nat} {f : Int → Option Bs} (h : SMap w b N f) (hg : w.grownBy w' row) (hne : some b ≠ row) : SMap w' b N f := h.of_block (hg.block b h.lt hne)
theorem SMap.isMap {w : World} {b N : Nat} {f : Int → Option Bs} (h : SMap w b N f) : ∃ es c, w.heap[b]? = some (.map es c) := by
  obtain ⟨D, n, ⟨es, c, hb, _⟩, _⟩ := h.own
  exact ⟨es, c, hb⟩

/-- A key that is there. -/
theorem look_reads {w : World} {b n : Nat} {D : DataW Unit} (h : w.ownsMap Try.prog 3 SecR b n D) (x : Int) (h0 : -9223372036854775808 ≤ x) (h1 : x ≤ 9223372036854775807) :
    ∃ l, l.length = 1024 ∧ D.atKey (keyL x) zd = .lit (.string l) ∧ (look D x).getD zeros = l ∧ (look D x).isSome = Maps.has D (keyL x) ∧
      (Instr.lookup 58 (.map (some b)) (.int .i64 x) true).run Try.prog w = .ok (.tuple #[.agg (secC l), .bool (Maps.has D (keyL x))]) w ∧
      (Instr.lookup 58 (.map (some b)) (.int .i64 x) false).run Try.prog w = .ok (.agg (secC l)) w := by
  have hz : (zeroValue 66).run Try.prog w = .ok (.agg (secC zeros)) w := by rw [Try.zeroValue66, zero_cells]
  obtain ⟨v, ps, hrun, hv⟩ := h.look_ok intKeyed Try.underlying58 hz (secR_mk zeros_len) (keyWf h0 h1)
  obtain ⟨v', ps', hrun', hv'⟩ := h.lookup intKeyed Try.underlying58 hz (secR_mk zeros_len) (keyWf h0 h1)
  obtain ⟨l, hl, rfl, e⟩ := secR_inv hv
  obtain ⟨l', hl', rfl, e'⟩ := secR_inv hv'
  have e := congrArg Prod.fst e
  have e' := congrArg Prod.fst e'
  simp only at e e'
  obtain rfl : l = l' := congrArg textOf (e.symm.trans e')
  refine ⟨l, hl, e, ?_, ?_, hrun, hrun'⟩
  · unfold look
    cases hh : Maps.has D (keyL x)
    · rw [Maps.atKey_of_not_has hh] at e
      have e3 := congrArg textOf e
      simp only [Bool.false_eq_true, if_false, Option.getD_none]
      exact e3
    · simp only [if_true, Option.getD_some]
      rw [e]; rfl
  · unfold look
    cases Maps.has D (keyL x) <;> simp
theorem SMap.lookup {w : World} {b N : Nat} {f : Int → Option Bs} (h : SMap w b N f) (x : Int) (h0 : -9223372036854775808 ≤ x) (h1 : x ≤ 9223372036854775807) :
    (Instr.lookup 58 (.map (some b)) (.int .i64 x) false).run Try.prog w = .ok (.agg (secC ((f x).getD zeros))) w := by
  obtain ⟨D, n, ho, hf, _⟩ := h.own
  obtain ⟨l, hl, e, e1, e2, r1, r2⟩ := look_reads ho x h0 h1
  rw [← hf, e1]; exact r2
theorem SMap.lookup_ok {w : World} {b N : Nat} {f : Int → Option Bs} (h : SMap w b N f) (x : Int) (h0 : -9223372036854775808 ≤ x) (h1 : x ≤ 9223372036854775807) :
    (Instr.lookup 58 (.map (some b)) (.int .i64 x) true).run Try.prog w = .ok (.tuple #[.agg (secC ((f x).getD zeros)), .bool (f x).isSome]) w := by
  obtain ⟨D, n, ho, hf, _⟩ := h.own
  obtain ⟨l, hl, e, e1, e2, r1, r2⟩ := look_reads ho x h0 h1
  rw [← hf, e1, e2]; exact r1
theorem SMap.getD_len {w : World} {b N : Nat} {f : Int → Option Bs} (h : SMap w b N f) (x : Int) : ((f x).getD zeros).length = 1024 := by
  cases e : f x with
  | none => exact zeros_len
  | some l => exact (h.fit x l e).2.2

/-- No more keys than there are numbers below N. -/
theorem few : ∀ (N : Nat) (l : List Nat), l.Nodup → (∀ x ∈ l, x < N) → l.length ≤ N
  | 0, [], _, _ => Nat.le_refl _
  | 0, x :: l, _, h => absurd (h x (List.mem_cons_self ..)) (by omega)
  | N + 1, l, hn, h => by
    have h1 : (l.erase N).length ≤ N := few N (l.erase N) (hn.erase N) (fun x hx => by
      have h2 := h x (List.mem_of_mem_erase hx)
      have h3 : x ≠ N := fun e => by subst e; exact (List.Nodup.not_mem_erase hn) hx
      omega)
    have h2 := List.length_erase_le (a := N) (l := l)
    have h3 : l.length ≤ (l.erase N).length + 1 := by
      rw [List.length_erase]; split <;> omega
    omega
theorem SMap.size {w : World} {b N : Nat} {f : Int → Option Bs} (h : SMap w b N f) : ∃ D, w.ownsMap Try.prog 3 SecR b N D ∧ Maps.size D ≤ N ∧ (∀ x, look D x = f x) ∧ ∀ kl, Maps.has D kl = true → ∃ x : Int, kl = keyL x ∧ 0 ≤ x ∧ x < N := by
  obtain ⟨D, n, ho, hf, hk⟩ := h.own
  obtain ⟨es, rfl, hp, _⟩ := ho.entries intKeyed
  have hsz : es.length ≤ N := by
    have hx : ∀ p ∈ es, ∃ x : Int, p.1 = keyL x ∧ 0 ≤ x ∧ x < N := fun p hp => by
      have h2 : Maps.has (DataW.map es) p.1 = true := List.any_eq_true.2 ⟨p, hp, WideAt.sameKey_self (by
        obtain ⟨es', e, _, hk'⟩ := ho.entries intKeyed
        injection e with e
        exact hk' p (by rw [← e]; exact hp))⟩
      exact hk _ h2
    have := few N (es.map fun p => match p.1 with | .int _ x => x.toNat | _ => 0) ?_ ?_
    · simpa using this
    · rw [List.Nodup, List.pairwise_map]
      refine List.Pairwise.imp_of_mem (fun {p q} hp hq hne => ?_) hp
      obtain ⟨x, e1, _, _⟩ := hx p hp
      obtain ⟨y, e2, _, _⟩ := hx q hq
      rw [e1, e2] at hne ⊢
      exact fun e => hne (by have : x = y := by simp at e; omega
                             rw [this])
    · intro k hkm
      obtain ⟨p, hp, rfl⟩ := List.mem_map.1 hkm
      obtain ⟨x, e1, _, _⟩ := hx p hp
      rw [e1]; simp; omega
  refine ⟨.map es, ?_, hsz, hf, hk⟩
  obtain ⟨es', c, hb, F, hs, hD⟩ := ho
  refine ⟨es', c, hb, F, ?_, hD⟩
  injection hD with hD
  rw [hD, length_sorted] at hsz
  simpa using hsz

theorem SMap.store {w : World} {b N : Nat} {f : Int → Option Bs} (h : SMap w b N f) (hN : N ≤ 4096) (x : Int) (h0 : 0 ≤ x) (h1 : x < N) (l : Bs) (hl : l.length = 1024) :
    ∃ w', (Instr.mapUpdate 58 (.map (some b)) (.int .i64 x) (.agg (secC l))).run Try.prog w = .ok () w' ∧ SMap w' b N (upd f x (some l)) ∧ w.grownBy w' (some b) := by
  obtain ⟨D, ho, _, hf, hk⟩ := h.size
  obtain ⟨w', hrun, ho', hg⟩ := ho.update intKeyed Try.underlying58 (by unfold maxLen; omega) (keyWf (x := x) (by omega) (by omega)) (secR_mk hl)
  refine ⟨w', hrun, ⟨⟨_, _, ho', fun y => ?_, fun kl hkl => ?_⟩, fun y m hy => ?_⟩, hg⟩
  · by_cases e : y = x
    · subst e
      rw [upd_same]
      unfold look
      rw [Maps.has_put_same ho.isMap (isKey y), Maps.atKey_put_same ho.isMap (isKey y)]
      rfl
    · rw [upd_other _ _ e, ← hf]
      unfold look
      rw [Maps.has_put_other (keyL_ne e), Maps.atKey_put_other (keyL_ne e)]
  · by_cases e : kl = keyL x
    · exact ⟨x, e, h0, h1⟩
    · rw [Maps.has_put_other e] at hkl
      exact hk kl hkl
  · by_cases e : y = x
    · subst e
      rw [upd_same] at hy
      cases hy
      exact ⟨h0, h1, hl⟩
    · rw [upd_other _ _ e] at hy
      exact h.fit y m hy
theorem SMap.drop {w : World} {b N : Nat} {f : Int → Option Bs} (h : SMap w b N f) (x : Int) (h0 : -9223372036854775808 ≤ x) (h1 : x ≤ 9223372036854775807) (ty : TypeId) :
    ∃ w', (Builtin.delete_ #[58, 3] ty #[.map (some b), .int .i64 x]).run Try.prog w = .ok (.tuple #[]) w' ∧ SMap w' b N (upd f x none) ∧ w.grownBy w' (some b) := by
  obtain ⟨D, n, ho, hf, hk⟩ := h.own
  obtain ⟨w', hrun, ho', hg⟩ := ho.drop intKeyed Try.underlying58 (keyWf (x := x) h0 h1) ty
  refine ⟨w', hrun, ⟨⟨_, _, ho', fun y => ?_, fun kl hkl => ?_⟩, fun y m hy => ?_⟩, hg.grown⟩
  · by_cases e : y = x
    · subst e
      rw [upd_same]
      unfold look
      rw [Maps.has_del_same]; rfl
    · rw [upd_other _ _ e, ← hf]
      unfold look
      rw [Maps.has_del_other (keyL_ne e), Maps.atKey_del_other (keyL_ne e)]
  · by_cases e : kl = keyL x
    · subst e
      rw [Maps.has_del_same] at hkl; cases hkl
    · rw [Maps.has_del_other e] at hkl
      exact hk kl hkl
  · by_cases e : y = x
    · subst e
      rw [upd_same] at hy
      cases hy
    · rw [upd_other _ _ e] at hy
      exact h.fit y m hy
theorem SMap.clear {w : World} {b N : Nat} {f : Int → Option Bs} (h : SMap w b N f) (ty : TypeId) :
    ∃ w', (Builtin.clear_ #[58] ty #[.map (some b)]).run Try.prog w = .ok (.tuple #[]) w' ∧ SMap w' b N (fun _ => none) ∧ w.grownBy w' (some b) := by
  obtain ⟨es, c, hb⟩ := h.isMap
  refine ⟨ChangeMaps.setBlock w b (.map #[] c), ?_, ⟨⟨.map [], 0, ⟨#[], c, ChangeMaps.heap_setBlock_same hb _, ⟨by simp, MapKept.stamped_empty c, by simp⟩, Nat.le_refl _, rfl⟩, fun x => by simp [look, Maps.has], fun kl h => by simp [Maps.has] at h⟩, fun _ _ h => by cases h⟩,
    ⟨rfl, rfl, rfl, by simp [ChangeMaps.setBlock], fun i _ hi => ChangeMaps.heap_setBlock_other hb _ (fun e => hi (by rw [e]))⟩⟩
  simp [Builtin.clear_, run_underlying Try.underlying58, MapKept.run_getObj_map hb, MapKept.run_setObj_map _ hb, Result.andThen, ChangeMaps.setBlock]
end Go.Proofs.Ytoldkhfnebjacaa.Disk
