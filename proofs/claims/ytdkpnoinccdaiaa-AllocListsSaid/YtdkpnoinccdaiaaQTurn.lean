/-
  Contracts of alloc's Turn, lent, Check, Of.
-/
import Derived.Test.YtdkpnoinccdaiaaQLaid
import Derived.Deep.RegionHeld3
namespace Go.Proofs.Ytdkpnoinccdaiaa.Pool
open Go.RowKit Gen

def set3 (w : World) (b : Nat) (v0 v1 v2 : Value) : World := ((w.setCell ⟨b, 0, none⟩ v0).setCell ⟨b, 1, none⟩ v1).setCell ⟨b, 2, none⟩ v2
theorem set3_at {w : World} {b : Nat} {C : Array Value} (h : At w b C) (hC : C.size = 3) (v0 v1 v2 : Value) : At (set3 w b v0 v1 v2) b #[v0, v1, v2] := by
  have h1 := ((h.set 0 v0 (by omega)).set 1 v1 (by simp; omega)).set 2 v2 (by simp; omega)
  have e : ((C.setIfInBounds 0 v0).setIfInBounds 1 v1).setIfInBounds 2 v2 = #[v0, v1, v2] := by
    rcases C with ⟨l⟩
    match l, hC with
    | [x, y, z], _ => rfl
  rw [e] at h1
  exact h1
theorem set3_below {w0 w : World} {n b : Nat} (h : Below n w0 w) (hb : n ≤ b) (v0 v1 v2 : Value) : Below n w0 (set3 w b v0 v1 v2) :=
  ((h.setCell (p := ⟨b, 0, none⟩) hb v0).setCell (p := ⟨b, 1, none⟩) hb v1).setCell (p := ⟨b, 2, none⟩) hb v2
/-- Below a block that is turned, all lies as it lay. -/
theorem NAt.beneath {w w' : World} {A : Option Addr} {n c B : Nat} {l : List Int} (h : NAt w A n c l) (hw : w.heap.size ≤ B) (hb : Below B w w') : NAt w' A n c l := h.below (hb.mono hw)
theorem own_kept {w w' : World} {row : Option Nat} {B : Nat} {v : Value} {l : List Int} (h : OwnI w B v l) (g : w.grownBy w' row) (hne : v.ownBlock = none ∨ v.ownBlock ≠ row) : OwnI w' B v l := by
  obtain ⟨hl, h | ⟨k, cap, cur, rfl, hg, hh, h4, h5, h6, h7⟩⟩ := h
  · exact ⟨hl, .inl h⟩
  · exact ⟨hl, .inr ⟨k, cap, cur, rfl, hg, by rw [g.block k (Array.getElem?_eq_some_iff.1 hh).1 (by rcases hne with h | h; cases h; exact h)]; exact hh, h4, h5, h6, h7⟩⟩
theorem grown_set (w : World) (b j : Nat) (v : Value) : w.grownBy (w.setCell ⟨b, j, none⟩ v) (some b) :=
  ⟨rfl, rfl, rfl, by simp, fun k _ hk => Below.heap_setCell _ _ _ k (fun e => hk (by rw [e]))⟩
theorem set3_grown (w : World) (b : Nat) (v0 v1 v2 : Value) : w.grownBy (set3 w b v0 v1 v2) (some b) := ((grown_set w b 0 v0).trans (grown_set _ b 1 v1)).trans (grown_set _ b 2 v2)
/-- A list of the call's own lies apart from a pool that the call has made. -/
theorem own_set3 {w : World} {B b : Nat} {v : Value} {l : List Int} (h : OwnI w B v l) (hb : b < B) (v0 v1 v2 : Value) : OwnI (set3 w b v0 v1 v2) B v l :=
  own_kept h (set3_grown _ _ _ _ _) (by
    by_cases e : v.ownBlock = none
    · exact .inl e
    · refine .inr fun e2 => ?_
      have := (World.ownsRow.lt h b e2).1
      omega)
theorem set3_other {w : World} {b b' : Nat} {C : Array Value} (h : At w b C) (hne : b' ≠ b) (v0 v1 v2 : Value) : At (set3 w b' v0 v1 v2) b C := ((h.set_other (i := 0) (v := v0) hne).set_other (i := 1) (v := v1) hne).set_other (i := 2) (v := v2) hne
theorem po_cells {w : World} {b : Nat} {p : Po} {a : La} (h : At w b (poC p a)) : w.cell? ⟨b, 0, none⟩ = some (.int .i64 p.high) ∧ w.cell? ⟨b, 1, none⟩ = some (.slice a.A1 p.free.length a.c1) ∧ w.cell? ⟨b, 2, none⟩ = some (.slice a.A2 p.limbo.length a.c2) := ⟨h.2.2 0 _ rfl, h.2.2 1 _ rfl, h.2.2 2 _ rfl⟩
/-- A pool is handed back. -/
def Pools (q : Po) (w : World) (e : Ending) (w' : World) : Prop := ∃ a, e = .returned (poV q a) ∧ PoAt w' q a ∧ Below w.heap.size w w' ∧ ∀ x, a.A1 = some x → w.heap.size + 2 ≤ x.block
/-- A pool's two boxes: it, and the one that is handed back. -/
theorem two_boxes (w : World) (p : Po) (a : La) : At ((w.alloc (.cells (poC p a) 25)).alloc (.cells (poC { high := 0 } {}) 25)) w.heap.size (poC p a) ∧ At ((w.alloc (.cells (poC p a) 25)).alloc (.cells (poC { high := 0 } {}) 25)) (w.heap.size + 1) (poC { high := 0 } {}) ∧
    Below w.heap.size w ((w.alloc (.cells (poC p a) 25)).alloc (.cells (poC { high := 0 } {}) 25)) ∧ ((w.alloc (.cells (poC p a) 25)).alloc (.cells (poC { high := 0 } {}) 25)).heap.size = w.heap.size + 2 := by
  have h1 := po_box w p a
  have h2 := po_box (w.alloc (.cells (poC p a) 25)) { high := 0 } {}
  rw [World.size_alloc] at h2
  exact ⟨h1.below (n := w.heap.size + 1) ((Below.refl _ _).alloc (by simp) _) (by omega), h2, (below_box w _).alloc (by simp) _, by simp⟩
set_option maxRecDepth 100000 in
set_option maxHeartbeats 4000000 in
theorem turn_any (p : Po) (a : La) (w : World) (h : PoAt w p a) (hf : p.free.length ≤ 100000) (hl : p.limbo.length ≤ 100000) :
    Calls Try.prog 19 #[poV p a] w (Pools { high := p.high, free := layAll p.free p.limbo } w) := by
  obtain ⟨t1, t2, t3, t4⟩ := two_boxes w p a
  have h0 := h.below t3
  have AT := Lib.hid t1
  have AZ := Lib.hid t2
  have BB := Lib.hid t3
  unfold poV
  obtain ⟨W0, hW0⟩ : ∃ W0, (w.alloc (.cells (poC p a) 25)).alloc (.cells #[.int .i64 0, .slice none 0 0, .slice none 0 0] 25) = W0 := ⟨_, rfl⟩
  have e0 : poC { high := 0 } {} = #[.int .i64 0, .slice none 0 0, .slice none 0 0] := rfl
  rw [e0] at t4 h0 AT AZ BB
  rw [hW0] at AT AZ BB t4 h0
  have HD : Below W0.heap.size W0 W0.drew := (Below.refl _ _).drew
  have cL := laid_any a.A1 a.A2 _ a.c1 _ a.c2 p.free p.limbo W0.drew (h0.f.below HD) (h0.l.below HD) hf hl
  have c0 : W0.drew.cell? ⟨w.heap.size, 0, none⟩ = some (.int .i64 p.high) := AT.out.2.2 0 _ rfl
  have c1 : W0.drew.cell? ⟨w.heap.size, 1, none⟩ = some (.slice a.A1 p.free.length a.c1) := AT.out.2.2 1 _ rfl
  have c2 : W0.drew.cell? ⟨w.heap.size, 2, none⟩ = some (.slice a.A2 p.limbo.length a.c2) := AT.out.2.2 2 _ rfl
  have HS := Lib.hid t4
  clear t1 t2 t3 t4 h0 h hf hl HD e0
  go_enter Try.func19, Try.ntmps19
  go_wp2_with fail
  generalize layAll p.free p.limbo = R at *
  have K0 := Lib.hid (show W0.drew.cell? ⟨w.heap.size, 0, none⟩ = some (.int .i64 p.high) ∧ W0.drew.cell? ⟨w.heap.size, 1, none⟩ = some (.slice a.A1 p.free.length a.c1) ∧ W0.drew.cell? ⟨w.heap.size, 2, none⟩ = some (.slice a.A2 p.limbo.length a.c2) from ⟨c0, c1, c2⟩)
  clear hW0 c0 c1 c2
  go_region_held3 (fun w' => w'.cell? ⟨w.heap.size, 0, none⟩ = some (.int .i64 p.high) ∧ w'.cell? ⟨w.heap.size, 1, none⟩ = some (.slice a.A1 p.free.length a.c1) ∧ w'.cell? ⟨w.heap.size, 2, none⟩ = some (.slice a.A2 p.limbo.length a.c2))
    (with_reducible (first | exact K0.out | exact K1.out | exact K2.out))
    ((go_at_call 31; (with_reducible refine cL.mono ?_); rintro e w1 ⟨v, rfl, ho, hb⟩
      have hb' : Below W0.heap.size W0 w1 := (Below.refl W0.heap.size W0).drew.trans hb
      have K1 := Lib.hid (po_cells (AT.out.below hb' AT.out.1))
      have HO := Lib.hid (own_set3 ho (b := w.heap.size + 1) (show w.heap.size + 1 < W0.drew.heap.size by have := HS.out; simp; omega) (.int .i64 p.high) v (.slice none 0 0))
      have AZ2 := Lib.hid (AZ.out.below hb' (by have := HS.out; omega))
      have A3 := Lib.hid (set3_at AZ2.out rfl (.int .i64 p.high) v (.slice none 0 0))
      have B3 := Lib.hid (set3_below (BB.out.trans (hb'.mono BB.out.size)) (Nat.le_succ _) (.int .i64 p.high) v (.slice none 0 0))
      have K2 := Lib.hid (po_cells (set3_other (AT.out.below hb' AT.out.1) (Nat.succ_ne_self _) (.int .i64 p.high) v (.slice none 0 0)))
      have r0 : w1.cell? ⟨w.heap.size + 1, 0, none⟩ = some (.int .i64 0) := AZ2.out.2.2 0 _ rfl
      have r1 : w1.cell? ⟨w.heap.size + 1, 1, none⟩ = some (.slice none 0 0) := AZ2.out.2.2 1 _ rfl
      have r2 : w1.cell? ⟨w.heap.size + 1, 2, none⟩ = some (.slice none 0 0) := AZ2.out.2.2 2 _ rfl
      have fz := AZ2.out.2.1
      obtain ⟨A', n', c', rfl, hN, hbl⟩ := own_nums HO.out
      have HBL := Lib.hid hbl
      clear hbl
      have HN := Lib.hid hN
      unfold set3 at K2
      clear ho hb hb' hN HO))
  go_wp2_with fail
  change bodyPost _ _ _ _ _ (set3 w1 (w.heap.size + 1) (.int .i64 p.high) (.slice A' n' c') (.slice none 0 0))
  generalize set3 w1 (w.heap.size + 1) (.int .i64 p.high) (.slice A' n' c') (.slice none 0 0) = W9 at *
  clear r0 r1 r2 fz K0 K1 K2
  have c0 := A3.out.2.2 0 _ rfl
  have c1 := A3.out.2.2 1 _ rfl
  have c2 := A3.out.2.2 2 _ rfl
  have hl := HN.out.len
  subst hl
  refine bodyPost_ret (v := poV { high := p.high, free := R } { A1 := A', c1 := c' }) (by simp [results, Try.results19, go_sem, *]) rfl ?_
  exact ⟨_, rfl, ⟨HN.out, NAt.none _⟩, B3.out, fun x e => by have := HBL.out x e; have := HS.out; simp at *; omega⟩
end Go.Proofs.Ytdkpnoinccdaiaa.Pool
