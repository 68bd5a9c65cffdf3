/-
  append(append(append([]T{}, a...), x), b...) in each order in which its literals may be made.
-/
import Derived.Test.YtcendcegmhliaaaORef3
import Derived.Test.YtcendcegmhliaaaOPut2
import Derived.Test.YtcendcegmhliaaaODrop
namespace Go.Proofs.Ytcendcegmhliaaa.Ord
open Go.RowKit Go.Sort _root_.Go.Proofs.Ytcendcegmhliaaa.Gnd
attribute [local go_sem] Oper.semAt_some

/-- An append whose run is known, in a region that draws its order. -/
theorem step_append2_eq {P : Program} {ops : Array Oper} {o : Oper} {a : Act} {K : Act → World → Prop} {Q : Exit → Act → World → Prop} {X : Prop} {w w' : World} {v u v' : Value} (hgd : o.guard = none) (s x : Operand) (t t' : TypeId)
    (ho : o.op = .call { callee := .builtin .append, args := #[s, x], argTypes := #[t, t'] }) (hs : a.eval s = v) (hx : a.eval x = u) (hrun : (Builtin.append_ #[t, t'] o.type #[v, u]).run P w = .ok v' w')
    (h : K (a.put o.dst v') w') : if Region.wanted o (yielded ops a.tmps) = true then Oper.wp P o a w K Q else X := by
  have hw : Region.wanted o (yielded ops a.tmps) = true := by simp [Region.wanted, hgd]
  rw [if_pos hw]
  unfold Oper.wp
  simp [execOp, ho, resolve, invoke, builtin, hs, hx, hrun, Result.andThen]
  exact h
def AppR (W W' : World) (v u v' : Value) : Prop := (Builtin.append_ #[33, 33] 33 #[v, u]).run Try.prog W = .ok v' W'
theorem app_row {W0 Wc : World} {v : Value} {ys : List Or} (hb : Below W0.heap.size W0 Wc) (h : OwnA Wc W0.heap.size v ys) {A : Option Addr} {m c : Nat} {zs : List Or} (hz : zs.length = m) (hA : A = none → c = 0) (hR : RowA Wc A zs) (hn : ys.length + m ≤ 1000000) :
    ∃ v' W', AppR Wc W' v (.slice A m c) v' ∧ OwnA W' W0.heap.size v' (ys ++ zs) ∧ Wc.grownBy W' v.ownBlock ∧ Below W0.heap.size W0 W' := by
  obtain ⟨v', W', h1, h2, h3, h4⟩ := append_acs Wc W0.heap.size v ys h A m c zs hz hA hR hn hb.size
  exact ⟨v', W', h1, h2, h3, hb.grown h3 hb.size h4⟩
theorem row_kept {W W' : World} {row : Option Nat} {b : Nat} {zs : List Or} (h : RowA W (some ⟨b, 0, none⟩) zs) (g : W.grownBy W' row) (hne : some b ≠ row) : RowA W' (some ⟨b, 0, none⟩) zs := fun hz => by
  obtain ⟨b', o, e, hlt, hc⟩ := h hz
  simp only [Option.some.injEq, Addr.mk.injEq, and_true] at e
  obtain ⟨rfl, rfl⟩ := e
  refine ⟨b, 0, rfl, Nat.lt_of_lt_of_le hlt g.size, fun j hj i v hv => ?_⟩
  rw [World.cell?_of_block (a := ⟨b, 0 + j * 6 + i, none⟩) (g.block b hlt hne)]
  exact hc j hj i v hv
def E0 : Obj := .cells #[] 25
def EX (x : Or) : Obj := .cells (encA x).toArray 25
/-- What is left of a chain behind its first two rows. -/
theorem chain_tail {W W2 : World} {A : Option Addr} {n c k : Nat} {l : List Or} (h : AAt W A n c l) (hk : k ≤ n) (hn : n ≤ 1000) {v2 : Value} {ys : List Or} (hy : ys.length ≤ 2000) (hb : Below W.heap.size W W2) (ho : OwnA W2 W.heap.size v2 ys) :
    ∃ v3 W3, AppR W2 W3 v2 (.slice (sub 6 A c k) (n - k) (c - k)) v3 ∧ OwnA W3 W.heap.size v3 (ys ++ l.drop k) ∧ Below W.heap.size W W3 := by
  have hl := h.len
  have hc := h.cap
  obtain ⟨v3, W3, h1, h2, _, h4⟩ := app_row hb ho (A := sub 6 A c k) (m := n - k) (c := c - k) (zs := l.drop k) (by rw [List.length_drop]; omega) (fun e => by have := h.nil (sub_none e); omega) (row_drop (h.row.below hb) (by omega) k) (by omega)
  exact ⟨v3, W3, h1, h2, h4⟩
theorem chain1 {W : World} {A : Option Addr} {n c k : Nat} {l : List Or} (h : AAt W A n c l) (hk : k ≤ n) (hn : n ≤ 1000) (x : Or) :
    ∃ v1 W1 v2 W2 v3 W3, AppR (W.alloc E0).drew W1 (.slice (some ⟨W.heap.size, 0, none⟩) 0 0) (.slice A k c) v1 ∧ AppR (W1.alloc (EX x)) W2 v1 (.slice (some ⟨W1.heap.size, 0, none⟩) 1 1) v2 ∧ AppR W2 W3 v2 (.slice (sub 6 A c k) (n - k) (c - k)) v3 ∧ OwnA W3 W.heap.size v3 (l.take k ++ [x] ++ l.drop k) ∧ Below W.heap.size W W1 ∧ Below W.heap.size W (W1.alloc (EX x)) ∧ Below W.heap.size W W2 ∧ Below W.heap.size W W3 := by
  have hl := h.len
  have b0 : Below W.heap.size W (W.alloc E0).drew := (below_box W E0).drew
  obtain ⟨v1, W1, r1, o1, _, b1⟩ := app_row b0 ((own_empty W).below (Below.refl _ _).drew) (A := A) (m := k) (c := c) (zs := l.take k) (by rw [List.length_take]; omega) h.nil (row_take (h.row.below b0) k) (by simp; omega)
  have bx := below_box W1 (EX x)
  have b1x := b1.trans (bx.mono b1.size)
  obtain ⟨v2, W2, r2, o2, _, b2⟩ := app_row b1x (o1.below bx) (A := some ⟨W1.heap.size, 0, none⟩) (m := 1) (c := 1) (zs := [x]) rfl (fun e => by cases e) (row_one W1 x) (by simp; omega)
  obtain ⟨v3, W3, r3, o3, b3⟩ := chain_tail h hk hn (by simp; omega) b2 o2
  exact ⟨v1, W1, v2, W2, v3, W3, r1, r2, r3, by simpa using o3, b1, b1x, b2, b3⟩
theorem chain2 {W : World} {A : Option Addr} {n c k : Nat} {l : List Or} (h : AAt W A n c l) (hk : k ≤ n) (hn : n ≤ 1000) (x : Or) :
    ∃ v1 W1 v2 W2 v3 W3, AppR ((W.alloc E0).alloc (EX x)).drew W1 (.slice (some ⟨W.heap.size, 0, none⟩) 0 0) (.slice A k c) v1 ∧ AppR W1 W2 v1 (.slice (some ⟨W.heap.size + 1, 0, none⟩) 1 1) v2 ∧ AppR W2 W3 v2 (.slice (sub 6 A c k) (n - k) (c - k)) v3 ∧ OwnA W3 W.heap.size v3 (l.take k ++ [x] ++ l.drop k) ∧ Below W.heap.size W W1 ∧ Below W.heap.size W W2 ∧ Below W.heap.size W W3 := by
  have hl := h.len
  have be := below_box W E0
  have bx := below_box (W.alloc E0) (EX x)
  have b0 : Below W.heap.size W ((W.alloc E0).alloc (EX x)).drew := (be.trans (bx.mono be.size)).drew
  have rx := (row_one (W.alloc E0) x).below (w' := ((W.alloc E0).alloc (EX x)).drew) (Below.refl _ _).drew
  rw [show (W.alloc E0).heap.size = W.heap.size + 1 by simp] at rx
  obtain ⟨v1, W1, r1, o1, g1, b1⟩ := app_row b0 (((own_empty W).below bx).below (Below.refl _ _).drew) (A := A) (m := k) (c := c) (zs := l.take k) (by rw [List.length_take]; omega) h.nil (row_take (h.row.below b0) k) (by simp; omega)
  have rx1 := row_kept rx g1 (by simp [Value.ownBlock])
  obtain ⟨v2, W2, r2, o2, _, b2⟩ := app_row b1 o1 (A := some ⟨W.heap.size + 1, 0, none⟩) (m := 1) (c := 1) (zs := [x]) rfl (fun e => by cases e) rx1 (by simp; omega)
  obtain ⟨v3, W3, r3, o3, b3⟩ := chain_tail h hk hn (by simp; omega) b2 o2
  exact ⟨v1, W1, v2, W2, v3, W3, r1, r2, r3, by simpa using o3, b1, b2, b3⟩
theorem chain3 {W : World} {A : Option Addr} {n c k : Nat} {l : List Or} (h : AAt W A n c l) (hk : k ≤ n) (hn : n ≤ 1000) (x : Or) :
    ∃ v1 W1 v2 W2 v3 W3, AppR ((W.alloc (EX x)).alloc E0).drew W1 (.slice (some ⟨W.heap.size + 1, 0, none⟩) 0 0) (.slice A k c) v1 ∧ AppR W1 W2 v1 (.slice (some ⟨W.heap.size, 0, none⟩) 1 1) v2 ∧ AppR W2 W3 v2 (.slice (sub 6 A c k) (n - k) (c - k)) v3 ∧ OwnA W3 W.heap.size v3 (l.take k ++ [x] ++ l.drop k) ∧ Below W.heap.size W W1 ∧ Below W.heap.size W W2 ∧ Below W.heap.size W W3 := by
  have hl := h.len
  have bx := below_box W (EX x)
  have be := below_box (W.alloc (EX x)) E0
  have b0 : Below W.heap.size W ((W.alloc (EX x)).alloc E0).drew := (bx.trans (be.mono bx.size)).drew
  have rx := ((row_one W x).below be).below (w' := ((W.alloc (EX x)).alloc E0).drew) (Below.refl _ _).drew
  have oe := ((own_empty (W.alloc (EX x))).below (w' := ((W.alloc (EX x)).alloc E0).drew) (Below.refl _ _).drew).down bx.size
  rw [show (W.alloc (EX x)).heap.size = W.heap.size + 1 by simp] at oe
  obtain ⟨v1, W1, r1, o1, g1, b1⟩ := app_row b0 oe (A := A) (m := k) (c := c) (zs := l.take k) (by rw [List.length_take]; omega) h.nil (row_take (h.row.below b0) k) (by simp; omega)
  have rx1 := row_kept rx g1 (by simp [Value.ownBlock])
  obtain ⟨v2, W2, r2, o2, _, b2⟩ := app_row b1 o1 (A := some ⟨W.heap.size, 0, none⟩) (m := 1) (c := 1) (zs := [x]) rfl (fun e => by cases e) rx1 (by simp; omega)
  obtain ⟨v3, W3, r3, o3, b3⟩ := chain_tail h hk hn (by simp; omega) b2 o2
  exact ⟨v1, W1, v2, W2, v3, W3, r1, r2, r3, by simpa using o3, b1, b2, b3⟩
end Go.Proofs.Ytcendcegmhliaaa.Ord
