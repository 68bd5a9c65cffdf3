/-
  Contract of Sides.
-/
import Derived.Test.YtcendcegmhliaaaOSide
namespace Go.Proofs.Ytcendcegmhliaaa.Ord
open Go.RowKit Go.Sort _root_.Go.Proofs.Ytcendcegmhliaaa.Gnd

def Side1 (l : List Or) (mkt : Bs) (buy : Bool) (w : World) (e : Ending) (w' : World) : Prop := ∃ v l', e = .returned v ∧ OwnA w' w.heap.size v l' ∧ Stab buy (l.filter (askB mkt buy)) l' ∧ Below w.heap.size w w'
theorem box_cell (w : World) (v : Value) (t : TypeId) : (w.alloc (.cells #[v] t)).cell? ⟨w.heap.size, 0, none⟩ = some v := by simp
set_option maxRecDepth 100000 in
set_option maxHeartbeats 2000000 in
theorem sides1_any {A : Option Addr} {n c : Nat} {l : List Or} {w : World} (h : AAt w A n c l) (hn : n ≤ 100000) (mkt : Bs) (buy : Bool) (mb lb : Nat) (hm : w.cell? ⟨mb, 0, none⟩ = some (strV mkt)) (hl : w.cell? ⟨lb, 0, none⟩ = some (.slice A n c)) :
    Calls Try.prog 37 #[.bool buy, .pointer (some ⟨mb, 0, none⟩), .pointer (some ⟨lb, 0, none⟩)] w (Side1 l mkt buy w) := by
  have b1 := below_box w (.cells #[.bool buy] 4)
  have k1 := box_cell w (.bool buy) 4
  have l1 := block_lt_of_cell hm
  have l2 := block_lt_of_cell hl
  have hm' := (b1.cell (p := ⟨mb, 0, none⟩) l1).trans hm
  have hl' := (b1.cell (p := ⟨lb, 0, none⟩) l2).trans hl
  have h1 := h.below b1
  obtain ⟨W1, hW1⟩ : ∃ W1, w.alloc (.cells #[.bool buy] 4) = W1 := ⟨_, rfl⟩
  rw [hW1] at b1 hm' hl' h1 k1
  have cS := side_any h1 hn 38 40 #[.pointer (some ⟨mb, 0, none⟩), .pointer (some ⟨w.heap.size, 0, none⟩)] #[.pointer (some ⟨w.heap.size, 0, none⟩)] (askB mkt buy) buy ent_asked ent_better
    (fun W hW x => asked_any x mkt buy mb w.heap.size W ((hW.cell (p := ⟨mb, 0, none⟩) (block_lt_of_cell hm')).trans hm') ((hW.cell (p := ⟨w.heap.size, 0, none⟩) (block_lt_of_cell k1)).trans k1))
    (fun W hW x y => better_any x y buy w.heap.size W ((hW.cell (p := ⟨w.heap.size, 0, none⟩) (block_lt_of_cell k1)).trans k1))
  have FIN := Lib.hid (show ∀ v l' W, OwnA W W1.heap.size v l' → Stab buy (l.filter (askB mkt buy)) l' → Below W1.heap.size W1 W → Side1 l mkt buy w (.returned v) W from fun v l' W o s b => ⟨v, l', rfl, o.down b1.size, s, b1.trans (b.mono b1.size)⟩)
  obtain ⟨E, hE⟩ : ∃ E, Side1 l mkt buy w = E := ⟨_, rfl⟩
  rw [hE] at FIN ⊢
  clear h hm hl l1 l2 hm' k1 h1 b1 hE
  go_enter Try.func37, Try.ntmps37
  go_wp2_with (go_at_call 39; refine cS.mono ?_; rintro e w2 ⟨v, l', rfl, o2, st, b2⟩)
  (try go_ret)
  exact FIN.out v l' _ o2 st b2
def SidesE (l : List Or) (mkt : Bs) (w : World) (e : Ending) (w' : World) : Prop := ∃ v1 l1 v2 l2, e = .returned (.tuple #[v1, v2]) ∧ OwnA w' w.heap.size v1 l1 ∧ OwnA w' w.heap.size v2 l2 ∧ Stab true (l.filter (askB mkt true)) l1 ∧ Stab false (l.filter (askB mkt false)) l2 ∧ Below w.heap.size w w'
set_option maxRecDepth 100000 in
set_option maxHeartbeats 2000000 in
theorem sides_any {A : Option Addr} {n c : Nat} {l : List Or} {w : World} (h : AAt w A n c l) (hn : n ≤ 100000) (mkt : Bs) : Calls Try.prog 22 #[.slice A n c, strV mkt] w (SidesE l mkt w) := by
  have b1 := below_box w (.cells #[.slice A n c] 33)
  have k1 := box_cell w (.slice A n c) 33
  have b2 := below_box (w.alloc (.cells #[.slice A n c] 33)) (.cells #[strV mkt] 9)
  have k2 := box_cell (w.alloc (.cells #[.slice A n c] 33)) (strV mkt) 9
  have sz : (w.alloc (.cells #[.slice A n c] 33)).heap.size = w.heap.size + 1 := by simp
  have k1' := (b2.cell (p := ⟨w.heap.size, 0, none⟩) (by rw [sz]; exact Nat.lt_succ_self _)).trans k1
  have b := b1.trans (b2.mono b1.size)
  rw [sz] at k2
  have h2 := h.below b
  obtain ⟨W1, hW1⟩ : ∃ W1, w.alloc (.cells #[.slice A n c] 33) = W1 := ⟨_, rfl⟩
  rw [hW1] at b k1' k2 h2 sz
  obtain ⟨W2, hW2⟩ : ∃ W2, W1.alloc (.cells #[strV mkt] 9) = W2 := ⟨_, rfl⟩
  rw [hW2] at b k1' k2 h2
  have cT := sides1_any h2 hn mkt true (w.heap.size + 1) w.heap.size k2 k1'
  have CF := Lib.hid (show ∀ W, Below W2.heap.size W2 W → _ from fun W hW => sides1_any (h2.below hW) hn mkt false (w.heap.size + 1) w.heap.size ((hW.cell (p := ⟨w.heap.size + 1, 0, none⟩) (block_lt_of_cell k2)).trans k2) ((hW.cell (p := ⟨w.heap.size, 0, none⟩) (block_lt_of_cell k1')).trans k1'))
  have FIN := Lib.hid (show ∀ v1 l1 v2 l2 W3 W4, OwnA W3 W2.heap.size v1 l1 → Below W2.heap.size W2 W3 → OwnA W4 W3.heap.size v2 l2 → Below W3.heap.size W3 W4 → Stab true (l.filter (askB mkt true)) l1 → Stab false (l.filter (askB mkt false)) l2 → SidesE l mkt w (.returned (.tuple #[v1, v2])) W4 from
    fun v1 l1 v2 l2 W3 W4 o1 c1 o2 c2 s1 s2 => ⟨v1, l1, v2, l2, rfl, (o1.below c2).down b.size, o2.down (Nat.le_trans b.size c1.size), s1, s2, b.trans ((c1.trans (c2.mono c1.size)).mono b.size)⟩)
  obtain ⟨E, hE⟩ : ∃ E, SidesE l mkt w = E := ⟨_, rfl⟩
  rw [hE] at FIN ⊢
  unfold strV at *
  generalize strB mkt = X at *
  clear h b1 b2 k1 k2 k1' b h2 hE
  go_enter Try.func22, Try.ntmps22
  go_wp2_with (go_at_call 37; first
    | (refine cT.mono ?_; rintro e w3 ⟨v1, l1, rfl, o1, s1, c1⟩; have O1 := Lib.hid o1; have S1 := Lib.hid s1; have C1 := Lib.hid c1; have cF := CF.out w3 c1; clear o1 s1 c1 cT CF)
    | (refine cF.mono ?_; rintro e w4 ⟨v2, l2, rfl, o2, s2, c2⟩))
  (try go_ret2)
  exact FIN.out v1 l1 v2 l2 w3 w4 O1.out C1.out o2 c2 S1.out s2
end Go.Proofs.Ytcendcegmhliaaa.Ord
