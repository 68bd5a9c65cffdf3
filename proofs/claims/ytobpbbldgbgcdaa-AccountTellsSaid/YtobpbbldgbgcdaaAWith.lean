/-
  Contracts of with, Hold, Free.
-/
import Derived.Test.YtobpbbldgbgcdaaAHold
namespace Go.Proofs.Ytobpbbldgbgcdaa.Acc
open Go.RowKit Go.Sort

theorem OwnA.below {w w' : World} {B : Nat} {v : Value} {l : List Ac} (h : OwnA w B v l) (hb : Below w.heap.size w w') : OwnA w' B v l := by
  obtain ⟨hl, ⟨rfl, hn⟩ | ⟨g, cap, cur, rfl, hg, hh, h1⟩⟩ := h
  · exact ⟨hl, .inl ⟨rfl, hn⟩⟩
  · exact ⟨hl, .inr ⟨g, cap, cur, rfl, hg, (hb.block g (Array.getElem?_eq_some_iff.1 hh).1).trans hh, h1⟩⟩
theorem OwnA.some {w : World} {B : Nat} {v : Value} {l : List Ac} (h : OwnA w B v l) (hne : l ≠ []) : ∃ g cap, v = .slice (some ⟨g, 0, none⟩) l.length cap ∧ B ≤ g ∧ g < w.heap.size := by
  obtain ⟨hl, ⟨rfl, hn⟩ | ⟨g, cap, cur, rfl, hg, hh, h1⟩⟩ := h
  · exact absurd (List.eq_nil_of_length_eq_zero hn) hne
  · exact ⟨g, cap, rfl, hg, (Array.getElem?_eq_some_iff.1 hh).1⟩
theorem OwnA.down {w : World} {B B' : Nat} {v : Value} {l : List Ac} (h : OwnA w B v l) (hb : B' ≤ B) : OwnA w B' v l := by
  obtain ⟨hl, ⟨rfl, hn⟩ | ⟨g, cap, cur, rfl, hg, hh, h1⟩⟩ := h
  · exact ⟨hl, .inl ⟨rfl, hn⟩⟩
  · exact ⟨hl, .inr ⟨g, cap, cur, rfl, by omega, hh, h1⟩⟩
theorem pos_with (l : List Ac) (x : Ac) : (posA x.own l = -1 ∧ withA l x = l) ∨ ∃ k : Nat, k < l.length ∧ posA x.own l = (k : Int) ∧ withA l x = l.set k x := by
  unfold posA idxA withA
  generalize hf : l.findIdx? (fun y => decide (y.own = x.own)) = e
  rcases e with _ | k
  · exact .inl ⟨rfl, rfl⟩
  · obtain ⟨hk, _, _⟩ := List.findIdx?_eq_some_iff_getElem.1 hf
    exact .inr ⟨k, hk, rfl, rfl⟩
set_option maxRecDepth 100000 in
set_option maxHeartbeats 2000000 in
theorem with_any {A : Option Addr} {n c : Nat} {l : List Ac} {w : World} (h : AAt w A n c l) (hn : n ≤ 100000) (x : Ac) : Calls Try.prog 44 #[.slice A n c, .agg (encA x).toArray] w (AcsN (withA l x) w) := by
  obtain rfl := h.len
  have b1 := below_box w (.cells (encA x).toArray 35)
  have a1 := at_new w (encA x).toArray 35
  have h1 := h.below b1
  obtain ⟨W1, hW1⟩ : ∃ W1, w.alloc (.cells (encA x).toArray 35) = W1 := ⟨_, rfl⟩
  rw [hW1] at b1 a1 h1
  have cC := clone_any A l.length c l W1 h1 hn
  have LD := Lib.hid (show ∀ W, Below W1.heap.size W1 W → (Instr.loadAt 35 (.pointer (some ⟨w.heap.size, 0, none⟩))).run Try.prog W = .ok (.agg (encA x).toArray) W from fun W hb => load_at (o := 0) (a1.below hb a1.1) Try.underlying35 rfl (by simpa [encA] using size_ac) (by simp))
  have OW := Lib.hid (fun W => ownerOf_any x W)
  have PL := Lib.hid (fun (W : World) (A : Option Addr) (c : Nat) (h : AAt W A l.length c l) => place_any h (by omega) x.own)
  have HP := Lib.hid (pos_with l x)
  have ST := Lib.hid (fun (W : World) (B g cap k : Nat) (h : OwnA W B (.slice (some ⟨g, 0, none⟩) l.length cap) l) (hk : k < l.length) => (show _ ∧ _ from ⟨h.there k hk x, h.set k hk x⟩))
  have B1 := Lib.hid b1
  have HW := Lib.hid hW1
  obtain ⟨L, hL⟩ : ∃ L, withA l x = L := ⟨_, rfl⟩
  rw [hL] at HP ⊢
  obtain ⟨C, hC⟩ : ∃ C, (encA x).toArray = C := ⟨_, rfl⟩
  rw [hC] at LD OW ST HW ⊢
  unfold encO at OW PL
  clear h h1 a1 b1 hW1 hL hC
  go_enter Try.func44, Try.ntmps44
  go_wp2_with (first
    | ((with_reducible refine wpList_box_eq rfl 35 (.tmp 1) rfl C ?_ ?_); (next => rfl); rw [HW.out]))
  refine cC.mono ?_
  rintro e W2 ⟨v, rfl, ho, b2⟩
  obtain ⟨A', c', rfl, ha, hg⟩ := ho.at
  have HO := Lib.hid ho
  have L2 := Lib.hid (LD.out W2 b2)
  have B2 := Lib.hid b2
  have HA := Lib.hid ha
  clear cC ho hg b2 ha
  go_wp2_with (first | ((with_reducible refine wpList_load_eq rfl 35 (.tmp 3) rfl _ ?_ L2.out ?_); (next => rfl)))
  refine (OW.out W2).mono ?_
  rintro e W3 ⟨rfl, b3⟩
  have cP := PL.out W3 A' c' (HA.out.below b3)
  have B3 := Lib.hid b3
  clear b3 OW PL L2
  go_wp2_with fail
  refine cP.mono ?_
  rintro e W4 ⟨rfl, b4⟩
  have B24 := Lib.hid (B3.out.trans (b4.mono B3.out.size))
  have HO4 := Lib.hid (HO.out.below B24.out)
  have B14 := Lib.hid (B2.out.trans (B24.out.mono B2.out.size))
  have L4 := Lib.hid (LD.out W4 B14.out)
  have B04 := Lib.hid (B1.out.trans (B14.out.mono B1.out.size))
  clear b4 cP LD
  rcases HP.out with ⟨e1, e2⟩ | ⟨k, hk, e1, e2⟩
  · rw [e1]
    have HO5 := Lib.hid (show OwnA W4 w.heap.size _ L by rw [e2]; exact HO4.out.down B1.out.size)
    clear e1 e2 HP
    go_wp2_with fail
    go_ret
    exact ⟨_, rfl, HO5.out, B04.out⟩
  · obtain ⟨g, cap, e, hg1, hg2⟩ := HO4.out.some (by intro e; rw [e] at hk; simp at hk)
    injection e with e3 e4 e5
    subst e3 e5
    obtain ⟨s1, s2⟩ := ST.out W4 _ g c' k HO4.out hk
    have t1 : (k : Int) < (l.length : Int) := by omega
    have t2 : (0 : Int) ≤ (k : Int) := by omega
    have hgw : w.heap.size ≤ g := Nat.le_trans B1.out.size hg1
    have HO5 := Lib.hid (show OwnA (W4.setCells g (k * 4) (encA x)) w.heap.size (.slice (Option.some ⟨g, 0, Option.none⟩) l.length c') L by rw [e2]; exact s2.down B1.out.size)
    have B5 := Lib.hid (B04.out.trans (below_put hgw (encA x) (k * 4) W4))
    have S1 := Lib.hid s1
    rw [e1]
    clear e1 e2 HP s1 s2 ST e4 hg1 hg2
    generalize W4.setCells g (k * 4) (encA x) = W5 at *
    go_wp2_with (first
      | ((with_reducible refine wpList_load_eq rfl 35 (.tmp 3) rfl _ ?_ L4.out ?_); (next => rfl))
      | ((with_reducible refine wpList_store_eq rfl 35 (.tmp 18) (.tmp 17) rfl _ _ ?_ ?_ S1.out ?_); (next => rfl); (next => rfl)))
    go_ret
    exact ⟨_, rfl, HO5.out, B5.out⟩
end Go.Proofs.Ytobpbbldgbgcdaa.Acc
