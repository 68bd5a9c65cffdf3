/-
  Contract of slices.IndexFunc at orders.
-/
import Derived.Test.YtcendcegmhliaaaORow
namespace Go.Proofs.Ytcendcegmhliaaa.Ord
open Go.RowKit Go.Sort _root_.Go.Proofs.Ytcendcegmhliaaa.Gnd
/-- The first place at which it is so; -1: none. -/
def idxA (p : Or → Bool) (l : List Or) : Int := match l.findIdx? p with
  | some i => i
  | none => -1
theorem idx_at {p : Or → Bool} {l : List Or} {k : Nat} (hk : k < l.length) (h : ∀ j (hj : j < l.length), j < k → p l[j] = false) (hp : p l[k] = true) : idxA p l = (k : Int) := by
  unfold idxA
  rw [List.findIdx?_eq_some_iff_getElem.2 ⟨hk, hp, fun j hj => by rw [h j (by omega) hj]; decide⟩]
theorem idx_none {p : Or → Bool} {l : List Or} (h : ∀ j (hj : j < l.length), p l[j] = false) : idxA p l = -1 := by
  unfold idxA
  rw [List.findIdx?_eq_none_iff.2 (fun x hx => by obtain ⟨j, hj, rfl⟩ := List.getElem_of_mem hx; exact h j hj)]
set_option maxRecDepth 100000 in
set_option maxHeartbeats 2000000 in
theorem index_any {A : Option Addr} {n c : Nat} {l : List Or} {w : World} (h : AAt w A n c l) (hn : n ≤ 1000000000000) (f : FuncId) (cb : Array Value) (p : Or → Bool) (hen : Enters Try.prog f)
    (hf : ∀ W, Below w.heap.size w W → ∀ x, Calls Try.prog f (#[.agg (encA x).toArray] ++ cb) W fun e w' => e = .returned (.bool (p x)) ∧ Below W.heap.size W w') :
    Calls Try.prog 33 #[.slice A n c, .func (.func f) #[] cb] w (fun e w' => e = .returned (.int .i64 (idxA p l)) ∧ Below w.heap.size w w') := by
  have HL := Lib.hid h.len
  have HR := Lib.hid h.row
  have HF := Lib.hid hf
  unfold Enters at hen
  clear h hf
  go_enter Try.func33, Try.ntmps33
  go_wp2_with fail
  go_loopw [8] (fun i wr => ∃ k : Nat, i = .int .i64 (k : Int) ∧ k ≤ n ∧ Hid (Below w.heap.size w wr ∧ ∀ j (hj : j < l.length), j < k → p l[j] = false)) (fun i _ => n - (intOf i).toNat)
  case atStart => exact ⟨0, rfl, Nat.zero_le _, Lib.hid ⟨Below.refl _ _, fun j _ h => absurd h (Nat.not_lt_zero _)⟩⟩
  case round =>
    obtain ⟨k, rfl, hk, HB⟩ := hrel
    by_cases hlt : k < n
    · have hkl : k < l.length := by rw [HL.out]; exact hlt
      have hwr : IntKind.i64.wrap ((k : Int) + 1) = (k : Int) + 1 := IntWalk.i64_in _ (by omega)
      have t1 : (k : Int) < (n : Int) := by omega
      have t2 : (0 : Int) ≤ (k : Int) := by omega
      obtain ⟨b, off, rfl, hbl, hc⟩ := HR.out (by intro e; rw [e] at hkl; simp at hkl)
      have L := Lib.hid (load_ac (range_below (hc k hkl) HB.out.1 hbl))
      have cF := HF.out wr HB.out.1 l[k]
      have NX := Lib.hid (show p l[k] = false → ∀ j (hj : j < l.length), j < k + 1 → p l[j] = false from fun e j hj hjk => by
        by_cases q : j = k
        · subst q; exact e
        · exact HB.out.2 j hj (by omega))
      have AT := Lib.hid (fun (e : p l[k] = true) => idx_at hkl HB.out.2 e)
      have BW := Lib.hid HB.out.1
      obtain ⟨C, hC⟩ : ∃ C, (encA l[k]).toArray = C := ⟨_, rfl⟩
      rw [hC] at L cF
      generalize p l[k] = r at *
      clear hc hC HB hbl hkl
      rcases r with _ | _
      · go_wp2_with (first | ((with_reducible refine wpList_load_eq rfl 25 (.tmp 14) rfl _ ?_ L.out ?_); (next => rfl)) | (go_at_fn f; refine cF.mono ?_; rintro e w2 ⟨rfl, b2⟩))
        have NB := Lib.hid (And.intro (BW.out.trans (b2.mono BW.out.size)) (NX.out (by first | rfl | trivial)))
        go_roundw
        case rel => exact ⟨k + 1, by go_num, by omega, NB⟩
        case measure => simp [intOf]; omega
      · go_wp2_with (first | ((with_reducible refine wpList_load_eq rfl 25 (.tmp 14) rfl _ ?_ L.out ?_); (next => rfl)) | (go_at_fn f; refine cF.mono ?_; rintro e w2 ⟨rfl, b2⟩))
        go_ret
        exact ⟨by rw [AT.out (by first | rfl | trivial)]; rfl, BW.out.trans (b2.mono BW.out.size)⟩
    · obtain rfl : k = n := by omega
      have FIN := Lib.hid (show idxA p l = -1 ∧ Below w.heap.size w wr from ⟨idx_none (fun j hj => HB.out.2 j hj (by rw [← HL.out]; exact hj)), HB.out.1⟩)
      clear HB
      go_wp2_with fail
      go_ret
      exact ⟨by rw [FIN.out.1]; rfl, FIN.out.2⟩
theorem idx_cases (p : Or → Bool) (l : List Or) : (idxA p l = -1 ∧ ∀ j (hj : j < l.length), p l[j] = false) ∨ ∃ k : Nat, ∃ hk : k < l.length, idxA p l = (k : Int) ∧ p l[k] = true ∧ ∀ j (hj : j < l.length), j < k → p l[j] = false := by
  unfold idxA
  generalize hf : l.findIdx? p = e
  rcases e with _ | k
  · exact .inl ⟨rfl, fun j hj => by simpa using List.findIdx?_eq_none_iff.1 hf l[j] (List.getElem_mem hj)⟩
  · obtain ⟨hk, h1, h2⟩ := List.findIdx?_eq_some_iff_getElem.1 hf
    exact .inr ⟨k, hk, rfl, h1, fun j hj hjk => by simpa using h2 j hjk⟩
end Go.Proofs.Ytcendcegmhliaaa.Ord
