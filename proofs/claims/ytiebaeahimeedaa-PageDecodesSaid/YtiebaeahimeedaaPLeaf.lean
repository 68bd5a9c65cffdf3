/-
  Contract of page's leaf.
-/
import Derived.Test.YtiebaeahimeedaaPCheck1
namespace Go.Proofs.Ytiebaeahimeedaa.Page
open Go.RowKit Gen

structure LeafOk (p : Pg) : Prop where
  len : 1 ≤ p.pairs.length ∧ p.pairs.length ≤ 6
  vals : ∀ x ∈ p.pairs, x.2.length ≤ 100
  all : ∀ s ∈ p.pairs.map (·.1), KeyOk s
  rises : Rises Lt (p.pairs.map (·.1))
theorem strs_elem : Elem Try.prog 24 9 strV :=
  ⟨Try.underlying24, ⟨_, _, 16, rfl, rfl, rfl, rfl, rfl, by omega⟩, fun _ => rfl⟩
theorem lit_row {α : Type} {enc : α → Value} (w : World) (C : Array Value) (t : TypeId) (fr : Nat × Nat) (l : List α) (h : ∀ k (hk : k < l.length), C[k]? = some (enc l[k])) : RowG (w.alloc (.cells C t fr)) enc (some ⟨w.heap.size, 0, none⟩) l := fun _ =>
  ⟨w.heap.size, 0, rfl, by rw [World.size_alloc]; omega, fun k hk => by rw [Nat.zero_add, World.cell?_alloc_mark]; exact h k hk⟩
theorem lit1 {α : Type} {enc : α → Value} (w : World) (v : Value) (t : TypeId) (fr : Nat × Nat) (x : α) (h : v = enc x) : RowG (w.alloc (.cells #[v] t fr)) enc (some ⟨w.heap.size, 0, none⟩) [x] := by
  subst h
  exact lit_row _ _ _ _ _ fun k hk => match k, hk with
    | 0, _ => rfl
    | n + 1, h => by simp at h
theorem own_alloc {w : World} {e : TypeId} {α : Type} {enc : α → Value} {B : Nat} {v : Value} {l : List α} (h : OwnG w e enc B v l) (o : Obj) : OwnG (w.alloc o) e enc B v l := OwnG.kept h ((Below.refl _ _).alloc (Nat.le_refl _) o)
/-- A key more. -/
theorem key_step {w wr : World} {B : Nat} {l : List (Bs × Bs)} {k : Nat} {v : Value} (hk : k < l.length) (hn : l.length ≤ 6) (ho : OwnG wr 9 strV B v ((l.take k).map (·.1))) (hb : Below B w wr) (hB : B ≤ wr.heap.size) (o1 : Obj) (X : ByteArray) (hX : strB l[k].1 = X) :
    ∃ v' W', (Builtin.append_ #[24, 24] 24 #[v, .slice (some ⟨wr.heap.size + 1, 0, none⟩) 1 1]).run Try.prog ((wr.alloc o1).alloc (.cells #[.string X] 9)) = .ok v' W' ∧ OwnG W' 9 strV B v' ((l.take (k + 1)).map (·.1)) ∧ Below B w W' ∧ B ≤ W'.heap.size := by
  have ho2 := own_alloc (own_alloc ho o1) (.cells #[.string X] 9)
  have hb2 := (hb.alloc hB o1).alloc (Nat.le_trans hB (by simp)) (.cells #[.string X] 9)
  have hB2 : B ≤ ((wr.alloc o1).alloc (.cells #[.string X] 9)).heap.size := by simp; omega
  obtain ⟨v', W', h1, h2, h3, _⟩ := append_row strs_elem _ B v _ ho2 (some ⟨(wr.alloc o1).heap.size, 0, none⟩) 1 1 [l[k].1] rfl (fun h => by cases h) (lit1 _ _ _ _ _ (by rw [← hX])) (by rw [List.length_map, List.length_take]; omega) hB2
  rw [show (wr.alloc o1).heap.size = wr.heap.size + 1 by simp] at h1
  refine ⟨v', W', h1, ?_, below_grown hb2 ho2 h3 hB2, Nat.le_trans hB2 h3.size⟩
  rw [List.take_succ_eq_append_getElem hk, List.map_append]
  exact h2
set_option maxRecDepth 100000 in
theorem leaf_any (p : Pg) (a : Lay) (w : World) (hR : PRow w a.A1 p.pairs) : Calls Try.prog 30 #[pgV p a] w (Tells (LeafOk p) w) := by
  have B1 : Below w.heap.size w (w.alloc (.cells (pgC p a) 28)) := (Below.refl _ _).alloc (Nat.le_refl _) _
  have HB1 := Lib.hid B1
  have HR := Lib.hid hR
  have cL := within_any p.pairs.length 1 6
  clear hR B1
  unfold pgC at HB1
  generalize hps : p.pairs = ps at *
  generalize hn : ps.length = n at *
  unfold pgV pgC
  rw [hps, hn]
  generalize a.A1 = A1 at *
  go_enter Try.func30, Try.ntmps30
  go_wp2_with fail
  refine (cL _).mono ?_
  rintro e w' ⟨r1, rfl, h1, rfl⟩
  rcases r1 with _ | _
  · have H := Lib.hid h1
    clear h1 cL
    go_wp2_with fail
    go_ret
    exact ⟨_, rfl, ⟨fun h => (by cases h), fun h => (by have h2 := h.len; rw [hps, hn] at h2; cases (H.out.2 (by omega)))⟩, HB1.out⟩
  have H1 := Lib.hid (h1.1 rfl)
  have h6 : n ≤ 6 := by have := H1.out; omega
  have HN := Lib.hid hn
  have HPS := Lib.hid hps
  clear h1 cL hn hps
  go_wp2_with fail
  go_loopw [3, 14] (fun v i wr => ∃ k : Nat, i = .int .i64 k ∧ k ≤ n ∧ OwnG wr 9 strV w.heap.size v ((ps.take k).map (·.1)) ∧ Below w.heap.size w wr ∧ w.heap.size ≤ wr.heap.size ∧ Hid (∀ x ∈ ps.take k, x.2.length ≤ 100)) (fun _ i _ => n - (intOf i).toNat)
  case atStart => exact ⟨0, rfl, Nat.zero_le _, OwnG.nil _ _ _ _, HB1.out, HB1.out.size, Lib.hid (fun x hx => by simp at hx)⟩
  case round =>
    obtain ⟨k, rfl, hk, ho, hb, hB, hQ⟩ := hrel
    by_cases hlt : k < n
    · have hkl : k < ps.length := by have := HN.out; omega
      obtain ⟨b, off, rfl, hlb, hc⟩ := HR.out (by intro e; subst e; simp at hkl)
      obtain ⟨hc1, hc2⟩ := hc k hkl
      rw [← hb.cell (p := ⟨b, off + k * 2, none⟩) hlb] at hc1
      rw [← hb.cell (p := ⟨b, off + k * 2 + 1, none⟩) hlb] at hc2
      obtain ⟨X, hX⟩ : ∃ X, strB ps[k].1 = X := ⟨_, rfl⟩
      obtain ⟨Y, hY⟩ : ∃ Y, strB ps[k].2 = Y := ⟨_, rfl⟩
      have hYs : Y.size = ps[k].2.length := by rw [← hY]; rfl
      have HYs := Lib.hid hYs
      rw [show strV ps[k].1 = .string X by rw [← hX]] at hc1
      rw [show strV ps[k].2 = .string Y by rw [← hY]] at hc2
      have HK := Lib.hid (fun o1 => key_step hkl (by have := HN.out; omega) ho hb hB o1 X hX)
      have HHB := Lib.hid hb
      have HHO := Lib.hid ho
      clear hc hX hY hb ho hYs
      by_cases h100 : Y.size ≤ 100
      · have d : decide (100 < (Y.size : Int)) = false := by simp; omega
        have HN2 : Hid (∀ x ∈ ps.take (k + 1), x.2.length ≤ 100) := Lib.hid (fun x hx => by
          rw [List.take_succ_eq_append_getElem hkl, List.mem_append] at hx
          rcases hx with hx | hx
          · exact hQ.out x hx
          · simp only [List.mem_singleton] at hx; subst hx; have := HYs.out; omega)
        clear HYs h100 hQ
        obtain ⟨v', W', hrun, ho', hb', hB'⟩ := HK.out (.cells #[.string X, .string Y] 44)
        have R1 := Lib.hid hrun
        have HO' := Lib.hid ho'
        have HB' := Lib.hid hb'
        clear HK hrun ho' hb' HHO
        go_wp2_with (at_builtin; (refine wpList_append_eq rfl (.tmp 22) (.tmp 25) _ rfl rfl rfl R1.out ?_; clear R1))
        go_roundw
        case rel => exact ⟨k + 1, by go_num, by omega, HO'.out, HB'.out, hB', HN2⟩
        case measure => simp [intOf]; omega
      · have d : decide (100 < (Y.size : Int)) = true := by simp; omega
        have HN2 : Hid (¬ LeafOk p) := Lib.hid (fun h => by
          have h2 := h.vals
          rw [HPS.out] at h2
          have := h2 _ (List.getElem_mem hkl)
          have := HYs.out
          omega)
        clear HYs h100 hQ HK HHO
        go_wp2_with fail
        go_ret
        exact ⟨_, rfl, ⟨fun h => (by cases h), fun h => absurd h HN2.out⟩, HHB.out.alloc hB _⟩
    · have hv : Hid (∀ x ∈ ps, x.2.length ≤ 100) := Lib.hid (fun x hx => hQ.out x (by rw [List.take_of_length_le (by have := HN.out; omega)]; exact hx))
      rw [List.take_of_length_le (by have := HN.out; omega)] at ho
      obtain ⟨A, c, rfl, _, _, _, hrow⟩ := OwnG.row ho
      have hlm : (ps.map (·.1)).length = n := by rw [List.length_map, HN.out]
      rw [hlm]
      have cA := allKeys_any A n c (ps.map (·.1)) _ hlm (by omega) hrow
      have cI := risingStrs_any A n c (ps.map (·.1)) _ hlm (by omega) hrow
      have HB2 := Lib.hid hb
      clear hQ ho hrow hlm hb
      go_wp2_with fail
      refine cA.mono ?_
      rintro e w' ⟨r1, rfl, h1, rfl⟩
      rcases r1 with _ | _
      · have H := Lib.hid h1
        clear h1 cA cI
        go_wp2_with fail
        go_ret
        exact ⟨_, rfl, ⟨fun h => (by cases h), fun h => (by have h2 := h.all; rw [HPS.out] at h2; cases (H.out.2 h2))⟩, HB2.out⟩
      have H2 := Lib.hid (h1.1 rfl)
      clear h1 cA
      go_wp2_with fail
      refine cI.mono ?_
      rintro e w' ⟨r1, rfl, h1, hD⟩
      go_wp2_with fail
      go_ret
      refine ⟨_, rfl, ⟨fun h => ⟨?_, ?_, ?_, ?_⟩, fun h => ?_⟩, HB2.out.trans (hD.below _)⟩
      · rw [HPS.out, HN.out]; have := H1.out; omega
      · rw [HPS.out]; exact hv.out
      · rw [HPS.out]; exact H2.out
      · rw [HPS.out]; exact h1.1 h
      · have h2 := h.rises
        rw [HPS.out] at h2
        exact h1.2 h2
end Go.Proofs.Ytiebaeahimeedaa.Page
