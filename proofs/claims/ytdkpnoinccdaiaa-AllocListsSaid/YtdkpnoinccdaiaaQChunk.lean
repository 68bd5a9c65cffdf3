/-
  Contract of the library's slices.Chunk(.., 200) at int.
-/
import Derived.Test.YtdkpnoinccdaiaaQGive
import Derived.RegionIn
namespace Go.Proofs.Ytdkpnoinccdaiaa.Pool
open Go.RowKit Go.Shelf Gen
attribute [local go_sem] Oper.semAt_some

/-- What lay below n₁ lies as it lay, but for one block. -/
def KeepB (n₁ Lb : Nat) (W W' : World) : Prop := W.heap.size ≤ W'.heap.size ∧ ∀ k, k < n₁ → k ≠ Lb → W'.heap[k]? = W.heap[k]?
theorem KeepB.refl (n₁ Lb : Nat) (W : World) : KeepB n₁ Lb W W := ⟨Nat.le_refl _, fun _ _ _ => rfl⟩
theorem KeepB.trans {n₁ Lb : Nat} {A B C : World} (h : KeepB n₁ Lb A B) (k : KeepB n₁ Lb B C) : KeepB n₁ Lb A C := ⟨Nat.le_trans h.1 k.1, fun j hj hne => (k.2 j hj hne).trans (h.2 j hj hne)⟩
theorem KeepB.of_below {n₁ Lb : Nat} {W W' : World} (h : Below n₁ W W') : KeepB n₁ Lb W W' := ⟨h.size, fun k hk _ => h.block k hk⟩
theorem KeepB.cell {n₁ Lb : Nat} {W W' : World} (h : KeepB n₁ Lb W W') {p : Addr} (h1 : p.block < n₁) (h2 : p.block ≠ Lb) : W'.cell? p = W.cell? p := World.cell?_of_block (h.2 _ h1 h2)
theorem KeepB.at {w1 W : World} {Lb : Nat} {A : Option Addr} {n c : Nat} {l : List Int} (h : NAt w1 A n c l) (hk : KeepB w1.heap.size Lb w1 W) (hA : l ≠ [] → ∀ a, A = some a → a.block ≠ Lb) : NAt W A n c l :=
  ⟨h.len, h.cap, h.max, h.nil, fun hne => by
    obtain ⟨b, off, e, hlt, hc⟩ := h.row hne
    exact ⟨b, off, e, Nat.lt_of_lt_of_le hlt hk.1, fun j hj => (hk.cell (p := ⟨b, off + j, none⟩) hlt (show b ≠ Lb from hA hne _ e)).trans (hc j hj)⟩⟩
/-- A piece: it lies in w1, apart from a block. -/
abbrev GP (w1 : World) (Lb : Nat) := { x : Part // NAt w1 x.1 x.2.2.length x.2.1 x.2.2 ∧ (x.2.2 ≠ [] → ∀ a, x.1 = some a → a.block ≠ Lb) ∧ x.2.2.length ≤ 200 }
theorem mid3_run (A : Option Addr) (n c i m : Nat) (h : i + m ≤ c) (W : World) : (Instr.slice 23 (.slice A n c) (some (.int .i64 (i : Int))) (some (.int .i64 ((i : Int) + (m : Int)))) (some (.int .i64 ((i : Int) + (m : Int))))).run Try.prog W = .ok (.slice (if i + m = i then A else A.map (·.add i)) m m) W := by
  rw [show (i : Int) + (m : Int) = ((i + m : Nat) : Int) by omega]
  rw [run_slice_lhm W 23 A n c elem_is .i64 .i64 .i64 (i : Int) ((i + m : Nat) : Int) ((i + m : Nat) : Int) (by omega) (by omega) (by omega) (by omega), size_is]
  unfold sliced
  have e : ((i : Int) + (m : Int)).toNat = i + m := by omega
  simp [Result.andThen, e]
theorem gdrew (w : World) : w.grownBy w.drew none := ⟨rfl, rfl, rfl, Nat.le_refl _, fun _ _ _ => rfl⟩
set_option maxRecDepth 100000 in
set_option maxHeartbeats 4000000 in
theorem chunk1_in (F : Fence) (n : Nat) (hf : F.fn 48) (hro : F.round = none) (hn : 1 ≤ n) (l Bs Bn Lb : Nat) (A : Option Addr) (len cap : Nat) (zs : List Int) (w1 : World) (h : NAt w1 A len cap zs) (hA : zs ≠ [] → ∀ a, A = some a → a.block ≠ Lb)
    (hBs : Bs < w1.heap.size) (hBs2 : Bs ≠ Lb) (hBn : Bn < w1.heap.size) (hBn2 : Bn ≠ Lb) (hlen : len ≤ 1000000) (J Jx : List (GP w1 Lb) → World → Prop)
    (hY : ∀ pre x W, J pre W → pre.length < (chunks zs).length → YieldAt F (n - 1) Try.prog l #[encS x.1] W fun e W' =>
      (e = .returned (.bool true) ∧ J (pre ++ [x]) W' ∧ KeepB w1.heap.size Lb W W') ∨ (e = .returned (.bool false) ∧ Jx (pre ++ [x]) W'))
    (W : World) (hJ : AbidesFrom W.heap.size J) (hc1 : W.cell? ⟨Bs, 0, none⟩ = some (.slice A len cap)) (hc2 : W.cell? ⟨Bn, 0, none⟩ = some (.int .i64 200)) (h0 : J [] W) :
    CallsIn F n Try.prog 48 #[.func (.yield l) #[] #[], .pointer (some ⟨Bs, 0, none⟩), .pointer (some ⟨Bn, 0, none⟩)] W fun e W' => (∃ v, e = .returned v) ∧
      ((∃ ys, ys.map (·.1.2.2) = chunks zs ∧ J ys W') ∨ (∃ pre, True ∧ Jx pre W')) := by
  refine callsIn_of_wp Try.func48 rfl hf ?_ hro
  simp only [Try.ntmps48, List.size_toArray, List.length_cons, List.length_nil, Nat.reduceAdd, Nat.reduceSub, Array.replicate_succ, Array.replicate_zero, List.push_toArray, List.append_toArray, List.nil_append, List.cons_append]
  have HH := Lib.hid h
  have HA := Lib.hid hA
  have HC1 := Lib.hid hc1
  have HC2 := Lib.hid hc2
  clear h hA hc1 hc2
  gi_wp2
  gi_loopw [4] (fun i wr => ∃ (q : Nat) (pre : List (GP w1 Lb)), i = .int .i64 (q : Int) ∧ q ≤ len + 200 ∧ J pre wr ∧ KeepB w1.heap.size Lb W wr ∧ Hid (pre.map (·.1.2.2) ++ chunks (zs.drop q) = chunks zs))
    (fun i _ => len + 200 - (intOf i).toNat)
  case atStart => exact ⟨0, [], rfl, Nat.zero_le _, h0, KeepB.refl _ _ _, Lib.hid (by rw [List.drop_zero]; rfl)⟩
  case round =>
    obtain ⟨q, pre, rfl, hq, hJs, hk, hQ⟩ := hrel
    have c1 := (hk.cell (p := ⟨Bs, 0, none⟩) hBs hBs2).trans HC1.out
    have c2 := (hk.cell (p := ⟨Bn, 0, none⟩) hBn hBn2).trans HC2.out
    by_cases hlt : q < len
    · obtain ⟨d, hd⟩ : ∃ d, len - q = d := ⟨_, rfl⟩
      obtain ⟨m, hm⟩ : ∃ m, min 200 d = m := ⟨_, rfl⟩
      have hmp : 0 < m ∧ m ≤ 200 ∧ q + m ≤ len := by omega
      have hcap := HH.out.cap
      have hzl := HH.out.len
      have q1 : ∀ W, (Instr.slice 23 (.slice A len cap) (some (.int .i64 (q : Int))) none none).run Try.prog W = .ok (.slice (if cap = q then A else A.map (·.add q)) d (cap - q)) W := fun W => by rw [← hd]; exact tail_run A len cap q (by omega) W
      have q2 : ∀ W, (Instr.slice 23 (.slice A len cap) (some (.int .i64 (q : Int))) (some (.int .i64 ((q : Int) + (m : Int)))) (some (.int .i64 ((q : Int) + (m : Int))))).run Try.prog W = .ok (.slice (if q + m = q then A else A.map (·.add q)) m m) W := fun W => mid3_run A len cap q m (by omega) W
      have hmin : min (200 : Int) (d : Int) = (m : Int) := by omega
      have ht := (HH.out.tail (k := q) (by omega)).head (k := m) (by omega)
      rw [if_neg (show ¬ cap = q by omega)] at q1 ht
      rw [if_neg (show ¬ q + m = q by omega)] at q2
      have htk : (zs.drop q).take m = (zs.drop q).take 200 := by
        rcases Nat.le_total 200 d with g | g
        · rw [show m = 200 by omega]
        · rw [List.take_of_length_le (by rw [List.length_drop]; omega), List.take_of_length_le (by rw [List.length_drop]; omega)]
      rw [htk] at ht
      have HE := Lib.hid (show chunks (zs.drop q) = (zs.drop q).take 200 :: chunks (zs.drop (q + 200)) by
        rw [chunks_cons _ (by rw [List.length_drop]; omega), List.drop_drop])
      have hap : (zs.drop q).take 200 ≠ [] → ∀ a, A.map (·.add q) = some a → a.block ≠ Lb := fun hne a e => by
        obtain ⟨a0, rfl, rfl⟩ := Option.map_eq_some_iff.1 e
        have := HA.out (fun e2 => hne (by rw [e2]; simp)) a0 rfl
        unfold Addr.add
        split <;> exact this
      obtain ⟨L, hL⟩ : ∃ L, (zs.drop q).take 200 = L := ⟨_, rfl⟩
      rw [hL] at ht hap HE
      have hLm := ht.len
      generalize A.map (·.add q) = A3 at q1 q2 ht hap
      have hJd : J pre wr.drew := hJ pre wr wr.drew none hJs (gdrew wr) (fun r e => by cases e)
      have hpl : pre.length < (chunks zs).length := by
        rw [← hQ.out, HE.out, List.length_append, List.length_map, List.length_cons]; omega
      obtain ⟨x, hx⟩ : ∃ x : GP w1 Lb, x.1 = (A3, m, L) := ⟨⟨(A3, m, L), ⟨⟨rfl, by show L.length ≤ m; omega, by have := ht.max; show m ≤ maxLen; unfold maxLen; omega, fun e => by
        have := ht.nil e
        have := ht.cap
        show m = 0; omega, ht.row⟩, hap, by show L.length ≤ 200; omega⟩⟩, rfl⟩
      obtain ⟨fn, tmps, assign, body, hy, hR⟩ := hY pre x wr.drew hJd hpl
      rw [hx] at hy
      rw [show encS (A3, m, L) = .slice A3 m m by show Value.slice A3 L.length m = _; rw [hLm]] at hy
      have HQ2 := Lib.hid (show (pre ++ [x]).map (·.1.2.2) ++ chunks (zs.drop (q + 200)) = chunks zs from by
        rw [← hQ.out, HE.out, List.map_append, List.map_singleton, hx, List.append_assoc]; rfl)
      clear ht hap hx hd hm htk hL hQ HE hJs hJd
      gi_wp2
      gi_region
      all_goals
        gi_wp2
        refine hR.mono ?_
        rintro e W3 (⟨rfl, hJ3, hk3⟩ | ⟨rfl, hJx3⟩)
        · have c2' := (hk3.cell (p := ⟨Bn, 0, none⟩) hBn hBn2).trans (show wr.drew.cell? ⟨Bn, 0, none⟩ = some (.int .i64 200) from c2)
          have HK := Lib.hid (hk.trans ((show KeepB w1.heap.size Lb wr wr.drew from ⟨Nat.le_refl _, fun _ _ _ => rfl⟩).trans hk3))
          have HJ := Lib.hid hJ3
          clear hJ3 hk3 hk
          gi_wp2
          go_roundw
          case rel => exact ⟨q + 200, _, by go_num, by omega, HJ.out, HK.out, HQ2⟩
          case measure => simp [intOf]; omega
        · gi_wp2
          refine bodyPost_ret (results_none rfl _ _ _) rfl ?_
          exact ⟨⟨_, rfl⟩, .inr ⟨_, trivial, hJx3⟩⟩
    · have HE : Hid (pre.map (·.1.2.2) = chunks zs) := Lib.hid (by
        have := hQ.out
        rw [List.drop_of_length_le (by have := HH.out.len; omega), chunks_nil, List.append_nil] at this
        exact this)
      clear hQ
      gi_wp2
      go_end0
      exact ⟨⟨_, rfl⟩, .inl ⟨_, HE.out, hJs⟩⟩
set_option maxRecDepth 100000 in
theorem chunk_in (F : Fence) (n : Nat) (h5 : F.fn 41) (hro : F.round = none) (a : Option Addr) (len cap : Nat) (w : World) :
    CallsIn F n Try.prog 41 #[.slice a len cap, .int .i64 200] w fun e w' => e = .returned (.func (.func 48) #[] #[.pointer (some ⟨w.heap.size, 0, none⟩), .pointer (some ⟨w.heap.size + 1, 0, none⟩)]) ∧ w' = (w.alloc (.cells #[.slice a len cap] 23)).alloc (.cells #[.int .i64 200] 3) := by
  refine callsIn_of_wp Try.func41 rfl h5 ?_ hro
  simp only [Try.ntmps41, List.size_toArray, List.length_cons, List.length_nil, Nat.reduceAdd, Nat.reduceSub, Array.replicate_succ, Array.replicate_zero, List.push_toArray, List.append_toArray, List.nil_append, List.cons_append]
  gi_wp2
  go_ret
  exact ⟨rfl, rfl⟩
theorem chunk_stops (F : Fence) (n : Nat) (h7 : F.fn 48) (hro : F.round = none) (hn : 1 ≤ n) (Bs Bn Lb : Nat) (A : Option Addr) (len cap : Nat) (zs : List Int) (w1 : World) (h : NAt w1 A len cap zs) (hA : zs ≠ [] → ∀ a, A = some a → a.block ≠ Lb)
    (hBs : Bs < w1.heap.size) (hBs2 : Bs ≠ Lb) (hBn : Bn < w1.heap.size) (hBn2 : Bn ≠ Lb) (hlen : len ≤ 1000000)
    (hc1 : w1.cell? ⟨Bs, 0, none⟩ = some (.slice A len cap)) (hc2 : w1.cell? ⟨Bn, 0, none⟩ = some (.int .i64 200)) :
    SeqStopsK F n Try.prog 48 #[.pointer (some ⟨Bs, 0, none⟩), .pointer (some ⟨Bn, 0, none⟩)] (fun x : GP w1 Lb => #[encS x.1]) (KeepB w1.heap.size Lb) (fun ys => ys.map (·.1.2.2) = chunks zs) (fun _ => True) (chunks zs).length w1 := fun l J Jx W hW hJ _ hY h0 =>
  chunk1_in F n h7 hro hn l Bs Bn Lb A len cap zs w1 h hA hBs hBs2 hBn hBn2 hlen J Jx hY W hJ ((hW.cell (p := ⟨Bs, 0, none⟩) hBs).trans hc1) ((hW.cell (p := ⟨Bn, 0, none⟩) hBn).trans hc2) h0
end Go.Proofs.Ytdkpnoinccdaiaa.Pool
