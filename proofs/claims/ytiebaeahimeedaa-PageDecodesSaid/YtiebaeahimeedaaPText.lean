/-
  Contracts of page's layNumber, layText, filled; parts gathered in a row of the call's own.
-/
import Derived.Test.YtiebaeahimeedaaPLay
namespace Go.Proofs.Ytiebaeahimeedaa.Page
open Go.RowKit Gen

theorem lits {α : Type} {enc : α → Value} (w : World) (C : Array Value) (t : TypeId) (fr : Nat × Nat) (xs : List α) (h : C = (xs.map enc).toArray) : RowG (w.alloc (.cells C t fr)) enc (some ⟨w.heap.size, 0, none⟩) xs := by
  subst h
  exact lit_row _ _ _ _ _ fun k hk => by simp [hk]
theorem PartsIn.nil (w : World) : PartsIn w [] := fun x hx => by cases hx
theorem PartsIn.cons {w : World} {A : Option Addr} {n c : Nat} {l : Bs} {xs : List Part} (h : BytesAt w A n c l) (t : PartsIn w xs) : PartsIn w ((A, c, l) :: xs) := fun x hx => by
  rcases List.mem_cons.1 hx with rfl | hx
  · exact ⟨h.nil, h.row⟩
  · exact t x hx
theorem BytesAt.alloc {w : World} {A : Option Addr} {n c : Nat} {l : Bs} (h : BytesAt w A n c l) (o : Obj) : BytesAt (w.alloc o) A n c l := h.below ((Below.refl _ _).alloc (Nat.le_refl _) o)
theorem enc_at {w : World} {A : Option Addr} {n c : Nat} {l : Bs} (h : BytesAt w A n c l) : Value.slice A n c = encS (A, c, l) := by rw [encS, h.len]

theorem layNumber_any (x : Int) (w : World) (h0 : 0 ≤ x) (h1 : x ≤ 9223372036854775807) : Calls Try.prog 53 #[.int .i64 x] w (Lays (be 2 x.toNat) w) := by
  obtain ⟨m, rfl⟩ := Int.eq_ofNat_of_zero_le h0
  have hc := lay_any 2 m w (by omega) (by omega)
  have e : IntKind.u64.wrap (m : Int) = m := by rw [IntKind.wrap_u64]; omega
  go_enter Try.func53, Try.ntmps53
  go_wp2_with fail
  refine hc.mono ?_
  rintro e w1 ⟨A, n, c, rfl, h, b, f⟩
  have HF := Lib.hid f
  clear f
  go_wp2_with fail
  go_ret
  exact ⟨_, _, _, rfl, h, b, HF.out⟩
/-- []byte(s). -/
theorem text_run (W : World) (l : Bs) (S : ByteArray) (hS : strB l = S) (hl : l.length ≤ 1000000) : ∃ A c W', (convert 9 30 (.string S)).run Try.prog W = .ok (.slice A S.size c) W' ∧ BytesAt W' A S.size c l ∧ Below W.heap.size W W' := by
  have hsz : S.size = l.length := by rw [← hS]; rfl
  refine ⟨_, _, _, run_bytes_of_string W _ _ 5 S Try.underlying9 Try.underlying30 Try.underlying5, ⟨hsz.symm, grownCap_ge _ _ _ _, grownCap_le_maxLen _ _ _ _ (by simp only [maxLen]; omega), (fun h => by cases h), ?_⟩, (Below.refl _ W).drew.alloc (Nat.le_refl _) _⟩
  refine lit_row W.drew _ _ _ l fun k hk => ?_
  have hk2 : k < S.data.size := by have : S.data.size = S.size := rfl; omega
  have h3 : S.data[k] = l[k] := by subst hS; simp [strB]
  unfold bytesRow
  rw [Array.getElem?_append_left (by simpa using hk2)]
  simp only [Array.getElem?_map, Array.getElem?_eq_getElem hk2, h3, Option.map_some]
set_option maxRecDepth 100000 in
theorem layText_any (s : Bs) (w : World) (hs : s.length ≤ 1000000) : Calls Try.prog 68 #[strV s] w (Lays (be 1 s.length ++ s) w) := by
  obtain ⟨S, hS⟩ : ∃ S, strB s = S := ⟨_, rfl⟩
  have hsz : S.size = s.length := by rw [← hS]; rfl
  have hc := lay_any 1 S.size w (by omega) (by omega)
  have e : IntKind.u64.wrap (S.size : Int) = (S.size : Int) := by rw [IntKind.wrap_u64]; omega
  rw [show strV s = .string S by rw [← hS]]
  have HX := Lib.hid (fun W => text_run W s S hS hs)
  have HS := Lib.hid hsz
  have HSL := Lib.hid hs
  clear hS hsz hs
  go_enter Try.func68, Try.ntmps68
  go_wp2_with fail
  refine hc.mono ?_
  rintro e w1 ⟨A, n, c, rfl, h1, b1, -⟩
  obtain ⟨A2, c2, W2, hrun, h2, b2⟩ := HX.out w1
  have B2 := Lib.hid (b1.trans (b2.mono b1.size))
  have H1 := Lib.hid (h1.below b2)
  have H2 := Lib.hid h2
  clear hc b1 h1 b2 h2 HX
  go_wp2_with fail
  have hj := joined_any (some ⟨W2.heap.size, 0, none⟩) 2 2 [(A, c, be 1 S.size), (A2, c2, s)] (W2.alloc (.cells #[.slice A n c, .slice A2 S.size c2] 30)) rfl (by omega) (lits _ _ _ _ _ (by rw [enc_at H1.out, enc_at H2.out]; rfl)) ((PartsIn.nil _).cons (H2.out.alloc _) |>.cons (H1.out.alloc _)) (by simp [allOf, be_len]; have := HSL.out; omega)
  refine hj.mono ?_
  rintro e w3 ⟨A3, n3, c3, rfl, h3, b3, f3⟩
  have HF3 := Lib.hid (fun a ha => Nat.le_trans (B2.out.alloc B2.out.size _).size (f3 a ha))
  have HB3 := Lib.hid ((B2.out.alloc B2.out.size _).trans (b3.mono (B2.out.alloc B2.out.size _).size))
  have H3 := Lib.hid h3
  clear b3 h3 hj hrun f3
  go_wp2_with fail
  go_ret
  refine ⟨_, _, _, rfl, ?_, HB3.out, HF3.out⟩
  have h := H3.out
  rw [show allOf [(A, c, be 1 S.size), (A2, c2, s)] = be 1 s.length ++ s by simp [allOf, HS.out]] at h
  exact h
/-- A list's bytes, and bytes 0 behind them. -/
def padTo (n : Nat) (l : Bs) : Bs := l ++ List.replicate (n - l.length) 0
set_option maxRecDepth 100000 in
theorem filled_any (A : Option Addr) (n c : Nat) (l : Bs) (k : Nat) (w : World) (h : BytesAt w A n c l) (hn : n ≤ k) (hk : k ≤ 10000) : Calls Try.prog 47 #[.slice A n c, .int .i64 (k : Int)] w (Lays (padTo k l) w) := by
  have hmk := make_run (k - n) (by omega) w
  rw [show ((k - n : Nat) : Int) = (k : Int) - (n : Int) by omega] at hmk
  have HB1 := Lib.hid ((Below.refl w.heap.size w).alloc (Nat.le_refl _) (.cells (rowC (List.replicate (k - n) 0)) 5))
  have HB : Hid (BytesAt (w.alloc (.cells (rowC (List.replicate (k - n) 0)) 5)) (some ⟨w.heap.size, 0, none⟩) (k - n) (k - n) (List.replicate (k - n) 0)) := Lib.hid ⟨by simp, Nat.le_refl _, by simp only [maxLen]; omega, (fun h => by cases h), at_row (At.of_block (heap_alloc_last w _))⟩
  have HH := Lib.hid (h.alloc (.cells (rowC (List.replicate (k - n) 0)) 5))
  have hsz : (w.alloc (.cells (rowC (List.replicate (k - n) 0)) 5)).heap.size = w.heap.size + 1 := by simp
  have hj := joined_any (some ⟨(w.alloc (.cells (rowC (List.replicate (k - n) 0)) 5)).heap.size, 0, none⟩) 2 2 [(A, c, l), (some ⟨w.heap.size, 0, none⟩, k - n, List.replicate (k - n) 0)] ((w.alloc (.cells (rowC (List.replicate (k - n) 0)) 5)).alloc (.cells #[.slice A n c, .slice (some ⟨w.heap.size, 0, none⟩) (k - n) (k - n)] 30)) rfl (by omega)
    (lits _ _ _ _ _ (by rw [enc_at HH.out, enc_at HB.out]; rfl)) ((PartsIn.nil _).cons (HB.out.alloc _) |>.cons (HH.out.alloc _)) (by simp [allOf, h.len]; omega)
  rw [hsz] at hj
  have HJ := Lib.hid hj
  have HL := Lib.hid h.len
  clear h hj hsz HB HH
  generalize rowC (List.replicate (k - n) 0) = R at *
  go_enter Try.func47, Try.ntmps47
  go_wp2_with fail
  refine HJ.out.mono ?_
  rintro e w3 ⟨A3, n3, c3, rfl, h3, b3, f3⟩
  have HF3 := Lib.hid (fun a ha => Nat.le_trans (HB1.out.alloc HB1.out.size _).size (f3 a ha))
  have HB3 := Lib.hid ((HB1.out.alloc HB1.out.size _).trans (b3.mono (HB1.out.alloc HB1.out.size _).size))
  have H3 := Lib.hid h3
  clear b3 h3 HJ hmk f3
  go_wp2_with fail
  go_ret
  refine ⟨_, _, _, rfl, ?_, HB3.out, HF3.out⟩
  have h := H3.out
  rw [show allOf [(A, c, l), (some ⟨w.heap.size, 0, none⟩, k - n, List.replicate (k - n) 0)] = padTo k l by simp [allOf, padTo, HL.out]] at h
  exact h

/-- Parts that are gathered in a row of the call's own. -/
def OwnS (w : World) (B : Nat) (v : Value) (xs : List Part) : Prop := OwnG w 30 encS B v xs ∧ ∀ x ∈ xs, (x.1 = none → x.2.1 = 0) ∧ BRow w x.1 x.2.2 ∧ (x.2.2 ≠ [] → ∀ a, x.1 = some a → some a.block ≠ v.ownBlock)
theorem OwnS.parts {w : World} {B : Nat} {v : Value} {xs : List Part} (h : OwnS w B v xs) : PartsIn w xs := fun x hx => ⟨(h.2 x hx).1, (h.2 x hx).2.1⟩
theorem OwnS.below {w w' : World} {B : Nat} {v : Value} {xs : List Part} (h : OwnS w B v xs) (hb : Below w.heap.size w w') : OwnS w' B v xs := ⟨OwnG.kept h.1 hb, fun x hx => ⟨(h.2 x hx).1, RowG.below (h.2 x hx).2.1 hb, (h.2 x hx).2.2⟩⟩
theorem parts_elem : Elem Try.prog 77 30 encS :=
  ⟨Try.underlying77, ⟨_, _, 24, rfl, rfl, rfl, rfl, rfl, by omega⟩, fun _ => rfl⟩
theorem row_grown {α : Type} {enc : α → Value} {w w' : World} {A : Option Addr} {l : List α} {row : Option Nat} (h : RowG w enc A l) (g : w.grownBy w' row) (hA : l ≠ [] → ∀ a, A = some a → some a.block ≠ row) : RowG w' enc A l := fun hne => by
  obtain ⟨b, off, e, hlt, hc⟩ := h hne
  refine ⟨b, off, e, Nat.lt_of_lt_of_le hlt g.size, fun k hk => ?_⟩
  rw [World.cell?_of_block (w := w) (a := ⟨b, off + k, none⟩) (g.block b hlt (hA hne _ e))]; exact hc k hk
/-- More parts, from a new row. -/
theorem append_parts (W : World) (B : Nat) (v : Value) (xs zs : List Part) (h : OwnS W B v xs) (C : Array Value) (m : Nat) (hm : zs.length = m) (hC : C = (zs.map encS).toArray) (hz : ∀ x ∈ zs, (x.1 = none → x.2.1 = 0) ∧ BRow W x.1 x.2.2 ∧ (x.2.2 ≠ [] → ∀ a, x.1 = some a → some a.block ≠ v.ownBlock))
    (hn : xs.length + m ≤ 1000000000000) (hB : B ≤ W.heap.size) :
    ∃ v' W', (Builtin.append_ #[77, 77] 77 #[v, .slice (some ⟨W.heap.size, 0, none⟩) m m]).run Try.prog (W.alloc (.cells C 30)) = .ok v' W' ∧ OwnS W' B v' (xs ++ zs) ∧ (W.alloc (.cells C 30)).grownBy W' v.ownBlock := by
  have hb0 : Below W.heap.size W (W.alloc (.cells C 30)) := (Below.refl _ _).alloc (Nat.le_refl _) _
  have h2 := h.below hb0
  obtain ⟨v', W', hrun, ho, hg, hv⟩ := append_row parts_elem (W.alloc (.cells C 30)) B v xs h2.1 (some ⟨W.heap.size, 0, none⟩) m m zs hm (fun h => by cases h) (lits W C _ _ zs hC) hn (Nat.le_trans hB (by simp))
  refine ⟨v', W', hrun, ⟨ho, fun x hx => ?_⟩, hg⟩
  have h3 : (x.1 = none → x.2.1 = 0) ∧ BRow W x.1 x.2.2 ∧ (x.2.2 ≠ [] → ∀ a, x.1 = some a → some a.block ≠ v.ownBlock) := by
    rcases List.mem_append.1 hx with hx | hx
    · exact h.2 x hx
    · exact hz x hx
  refine ⟨h3.1, row_grown (RowG.below h3.2.1 hb0) hg h3.2.2, fun hne a ha => ?_⟩
  rcases hv with hv | hv
  · rw [hv]; exact h3.2.2 hne a ha
  · obtain ⟨b, off, e, hlt, _⟩ := h3.2.1 hne
    rw [ha] at e
    cases e
    rw [hv]
    simp
    omega
/-- A literal row of parts. -/
theorem own_lit (w : World) (B : Nat) (C : Array Value) (m : Nat) (zs : List Part) (hm : zs.length = m) (hC : C = (zs.map encS).toArray) (hz : ∀ x ∈ zs, (x.1 = none → x.2.1 = 0) ∧ BRow w x.1 x.2.2) (hB : B ≤ w.heap.size) (hn : m ≤ 1000) : OwnS (w.alloc (.cells C 30)) B (.slice (some ⟨w.heap.size, 0, none⟩) m m) zs := by
  subst hC
  refine ⟨⟨by simp, .inr ⟨w.heap.size, m, (zs.map encS).toArray, by rw [hm], hB, heap_alloc_last w _, by omega, by simp only [maxLen]; omega, by simp [hm], by simp [List.take_of_length_le]⟩⟩, fun x hx => ⟨(hz x hx).1, RowG.below (hz x hx).2 ((Below.refl _ _).alloc (Nat.le_refl _) _), fun hne a ha => ?_⟩⟩
  obtain ⟨b, off, e, hlt, _⟩ := (hz x hx).2 hne
  rw [ha] at e
  cases e
  simp [Value.ownBlock]
  omega
theorem own_lt {w : World} {B : Nat} {v : Value} {xs : List Part} (h : OwnS w B v xs) {a : Addr} (ha : w.heap.size ≤ a.block) : some a.block ≠ v.ownBlock := fun e => by
  have := (World.ownsRow.lt h.1 a.block e.symm).2
  omega
/-- An append of whatever is given, whose run is known, in a walk. -/
theorem wpList_append2_eq {P : Program} {ops : Array Oper} {rest : List Oper} {o : Oper} {a : Act} {Q : Exit → Act → World → Prop} {w w' : World} {v u v' : Value} (hgd : o.guard = none) (s x : Operand) (t t' : TypeId)
    (ho : o.op = .call { callee := .builtin .append, args := #[s, x], argTypes := #[t, t'] }) (hs : a.eval s = v) (hx : a.eval x = u) (hrun : (Builtin.append_ #[t, t'] o.type #[v, u]).run P w = .ok v' w')
    (h : wpList P ops Q rest (a.put o.dst v') w') : wpList P ops Q (o :: rest) a w := by
  refine wpList_plain hgd fun K hK => ?_
  unfold Oper.wp
  simp [execOp, ho, resolve, invoke, builtin, hs, hx, hrun, Result.andThen]
  exact hK _ _ h
/-- .. and in a region that draws its order. -/
theorem step_append2_eq {P : Program} {ops : Array Oper} {o : Oper} {a : Act} {K : Act → World → Prop} {Q : Exit → Act → World → Prop} {X : Prop} {w w' : World} {v u v' : Value} (hgd : o.guard = none) (s x : Operand) (t t' : TypeId)
    (ho : o.op = .call { callee := .builtin .append, args := #[s, x], argTypes := #[t, t'] }) (hs : a.eval s = v) (hx : a.eval x = u) (hrun : (Builtin.append_ #[t, t'] o.type #[v, u]).run P w = .ok v' w')
    (h : K (a.put o.dst v') w') : if Region.wanted o (yielded ops a.tmps) = true then Oper.wp P o a w K Q else X := by
  have hw : Region.wanted o (yielded ops a.tmps) = true := by simp [Region.wanted, hgd]
  rw [if_pos hw]
  unfold Oper.wp
  simp [execOp, ho, resolve, invoke, builtin, hs, hx, hrun, Result.andThen]
  exact h
end Go.Proofs.Ytiebaeahimeedaa.Page
