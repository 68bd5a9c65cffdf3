/-
  Contracts of package coin's texts: Text and Parse. What the library's variables must hold stands in 'Ready'.
-/
import Derived.Test.YtgedlmnkkdcejaaDoorWide
import Derived.Test.YtgedlmnkkdcejaaDoorPlain
import Derived.Test.YtgedlmnkkdcejaaDoorShelf
import Derived.Shelf.Strconv.ErrVarParseInt
import Derived.Shelf.Strconv.Itoa4
import Derived.Lib.LaidTab
import Derived.Lib.AtoiErrMem
import Derived.WalkSmall
import Derived.BigQuiet
import Derived.Deep.QuietTactic
namespace Go.Proofs.YtgedlmnkkdcejaaDoor.Coin
open Go.RowKit Go.Lib Go.Shelf

/-- The name of the library's table of tens. -/
def tens : String := (Rows.coinNamesRow.laid.map (·.1)).getD 2 ""
theorem tens_at : Tryd.prog.globalNamed tens = some (Tryd.laysM173_ren.g 17) := Tryd.laysM173.m17

/-- What the walk asks of the library's own variables: its table of tens; and two errors, that are not nil. -/
def Ready (w : World) : Prop :=
  TabIs Tryd.prog w tens .u64 pow10Tab ∧ (∃ tp p, w.var? Tryd.prog "strconv.ErrSyntax" = some #[.iface tp p]) ∧ (∃ tp p, w.var? Tryd.prog "strconv.ErrRange" = some #[.iface tp p])

theorem var_lt {w : World} {n : String} {g : Nat} {cs : Array Value} (hg : Tryd.prog.globalNamed n = some g) (hv : w.var? Tryd.prog n = some cs) : g < w.heap.size := by
  unfold World.var? at hv
  simp only [hg, Option.bind_some] at hv
  rcases Nat.lt_or_ge g w.heap.size with h' | h'
  · exact h'
  · simp [Array.getElem?_eq_none h'] at hv
theorem var_below {w w' : World} {n : String} {g : Nat} {cs : Array Value} (hg : Tryd.prog.globalNamed n = some g) (hv : w.var? Tryd.prog n = some cs) (hb : Below w.heap.size w w') : w'.var? Tryd.prog n = some cs :=
  var?_below hb hg (var_lt hg hv) hv
theorem Ready.below {w w' : World} (h : Ready w) (hb : Below w.heap.size w w') : Ready w' := by
  obtain ⟨h1, ⟨t1, p1, h2⟩, ⟨t2, p2, h3⟩⟩ := h
  exact ⟨var_below tens_at h1 hb, ⟨t1, p1, var_below Tryd.laysC174.m15 h2 hb⟩, ⟨t2, p2, var_below Tryd.laysC174.m16 h3 hb⟩⟩

theorem grow_below (w : World) (k : Nat) (os : Array Obj) : Below w.heap.size w (Sort.grow (w.drewN k) os) := by
  refine ⟨rfl, rfl, rfl, ?_, ?_⟩
  · simp [Sort.grow]
  · intro j hj
    simp [Sort.grow, Array.getElem?_append, hj]

/-- Text. -/
theorem text_any (n : Int) (w : World) (h0 : -9223372036854775808 ≤ n) (h1 : n ≤ 9223372036854775807) (hr : Ready w) :
    Calls Tryd.prog 22 #[.int .i64 n] w fun e w' => e = .returned (.string ⟨(itoa n).toArray⟩) ∧ Below w.heap.size w w' := by
  have hF : Calls Tryd.prog 31 #[.int .i64 n, .int .i64 10] w fun e w' => e = .returned (.string ⟨(itoa n).toArray⟩) ∧ ∃ k os, w' = Sort.grow (w.drewN k) os := Any.strconv_FormatInt_10 Tryd.laysM173 n h0 h1 w hr.1
  clear hr
  go_enter Tryd.func22, Tryd.ntmps22
  go_wp2_with (go_at_call 31; refine hF.mono ?_; rintro e w' ⟨rfl, k, os, rfl⟩)
  go_ret
  exact ⟨rfl, grow_below w k os⟩

theorem parse_ok_any (s : ByteArray) (v : Int) (w : World) (hs : s.size ≤ 281474976710656) (h : parseIntB 64 s.data.toList = .ok v) :
    Calls Tryd.prog 30 #[.string s, .int .i64 10, .int .i64 64] w fun e w' => e = .returned (.tuple #[.int .i64 v, .nilIface]) ∧ Below w.heap.size w w' := by
  have hP : Calls Tryd.prog 30 #[.string s, .int .i64 10, .int .i64 64] w fun e w' => e = .returned (.tuple #[.int .i64 v, .nilIface]) ∧ (w' = w ∨ ∃ t, w' = Lib.bytesWorld w (Tryd.laysC174_ren.t 5) t) := Any.strconv_ParseInt_10_at64_ok Tryd.laysC174 s (by omega) v h w
  refine hP.mono ?_
  rintro e w' ⟨rfl, rfl | ⟨t, rfl⟩⟩
  · exact ⟨rfl, Below.refl _ _⟩
  · exact ⟨rfl, bytesWorld_below _ _ _⟩

theorem parse_err_any (s : ByteArray) (w : World) (hs : s.size ≤ 281474976710656) (h : ∀ v, parseIntB 64 s.data.toList ≠ .ok v) (hr : Ready w) :
    Calls Tryd.prog 30 #[.string s, .int .i64 10, .int .i64 64] w fun e w' => ∃ (n : Int) (t : TypeId) (p : Value), e = .returned (.tuple #[.int .i64 n, .iface t p]) ∧ Below w.heap.size w w' := by
  obtain ⟨h1, ⟨t1, p1, h2⟩, ⟨t2, p2, h3⟩⟩ := hr
  cases hq : parseIntB 64 s.data.toList with
  | ok v => exact absurd hq (h v)
  | _ =>
    first
    | exact (Any.strconv_ParseInt_10_at64_syntax_var Tryd.laysC174 s hs hq t1 p1 w h2).mono fun e w' ⟨N, he, _, _, hb⟩ => ⟨_, _, _, he, hb⟩
    | exact (Any.strconv_ParseInt_10_at64_range_var Tryd.laysC174 s hs hq t2 p2 w h3).mono fun e w' ⟨N, he, _, _, hb⟩ => ⟨_, _, _, he, hb⟩

/-- Parse at an amount's numeral. -/
theorem parse_yes (s : ByteArray) (v : Int) (w : World) (h0 : -9223372036854775808 ≤ v) (h1 : v ≤ 9223372036854775807) (hv : s.data.toList = itoa v) (hr : Ready w) :
    Calls Tryd.prog 20 #[.string s] w fun e w' => e = .returned (.tuple #[.int .i64 v, .int .i64 0]) ∧ Below w.heap.size w w' := by
  have hl := itoa_len v h0 h1
  obtain rfl : s = ⟨(itoa v).toArray⟩ := by cases s; simp at hv; rw [← hv]
  have hsz : (⟨(itoa v).toArray⟩ : ByteArray).size = (itoa v).length := by simp [ByteArray.size]
  have hP := parse_ok_any ⟨(itoa v).toArray⟩ v w (by omega) (by rw [hv]; exact parse_itoa v h0 h1)
  clear hv hsz hl
  go_enter Tryd.func20, Tryd.ntmps20
  go_wp2_with (go_at_call 30; refine hP.mono ?_; rintro e w1 ⟨rfl, hb1⟩)
  refine (text_any v w1 h0 h1 (hr.below hb1)).mono ?_
  rintro e w2 ⟨rfl, hb2⟩
  go_wp2
  go_ret2
  exact ⟨rfl, hb1.trans (hb2.mono hb1.size)⟩

/-- Parse at any other text. -/
theorem parse_no (s : ByteArray) (w : World) (hs : s.size ≤ 281474976710656) (hn : ∀ v, -9223372036854775808 ≤ v → v ≤ 9223372036854775807 → s.data.toList ≠ itoa v) (hr : Ready w) :
    Calls Tryd.prog 20 #[.string s] w fun e w' => e = .returned (.tuple #[.int .i64 0, .int .i64 11]) ∧ Below w.heap.size w w' := by
  by_cases h : ∃ v, parseIntB 64 s.data.toList = .ok v
  · obtain ⟨v, h⟩ := h
    obtain ⟨h0, h1⟩ := parse_bd h
    have hne : ((itoa v).toArray.toList == s.toList) = false := by
      have := hn v h0 h1
      simp only [beq_eq_false_iff_ne]
      intro e; apply this; rw [← ByteArray.toList_eq]; simpa using e.symm
    have hP := parse_ok_any s v w hs h
    clear hn h hs
    go_enter Tryd.func20, Tryd.ntmps20
    go_wp2_with (go_at_call 30; refine hP.mono ?_; rintro e w1 ⟨rfl, hb1⟩)
    refine (text_any v w1 h0 h1 (hr.below hb1)).mono ?_
    rintro e w2 ⟨rfl, hb2⟩
    go_wp2
    go_ret2
    exact ⟨rfl, hb1.trans (hb2.mono hb1.size)⟩
  · have hP := parse_err_any s w hs (fun v hv => h ⟨v, hv⟩) hr
    clear hn h hs
    go_enter Tryd.func20, Tryd.ntmps20
    go_wp2_with (go_at_call 30; refine hP.mono ?_; rintro e w1 ⟨n, t, p, rfl, hb1⟩)
    go_ret2
    exact ⟨rfl, hb1⟩
end Go.Proofs.YtgedlmnkkdcejaaDoor.Coin
