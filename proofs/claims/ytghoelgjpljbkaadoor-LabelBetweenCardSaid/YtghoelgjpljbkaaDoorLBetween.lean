/-
  The statement LabelBetween: for every space, parts, part and other parts the call returns true, and the arguments read as before. Conditions: none but the card's own (the library's listed variables hold what the program's text lays).
-/
import Derived.Test.YtghoelgjpljbkaaDoorLRow
import Derived.Test.YtghoelgjpljbkaaDoorLBetweenWalk
namespace Go.Proofs.YtghoelgjpljbkaaDoor
open Go.ChangeShapes Go.WideShapes Go.ChangeAt Go.WideMaps Go.WideElems Go.RowKit Label Gen

set_option maxRecDepth 100000 in
theorem labelBetween_lifted (os : Os) (started : os.Started) (H : Type) (enc : TypeId × Value → H) :
    ReturnsInHanded {} Tryd.checked os 8 .any (fun w args => (Rows.labelBetweenSpec.pre enc Tryd.prog Tryd.f8 [] false w args ∧ laidMetH Tryd.prog listed w) ∧ sizedMet enc Tryd.prog Tryd.f8 (OpenSpec.ofChange Rows.labelBetweenSpec) false w args)
      (Rows.labelBetweenSpec.post enc Tryd.prog Tryd.f8 false true false false) := by
  refine law_lifted (X := fun w => laidMetH Tryd.prog listed w) (fun _ _ hh h => h.of_heap hh) started (by kernel_rfl) Tryd.func8 rfl (fun t ht => by
    rw [Tryd.params8] at ht
    have hall : (([5, 31, 9, 31] : List Nat).all fun u => Tryd.prog.readableRec u && decide (u < Tryd.prog.types.size)) = true := by kernel_rfl
    simpa using List.all_eq_true.1 hall t ht) (by kernel_rfl)
    (ChangeSpec.witness_shaped (enc := enc) (C := Tryd.checked) (os := os) (X := fun w _ => laidMetH Tryd.prog listed w) false (World.laidAll Tryd.prog os listed) #[.int .u8 0, .slice none 0 0, .string ⟨#[]⟩, .slice none 0 0] 8 (World.laidAll_os _ _ _) (World.shaped_of_ZipB (by kernel_rfl) (by kernel_rfl)) (by kernel_rfl) (by kernel_rfl) (by kernel_rfl) (door_met os _)) ?_
  intro W base args ds p hval0 hA0 hL hsh
  have hval : ∀ (j : Nat) t v, Tryd.f8.params[j]? = some t → args[j]? = some v → Value.okWide Tryd.prog W .any base t v := hval0
  have hA : DataW.TrodAll enc Tryd.prog W 0 (fun _ => true) true Tryd.f8.params.toList args.toList ds p := hA0
  rw [Tryd.params8] at hA hval
  obtain ⟨v0, vs0, d0, ds0, p0, q0, hargs, rfl, rfl, h0, r0⟩ := trodAll_cons hA
  obtain ⟨v1, vs1, d1, ds1, p1, q1, rfl, rfl, rfl, h1, r1⟩ := trodAll_cons r0
  obtain ⟨v2, vs2, d2, ds2, p2, q2, rfl, rfl, rfl, h2, r2⟩ := trodAll_cons r1
  obtain ⟨v3, vs3, d3, ds3, p3, q3, rfl, rfl, rfl, h3, r3⟩ := trodAll_cons r2
  obtain ⟨rfl, rfl, rfl⟩ := trodAll_nil r3
  obtain rfl : args = #[v0, v1, v2, v3] := by cases args; simp_all
  obtain ⟨i0, rfl, rfl, rfl, w0⟩ := open_int Tryd.underlying5 (hval 0 5 v0 rfl rfl) h0
  have b0 := bounds_u8 w0
  obtain ⟨c0, rfl⟩ : ∃ c : UInt8, i0 = (c.toNat : Int) := ⟨UInt8.ofNat i0.toNat, by rw [UInt8.toNat_ofNat']; omega⟩
  obtain ⟨A1, n1, k1, l1, rfl, z1, y1, x1, nl1, rw1, am1⟩ := open_texts (hval 1 31 v1 rfl rfl) h1
  obtain ⟨s2, rfl, rfl, rfl, w2⟩ := Go.ChangeMaps.open_string Tryd.underlying9 (hval 2 9 v2 rfl rfl) h2
  obtain ⟨A3, n3, k3, l3, rfl, z3, y3, x3, nl3, rw3, am3⟩ := open_texts (hval 3 31 v3 rfl rfl) h3
  unfold maxLen at *
  exact ⟨⟨rfl, rfl, rfl⟩, between_walk c0 A1 n1 k1 l1 s2 A3 n3 k3 l3 W z1 (by omega) nl1 am1 rw1 w2 z3 (by omega) y3 am3 rw3 (ready_of hL hsh)⟩

set_option maxRecDepth 100000 in
theorem labelBetween_said : Rows.LabelBetweenSaid :=
  OpenClaim.holds_of_wide 8 Tryd.f8 rfl rfl rfl rfl rfl rfl rfl ⟨rfl, rfl, rfl, rfl, rfl⟩ rfl rfl rfl rfl rfl (by kernel_rfl) Tryd.func8 (by kernel_rfl)
    (of_decide_eq_true (by kernel_rfl)) (by unfold Func.isWrapper; first | (rw [if_pos (by decide +kernel)]; kernel_rfl) | (rw [if_neg (by decide +kernel)]; exact ⟨rfl, rfl⟩))
    (fun os started H enc _ => labelBetween_lifted os started H enc)

theorem labelBetween_plain (f : FuncId) (fn : Func) (hf : Tryd.pinned.checked.prog.funcNamed Rows.labelBetweenRow.func = some f) (hfn : Tryd.pinned.checked.prog.funcs[f]? = some fn) :
    true = Tryd.pinned.checked.prog.looks [] ∧ ∀ (j : Nat) t, fn.params[j]? = some t → Tryd.pinned.checked.prog.wantsStandIn t = false := by
  obtain rfl : f = 8 := Option.some.inj ((show Tryd.prog.funcNamed Rows.labelBetweenRow.func = some 8 by kernel_rfl).symm.trans hf) |>.symm
  obtain rfl : fn = Tryd.f8 := (Option.some.inj (Tryd.func8.symm.trans hfn)).symm
  refine ⟨by kernel_rfl, fun j t ht => ?_⟩
  rw [Tryd.params8] at ht
  have hm := Array.mem_of_getElem? ht
  have hall : (([5, 31, 9, 31] : List Nat).all fun u => !Tryd.prog.wantsStandIn u) = true := by kernel_rfl
  exact (show Tryd.prog.wantsStandIn t = false by simpa using List.all_eq_true.1 hall t (by simpa using hm))

theorem labelBetween_holds : Rows.LabelBetweenCardSaid :=
  Claim7.holds_tied_plain_at .later [] _ _ _ _ labelBetween_said (fun _ h => by cases h) (by kernel_rfl) (fun _ h => by cases h) labelBetween_row_tie rfl ⟨rfl, rfl⟩ (by kernel_rfl) rfl labelBetween_plain (by kernel_rfl)
end Go.Proofs.YtghoelgjpljbkaaDoor
