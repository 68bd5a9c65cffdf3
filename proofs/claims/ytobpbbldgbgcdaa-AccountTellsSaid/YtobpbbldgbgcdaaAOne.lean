/-
  Contracts of ownerOf, short, named, may; of the closure that knows an owner's account.
-/
import Derived.Test.YtobpbbldgbgcdaaAKit
import Derived.Test.YtobpbbldgbgcdaaAWho
import Derived.Sort.Grow
import Derived.Deep.RegionHeld3
namespace Go.Proofs.Ytobpbbldgbgcdaa.Acc
open Go.RowKit Go.Sort

def worldB : Bs := [119, 111, 114, 108, 100]
/-- An owner's cells. -/
abbrev encO (o : Own) : Array Value := #[strV o.1, strV o.2]
theorem size_own : (Try.prog.info? 56).map (·.size) = some 2 := by kernel_rfl
theorem put_own (W : World) (X Y : ByteArray) : (Instr.storeAt 56 (.pointer (some ⟨W.heap.size, 0, none⟩)) (.agg #[.string X, .string Y])).run Try.prog (W.alloc (.cells #[.string ⟨#[]⟩, .string ⟨#[]⟩] 56)) = .ok () (W.alloc (.cells #[.string X, .string Y] 56)) :=
  run_storeAt_new W 56 #[.string ⟨#[]⟩, .string ⟨#[]⟩] #[.string X, .string Y] size_own rfl (by simp [Value.oneCell'])
set_option maxRecDepth 100000 in
theorem ownerOf_any (x : Ac) (w : World) : Calls Try.prog 35 #[.agg (encA x).toArray] w (fun e w' => e = .returned (.agg (encO x.own)) ∧ Below w.heap.size w w') := by
  unfold encA encO Ac.own strV
  generalize strB x.who = X
  generalize strB x.asset = Y
  have b1 := below_box w (.cells #[.string X, .string Y, .int .i64 x.bal, .int .i64 x.held] 35)
  obtain ⟨W1, hW1⟩ : ∃ W1, w.alloc (.cells #[.string X, .string Y, .int .i64 x.bal, .int .i64 x.held] 35) = W1 := ⟨_, rfl⟩
  have c0 : (W1.alloc (.cells #[.string ⟨#[]⟩, .string ⟨#[]⟩] 56)).cell? ⟨w.heap.size, 0, none⟩ = some (.string X) := by rw [← hW1]; simp [go_sem]
  have c1 : (W1.alloc (.cells #[.string ⟨#[]⟩, .string ⟨#[]⟩] 56)).cell? ⟨w.heap.size, 1, none⟩ = some (.string Y) := by rw [← hW1]; simp [go_sem]
  rw [hW1] at b1
  have P1 := Lib.hid (put_own W1 X Y)
  have B2 := Lib.hid (b1.trans ((below_box W1 (.cells #[.string X, .string Y] 56)).mono b1.size))
  have L := Lib.hid (var_at (o := 0) (c := #[.string X, .string Y]) (at_new W1 #[.string X, .string Y] 56) Try.underlying56 rfl size_own rfl)
  have SZ : W1.heap.size = w.heap.size + 1 := by rw [← hW1]; simp
  rw [SZ] at L
  clear b1
  go_enter Try.func35, Try.ntmps35
  go_wp2_with (first | ((with_reducible refine wpList_store_eq rfl 56 (.tmp 2) (.tmp 7) rfl _ _ ?_ ?_ P1.out ?_); (next => rfl); (next => rfl)))
  (try simp only [Exit.inBlock, Exit.then])
  refine bodyPost_ret (results_c rfl rfl L.out) rfl ?_
  exact ⟨rfl, B2.out⟩
/-- Only blocks have come. -/
def Grw (w W : World) : Prop := ∃ q os, W = grow (w.drewN q) os
theorem Grw.below {w W : World} (h : Grw w W) : Below w.heap.size w W := by
  obtain ⟨q, os, rfl⟩ := h
  exact ⟨rfl, rfl, rfl, by simp, fun k hk => heap_grow_old _ _ (by simpa using hk)⟩
theorem Grw.box (w : World) (o : Obj) : Grw w (w.alloc o) := ⟨0, #[o], by rw [alloc_eq_grow]; rfl⟩
theorem Grw.trans {a b c : World} (h : Grw a b) (k : Grw b c) : Grw a c := by
  obtain ⟨q, os, rfl⟩ := h
  obtain ⟨p, ot, rfl⟩ := k
  refine ⟨q + p, os ++ ot, ?_⟩
  rw [show (grow (a.drewN q) os).drewN p = grow ((a.drewN q).drewN p) os from rfl, grow_grow, World.drewN_drewN]
def shortA (x : Ac) : Bool := !(x.who == worldB) && decide (x.bal < x.held)
set_option maxRecDepth 100000 in
theorem short_any (x : Ac) (w : World) : Calls Try.prog 50 #[.agg (encA x).toArray] w (fun e w' => e = .returned (.bool (shortA x)) ∧ Grw w w') := by
  have h1 : ((strB x.who).toList == [119, 111, 114, 108, 100]) = (x.who == worldB) := by rw [strB_list]; rfl
  have hs : shortA x = (!(x.who == worldB) && decide (x.bal < x.held)) := rfl
  unfold encA
  generalize shortA x = r at *
  obtain ⟨X, hX⟩ : ∃ X, strB x.who = X := ⟨_, rfl⟩
  rw [show strV x.who = .string X by rw [← hX]]
  rw [hX] at h1
  generalize strV x.asset = a2
  generalize x.bal = b at *
  generalize x.held = h at *
  rcases e : (x.who == worldB) with _ | _
  all_goals
    rw [e] at h1 hs
    have HS := Lib.hid hs
    have B1 := Lib.hid (Grw.box w (.cells #[.string X, a2, .int .i64 b, .int .i64 h] 35))
    clear hs e hX
    go_enter Try.func50, Try.ntmps50
    go_wp2_with fail
    go_ret
    exact ⟨by rw [HS.out]; rfl, B1.out⟩
/-- Both are names. -/
def namedB (who asset : Bs) : Bool := Label.whoS who && Label.madeB Label.capB 6 asset
set_option maxRecDepth 100000 in
theorem named_any (who asset : Bs) (w : World) (h1 : who.length ≤ 200000000000000) (h2 : asset.length ≤ 200000000000000) : Calls Try.prog 31 #[strV who, strV asset] w (fun e w' => e = .returned (.bool (namedB who asset)) ∧ w = w') := by
  have c1 := Label.who_any (strB who) w (by rw [strB_size]; omega)
  have c2 := Label.asset_any (strB asset) w (by rw [strB_size]; omega)
  rw [strB_data] at c1 c2
  have hb : namedB who asset = (Label.whoS who && Label.madeB Label.capB 6 asset) := rfl
  generalize namedB who asset = r at *
  generalize Label.whoS who = r1 at *
  generalize Label.madeB Label.capB 6 asset = r2 at *
  unfold strV
  generalize strB who = X at *
  generalize strB asset = Y at *
  rcases r1 with _ | _
  all_goals
    have HB := Lib.hid hb
    clear hb
    go_enter Try.func31, Try.ntmps31
    go_wp2_with (first
      | (go_at_call 55; refine c1.mono ?_; rintro e w' ⟨rfl, rfl⟩)
      | (go_at_call 56; refine c2.mono ?_; rintro e w' ⟨rfl, rfl⟩))
    go_ret
    exact ⟨by rw [HB.out]; rfl, rfl⟩
/-- An account may be, by itself. -/
def mayA (x : Ac) : Bool := namedB x.who x.asset && !(x.bal == 0) && !decide (x.held < 0) && !shortA x && (!(x.who == worldB) || x.held == 0)
set_option maxRecDepth 100000 in
set_option maxHeartbeats 2000000 in
theorem may_any (x : Ac) (w : World) (g1 : x.who.length ≤ 200000000000000) (g2 : x.asset.length ≤ 200000000000000) : Calls Try.prog 26 #[.agg (encA x).toArray] w (fun e w' => e = .returned (.bool (mayA x)) ∧ Grw w w') := by
  have h1 : ((strB x.who).toList == [119, 111, 114, 108, 100]) = (x.who == worldB) := by rw [strB_list]; rfl
  have hs : mayA x = (namedB x.who x.asset && !(x.bal == 0) && !decide (x.held < 0) && !shortA x && (!(x.who == worldB) || x.held == 0)) := rfl
  have b1 := Grw.box w (.cells (encA x).toArray 35)
  have a1 := at_new w (encA x).toArray 35
  obtain ⟨W1, hW1⟩ : ∃ W1, w.alloc (.cells (encA x).toArray 35) = W1 := ⟨_, rfl⟩
  rw [hW1] at b1 a1
  have cN := named_any x.who x.asset W1 g1 g2
  have cS := short_any x W1
  have CE := Lib.hid (show ∀ W, Grw W1 W → W.cell? ⟨w.heap.size, 0, none⟩ = some (strV x.who) ∧ W.cell? ⟨w.heap.size, 1, none⟩ = some (strV x.asset) ∧ W.cell? ⟨w.heap.size, 2, none⟩ = some (.int .i64 x.bal) ∧ W.cell? ⟨w.heap.size, 3, none⟩ = some (.int .i64 x.held) from fun W hb => by
    have a := a1.below hb.below a1.1
    exact ⟨a.2.2 0 _ rfl, a.2.2 1 _ rfl, a.2.2 2 _ rfl, a.2.2 3 _ rfl⟩)
  have B1 := Lib.hid b1
  unfold encA at cS hW1 ⊢
  generalize mayA x = r at *
  generalize namedB x.who x.asset = rn at *
  generalize shortA x = rs at *
  generalize x.bal = b at *
  generalize x.held = h at *
  unfold strV at *
  generalize strB x.asset = Y at *
  generalize strB x.who = X at *
  obtain ⟨k0, k1, k2, k3⟩ := CE.out W1 ⟨0, #[], by simp; rfl⟩
  have h0 : b = 0 ∨ (b == 0) = false := by by_cases e : b = 0; exact .inl e; exact .inr (beq_eq_false_iff_ne.2 e)
  have h3 : h = 0 ∨ (h == 0) = false := by by_cases e : h = 0; exact .inl e; exact .inr (beq_eq_false_iff_ne.2 e)
  have HS := Lib.hid hs
  clear hs b1 a1
  have fin : ∀ (W : World) (q : Bool), q = r → Grw w W → (Ending.returned (.bool q) = Ending.returned (.bool r) ∧ Grw w W) := fun W q e b => ⟨by rw [e], b⟩
  have FIN := Lib.hid fin
  clear fin
  rcases rn with _ | _
  · clear cS h0 h3 h1 CE
    go_enter Try.func26, Try.ntmps26
    go_wp2_with (go_at_call 31; refine cN.mono ?_; rintro e w' ⟨rfl, rfl⟩)
    go_ret
    exact FIN.out _ _ (by rw [HS.out]; simp) B1.out
  rcases h0 with rfl | h0
  · clear cS h3 h1 CE
    go_enter Try.func26, Try.ntmps26
    go_wp2_with (go_at_call 31; refine cN.mono ?_; rintro e w' ⟨rfl, rfl⟩)
    go_ret
    exact FIN.out _ _ (by rw [HS.out]; simp) B1.out
  by_cases hn : h < 0
  · clear cS h3 h1 CE
    go_enter Try.func26, Try.ntmps26
    go_wp2_with (go_at_call 31; refine cN.mono ?_; rintro e w' ⟨rfl, rfl⟩)
    go_ret
    exact FIN.out _ _ (by rw [HS.out]; simp [hn]) B1.out
  have HN := Lib.hid hn
  rcases rs with _ | _
  rotate_left
  · clear h3 h1 CE
    go_enter Try.func26, Try.ntmps26
    go_wp2_with (first
      | (go_at_call 31; refine cN.mono ?_; rintro e w' ⟨rfl, rfl⟩)
      | (go_at_call 50; refine cS.mono ?_; rintro e w2 ⟨rfl, b2⟩))
    go_ret
    exact FIN.out _ _ (by rw [HS.out]; simp) (B1.out.trans b2)
  rcases e : (x.who == worldB) with _ | _
  · rw [e] at h1 HS
    clear h3 e
    go_enter Try.func26, Try.ntmps26
    go_wp2_with (first
      | (go_at_call 31; refine cN.mono ?_; rintro e w' ⟨rfl, rfl⟩)
      | (go_at_call 50; refine cS.mono ?_; rintro e w2 ⟨rfl, b2⟩; (have B2 := Lib.hid b2); clear b2; obtain ⟨j0, j1, j2, j3⟩ := CE.out w2 B2.out; clear CE))
    go_ret
    exact FIN.out _ _ (by rw [HS.out, h0]; simp; have := HN.out; omega) (B1.out.trans B2.out)
  rw [e] at h1 HS
  rcases h3 with rfl | h3
  all_goals
    clear e
    go_enter Try.func26, Try.ntmps26
    go_wp2_with (first
      | (go_at_call 31; refine cN.mono ?_; rintro e w' ⟨rfl, rfl⟩)
      | (go_at_call 50; refine cS.mono ?_; rintro e w2 ⟨rfl, b2⟩; (have B2 := Lib.hid b2); clear b2; obtain ⟨j0, j1, j2, j3⟩ := CE.out w2 B2.out; clear CE))
    go_ret
    exact FIN.out _ _ (by rw [HS.out, h0]; simp; try (have := HN.out; simp at *; omega)) (B1.out.trans B2.out)
end Go.Proofs.Ytobpbbldgbgcdaa.Acc
