/-
  The calls at the head of all statements of stage 6.
-/
import Derived.Test.YtdkpnoinccdaiaaQLists
import Derived.Test.YtdkpnoinccdaiaaQTake
import Derived.Test.YtdkpnoinccdaiaaQOf
import Derived.Test.YtdkpnoinccdaiaaQRef1
namespace Go.Proofs.Ytdkpnoinccdaiaa.Pool
open Go.RowKit Gen

/-- A pool in a box that is made for it. -/
theorem put_box (w : World) (v0 v1 v2 : Value) : ∃ Wz W, w.alloc (.cells #[.int .i64 0, .slice none 0 0, .slice none 0 0] 25) = Wz ∧ Wz.cell? ⟨w.heap.size, 0, none⟩ = some (.int .i64 0) ∧ Wz.cell? ⟨w.heap.size, 1, none⟩ = some (.slice none 0 0) ∧ Wz.cell? ⟨w.heap.size, 2, none⟩ = some (.slice none 0 0) ∧
    (∀ j, Wz.frozen? ⟨w.heap.size, j, none⟩ = false) ∧ ((Wz.setCell ⟨w.heap.size, 0, none⟩ v0).setCell ⟨w.heap.size, 1, none⟩ v1).setCell ⟨w.heap.size, 2, none⟩ v2 = W ∧ At W w.heap.size #[v0, v1, v2] ∧ Below w.heap.size w W ∧ w.heap.size < W.heap.size := by
  have hz : At (w.alloc (.cells #[.int .i64 0, .slice none 0 0, .slice none 0 0] 25)) w.heap.size #[.int .i64 0, .slice none 0 0, .slice none 0 0] := po_box w { high := 0 } {}
  have h3 := set3_at hz rfl v0 v1 v2
  exact ⟨_, _, rfl, hz.2.2 0 _ rfl, hz.2.2 1 _ rfl, hz.2.2 2 _ rfl, hz.2.1, rfl, h3, set3_below (below_box w _) (Nat.le_refl _) v0 v1 v2, h3.1⟩
theorem one_at (w : World) (x : Int) : NAt (w.alloc (.cells #[.int .i64 x] 3)) (some ⟨w.heap.size, 0, none⟩) 1 1 [x] :=
  ⟨rfl, Nat.le_refl _, by unfold maxLen; omega, fun e => (by cases e), fun _ => ⟨w.heap.size, 0, rfl, by simp, fun k hk => by
    obtain rfl : k = 0 := by simp at hk; omega
    simp⟩⟩
set_option maxRecDepth 100000 in
set_option maxHeartbeats 16000000 in
theorem awake_any (w : World) : Calls Try.prog 10 #[] w fun e w' => e = .returned (.bool true) ∧ Below w.heap.size w w' := by
  have c1 : Calls Try.prog 12 #[.agg #[.int .i64 2, .slice none 0 0, .slice none 0 0], .int .i64 4] w (fun e w' => ∃ a : La, e = .returned (.tuple #[.agg #[.int .i64 3, .slice a.A1 0 a.c1, .slice a.A2 0 a.c2], .int .i64 2, .int .i64 0]) ∧ PoAt w' { high := 3 } a ∧ Below w.heap.size w w') := take_any { high := 2 } {} 4 w ⟨NAt.none w, NAt.none w⟩ (Nat.zero_le _) (Nat.zero_le _) (by decide) (by decide)
  go_enter Try.func10, Try.ntmps10
  go_wp2_with fail
  refine c1.mono ?_
  rintro e w1 ⟨ap, rfl, hp, hb⟩
  clear c1
  have BB := Lib.hid hb
  have PP := Lib.hid hp
  clear hp hb
  obtain ⟨Wz, W1, z1, r0, r1, r2, fz, s1, at1, bl1, lt1⟩ := put_box w1 (.int .i64 3) (.slice ap.A1 0 ap.c1) (.slice ap.A2 0 ap.c2)
  replace BB := Lib.hid (BB.out.trans (bl1.mono BB.out.size))
  replace PP := Lib.hid (PP.out.below bl1)
  have AP := Lib.hid (show At W1 w1.heap.size (poC { high := 3 } ap) from at1)
  clear at1
  have c2 : Calls Try.prog 12 #[.agg #[.int .i64 4, .slice none 0 0, .slice none 0 0], .int .i64 4] W1 (fun e w' => ∃ a : La, e = .returned (.tuple #[.agg #[.int .i64 0, .slice a.A1 0 a.c1, .slice a.A2 0 a.c2], .int .i64 0, .int .i64 60]) ∧ PoAt w' { high := 0 } a ∧ Below W1.heap.size W1 w') := take_any { high := 4 } {} 4 W1 ⟨NAt.none W1, NAt.none W1⟩ (Nat.zero_le _) (Nat.zero_le _) (by decide) (by decide)
  go_wp2_with fail
  clear z1 r0 r1 r2 fz s1 bl1 lt1
  refine c2.mono ?_
  rintro e w2 ⟨a2, rfl, -, hb⟩
  clear c2
  replace BB := Lib.hid (BB.out.trans (hb.mono BB.out.size))
  replace PP := Lib.hid (PP.out.below hb)
  replace AP := Lib.hid (AP.out.below hb AP.out.1)
  clear hb
  obtain ⟨Wz, W2, z1, r0, r1, r2, fz, s1, at1, bl1, lt1⟩ := put_box w2 (.int .i64 0) (.slice a2.A1 0 a2.c1) (.slice a2.A2 0 a2.c2)
  replace BB := Lib.hid (BB.out.trans (bl1.mono BB.out.size))
  replace PP := Lib.hid (PP.out.below bl1)
  replace AP := Lib.hid (AP.out.below bl1 AP.out.1)
  have A2 := Lib.hid (show At W2 w2.heap.size (poC { high := 0 } a2) from at1)
  clear at1
  clear A2
  have hb4 := below_box W2 (.cells #[.int .i64 4] 3)
  have c3 : Calls Try.prog 14 #[.agg #[.int .i64 9, .slice (some ⟨W2.heap.size, 0, none⟩) 1 1, .slice none 0 0], .int .i64 3] (W2.alloc (.cells #[.int .i64 4] 3)) (fun e w' => ∃ a : La, e = .returned (.tuple #[.agg #[.int .i64 9, .slice a.A1 1 a.c1, .slice a.A2 1 a.c2], .int .i64 0]) ∧ PoAt w' { high := 9, free := [4], limbo := [3] } a ∧ Below (W2.alloc (.cells #[.int .i64 4] 3)).heap.size (W2.alloc (.cells #[.int .i64 4] 3)) w') := give_any { high := 9, free := [4] } { A1 := some ⟨W2.heap.size, 0, none⟩, c1 := 1 } 3 _ ⟨one_at W2 4, NAt.none _⟩ (by show 1 ≤ 100000; omega) (Nat.zero_le _)
  go_wp2_with fail
  clear z1 r0 r1 r2 fz s1 bl1 lt1
  refine c3.mono ?_
  rintro e w3 ⟨ag, rfl, hg, hb⟩
  clear c3
  replace BB := Lib.hid (BB.out.trans ((hb4.trans (hb.mono hb4.size)).mono BB.out.size))
  replace PP := Lib.hid (PP.out.below (hb4.trans (hb.mono hb4.size)))
  replace AP := Lib.hid (AP.out.below (hb4.trans (hb.mono hb4.size)) AP.out.1)
  have PG := Lib.hid hg
  clear hb hb4 hg
  obtain ⟨Wz, W3, z1, r0, r1, r2, fz, s1, at1, bl1, lt1⟩ := put_box w3 (.int .i64 9) (.slice ag.A1 1 ag.c1) (.slice ag.A2 1 ag.c2)
  replace BB := Lib.hid (BB.out.trans (bl1.mono BB.out.size))
  replace PP := Lib.hid (PP.out.below bl1)
  replace AP := Lib.hid (AP.out.below bl1 AP.out.1)
  replace PG := Lib.hid (PG.out.below bl1)
  have AG := Lib.hid (show At W3 w3.heap.size (poC { high := 9, free := [4], limbo := [3] } ag) from at1)
  clear at1
  have c4 : Calls Try.prog 19 #[.agg #[.int .i64 9, .slice ag.A1 1 ag.c1, .slice ag.A2 1 ag.c2]] W3 (fun e w' => ∃ a : La, e = .returned (.agg #[.int .i64 9, .slice a.A1 2 a.c1, .slice a.A2 0 a.c2]) ∧ PoAt w' { high := 9, free := [3, 4] } a ∧ Below W3.heap.size W3 w') := (turn_any { high := 9, free := [4], limbo := [3] } ag W3 PG.out (by show 1 ≤ 100000; omega) (by show 1 ≤ 100000; omega)).mono (fun e w' ⟨a, h1, h2, h3, _⟩ => ⟨a, h1, h2, h3⟩)
  have x0 : W3.cell? ⟨w3.heap.size, 0, none⟩ = some (.int .i64 9) := AG.out.2.2 0 _ rfl
  have x1 : W3.cell? ⟨w3.heap.size, 1, none⟩ = some (.slice ag.A1 1 ag.c1) := AG.out.2.2 1 _ rfl
  have x2 : W3.cell? ⟨w3.heap.size, 2, none⟩ = some (.slice ag.A2 1 ag.c2) := AG.out.2.2 2 _ rfl
  go_wp2_with fail
  clear z1 r0 r1 r2 fz s1 bl1 lt1
  clear x0 x1 x2
  refine c4.mono ?_
  rintro e w4 ⟨at4, rfl, ht, hb⟩
  clear c4
  replace BB := Lib.hid (BB.out.trans (hb.mono BB.out.size))
  replace PP := Lib.hid (PP.out.below hb)
  replace AP := Lib.hid (AP.out.below hb AP.out.1)
  replace PG := Lib.hid (PG.out.below hb)
  replace AG := Lib.hid (AG.out.below hb AG.out.1)
  have PT := Lib.hid ht
  clear hb ht
  obtain ⟨Wz, W4, z1, r0, r1, r2, fz, s1, at1, bl1, lt1⟩ := put_box w4 (.int .i64 9) (.slice at4.A1 2 at4.c1) (.slice at4.A2 0 at4.c2)
  replace BB := Lib.hid (BB.out.trans (bl1.mono BB.out.size))
  replace PP := Lib.hid (PP.out.below bl1)
  replace AP := Lib.hid (AP.out.below bl1 AP.out.1)
  replace PG := Lib.hid (PG.out.below bl1)
  replace AG := Lib.hid (AG.out.below bl1 AG.out.1)
  replace PT := Lib.hid (PT.out.below bl1)
  have AT := Lib.hid (show At W4 w4.heap.size (poC { high := 9, free := [3, 4] } at4) from at1)
  clear at1
  have c5 : Calls Try.prog 16 #[.agg #[.int .i64 3, .slice ap.A1 0 ap.c1, .slice ap.A2 0 ap.c2], .int .i64 2] W4 (fun e w' => ∃ a : La, e = .returned (.tuple #[.agg #[.int .i64 3, .slice a.A1 1 a.c1, .slice a.A2 0 a.c2], .int .i64 0]) ∧ PoAt w' { high := 3, free := [2] } a ∧ Below W4.heap.size W4 w') := back_any { high := 3 } ap 2 W4 PP.out (Nat.zero_le _) (Nat.zero_le _)
  have x0 : W4.cell? ⟨w1.heap.size, 0, none⟩ = some (.int .i64 3) := AP.out.2.2 0 _ rfl
  have x1 : W4.cell? ⟨w1.heap.size, 1, none⟩ = some (.slice ap.A1 0 ap.c1) := AP.out.2.2 1 _ rfl
  have x2 : W4.cell? ⟨w1.heap.size, 2, none⟩ = some (.slice ap.A2 0 ap.c2) := AP.out.2.2 2 _ rfl
  go_wp2_with fail
  clear z1 r0 r1 r2 fz s1 bl1 lt1
  clear x0 x1 x2
  refine c5.mono ?_
  rintro e w5 ⟨ab, rfl, -, hb⟩
  clear c5
  replace BB := Lib.hid (BB.out.trans (hb.mono BB.out.size))
  replace PP := Lib.hid (PP.out.below hb)
  replace AP := Lib.hid (AP.out.below hb AP.out.1)
  replace PG := Lib.hid (PG.out.below hb)
  replace AG := Lib.hid (AG.out.below hb AG.out.1)
  replace PT := Lib.hid (PT.out.below hb)
  replace AT := Lib.hid (AT.out.below hb AT.out.1)
  clear hb
  obtain ⟨Wz, W5, z1, r0, r1, r2, fz, s1, at1, bl1, lt1⟩ := put_box w5 (.int .i64 3) (.slice ab.A1 1 ab.c1) (.slice ab.A2 0 ab.c2)
  replace BB := Lib.hid (BB.out.trans (bl1.mono BB.out.size))
  replace PP := Lib.hid (PP.out.below bl1)
  replace AP := Lib.hid (AP.out.below bl1 AP.out.1)
  replace PG := Lib.hid (PG.out.below bl1)
  replace AG := Lib.hid (AG.out.below bl1 AG.out.1)
  replace PT := Lib.hid (PT.out.below bl1)
  replace AT := Lib.hid (AT.out.below bl1 AT.out.1)
  have AB := Lib.hid (show At W5 w5.heap.size (poC { high := 3, free := [2] } ab) from at1)
  clear at1
  have c6 : Calls Try.prog 26 #[.agg #[.int .i64 9, .slice ag.A1 1 ag.c1, .slice ag.A2 1 ag.c2]] W5 (ListsR [[3, 4]] W5) := lists_any { high := 9, free := [4], limbo := [3] } ag W5 PG.out (by show 1 ≤ 100000; omega) (by show 1 ≤ 100000; omega)
  have x0 : W5.cell? ⟨w3.heap.size, 0, none⟩ = some (.int .i64 9) := AG.out.2.2 0 _ rfl
  have x1 : W5.cell? ⟨w3.heap.size, 1, none⟩ = some (.slice ag.A1 1 ag.c1) := AG.out.2.2 1 _ rfl
  have x2 : W5.cell? ⟨w3.heap.size, 2, none⟩ = some (.slice ag.A2 1 ag.c2) := AG.out.2.2 2 _ rfl
  go_wp2_with fail
  clear z1 r0 r1 r2 fz s1 bl1 lt1
  clear x0 x1 x2
  refine c6.mono ?_
  rintro e w6 ⟨v6, xs, rfl, ho, hpi, hxs, hb⟩
  clear c6
  replace BB := Lib.hid (BB.out.trans (hb.mono BB.out.size))
  replace PP := Lib.hid (PP.out.below hb)
  replace AP := Lib.hid (AP.out.below hb AP.out.1)
  replace PG := Lib.hid (PG.out.below hb)
  replace AG := Lib.hid (AG.out.below hb AG.out.1)
  replace PT := Lib.hid (PT.out.below hb)
  replace AT := Lib.hid (AT.out.below hb AT.out.1)
  replace AB := Lib.hid (AB.out.below hb AB.out.1)
  obtain ⟨A6, k6, rfl, -, -, -, hR6⟩ := OwnG.row ho
  have hall : allOf xs = [3, 4] := by rw [allOf, List.flatMap_def, hxs]; rfl
  have hxl : xs.length = 1 := by have := congrArg List.length hxs; simpa using this
  have c7 : Calls Try.prog 23 #[.int .i64 9, .slice A6 xs.length k6] w6 (fun e w' => ∃ a : La, e = .returned (.tuple #[.agg #[.int .i64 9, .slice a.A1 2 a.c1, .slice a.A2 0 a.c2], .int .i64 0]) ∧ PoAt w' { high := 9, free := [3, 4] } a ∧ Below w6.heap.size w6 w') := by
    have := of_any 9 A6 xs.length k6 xs w6 rfl (by omega) hR6 hpi (by rw [hall]; simp)
    rw [hall] at this
    exact this
  rw [hxl] at c7 ⊢
  clear ho hpi hxs hb hR6 hall hxl
  go_wp2_with fail
  refine c7.mono ?_
  rintro e w7 ⟨ao, rfl, hpo, hb⟩
  clear c7
  replace BB := Lib.hid (BB.out.trans (hb.mono BB.out.size))
  replace PP := Lib.hid (PP.out.below hb)
  replace AP := Lib.hid (AP.out.below hb AP.out.1)
  replace PG := Lib.hid (PG.out.below hb)
  replace AG := Lib.hid (AG.out.below hb AG.out.1)
  replace PT := Lib.hid (PT.out.below hb)
  replace AT := Lib.hid (AT.out.below hb AT.out.1)
  replace AB := Lib.hid (AB.out.below hb AB.out.1)
  have PO := Lib.hid hpo
  clear hb hpo
  obtain ⟨Wz, W7, z1, r0, r1, r2, fz, s1, at1, bl1, lt1⟩ := put_box w7 (.int .i64 9) (.slice ao.A1 2 ao.c1) (.slice ao.A2 0 ao.c2)
  replace BB := Lib.hid (BB.out.trans (bl1.mono BB.out.size))
  replace PP := Lib.hid (PP.out.below bl1)
  replace AP := Lib.hid (AP.out.below bl1 AP.out.1)
  replace PG := Lib.hid (PG.out.below bl1)
  replace AG := Lib.hid (AG.out.below bl1 AG.out.1)
  replace PT := Lib.hid (PT.out.below bl1)
  replace AT := Lib.hid (AT.out.below bl1 AT.out.1)
  replace AB := Lib.hid (AB.out.below bl1 AB.out.1)
  replace PO := Lib.hid (PO.out.below bl1)
  have AO := Lib.hid (show At W7 w7.heap.size (poC { high := 9, free := [3, 4] } ao) from at1)
  clear at1
  have c8 : Calls Try.prog 18 #[.agg #[.int .i64 9, .slice ao.A1 2 ao.c1, .slice ao.A2 0 ao.c2], .agg #[.int .i64 9, .slice at4.A1 2 at4.c1, .slice at4.A2 0 at4.c2]] W7 (Tells ((⟨9, [3, 4], []⟩ : Po) = ⟨9, [3, 4], []⟩) W7) := rSame_any { high := 9, free := [3, 4] } { high := 9, free := [3, 4] } ao at4 W7 PO.out PT.out
  have x0 : W7.cell? ⟨w7.heap.size, 0, none⟩ = some (.int .i64 9) := AO.out.2.2 0 _ rfl
  have x1 : W7.cell? ⟨w7.heap.size, 1, none⟩ = some (.slice ao.A1 2 ao.c1) := AO.out.2.2 1 _ rfl
  have x2 : W7.cell? ⟨w7.heap.size, 2, none⟩ = some (.slice ao.A2 0 ao.c2) := AO.out.2.2 2 _ rfl
  have y0 : W7.cell? ⟨w4.heap.size, 0, none⟩ = some (.int .i64 9) := AT.out.2.2 0 _ rfl
  have y1 : W7.cell? ⟨w4.heap.size, 1, none⟩ = some (.slice at4.A1 2 at4.c1) := AT.out.2.2 1 _ rfl
  have y2 : W7.cell? ⟨w4.heap.size, 2, none⟩ = some (.slice at4.A2 0 at4.c2) := AT.out.2.2 2 _ rfl
  go_wp2_with fail
  clear z1 r0 r1 r2 fz s1 bl1 lt1
  clear x0 x1 x2 y0 y1 y2
  refine c8.mono ?_
  rintro e w8 ⟨r, rfl, hr, hb⟩
  clear c8
  replace BB := Lib.hid (BB.out.trans (hb.mono BB.out.size))
  replace PP := Lib.hid (PP.out.below hb)
  replace AP := Lib.hid (AP.out.below hb AP.out.1)
  replace PG := Lib.hid (PG.out.below hb)
  replace AG := Lib.hid (AG.out.below hb AG.out.1)
  replace PT := Lib.hid (PT.out.below hb)
  replace AT := Lib.hid (AT.out.below hb AT.out.1)
  replace AB := Lib.hid (AB.out.below hb AB.out.1)
  replace PO := Lib.hid (PO.out.below hb)
  replace AO := Lib.hid (AO.out.below hb AO.out.1)
  obtain rfl : r = true := by first | exact hr.2 rfl | exact hr.2 trivial
  clear hr hb
  obtain ⟨b3, o3, hA3, -, hc3⟩ := PT.out.f.row (by simp)
  have z3 : w8.cell? ⟨b3, o3, none⟩ = some (.int .i64 3) := hc3 0 (by simp)
  have c9 : Calls Try.prog 21 #[.agg #[.int .i64 9, .slice at4.A1 2 at4.c1, .slice at4.A2 0 at4.c2], .int .i64 9] w8 (fun e w' => e = .returned (.int .i64 0) ∧ Below w8.heap.size w8 w') := check_any { high := 9, free := [3, 4] } at4 9 w8 PT.out (by show 2 ≤ 100000; omega) (Nat.zero_le _)
  rw [hA3] at c9
  have x0 : w8.cell? ⟨w1.heap.size, 0, none⟩ = some (.int .i64 3) := AP.out.2.2 0 _ rfl
  have x2 : w8.cell? ⟨w3.heap.size, 2, none⟩ = some (.slice ag.A2 1 ag.c2) := AG.out.2.2 2 _ rfl
  have x1 : w8.cell? ⟨w5.heap.size, 1, none⟩ = some (.slice ab.A1 1 ab.c1) := AB.out.2.2 1 _ rfl
  have y0 : w8.cell? ⟨w4.heap.size, 0, none⟩ = some (.int .i64 9) := AT.out.2.2 0 _ rfl
  have y1 : w8.cell? ⟨w4.heap.size, 1, none⟩ = some (.slice (some ⟨b3, o3, none⟩) 2 at4.c1) := by rw [← hA3]; exact AT.out.2.2 1 _ rfl
  have y2 : w8.cell? ⟨w4.heap.size, 2, none⟩ = some (.slice at4.A2 0 at4.c2) := AT.out.2.2 2 _ rfl
  clear hc3 hA3 AP AG AB AT AO PP PG PO PT
  go_wp2_with fail
  refine c9.mono ?_
  rintro e w9 ⟨rfl, hb⟩
  clear c9
  replace BB := Lib.hid (BB.out.trans (hb.mono BB.out.size))
  clear hb x0 x1 x2 y0 y1 y2 z3
  have c10 : Calls Try.prog 21 #[.agg #[.int .i64 0, .slice none 0 0, .slice none 0 0], .int .i64 9] w9 (fun e w' => e = .returned (.int .i64 61) ∧ Below w9.heap.size w9 w') := check_any { high := 0 } {} 9 w9 (none_at w9) (Nat.zero_le _) (Nat.zero_le _)
  go_wp2_with fail
  refine c10.mono ?_
  rintro e w10 ⟨rfl, hb⟩
  clear c10
  replace BB := Lib.hid (BB.out.trans (hb.mono BB.out.size))
  clear hb
  go_wp2_with fail
  go_ret
  exact ⟨rfl, BB.out⟩
end Go.Proofs.Ytdkpnoinccdaiaa.Pool
