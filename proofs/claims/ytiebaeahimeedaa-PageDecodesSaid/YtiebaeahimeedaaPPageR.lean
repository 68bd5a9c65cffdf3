/-
  Contract of the reader's page.
-/
import Derived.Test.YtiebaeahimeedaaPBranchR
namespace Go.Proofs.Ytiebaeahimeedaa.Page
open Go.RowKit Gen

def rBody (k : Nat) (v : Bs) : Option (Pg × Bs) := if k = 1 then rLeaf v else if k = 2 then rBranch v else if k = 3 then rFree v else if k = 4 then rSuper v else none
def rPage (u : Bs) : Option (Pg × Bs) := (rWide 1 u).bind fun a => if 2 ≤ a.2.length then rBody a.1 (a.2.drop 2) else none
theorem PRow.apart {w w' : World} {A : Option Addr} {l : List (Bs × Bs)} {row : Option Nat} (h : PRow w A l) (g : w.grownBy w' row) (hA : ∀ a, A = some a → some a.block ≠ row) : PRow w' A l := fun hne => by
  obtain ⟨b, off, e, hlt, hc⟩ := h hne
  have hb := g.block b hlt (hA _ e)
  refine ⟨b, off, e, Nat.lt_of_lt_of_le hlt g.size, fun j hj => ⟨?_, ?_⟩⟩
  · rw [World.cell?_of_block (w := w) (a := ⟨b, off + j * 2, none⟩) hb]; exact (hc j hj).1
  · rw [World.cell?_of_block (w := w) (a := ⟨b, off + j * 2 + 1, none⟩) hb]; exact (hc j hj).2
theorem PgRows.apart {w w' : World} {p : Pg} {a : Lay} {b n : Nat} (h : PgRows w p a) (g : w.grownBy w' (some b)) (hn : New a n) (hb : b < n) : PgRows w' p a :=
  ⟨h.r1.apart g (fun x e => by have := hn.n1 x e; simp; omega), row_grown h.r2 g (fun _ x e => by have := hn.n2 x e; simp; omega), row_grown h.r3 g (fun _ x e => by have := hn.n3 x e; simp; omega), row_grown h.r4 g (fun _ x e => by have := hn.n4 x e; simp; omega)⟩
theorem New.mono {a : Lay} {m n : Nat} (h : New a n) (hm : m ≤ n) : New a m := ⟨fun x e => Nat.le_trans hm (h.n1 x e), fun x e => Nat.le_trans hm (h.n2 x e), fun x e => Nat.le_trans hm (h.n3 x e), fun x e => Nat.le_trans hm (h.n4 x e)⟩
theorem wide1_any (rb : Nat) (u : Bs) (w : World) (h : Rd w rb u) : Calls Try.prog 66 #[ptr rb, .int .i64 1] w (Reads (rWide 1 u) (fun n : Nat => .int .u64 (n : Int)) rb w) := wide_any rb 1 u w h (by omega)
theorem wide8_any (rb : Nat) (u : Bs) (w : World) (h : Rd w rb u) : Calls Try.prog 66 #[ptr rb, .int .i64 8] w (Reads (rWide 8 u) (fun n : Nat => .int .u64 (n : Int)) rb w) := wide_any rb 8 u w h (by omega)
theorem take2_ok (rb : Nat) (u : Bs) (w : World) (h : Rd w rb u) (hk : 2 ≤ u.length) : Calls Try.prog 70 #[ptr rb, .int .i64 2] w (Takes 2 u rb w) := take_ok rb 2 u w h hk
theorem take2_bad (rb : Nat) (u : Bs) (w : World) (h : Rd w rb u) (hk : u.length < 2) : Calls Try.prog 70 #[ptr rb, .int .i64 2] w fun e w' => e = gaveUp ∧ w.grownBy w' (some rb) := take_bad rb 2 u w h hk
set_option maxRecDepth 100000 in
set_option maxHeartbeats 8000000 in
theorem page_read (rb : Nat) (u0 : Bs) (w : World) (h : Rd w rb u0) : Calls Try.prog 65 #[ptr rb] w (PReads (rPage u0) rb w) := by
  have hlt := h.lt
  have b0 : Below w.heap.size w (w.alloc (.cells (pC 0) 28)) := (Below.refl _ _).alloc (Nat.le_refl _) _
  have G0 := Lib.hid (grown_alloc (rb := rb) (World.grownBy.refl w (some rb)) (.cells (pC 0) 28))
  have AR0 := Lib.hid (show At (w.alloc (.cells (pC 0) 28)) w.heap.size (pC 0) from At.of_block (heap_alloc_last w _))
  have LT := Lib.hid hlt
  have cF := wide1_any rb u0 _ (h.below b0)
  have SZ := Lib.hid (show w.heap.size < (w.alloc (.cells (pC 0) 28)).heap.size by simp)
  clear b0 h hlt
  unfold pC pgC at *
  rcases hr0 : rWide 1 u0 with _ | ⟨k, u1⟩
  · rw [hr0] at cF
    have Z0 := Lib.hid hr0
    clear hr0
    go_enter Try.func65, Try.ntmps65
    go_wp2_with fail
    refine cF.mono ?_
    rintro e w1 ⟨hg, rfl⟩
    exact ⟨rfl, preads_none (by simp [rPage, Z0.out]) (G0.out.trans hg)⟩
  rw [hr0] at cF
  have E0 := Lib.hid hr0
  clear hr0
  go_enter Try.func65, Try.ntmps65
  go_wp2_with fail
  refine cF.mono ?_
  rintro e w1 ⟨hg, rfl, hr⟩
  have G1 := Lib.hid (G0.out.trans hg)
  have AR1 := Lib.hid (AR0.out.grown hg (by have := LT.out; omega))
  have SZ1 := Lib.hid (Nat.lt_of_lt_of_le SZ.out hg.size)
  by_cases h2 : 2 ≤ u1.length
  rotate_left
  · have cT := take2_bad rb u1 w1 hr (by omega)
    have Z1 : Hid (rPage u0 = none) := Lib.hid (by simp [rPage, E0.out, h2])
    clear hg hr cF h2
    go_wp2_with fail
    refine cT.mono ?_
    rintro e w2 ⟨rfl, hg⟩
    exact ⟨rfl, preads_none Z1.out (G1.out.trans hg)⟩
  have cT := take2_ok rb u1 w1 hr h2
  have Z1 : Hid (rPage u0 = rBody k (u1.drop 2)) := Lib.hid (by simp [rPage, E0.out, h2])
  clear hg hr cF h2 E0 AR0 G0 SZ
  unfold Takes at cT
  generalize u1.drop 2 = u2 at *
  go_wp2_with fail
  refine cT.mono ?_
  rintro e w2 ⟨A, c, rfl, -, hr, hg⟩
  have G2 := Lib.hid (G1.out.trans hg)
  have AR2 := Lib.hid (AR1.out.grown hg (by have := LT.out; omega))
  have SZ2 := Lib.hid (Nat.lt_of_lt_of_le SZ1.out hg.size)
  have RD := Lib.hid hr
  clear hg hr cT AR1 G1 SZ1
  by_cases hk1 : k = 1
  · have b1 : ((k : Int) == 1) = true := by subst hk1; rfl
    have Z2 : Hid (rPage u0 = rLeaf u2) := Lib.hid (by rw [Z1.out]; simp [rBody, hk1])
    have cB := leaf_read rb u2 w2 RD.out
    clear hk1 RD Z1
    rcases hr1 : rLeaf u2 with _ | ⟨p, v⟩
    · rw [hr1] at cB
      have Z3 := Lib.hid (Z2.out.trans hr1)
      clear hr1
      go_wp2_with fail
      refine cB.mono ?_
      rintro e w3 ⟨hg, rfl⟩
      exact ⟨rfl, preads_none Z3.out (G2.out.trans hg)⟩
    rw [hr1] at cB
    have Z3 := Lib.hid (Z2.out.trans hr1)
    clear hr1
    go_wp2_with fail
    refine cB.mono ?_
    rintro e w3 ⟨hg, a, rfl, hrows, hok, hrd, hnew⟩
    have AR3 := AR2.out.grown hg (by have := LT.out; omega)
    have r0 : w3.cell? ⟨w.heap.size, 0, none⟩ = some (.int .i64 0) := AR3.2.2 0 _ rfl
    have r1 : w3.cell? ⟨w.heap.size, 1, none⟩ = some (.slice none 0 0) := AR3.2.2 1 _ rfl
    have r2 : w3.cell? ⟨w.heap.size, 2, none⟩ = some (.slice none 0 0) := AR3.2.2 2 _ rfl
    have r3 : w3.cell? ⟨w.heap.size, 3, none⟩ = some (.slice none 0 0) := AR3.2.2 3 _ rfl
    have r4 : w3.cell? ⟨w.heap.size, 4, none⟩ = some (.slice none 0 0) := AR3.2.2 4 _ rfl
    have r5 : w3.cell? ⟨w.heap.size, 5, none⟩ = some (.int .i64 0) := AR3.2.2 5 _ rfl
    have r6 : w3.cell? ⟨w.heap.size, 6, none⟩ = some (.int .u64 0) := AR3.2.2 6 _ rfl
    have r7 : w3.cell? ⟨w.heap.size, 7, none⟩ = some (.int .i64 0) := AR3.2.2 7 _ rfl
    have r8 : w3.cell? ⟨w.heap.size, 8, none⟩ = some (.int .i64 0) := AR3.2.2 8 _ rfl
    have r9 : w3.cell? ⟨w.heap.size, 9, none⟩ = some (.int .i64 0) := AR3.2.2 9 _ rfl
    have r10 : w3.cell? ⟨w.heap.size, 10, none⟩ = some (.int .i64 0) := AR3.2.2 10 _ rfl
    have fz : ∀ j, w3.frozen? ⟨w.heap.size, j, none⟩ = false := AR3.2.1
    have HAW := Lib.hid (set11_at AR3 (.int .i64 p.kind) (.slice a.A1 p.pairs.length a.c1) (.slice a.A2 p.keys.length a.c2) (.slice a.A3 p.kids.length a.c3) (.slice a.A4 p.pages.length a.c4) (.int .i64 p.next) (.int .u64 (p.epoch : Int)) (.int .i64 p.root) (.int .i64 p.depth) (.int .i64 p.count) (.int .i64 p.high))
    have HGW := Lib.hid (set11_grown (G2.out.trans hg) (b := w.heap.size) (Nat.le_refl _) (.int .i64 p.kind) (.slice a.A1 p.pairs.length a.c1) (.slice a.A2 p.keys.length a.c2) (.slice a.A3 p.kids.length a.c3) (.slice a.A4 p.pages.length a.c4) (.int .i64 p.next) (.int .u64 (p.epoch : Int)) (.int .i64 p.root) (.int .i64 p.depth) (.int .i64 p.count) (.int .i64 p.high))
    have HRW := Lib.hid (set11_rd hrd LT.out (.int .i64 p.kind) (.slice a.A1 p.pairs.length a.c1) (.slice a.A2 p.keys.length a.c2) (.slice a.A3 p.kids.length a.c3) (.slice a.A4 p.pages.length a.c4) (.int .i64 p.next) (.int .u64 (p.epoch : Int)) (.int .i64 p.root) (.int .i64 p.depth) (.int .i64 p.count) (.int .i64 p.high))
    have HOW := Lib.hid (hrows.apart (set11_only w3 w.heap.size (.int .i64 p.kind) (.slice a.A1 p.pairs.length a.c1) (.slice a.A2 p.keys.length a.c2) (.slice a.A3 p.kids.length a.c3) (.slice a.A4 p.pages.length a.c4) (.int .i64 p.next) (.int .u64 (p.epoch : Int)) (.int .i64 p.root) (.int .i64 p.depth) (.int .i64 p.count) (.int .i64 p.high)) hnew SZ2.out)
    have HOK := Lib.hid hok
    have HNW := Lib.hid (hnew.mono (Nat.le_of_lt SZ2.out))
    clear AR3 hg hrows hok hrd hnew cB
    go_wp2_with fail
    change bodyPost _ _ _ _ _ (set11 w3 w.heap.size (.int .i64 p.kind) (.slice a.A1 p.pairs.length a.c1) (.slice a.A2 p.keys.length a.c2) (.slice a.A3 p.kids.length a.c3) (.slice a.A4 p.pages.length a.c4) (.int .i64 p.next) (.int .u64 (p.epoch : Int)) (.int .i64 p.root) (.int .i64 p.depth) (.int .i64 p.count) (.int .i64 p.high))
    generalize set11 w3 w.heap.size (.int .i64 p.kind) (.slice a.A1 p.pairs.length a.c1) (.slice a.A2 p.keys.length a.c2) (.slice a.A3 p.kids.length a.c3) (.slice a.A4 p.pages.length a.c4) (.int .i64 p.next) (.int .u64 (p.epoch : Int)) (.int .i64 p.root) (.int .i64 p.depth) (.int .i64 p.count) (.int .i64 p.high) = W at *
    clear r0 r1 r2 r3 r4 r5 r6 r7 r8 r9 r10 fz
    have c0 := HAW.out.2.2 0 _ rfl
    have c1 := HAW.out.2.2 1 _ rfl
    have c2 := HAW.out.2.2 2 _ rfl
    have c3 := HAW.out.2.2 3 _ rfl
    have c4 := HAW.out.2.2 4 _ rfl
    have c5 := HAW.out.2.2 5 _ rfl
    have c6 := HAW.out.2.2 6 _ rfl
    have c7 := HAW.out.2.2 7 _ rfl
    have c8 := HAW.out.2.2 8 _ rfl
    have c9 := HAW.out.2.2 9 _ rfl
    have c10 := HAW.out.2.2 10 _ rfl
    refine bodyPost_ret (v := pgV p a) (by simp [results, Try.results65, go_sem, *]) rfl ?_
    exact preads_some a Z3.out HGW.out HOW.out HOK.out HRW.out HNW.out
  have b1 : ((k : Int) == 1) = false := beq_eq_false_iff_ne.2 (by omega)
  by_cases hk2 : k = 2
  · have b2 : ((k : Int) == 2) = true := by subst hk2; rfl
    have Z2 : Hid (rPage u0 = rBranch u2) := Lib.hid (by rw [Z1.out]; simp [rBody, hk2])
    have cB := branch_read rb u2 w2 RD.out
    clear hk2 hk1 RD Z1
    rcases hr1 : rBranch u2 with _ | ⟨p, v⟩
    · rw [hr1] at cB
      have Z3 := Lib.hid (Z2.out.trans hr1)
      clear hr1
      go_wp2_with fail
      refine cB.mono ?_
      rintro e w3 ⟨hg, rfl⟩
      exact ⟨rfl, preads_none Z3.out (G2.out.trans hg)⟩
    rw [hr1] at cB
    have Z3 := Lib.hid (Z2.out.trans hr1)
    clear hr1
    go_wp2_with fail
    refine cB.mono ?_
    rintro e w3 ⟨hg, a, rfl, hrows, hok, hrd, hnew⟩
    have AR3 := AR2.out.grown hg (by have := LT.out; omega)
    have r0 : w3.cell? ⟨w.heap.size, 0, none⟩ = some (.int .i64 0) := AR3.2.2 0 _ rfl
    have r1 : w3.cell? ⟨w.heap.size, 1, none⟩ = some (.slice none 0 0) := AR3.2.2 1 _ rfl
    have r2 : w3.cell? ⟨w.heap.size, 2, none⟩ = some (.slice none 0 0) := AR3.2.2 2 _ rfl
    have r3 : w3.cell? ⟨w.heap.size, 3, none⟩ = some (.slice none 0 0) := AR3.2.2 3 _ rfl
    have r4 : w3.cell? ⟨w.heap.size, 4, none⟩ = some (.slice none 0 0) := AR3.2.2 4 _ rfl
    have r5 : w3.cell? ⟨w.heap.size, 5, none⟩ = some (.int .i64 0) := AR3.2.2 5 _ rfl
    have r6 : w3.cell? ⟨w.heap.size, 6, none⟩ = some (.int .u64 0) := AR3.2.2 6 _ rfl
    have r7 : w3.cell? ⟨w.heap.size, 7, none⟩ = some (.int .i64 0) := AR3.2.2 7 _ rfl
    have r8 : w3.cell? ⟨w.heap.size, 8, none⟩ = some (.int .i64 0) := AR3.2.2 8 _ rfl
    have r9 : w3.cell? ⟨w.heap.size, 9, none⟩ = some (.int .i64 0) := AR3.2.2 9 _ rfl
    have r10 : w3.cell? ⟨w.heap.size, 10, none⟩ = some (.int .i64 0) := AR3.2.2 10 _ rfl
    have fz : ∀ j, w3.frozen? ⟨w.heap.size, j, none⟩ = false := AR3.2.1
    have HAW := Lib.hid (set11_at AR3 (.int .i64 p.kind) (.slice a.A1 p.pairs.length a.c1) (.slice a.A2 p.keys.length a.c2) (.slice a.A3 p.kids.length a.c3) (.slice a.A4 p.pages.length a.c4) (.int .i64 p.next) (.int .u64 (p.epoch : Int)) (.int .i64 p.root) (.int .i64 p.depth) (.int .i64 p.count) (.int .i64 p.high))
    have HGW := Lib.hid (set11_grown (G2.out.trans hg) (b := w.heap.size) (Nat.le_refl _) (.int .i64 p.kind) (.slice a.A1 p.pairs.length a.c1) (.slice a.A2 p.keys.length a.c2) (.slice a.A3 p.kids.length a.c3) (.slice a.A4 p.pages.length a.c4) (.int .i64 p.next) (.int .u64 (p.epoch : Int)) (.int .i64 p.root) (.int .i64 p.depth) (.int .i64 p.count) (.int .i64 p.high))
    have HRW := Lib.hid (set11_rd hrd LT.out (.int .i64 p.kind) (.slice a.A1 p.pairs.length a.c1) (.slice a.A2 p.keys.length a.c2) (.slice a.A3 p.kids.length a.c3) (.slice a.A4 p.pages.length a.c4) (.int .i64 p.next) (.int .u64 (p.epoch : Int)) (.int .i64 p.root) (.int .i64 p.depth) (.int .i64 p.count) (.int .i64 p.high))
    have HOW := Lib.hid (hrows.apart (set11_only w3 w.heap.size (.int .i64 p.kind) (.slice a.A1 p.pairs.length a.c1) (.slice a.A2 p.keys.length a.c2) (.slice a.A3 p.kids.length a.c3) (.slice a.A4 p.pages.length a.c4) (.int .i64 p.next) (.int .u64 (p.epoch : Int)) (.int .i64 p.root) (.int .i64 p.depth) (.int .i64 p.count) (.int .i64 p.high)) hnew SZ2.out)
    have HOK := Lib.hid hok
    have HNW := Lib.hid (hnew.mono (Nat.le_of_lt SZ2.out))
    clear AR3 hg hrows hok hrd hnew cB
    go_wp2_with fail
    change bodyPost _ _ _ _ _ (set11 w3 w.heap.size (.int .i64 p.kind) (.slice a.A1 p.pairs.length a.c1) (.slice a.A2 p.keys.length a.c2) (.slice a.A3 p.kids.length a.c3) (.slice a.A4 p.pages.length a.c4) (.int .i64 p.next) (.int .u64 (p.epoch : Int)) (.int .i64 p.root) (.int .i64 p.depth) (.int .i64 p.count) (.int .i64 p.high))
    generalize set11 w3 w.heap.size (.int .i64 p.kind) (.slice a.A1 p.pairs.length a.c1) (.slice a.A2 p.keys.length a.c2) (.slice a.A3 p.kids.length a.c3) (.slice a.A4 p.pages.length a.c4) (.int .i64 p.next) (.int .u64 (p.epoch : Int)) (.int .i64 p.root) (.int .i64 p.depth) (.int .i64 p.count) (.int .i64 p.high) = W at *
    clear r0 r1 r2 r3 r4 r5 r6 r7 r8 r9 r10 fz
    have c0 := HAW.out.2.2 0 _ rfl
    have c1 := HAW.out.2.2 1 _ rfl
    have c2 := HAW.out.2.2 2 _ rfl
    have c3 := HAW.out.2.2 3 _ rfl
    have c4 := HAW.out.2.2 4 _ rfl
    have c5 := HAW.out.2.2 5 _ rfl
    have c6 := HAW.out.2.2 6 _ rfl
    have c7 := HAW.out.2.2 7 _ rfl
    have c8 := HAW.out.2.2 8 _ rfl
    have c9 := HAW.out.2.2 9 _ rfl
    have c10 := HAW.out.2.2 10 _ rfl
    refine bodyPost_ret (v := pgV p a) (by simp [results, Try.results65, go_sem, *]) rfl ?_
    exact preads_some a Z3.out HGW.out HOW.out HOK.out HRW.out HNW.out
  have b2 : ((k : Int) == 2) = false := beq_eq_false_iff_ne.2 (by omega)
  by_cases hk3 : k = 3
  · have b3 : ((k : Int) == 3) = true := by subst hk3; rfl
    have Z2 : Hid (rPage u0 = rFree u2) := Lib.hid (by rw [Z1.out]; simp [rBody, hk3])
    have cB := free_read rb u2 w2 RD.out
    clear hk3 hk1 hk2 RD Z1
    rcases hr1 : rFree u2 with _ | ⟨p, v⟩
    · rw [hr1] at cB
      have Z3 := Lib.hid (Z2.out.trans hr1)
      clear hr1
      go_wp2_with fail
      refine cB.mono ?_
      rintro e w3 ⟨hg, rfl⟩
      exact ⟨rfl, preads_none Z3.out (G2.out.trans hg)⟩
    rw [hr1] at cB
    have Z3 := Lib.hid (Z2.out.trans hr1)
    clear hr1
    go_wp2_with fail
    refine cB.mono ?_
    rintro e w3 ⟨hg, a, rfl, hrows, hok, hrd, hnew⟩
    have AR3 := AR2.out.grown hg (by have := LT.out; omega)
    have r0 : w3.cell? ⟨w.heap.size, 0, none⟩ = some (.int .i64 0) := AR3.2.2 0 _ rfl
    have r1 : w3.cell? ⟨w.heap.size, 1, none⟩ = some (.slice none 0 0) := AR3.2.2 1 _ rfl
    have r2 : w3.cell? ⟨w.heap.size, 2, none⟩ = some (.slice none 0 0) := AR3.2.2 2 _ rfl
    have r3 : w3.cell? ⟨w.heap.size, 3, none⟩ = some (.slice none 0 0) := AR3.2.2 3 _ rfl
    have r4 : w3.cell? ⟨w.heap.size, 4, none⟩ = some (.slice none 0 0) := AR3.2.2 4 _ rfl
    have r5 : w3.cell? ⟨w.heap.size, 5, none⟩ = some (.int .i64 0) := AR3.2.2 5 _ rfl
    have r6 : w3.cell? ⟨w.heap.size, 6, none⟩ = some (.int .u64 0) := AR3.2.2 6 _ rfl
    have r7 : w3.cell? ⟨w.heap.size, 7, none⟩ = some (.int .i64 0) := AR3.2.2 7 _ rfl
    have r8 : w3.cell? ⟨w.heap.size, 8, none⟩ = some (.int .i64 0) := AR3.2.2 8 _ rfl
    have r9 : w3.cell? ⟨w.heap.size, 9, none⟩ = some (.int .i64 0) := AR3.2.2 9 _ rfl
    have r10 : w3.cell? ⟨w.heap.size, 10, none⟩ = some (.int .i64 0) := AR3.2.2 10 _ rfl
    have fz : ∀ j, w3.frozen? ⟨w.heap.size, j, none⟩ = false := AR3.2.1
    have HAW := Lib.hid (set11_at AR3 (.int .i64 p.kind) (.slice a.A1 p.pairs.length a.c1) (.slice a.A2 p.keys.length a.c2) (.slice a.A3 p.kids.length a.c3) (.slice a.A4 p.pages.length a.c4) (.int .i64 p.next) (.int .u64 (p.epoch : Int)) (.int .i64 p.root) (.int .i64 p.depth) (.int .i64 p.count) (.int .i64 p.high))
    have HGW := Lib.hid (set11_grown (G2.out.trans hg) (b := w.heap.size) (Nat.le_refl _) (.int .i64 p.kind) (.slice a.A1 p.pairs.length a.c1) (.slice a.A2 p.keys.length a.c2) (.slice a.A3 p.kids.length a.c3) (.slice a.A4 p.pages.length a.c4) (.int .i64 p.next) (.int .u64 (p.epoch : Int)) (.int .i64 p.root) (.int .i64 p.depth) (.int .i64 p.count) (.int .i64 p.high))
    have HRW := Lib.hid (set11_rd hrd LT.out (.int .i64 p.kind) (.slice a.A1 p.pairs.length a.c1) (.slice a.A2 p.keys.length a.c2) (.slice a.A3 p.kids.length a.c3) (.slice a.A4 p.pages.length a.c4) (.int .i64 p.next) (.int .u64 (p.epoch : Int)) (.int .i64 p.root) (.int .i64 p.depth) (.int .i64 p.count) (.int .i64 p.high))
    have HOW := Lib.hid (hrows.apart (set11_only w3 w.heap.size (.int .i64 p.kind) (.slice a.A1 p.pairs.length a.c1) (.slice a.A2 p.keys.length a.c2) (.slice a.A3 p.kids.length a.c3) (.slice a.A4 p.pages.length a.c4) (.int .i64 p.next) (.int .u64 (p.epoch : Int)) (.int .i64 p.root) (.int .i64 p.depth) (.int .i64 p.count) (.int .i64 p.high)) hnew SZ2.out)
    have HOK := Lib.hid hok
    have HNW := Lib.hid (hnew.mono (Nat.le_of_lt SZ2.out))
    clear AR3 hg hrows hok hrd hnew cB
    go_wp2_with fail
    change bodyPost _ _ _ _ _ (set11 w3 w.heap.size (.int .i64 p.kind) (.slice a.A1 p.pairs.length a.c1) (.slice a.A2 p.keys.length a.c2) (.slice a.A3 p.kids.length a.c3) (.slice a.A4 p.pages.length a.c4) (.int .i64 p.next) (.int .u64 (p.epoch : Int)) (.int .i64 p.root) (.int .i64 p.depth) (.int .i64 p.count) (.int .i64 p.high))
    generalize set11 w3 w.heap.size (.int .i64 p.kind) (.slice a.A1 p.pairs.length a.c1) (.slice a.A2 p.keys.length a.c2) (.slice a.A3 p.kids.length a.c3) (.slice a.A4 p.pages.length a.c4) (.int .i64 p.next) (.int .u64 (p.epoch : Int)) (.int .i64 p.root) (.int .i64 p.depth) (.int .i64 p.count) (.int .i64 p.high) = W at *
    clear r0 r1 r2 r3 r4 r5 r6 r7 r8 r9 r10 fz
    have c0 := HAW.out.2.2 0 _ rfl
    have c1 := HAW.out.2.2 1 _ rfl
    have c2 := HAW.out.2.2 2 _ rfl
    have c3 := HAW.out.2.2 3 _ rfl
    have c4 := HAW.out.2.2 4 _ rfl
    have c5 := HAW.out.2.2 5 _ rfl
    have c6 := HAW.out.2.2 6 _ rfl
    have c7 := HAW.out.2.2 7 _ rfl
    have c8 := HAW.out.2.2 8 _ rfl
    have c9 := HAW.out.2.2 9 _ rfl
    have c10 := HAW.out.2.2 10 _ rfl
    refine bodyPost_ret (v := pgV p a) (by simp [results, Try.results65, go_sem, *]) rfl ?_
    exact preads_some a Z3.out HGW.out HOW.out HOK.out HRW.out HNW.out
  have b3 : ((k : Int) == 3) = false := beq_eq_false_iff_ne.2 (by omega)
  by_cases hk4 : k = 4
  · have b4 : ((k : Int) == 4) = true := by subst hk4; rfl
    have Z2 : Hid (rPage u0 = rSuper u2) := Lib.hid (by rw [Z1.out]; simp [rBody, hk4])
    have cB := super_read rb u2 w2 RD.out
    clear hk4 hk1 hk2 hk3 RD Z1
    rcases hr1 : rSuper u2 with _ | ⟨p, v⟩
    · rw [hr1] at cB
      have Z3 := Lib.hid (Z2.out.trans hr1)
      clear hr1
      go_wp2_with fail
      refine cB.mono ?_
      rintro e w3 ⟨hg, rfl⟩
      exact ⟨rfl, preads_none Z3.out (G2.out.trans hg)⟩
    rw [hr1] at cB
    have Z3 := Lib.hid (Z2.out.trans hr1)
    clear hr1
    go_wp2_with fail
    refine cB.mono ?_
    rintro e w3 ⟨hg, a, rfl, hrows, hok, hrd, hnew⟩
    have AR3 := AR2.out.grown hg (by have := LT.out; omega)
    have r0 : w3.cell? ⟨w.heap.size, 0, none⟩ = some (.int .i64 0) := AR3.2.2 0 _ rfl
    have r1 : w3.cell? ⟨w.heap.size, 1, none⟩ = some (.slice none 0 0) := AR3.2.2 1 _ rfl
    have r2 : w3.cell? ⟨w.heap.size, 2, none⟩ = some (.slice none 0 0) := AR3.2.2 2 _ rfl
    have r3 : w3.cell? ⟨w.heap.size, 3, none⟩ = some (.slice none 0 0) := AR3.2.2 3 _ rfl
    have r4 : w3.cell? ⟨w.heap.size, 4, none⟩ = some (.slice none 0 0) := AR3.2.2 4 _ rfl
    have r5 : w3.cell? ⟨w.heap.size, 5, none⟩ = some (.int .i64 0) := AR3.2.2 5 _ rfl
    have r6 : w3.cell? ⟨w.heap.size, 6, none⟩ = some (.int .u64 0) := AR3.2.2 6 _ rfl
    have r7 : w3.cell? ⟨w.heap.size, 7, none⟩ = some (.int .i64 0) := AR3.2.2 7 _ rfl
    have r8 : w3.cell? ⟨w.heap.size, 8, none⟩ = some (.int .i64 0) := AR3.2.2 8 _ rfl
    have r9 : w3.cell? ⟨w.heap.size, 9, none⟩ = some (.int .i64 0) := AR3.2.2 9 _ rfl
    have r10 : w3.cell? ⟨w.heap.size, 10, none⟩ = some (.int .i64 0) := AR3.2.2 10 _ rfl
    have fz : ∀ j, w3.frozen? ⟨w.heap.size, j, none⟩ = false := AR3.2.1
    have HAW := Lib.hid (set11_at AR3 (.int .i64 p.kind) (.slice a.A1 p.pairs.length a.c1) (.slice a.A2 p.keys.length a.c2) (.slice a.A3 p.kids.length a.c3) (.slice a.A4 p.pages.length a.c4) (.int .i64 p.next) (.int .u64 (p.epoch : Int)) (.int .i64 p.root) (.int .i64 p.depth) (.int .i64 p.count) (.int .i64 p.high))
    have HGW := Lib.hid (set11_grown (G2.out.trans hg) (b := w.heap.size) (Nat.le_refl _) (.int .i64 p.kind) (.slice a.A1 p.pairs.length a.c1) (.slice a.A2 p.keys.length a.c2) (.slice a.A3 p.kids.length a.c3) (.slice a.A4 p.pages.length a.c4) (.int .i64 p.next) (.int .u64 (p.epoch : Int)) (.int .i64 p.root) (.int .i64 p.depth) (.int .i64 p.count) (.int .i64 p.high))
    have HRW := Lib.hid (set11_rd hrd LT.out (.int .i64 p.kind) (.slice a.A1 p.pairs.length a.c1) (.slice a.A2 p.keys.length a.c2) (.slice a.A3 p.kids.length a.c3) (.slice a.A4 p.pages.length a.c4) (.int .i64 p.next) (.int .u64 (p.epoch : Int)) (.int .i64 p.root) (.int .i64 p.depth) (.int .i64 p.count) (.int .i64 p.high))
    have HOW := Lib.hid (hrows.apart (set11_only w3 w.heap.size (.int .i64 p.kind) (.slice a.A1 p.pairs.length a.c1) (.slice a.A2 p.keys.length a.c2) (.slice a.A3 p.kids.length a.c3) (.slice a.A4 p.pages.length a.c4) (.int .i64 p.next) (.int .u64 (p.epoch : Int)) (.int .i64 p.root) (.int .i64 p.depth) (.int .i64 p.count) (.int .i64 p.high)) hnew SZ2.out)
    have HOK := Lib.hid hok
    have HNW := Lib.hid (hnew.mono (Nat.le_of_lt SZ2.out))
    clear AR3 hg hrows hok hrd hnew cB
    go_wp2_with fail
    change bodyPost _ _ _ _ _ (set11 w3 w.heap.size (.int .i64 p.kind) (.slice a.A1 p.pairs.length a.c1) (.slice a.A2 p.keys.length a.c2) (.slice a.A3 p.kids.length a.c3) (.slice a.A4 p.pages.length a.c4) (.int .i64 p.next) (.int .u64 (p.epoch : Int)) (.int .i64 p.root) (.int .i64 p.depth) (.int .i64 p.count) (.int .i64 p.high))
    generalize set11 w3 w.heap.size (.int .i64 p.kind) (.slice a.A1 p.pairs.length a.c1) (.slice a.A2 p.keys.length a.c2) (.slice a.A3 p.kids.length a.c3) (.slice a.A4 p.pages.length a.c4) (.int .i64 p.next) (.int .u64 (p.epoch : Int)) (.int .i64 p.root) (.int .i64 p.depth) (.int .i64 p.count) (.int .i64 p.high) = W at *
    clear r0 r1 r2 r3 r4 r5 r6 r7 r8 r9 r10 fz
    have c0 := HAW.out.2.2 0 _ rfl
    have c1 := HAW.out.2.2 1 _ rfl
    have c2 := HAW.out.2.2 2 _ rfl
    have c3 := HAW.out.2.2 3 _ rfl
    have c4 := HAW.out.2.2 4 _ rfl
    have c5 := HAW.out.2.2 5 _ rfl
    have c6 := HAW.out.2.2 6 _ rfl
    have c7 := HAW.out.2.2 7 _ rfl
    have c8 := HAW.out.2.2 8 _ rfl
    have c9 := HAW.out.2.2 9 _ rfl
    have c10 := HAW.out.2.2 10 _ rfl
    refine bodyPost_ret (v := pgV p a) (by simp [results, Try.results65, go_sem, *]) rfl ?_
    exact preads_some a Z3.out HGW.out HOW.out HOK.out HRW.out HNW.out
  have b4 : ((k : Int) == 4) = false := beq_eq_false_iff_ne.2 (by omega)
  have Z2 : Hid (rPage u0 = none) := Lib.hid (by rw [Z1.out]; simp [rBody, hk1, hk2, hk3, hk4])
  clear hk1 hk2 hk3 hk4
  go_wp2_with fail
  exact ⟨rfl, preads_none Z2.out G2.out⟩
end Go.Proofs.Ytiebaeahimeedaa.Page
