/-
  Contract of the document's Same.
-/
import Derived.Test.YtiebaeahimeedaaPSame1
namespace Go.Proofs.Ytiebaeahimeedaa.Page
open Go.RowKit Gen

theorem At.drewn {w w' : World} {b : Nat} {C : Array Value} (h : At w b C) (d : Drew w w') : At w' b C := h.below (d.below w.heap.size) h.1
theorem pg_ext {p q : Pg} (h1 : p.pairs = q.pairs) (h2 : p.keys = q.keys) (h3 : p.kids = q.kids) (h4 : p.pages = q.pages) (g0 : p.kind = q.kind) (g5 : p.next = q.next) (g6 : p.epoch = q.epoch) (g7 : p.root = q.root) (g8 : p.depth = q.depth) (g9 : p.count = q.count) (g10 : p.high = q.high) : p = q := by
  obtain ⟨⟩ := p
  obtain ⟨⟩ := q
  simp_all
set_option maxRecDepth 100000 in
set_option maxHeartbeats 8000000 in
theorem same_any (p q : Pg) (a b : Lay) (w : World) (hp : PgOk p) (hr : PgRows w p a) (hs : PgRows w q b) : Calls Try.prog 18 #[pgV p a, pgV q b] w (Tells (p = q) w) := by
  have b1 : Below w.heap.size w (w.alloc (.cells (pgC p a) 28)) := (Below.refl _ _).alloc (Nat.le_refl _) _
  have b2 := b1.alloc b1.size (.cells (pgC q b) 28)
  have s1 : (w.alloc (.cells (pgC p a) 28)).heap.size = w.heap.size + 1 := by simp
  have hA : At ((w.alloc (.cells (pgC p a) 28)).alloc (.cells (pgC q b) 28)) w.heap.size (pgC p a) := (pg_box w p a).below ((Below.refl _ _).alloc (Nat.le_refl _) _) (by simp)
  have hB : At ((w.alloc (.cells (pgC p a) 28)).alloc (.cells (pgC q b) 28)) (w.heap.size + 1) (pgC q b) := by
    have := pg_box (w.alloc (.cells (pgC p a) 28)) q b
    rwa [s1] at this
  have c1 := pairs_any a.A1 b.A1 p.pairs.length a.c1 q.pairs.length b.c1 p.pairs q.pairs _ rfl rfl hp.pairs (hr.below b2).r1 (hs.below b2).r1
  have C2 := Lib.hid (fun W (d : Drew ((w.alloc (.cells (pgC p a) 28)).alloc (.cells (pgC q b) 28)) W) => ints_any a.A3 b.A3 p.kids.length a.c3 q.kids.length b.c3 p.kids q.kids W rfl rfl hp.kids (RowG.below (hr.below b2).r3 (d.below _)) (RowG.below (hs.below b2).r3 (d.below _)))
  have C3 := Lib.hid (fun W (d : Drew ((w.alloc (.cells (pgC p a) 28)).alloc (.cells (pgC q b) 28)) W) => ints_any a.A4 b.A4 p.pages.length a.c4 q.pages.length b.c4 p.pages q.pages W rfl rfl hp.pages (RowG.below (hr.below b2).r4 (d.below _)) (RowG.below (hs.below b2).r4 (d.below _)))
  have HK := Lib.hid (hr.below b2).r2
  have HJ := Lib.hid (hs.below b2).r2
  have HA := Lib.hid hA
  have HB := Lib.hid hB
  have B2 := Lib.hid b2
  have hkl := hp.keys
  clear hp hr hs b1 b2 hA hB s1
  obtain ⟨W0, hW0⟩ : ∃ W0, (w.alloc (.cells (pgC p a) 28)).alloc (.cells (pgC q b) 28) = W0 := ⟨_, rfl⟩
  unfold pgV
  unfold pgC at *
  rw [hW0] at c1 C2 C3 HK HJ HA HB B2
  have x1 : W0.cell? ⟨w.heap.size, 1, none⟩ = some (.slice a.A1 p.pairs.length a.c1) := HA.out.2.2 1 _ rfl
  have y1 : W0.cell? ⟨w.heap.size + 1, 1, none⟩ = some (.slice b.A1 q.pairs.length b.c1) := HB.out.2.2 1 _ rfl
  go_enter Try.func18, Try.ntmps18
  go_wp2_with fail
  clear hW0 x1 y1
  refine c1.mono ?_
  rintro e w1 ⟨r1, rfl, h1, d1⟩
  have H1 := Lib.hid h1
  have D1 := Lib.hid d1
  have x3 : w1.cell? ⟨w.heap.size, 3, none⟩ = some (.slice a.A3 p.kids.length a.c3) := (HA.out.drewn D1.out).2.2 3 _ rfl
  have y3 : w1.cell? ⟨w.heap.size + 1, 3, none⟩ = some (.slice b.A3 q.kids.length b.c3) := (HB.out.drewn D1.out).2.2 3 _ rfl
  clear h1 d1 c1
  go_wp2_with fail
  refine (C2.out _ D1.out).mono ?_
  rintro e w2 ⟨r2, rfl, h2, d2⟩
  have H2 := Lib.hid h2
  have D2 := Lib.hid (D1.out.trans d2)
  have x4 : w2.cell? ⟨w.heap.size, 4, none⟩ = some (.slice a.A4 p.pages.length a.c4) := (HA.out.drewn D2.out).2.2 4 _ rfl
  have y4 : w2.cell? ⟨w.heap.size + 1, 4, none⟩ = some (.slice b.A4 q.pages.length b.c4) := (HB.out.drewn D2.out).2.2 4 _ rfl
  clear h2 d2 x3 y3
  go_wp2_with fail
  refine (C3.out _ D2.out).mono ?_
  rintro e w3 ⟨r3, rfl, h3, d3⟩
  have H3 := Lib.hid h3
  have D3 := Lib.hid (D2.out.trans d3)
  have BB := Lib.hid (B2.out.trans (D3.out.below _))
  clear h3 d3 x4 y4 C2 C3 B2
  have x2 : w3.cell? ⟨w.heap.size, 2, none⟩ = some (.slice a.A2 p.keys.length a.c2) := (HA.out.drewn D3.out).2.2 2 _ rfl
  have y2 : w3.cell? ⟨w.heap.size + 1, 2, none⟩ = some (.slice b.A2 q.keys.length b.c2) := (HB.out.drewn D3.out).2.2 2 _ rfl

  rcases r1 with _ | _
  · have HN : Hid (¬ p = q) := Lib.hid (fun e => by cases (H1.out.2 (by rw [e])))
    clear x2 y2
    go_wp2_with fail
    go_ret
    exact ⟨_, rfl, ⟨fun h => (by cases h), fun h => absurd h HN.out⟩, BB.out⟩
  rcases r2 with _ | _
  · have HN : Hid (¬ p = q) := Lib.hid (fun e => by cases (H2.out.2 (by rw [e])))
    clear x2 y2
    go_wp2_with fail
    go_ret
    exact ⟨_, rfl, ⟨fun h => (by cases h), fun h => absurd h HN.out⟩, BB.out⟩
  rcases r3 with _ | _
  · have HN : Hid (¬ p = q) := Lib.hid (fun e => by cases (H3.out.2 (by rw [e])))
    clear x2 y2
    go_wp2_with fail
    go_ret
    exact ⟨_, rfl, ⟨fun h => (by cases h), fun h => absurd h HN.out⟩, BB.out⟩
  by_cases hl : p.keys.length = q.keys.length
  rotate_left
  · have d0 : ((p.keys.length : Int) != (q.keys.length : Int)) = true := by simp; omega
    have HN : Hid (¬ p = q) := Lib.hid (fun e => hl (by rw [e]))
    clear hl
    go_wp2_with fail
    go_ret
    exact ⟨_, rfl, ⟨fun h => (by cases h), fun h => absurd h HN.out⟩, BB.out⟩
  have d0 : ((p.keys.length : Int) != (q.keys.length : Int)) = false := by simp; omega
  have HL := Lib.hid hl
  have ST := Lib.hid (Drew.refl w3)
  obtain ⟨n, hn⟩ : ∃ n, p.keys.length = n := ⟨_, rfl⟩
  have HN0 := Lib.hid hn
  have hnq : q.keys.length = n := by rw [← hl, hn]
  have HNQ := Lib.hid hnq
  have hn2 : n ≤ 9223372036854775807 := by omega
  have AA := Lib.hid (HA.out.drewn D3.out)
  have AB := Lib.hid (HB.out.drewn D3.out)
  have KK := Lib.hid (RowG.below HK.out (D3.out.below _))
  have KJ := Lib.hid (RowG.below HJ.out (D3.out.below _))
  rw [hn] at x2 d0 AA
  rw [hnq] at y2 d0 AB
  clear hl hn hnq hkl HA HB HK HJ D1 D2 D3
  generalize a.A2 = Ak at *
  generalize b.A2 = Bk at *
  go_wp2_with fail
  clear x2 y2 d0
  go_loopw [8] (fun i wr => ∃ k : Nat, i = .int .i64 (k : Int) ∧ k ≤ n ∧ Hid (p.keys.take k = q.keys.take k) ∧ Drew w3 wr) (fun i _ => n - (intOf i).toNat)
  case atStart => exact ⟨0, rfl, Nat.zero_le _, Lib.hid (by simp), ST.out⟩
  case round =>
    obtain ⟨k, rfl, hk, hQ, hD⟩ := hrel
    have HD := Lib.hid hD
    have x2 := (AA.out.drewn hD).2.2 2 _ rfl
    have y2 := (AB.out.drewn hD).2.2 2 _ rfl
    clear hD
    by_cases hlt : k < n
    · have hka : k < p.keys.length := by have := HN0.out; omega
      have hkb : k < q.keys.length := by have := HNQ.out; omega
      obtain ⟨b1, o1, rfl, -, hc1⟩ := KK.out (by intro e; rw [e] at hka; simp at hka)
      obtain ⟨b2, o2, rfl, -, hc2⟩ := KJ.out (by intro e; rw [e] at hkb; simp at hkb)
      have h1 := hc1 k hka
      have h2 := hc2 k hkb
      rw [← HD.out.cell] at h1 h2
      have HE := Lib.hid (eq_step hka hkb hQ.out)
      have HN := Lib.hid (ne_at hka hkb)
      have HQ := Lib.hid (strB_beq p.keys[k] q.keys[k])
      obtain ⟨X1, eX1⟩ : ∃ X, strB p.keys[k] = X := ⟨_, rfl⟩
      rw [show strV p.keys[k] = .string X1 by rw [← eX1]] at h1
      obtain ⟨X2, eX2⟩ : ∃ X, strB q.keys[k] = X := ⟨_, rfl⟩
      rw [show strV q.keys[k] = .string X2 by rw [← eX2]] at h2
      rw [eX1, eX2] at HQ
      have t1 : (k : Int) < (n : Int) := by omega
      have t3 : (0 : Int) ≤ (k : Int) := by omega
      clear hc1 hc2 hQ eX1 eX2
      by_cases hxy : p.keys[k] = q.keys[k]
      · have e0 : (X1.toList == X2.toList) = true := by rw [HQ.out]; simp [hxy]
        have e1 : (X1.toList != X2.toList) = false := by simp [bne, e0]
        have HF := Lib.hid (HE.out hxy)
        clear hxy HE HN HQ
        go_wp2_with fail
        go_quiet (fail)
        go_wp2_with fail
        go_roundw
        case rel => exact ⟨k + 1, by go_num, by omega, HF, HD.out.drewN _⟩
        case measure => simp [intOf]; omega
      · have e0 : (X1.toList == X2.toList) = false := by rw [HQ.out]; simp [hxy]
        have e1 : (X1.toList != X2.toList) = true := by simp [bne, e0]
        have HF : Hid (¬ p = q) := Lib.hid (fun e => HN.out hxy (by rw [e]))
        clear hxy HE HN HQ
        go_wp2_with fail
        go_quiet (fail)
        go_wp2_with fail
        go_ret
        exact ⟨_, rfl, ⟨fun h => (by cases h), fun h => absurd h HF.out⟩, BB.out.trans ((HD.out.drewN _).below _)⟩
    · have HF := Lib.hid (all_eq (k := k) (by have := HN0.out; omega) HL.out hQ.out)
      clear hQ
      have x0 : wr.cell? ⟨w.heap.size, 0, none⟩ = some (.int .i64 p.kind) := (AA.out.drewn HD.out).2.2 0 _ rfl
      have x5 : wr.cell? ⟨w.heap.size, 5, none⟩ = some (.int .i64 p.next) := (AA.out.drewn HD.out).2.2 5 _ rfl
      have x6 : wr.cell? ⟨w.heap.size, 6, none⟩ = some (.int .u64 (p.epoch : Int)) := (AA.out.drewn HD.out).2.2 6 _ rfl
      have x7 : wr.cell? ⟨w.heap.size, 7, none⟩ = some (.int .i64 p.root) := (AA.out.drewn HD.out).2.2 7 _ rfl
      have x8 : wr.cell? ⟨w.heap.size, 8, none⟩ = some (.int .i64 p.depth) := (AA.out.drewn HD.out).2.2 8 _ rfl
      have x9 : wr.cell? ⟨w.heap.size, 9, none⟩ = some (.int .i64 p.count) := (AA.out.drewn HD.out).2.2 9 _ rfl
      have x10 : wr.cell? ⟨w.heap.size, 10, none⟩ = some (.int .i64 p.high) := (AA.out.drewn HD.out).2.2 10 _ rfl
      have y0 : wr.cell? ⟨w.heap.size + 1, 0, none⟩ = some (.int .i64 q.kind) := (AB.out.drewn HD.out).2.2 0 _ rfl
      have y5 : wr.cell? ⟨w.heap.size + 1, 5, none⟩ = some (.int .i64 q.next) := (AB.out.drewn HD.out).2.2 5 _ rfl
      have y6 : wr.cell? ⟨w.heap.size + 1, 6, none⟩ = some (.int .u64 (q.epoch : Int)) := (AB.out.drewn HD.out).2.2 6 _ rfl
      have y7 : wr.cell? ⟨w.heap.size + 1, 7, none⟩ = some (.int .i64 q.root) := (AB.out.drewn HD.out).2.2 7 _ rfl
      have y8 : wr.cell? ⟨w.heap.size + 1, 8, none⟩ = some (.int .i64 q.depth) := (AB.out.drewn HD.out).2.2 8 _ rfl
      have y9 : wr.cell? ⟨w.heap.size + 1, 9, none⟩ = some (.int .i64 q.count) := (AB.out.drewn HD.out).2.2 9 _ rfl
      have y10 : wr.cell? ⟨w.heap.size + 1, 10, none⟩ = some (.int .i64 q.high) := (AB.out.drewn HD.out).2.2 10 _ rfl

      by_cases g0 : p.kind = q.kind
      rotate_left
      · have e0 : (p.kind == q.kind) = false := beq_eq_false_iff_ne.2 (by exact g0)
        have HX : Hid (¬ p = q) := Lib.hid (fun e => g0 (by rw [e]))
        clear g0
        go_wp2_with fail
        go_ret
        exact ⟨_, rfl, ⟨fun h => (by cases h), fun h => absurd h HX.out⟩, BB.out.trans (HD.out.below _)⟩
      have e0 : (p.kind == q.kind) = true := by rw [g0]; simp
      have G0 := Lib.hid g0
      clear g0
      by_cases g5 : p.next = q.next
      rotate_left
      · have e0 : (p.next == q.next) = false := beq_eq_false_iff_ne.2 (by exact g5)
        have HX : Hid (¬ p = q) := Lib.hid (fun e => g5 (by rw [e]))
        clear g5
        go_wp2_with fail
        go_ret
        exact ⟨_, rfl, ⟨fun h => (by cases h), fun h => absurd h HX.out⟩, BB.out.trans (HD.out.below _)⟩
      have e5 : (p.next == q.next) = true := by rw [g5]; simp
      have G5 := Lib.hid g5
      clear g5
      by_cases g6 : p.epoch = q.epoch
      rotate_left
      · have e0 : ((p.epoch : Int) == (q.epoch : Int)) = false := beq_eq_false_iff_ne.2 (by omega)
        have HX : Hid (¬ p = q) := Lib.hid (fun e => g6 (by rw [e]))
        clear g6
        go_wp2_with fail
        go_ret
        exact ⟨_, rfl, ⟨fun h => (by cases h), fun h => absurd h HX.out⟩, BB.out.trans (HD.out.below _)⟩
      have e6 : ((p.epoch : Int) == (q.epoch : Int)) = true := by rw [g6]; simp
      have G6 := Lib.hid g6
      clear g6
      by_cases g7 : p.root = q.root
      rotate_left
      · have e0 : (p.root == q.root) = false := beq_eq_false_iff_ne.2 (by exact g7)
        have HX : Hid (¬ p = q) := Lib.hid (fun e => g7 (by rw [e]))
        clear g7
        go_wp2_with fail
        go_ret
        exact ⟨_, rfl, ⟨fun h => (by cases h), fun h => absurd h HX.out⟩, BB.out.trans (HD.out.below _)⟩
      have e7 : (p.root == q.root) = true := by rw [g7]; simp
      have G7 := Lib.hid g7
      clear g7
      by_cases g8 : p.depth = q.depth
      rotate_left
      · have e0 : (p.depth == q.depth) = false := beq_eq_false_iff_ne.2 (by exact g8)
        have HX : Hid (¬ p = q) := Lib.hid (fun e => g8 (by rw [e]))
        clear g8
        go_wp2_with fail
        go_ret
        exact ⟨_, rfl, ⟨fun h => (by cases h), fun h => absurd h HX.out⟩, BB.out.trans (HD.out.below _)⟩
      have e8 : (p.depth == q.depth) = true := by rw [g8]; simp
      have G8 := Lib.hid g8
      clear g8
      by_cases g9 : p.count = q.count
      rotate_left
      · have e0 : (p.count == q.count) = false := beq_eq_false_iff_ne.2 (by exact g9)
        have HX : Hid (¬ p = q) := Lib.hid (fun e => g9 (by rw [e]))
        clear g9
        go_wp2_with fail
        go_ret
        exact ⟨_, rfl, ⟨fun h => (by cases h), fun h => absurd h HX.out⟩, BB.out.trans (HD.out.below _)⟩
      have e9 : (p.count == q.count) = true := by rw [g9]; simp
      have G9 := Lib.hid g9
      clear g9
      by_cases g10 : p.high = q.high
      rotate_left
      · have e0 : (p.high == q.high) = false := beq_eq_false_iff_ne.2 (by exact g10)
        have HX : Hid (¬ p = q) := Lib.hid (fun e => g10 (by rw [e]))
        clear g10
        go_wp2_with fail
        go_ret
        exact ⟨_, rfl, ⟨fun h => (by cases h), fun h => absurd h HX.out⟩, BB.out.trans (HD.out.below _)⟩
      have e10 : (p.high == q.high) = true := by rw [g10]; simp
      have G10 := Lib.hid g10
      clear g10
      go_wp2_with fail
      go_ret
      exact ⟨_, rfl, ⟨fun _ => pg_ext (H1.out.1 trivial) HF.out (H2.out.1 trivial) (H3.out.1 trivial) G0.out G5.out G6.out G7.out G8.out G9.out G10.out, fun _ => rfl⟩, BB.out.trans (HD.out.below _)⟩
end Go.Proofs.Ytiebaeahimeedaa.Page
