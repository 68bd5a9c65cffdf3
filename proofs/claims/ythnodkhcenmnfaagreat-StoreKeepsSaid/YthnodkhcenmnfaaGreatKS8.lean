/-
  Texts of one family, one behind the other: SCalls, SDone2, SCuts0.
-/
import Derived.Test.YthnodkhcenmnfaaGreatKS7
import Derived.Test.YthnodkhcenmnfaaGreatKP9
import Derived.Test.YthnodkhcenmnfaaGreatKS5
namespace Go.Proofs.YthnodkhcenmnfaaGreat.Page
open Go.ChangeShapes Go.WideShapes Go.ChangeAt Go.WideMaps Go.WideElems Go.RowKit Go.Deep Gen

/-- A call of a script: its numbers, its page, and what it holds of a device's call. -/
structure CallS where
  kind : Int
  n : Int
  m : Int
  count : Int
  p : Pg
  y : Lay
  dk : Int
  dn : Int
  A5 : Option Addr
  n5 : Nat
  c5 : Nat
  A6 : Option Addr
  n6 : Nat
  c6 : Nat
  dcut : Int
  dby : Int
abbrev callC (x : CallS) : Array Value := #[.int .i64 x.kind, .int .i64 x.n, .int .i64 x.m, .int .i64 x.count, .int .i64 x.p.kind, .slice x.y.A1 x.p.pairs.length x.y.c1, .slice x.y.A2 x.p.keys.length x.y.c2, .slice x.y.A3 x.p.kids.length x.y.c3, .slice x.y.A4 x.p.pages.length x.y.c4, .int .i64 x.p.next, .int .u64 (x.p.epoch : Int), .int .i64 x.p.root, .int .i64 x.p.depth, .int .i64 x.p.count, .int .i64 x.p.high,
  .int .i64 x.dk, .int .i64 x.dn, .slice x.A5 x.n5 x.c5, .slice x.A6 x.n6 x.c6, .int .i64 x.dcut, .int .u8 x.dby]
structure CallIn (W : World) (x : CallS) : Prop where
  kind : I64 x.kind
  n : I64 x.n
  m : I64 x.m
  count : I64 x.count
  ok : PgOk x.p
  rows : PgRows W x.p x.y
/-- Calls in a row. -/
structure Script (W : World) (A : Option Addr) (l : List CallS) : Prop where
  all : ∀ x ∈ l, CallIn W x
  row : l ≠ [] → ∃ b off, A = some ⟨b, off, none⟩ ∧ b < W.heap.size ∧ ∀ j (h : j < l.length), W.rangeAt b (off + j * 21) (callC l[j]).toList
section
variable {H : Type} {enc : TypeId × Value → H} {W : World} {fuel : Nat} {cs : List Value} {x : DataW H × List MemPlace}
set_option maxRecDepth 100000 in
/-- A page, by its cells. -/
theorem open_page1 (hf : DataW.trod enc Tryz.prog W 0 (fun _ => true) true fuel 37 cs = some x) : ∃ (p : Pg) (a : Lay), cs = (pgC p a).toList ∧ PgOk p ∧ PgRows W p a := by
  obtain ⟨xs, n, _, _, hlen, hxl, hg⟩ := DataW.trod_struct Tryz.underlying37 hf
  rw [cells_page] at hlen
  have h0 := hg 0 _ rfl
  have h1 := hg 1 _ rfl
  have h2 := hg 2 _ rfl
  have h3 := hg 3 _ rfl
  have h4 := hg 4 _ rfl
  have h5 := hg 5 _ rfl
  have h6 := hg 6 _ rfl
  have h7 := hg 7 _ rfl
  have h8 := hg 8 _ rfl
  have h9 := hg 9 _ rfl
  have h10 := hg 10 _ rfl
  match cs, hlen, xs, hxl with
  | [v0, v1, v2, v3, v4, v5, v6, v7, v8, v9, v10], _, [y0, y1, y2, y3, y4, y5, y6, y7, y8, y9, y10], _ =>
    simp only [List.getElem?_cons_succ, List.getElem?_cons_zero] at h0 h1 h2 h3 h4 h5 h6 h7 h8 h9 h10
    obtain ⟨m0, e0, _, w0⟩ := DataW.trod_int Tryz.underlying3 h0
    obtain ⟨A1, c1, l1, e1, g1, x1, r1⟩ := open_pairs1 h1
    obtain ⟨A2, c2, l2, e2, g2, x2, r2⟩ := open_strs1 h2
    obtain ⟨A3, c3, l3, e3, g3, x3, r3⟩ := open_ints1 h3
    obtain ⟨A4, c4, l4, e4, g4, x4, r4⟩ := open_ints1 h4
    obtain ⟨m5, e5, _, w5⟩ := DataW.trod_int Tryz.underlying3 h5
    obtain ⟨m6, e6, _, w6⟩ := DataW.trod_int Tryz.underlying35 h6
    obtain ⟨m7, e7, _, w7⟩ := DataW.trod_int Tryz.underlying3 h7
    obtain ⟨m8, e8, _, w8⟩ := DataW.trod_int Tryz.underlying3 h8
    obtain ⟨m9, e9, _, w9⟩ := DataW.trod_int Tryz.underlying3 h9
    obtain ⟨m10, e10, _, w10⟩ := DataW.trod_int Tryz.underlying3 h10
    have b6 := bounds_u64 w6
    unfold maxLen at x1 x2 x3 x4
    refine ⟨⟨m0, l1, l2, l3, l4, m5, m6.toNat, m7, m8, m9, m10⟩, ⟨A1, c1, A2, c2, A3, c3, A4, c4⟩, ?_, ⟨bounds_i64 w0, by show l1.length ≤ _; omega, by show l2.length ≤ _; omega, by show l3.length ≤ _; omega, by show l4.length ≤ _; omega, bounds_i64 w5, by show m6.toNat < _; omega, bounds_i64 w7, bounds_i64 w8, bounds_i64 w9, bounds_i64 w10⟩, ⟨r1, r2, r3, r4⟩⟩
    rw [(List.cons.inj e0).1, (List.cons.inj e1).1, (List.cons.inj e2).1, (List.cons.inj e3).1, (List.cons.inj e4).1, (List.cons.inj e5).1, (List.cons.inj e6).1, (List.cons.inj e7).1, (List.cons.inj e8).1, (List.cons.inj e9).1, (List.cons.inj e10).1]
    show _ = [Value.int .i64 m0, Value.slice A1 l1.length c1, Value.slice A2 l2.length c2, Value.slice A3 l3.length c3, Value.slice A4 l4.length c4, Value.int .i64 m5, Value.int .u64 ((m6.toNat : Nat) : Int), Value.int .i64 m7, Value.int .i64 m8, Value.int .i64 m9, Value.int .i64 m10]
    rw [show ((m6.toNat : Nat) : Int) = m6 by omega]
theorem open_shape {t : TypeId} {e : TypeId} (hu : Tryz.prog.underlying t = some (.slice e)) (hf : DataW.trod enc Tryz.prog W 0 (fun _ => true) true fuel t cs = some x) : ∃ (A : Option Addr) (n c : Nat), cs = [.slice A n c] := by
  rcases open_slice hu hf with ⟨rfl, _⟩ | ⟨a, len, cap, m, n, V, D, rfl, _⟩
  · exact ⟨none, 0, 0, rfl⟩
  · exact ⟨some a, len, cap, rfl⟩
theorem cells_dcall : Tryz.prog.cellsOf 48 = 6 := by kernel_rfl
theorem cells_scall : Tryz.prog.cellsOf 50 = 21 := by kernel_rfl
set_option maxRecDepth 100000 in
theorem open_dcall1 (hf : DataW.trod enc Tryz.prog W 0 (fun _ => true) true fuel 48 cs = some x) :
    ∃ (dk dn : Int) (A5 : Option Addr) (n5 c5 : Nat) (A6 : Option Addr) (n6 c6 : Nat) (dcut dby : Int), cs = [.int .i64 dk, .int .i64 dn, .slice A5 n5 c5, .slice A6 n6 c6, .int .i64 dcut, .int .u8 dby] := by
  obtain ⟨xs, n, _, _, hlen, hxl, hg⟩ := DataW.trod_struct Tryz.underlying48 hf
  rw [cells_dcall] at hlen
  have h0 := hg 0 _ rfl
  have h1 := hg 1 _ rfl
  have h2 := hg 2 _ rfl
  have h3 := hg 3 _ rfl
  have h4 := hg 4 _ rfl
  have h5 := hg 5 _ rfl
  match cs, hlen, xs, hxl with
  | [v0, v1, v2, v3, v4, v5], _, [y0, y1, y2, y3, y4, y5], _ =>
    simp only [List.getElem?_cons_succ, List.getElem?_cons_zero] at h0 h1 h2 h3 h4 h5
    obtain ⟨k, e0, _, w0⟩ := DataW.trod_int Tryz.underlying3 h0
    obtain ⟨m, e1, _, w1⟩ := DataW.trod_int Tryz.underlying3 h1
    obtain ⟨A1, n1, c1, e2⟩ := open_shape Tryz.underlying43 h2
    obtain ⟨A2, n2, c2, e3⟩ := open_shape Tryz.underlying34 h3
    obtain ⟨cut, e4, _, w4⟩ := DataW.trod_int Tryz.underlying3 h4
    obtain ⟨y, e5, _, w5⟩ := DataW.trod_int Tryz.underlying5 h5
    refine ⟨k, m, A1, n1, c1, A2, n2, c2, cut, y, ?_⟩
    rw [(List.cons.inj e0).1, (List.cons.inj e1).1, (List.cons.inj e2).1, (List.cons.inj e3).1, (List.cons.inj e4).1, (List.cons.inj e5).1]
set_option maxRecDepth 100000 in
theorem open_scall {cs' : List Value} (hf : DataW.trod enc Tryz.prog W 0 (fun _ => true) true fuel 50 cs' = some x) : ∃ c : CallS, cs' = (callC c).toList ∧ CallIn W c := by
  obtain ⟨xs, n, _, _, hlen, hxl, hg⟩ := DataW.trod_struct Tryz.underlying50 hf
  rw [cells_scall] at hlen
  have h0 := hg 0 _ rfl
  have h1 := hg 1 _ rfl
  have h2 := hg 2 _ rfl
  have h3 := hg 3 _ rfl
  have h4 := hg 4 _ rfl
  have h5 := hg 5 _ rfl
  match cs', hlen, xs, hxl with
  | [v0, v1, v2, v3, v4, v5, v6, v7, v8, v9, v10, v11, v12, v13, v14, v15, v16, v17, v18, v19, v20], _, [y0, y1, y2, y3, y4, y5], _ =>
    simp only [List.getElem?_cons_succ, List.getElem?_cons_zero] at h0 h1 h2 h3 h4 h5
    obtain ⟨k0, e0, _, w0⟩ := DataW.trod_int Tryz.underlying3 h0
    obtain ⟨k1, e1, _, w1⟩ := DataW.trod_int Tryz.underlying3 h1
    obtain ⟨k2, e2, _, w2⟩ := DataW.trod_int Tryz.underlying3 h2
    obtain ⟨k3, e3, _, w3⟩ := DataW.trod_int Tryz.underlying3 h3
    obtain ⟨p, y, e4, ok, rw4⟩ := open_page1 h4
    obtain ⟨dk, dn, A5, n5, c5, A6, n6, c6, dcut, dby, e5⟩ := open_dcall1 h5
    refine ⟨⟨k0, k1, k2, k3, p, y, dk, dn, A5, n5, c5, A6, n6, c6, dcut, dby⟩, ?_, ⟨bounds_i64 w0, bounds_i64 w1, bounds_i64 w2, bounds_i64 w3, ok, rw4⟩⟩
    have e4' : [v4, v5, v6, v7, v8, v9, v10, v11, v12, v13, v14] = [Value.int .i64 p.kind, Value.slice y.A1 p.pairs.length y.c1, Value.slice y.A2 p.keys.length y.c2, Value.slice y.A3 p.kids.length y.c3, Value.slice y.A4 p.pages.length y.c4, Value.int .i64 p.next, Value.int .u64 (p.epoch : Int), Value.int .i64 p.root, Value.int .i64 p.depth, Value.int .i64 p.count, Value.int .i64 p.high] := e4
    have z0 : v0 = .int .i64 k0 := (List.cons.inj (show [v0] = [Value.int .i64 k0] from e0)).1
    have z1 : v1 = .int .i64 k1 := (List.cons.inj (show [v1] = [Value.int .i64 k1] from e1)).1
    have z2 : v2 = .int .i64 k2 := (List.cons.inj (show [v2] = [Value.int .i64 k2] from e2)).1
    have z3 : v3 = .int .i64 k3 := (List.cons.inj (show [v3] = [Value.int .i64 k3] from e3)).1
    have e5' : [v15, v16, v17, v18, v19, v20] = [Value.int .i64 dk, Value.int .i64 dn, Value.slice A5 n5 c5, Value.slice A6 n6 c6, Value.int .i64 dcut, Value.int .u8 dby] := e5
    clear e0 e1 e2 e3 e4 e5 h0 h1 h2 h3 h4 h5 hg
    simp only [List.cons.injEq, and_true] at e4' e5'
    obtain ⟨rfl, rfl, rfl, rfl, rfl, rfl, rfl, rfl, rfl, rfl, rfl⟩ := e4'
    obtain ⟨rfl, rfl, rfl, rfl, rfl, rfl⟩ := e5'
    rw [z0, z1, z2, z3]
end
set_option maxRecDepth 100000 in
theorem open_script {H : Type} {enc : TypeId × Value → H} {W : World} {base : Nat} {v : Value} {d : DataW H} {ps : List MemPlace} (hval : Value.okWide Tryz.prog W .any base 23 v)
    (h : DataW.Trod enc Tryz.prog W 0 (fun _ => true) true 23 v d ps) : ∃ (A : Option Addr) (n c : Nat) (l : List CallS), v = .slice A n c ∧ l.length = n ∧ n ≤ c ∧ c ≤ maxLen ∧ Script W A l := by
  obtain ⟨a0, len, cap, rfl⟩ := okWide_slice Tryz.underlying23 hval
  obtain ⟨fuel, hf⟩ := h
  rcases open_slice Tryz.underlying23 hf with ⟨hcs, _⟩ | ⟨a, len', cap', m, n, D, Pl, hcs, _, hl, hm, hmm, _, hi⟩
  · simp [Value.cells] at hcs
    obtain ⟨rfl, rfl, rfl⟩ := hcs
    exact ⟨none, 0, 0, [], rfl, rfl, Nat.le_refl _, Nat.zero_le _, fun d h => (by cases h), fun h => absurd rfl h⟩
  · simp [Value.cells] at hcs
    obtain ⟨rfl, rfl, rfl⟩ := hcs
    have hmc : m = cap := by simpa using hmm
    subst hmc
    obtain ⟨l, hll, hp⟩ := list_of (fun j c => W.cells? 0 (a.add (j * 21)) 21 = some (callC c).toList ∧ CallIn W c) len (fun j hj => by
      obtain ⟨cs', hc, ht⟩ := hi j (by omega)
      rw [cells_scall] at hc
      obtain ⟨c, rfl, hok⟩ := open_scall ht
      exact ⟨c, hc, hok⟩)
    refine ⟨some a, len, m, l, rfl, hll, hl, hm, fun d hd => ?_, fun hne => ?_⟩
    · obtain ⟨j, hj, rfl⟩ := List.getElem_of_mem hd
      exact (hp j hj).2
    · have h0 : 0 < l.length := List.length_pos_iff.2 hne
      obtain ⟨b, off, spot⟩ := a
      have g0 := (World.cells?_some (hp 0 h0).1).2.2 0 (by simp)
      have hspot : spot = none := by simpa [Addr.add] using World.cell?_spot g0
      subst hspot
      rw [add_none, add_none] at g0
      refine ⟨b, off, rfl, block_lt_of_cell g0, fun j hj i v hv => ?_⟩
      have g := (World.cells?_some (hp j hj).1).2.2
      simp only [add_none] at g
      have hi : i < ((callC l[j]).toList).length := (List.getElem?_eq_some_iff.1 hv).1
      exact (g i (by simpa using hi)).trans hv
end Go.Proofs.YthnodkhcenmnfaaGreat.Page
namespace Go.Proofs.YthnodkhcenmnfaaGreat.Store
open Go.RowKit Gen
open Disk (St Dev Mod ptr)
open Page (Pg Lay PgOk PgRows pgC pgV Enc IsDec BytesAt strV CallS callC CallIn Script)
open Pool (Po NAt PoAt La poC poV numV At takeP giveP backP Fresh PoolOk OwnI chunks layAll May)

/-- What holds behind each call. -/
structure Good (k : Nat) (d : St) (t : T) : Prop where
  safe : Safe d t
  calm : Calm d
  n : d.n = 60
  ep : t.sup.epoch ≤ k
theorem Good.mono {k m : Nat} {d : St} {t : T} (h : Good k d t) (hk : k ≤ m) : Good m d t := ⟨h.safe, h.calm, h.n, Nat.le_trans h.ep hk⟩
theorem lay_calms {d d' : St} {t t' : T} {old n e : Int} {p : Pg} (h : LayR d t old p d' t' n e) (hc : Calm d) : Calm d' := by
  rcases h with ⟨_, rfl, _⟩ | ⟨_, ⟨_, rfl, _⟩ | ⟨_, x, hw, _⟩⟩
  · exact hc
  · exact hc
  · exact hw.writ.calm hc
theorem Good.step {k : Nat} {d d' : St} {t t' : T} (h : Good k d t) (s : Step d t d' t') (hc : Calm d') : Good k d' t' := ⟨s.safe h.safe, hc, s.n.trans h.n, by rw [s.part.sup]; exact h.ep⟩
theorem Good.lay {k : Nat} {d d' : St} {t t' : T} {old n e : Int} {p : Pg} (h : Good k d t) (g : LayR d t old p d' t' n e) : Good k d' t' := h.step (h.safe.pre.refl.lay h.safe.pre g) (lay_calms g h.calm)
theorem Good.drop {k : Nat} {d : St} {t : T} (h : Good k d t) (n : Int) : Good k d (dropT t n).1 := h.step (h.safe.pre.refl.drop n) h.calm
theorem Good.abort {k : Nat} {d : St} {t : T} (h : Good k d t) : Good k d (abortT t) := h.step (h.safe.pre.refl.abort h.safe.pre) h.calm
theorem Good.commit {k : Nat} {d d' : St} {t t' : T} {root depth count x : Int} (h : Good k d t) (hk : k ≤ 1000) (g : CommitR d t root depth count d' t' x) : Good (k + 1) d' t' ∧ (x ≠ 0 → Part t t') ∧ (x = 0 → Made d t root d' t') := by
  rcases commit_ends h.safe.pre (by have := h.ep; omega) g with ⟨hx, s, c⟩ | ⟨_, _, hc⟩ | ⟨hx, m⟩
  · exact ⟨(h.step s (c h.calm)).mono (Nat.le_succ k), fun _ => s.part, fun e => absurd e hx⟩
  · exact absurd h.calm hc
  · exact ⟨⟨m.safe, m.calm h.calm, m.n.trans h.n, by rw [m.epoch]; have := h.ep; omega⟩, fun e => absurd hx e, fun _ => m⟩
theorem Good.few {k : Nat} {d : St} {t : T} (h : Good k d t) : t.own.length ≤ 100000 ∧ ∀ x ∈ t.own, I64 x := by
  have g : ∀ x ∈ t.own, 2 ≤ x ∧ x < 60 := fun x hx => by
    have h1 := h.safe.holds.live x hx
    have h2 := h.safe.holds.ok.top
    have h3 := h.n
    exact ⟨h1.1, by have := h1.2.1; omega⟩
  refine ⟨?_, fun x hx => ⟨by have := g x hx; omega, by have := g x hx; omega⟩⟩
  have := own_few (N := 60) h.safe.holds.nodup (fun x hx => ⟨by have := g x hx; omega, (g x hx).2⟩)
  omega
/-- A store in hand, and what holds of it. -/
def Run (w0 : World) (B : Blk) (k : Nat) (w : World) : Prop := ∃ d t, SOn w0 w B d t ∧ Good k d t
theorem Run.quiet {w0 w w' : World} {B : Blk} {k : Nat} (h : Run w0 B k w) (b : Below w.heap.size w w') : Run w0 B k w' := by
  obtain ⟨d, t, s, g⟩ := h
  exact ⟨d, t, s.quiet b, g⟩
theorem rows_apart {w0 w : World} {B : Blk} {d : St} {t : T} (h : SOn w0 w B d t) {p : Pg} {y : Lay} (hr : PgRows w0 p y) : Apart B.all p y := by
  have k : ∀ {b : Nat}, b < w0.heap.size → b ∉ B.all := fun hb e => by have := h.new _ e; omega
  refine ⟨fun hne x e hx => ?_, fun hne x e hx => ?_, fun hne x e hx => ?_, fun hne x e hx => ?_⟩
  · obtain ⟨b, o, e', hl, _⟩ := hr.r1 hne
    rw [e] at e'; cases e'; exact k hl hx
  · obtain ⟨b, o, e', hl, _⟩ := hr.r2 hne
    rw [e] at e'; cases e'; exact k hl hx
  · obtain ⟨b, o, e', hl, _⟩ := hr.r3 hne
    rw [e] at e'; cases e'; exact k hl hx
  · obtain ⟨b, o, e', hl, _⟩ := hr.r4 hne
    rw [e] at e'; cases e'; exact k hl hx
/-- Lay of a page that came in. -/
theorem run_lay {w0 w : World} {B : Blk} {k : Nat} (h : Run w0 B k w) {x : CallS} (hx : CallIn w0 x) : Calls Tryz.prog 19 #[ptr B.ss, .int .i64 x.n, pgV x.p x.y] w (fun e w' => (∃ a b : Int, e = .returned (.tuple #[numV a, numV b])) ∧ Run w0 B k w') := by
  obtain ⟨d, t, s, g⟩ := h
  obtain ⟨a, st⟩ := s.has
  refine (lay_any st x.n hx.n x.p x.y hx.ok (hx.rows.below s.below) (rows_apart s hx.rows)).mono ?_
  rintro e w' ⟨d', t', n, b, rfl, hl, hs, m⟩
  exact ⟨⟨n, b, rfl⟩, d', t', s.mod hs m, g.lay hl⟩
theorem run_drop {w0 w : World} {B : Blk} {k : Nat} (h : Run w0 B k w) (n : Int) (hn : I64 n) : Calls Tryz.prog 20 #[ptr B.ss, .int .i64 n] w (fun e w' => (∃ b : Int, e = .returned (numV b)) ∧ Run w0 B k w') := by
  obtain ⟨d, t, s, g⟩ := h
  obtain ⟨a, st⟩ := s.has
  refine (drop_any st n hn).mono ?_
  rintro e w' ⟨rfl, hs, m⟩
  exact ⟨⟨_, rfl⟩, d, _, s.mod hs m, g.drop n⟩
theorem run_commit {w0 w : World} {B : Blk} {k : Nat} (h : Run w0 B k w) (hk : k ≤ 1000) (n m c : Int) (hn : I64 n) (hm : I64 m) (hc : I64 c) : Calls Tryz.prog 29 #[ptr B.ss, .int .i64 n, .int .i64 m, .int .i64 c] w (fun e w' => (∃ b : Int, e = .returned (numV b)) ∧ Run w0 B (k + 1) w') := by
  obtain ⟨d, t, s, g⟩ := h
  obtain ⟨a, st⟩ := s.has
  refine (commit_any st n m c hn hm hc g.few.1 g.few.2).mono ?_
  rintro e w' ⟨d', t', x, rfl, hr, hs, mm⟩
  exact ⟨⟨_, rfl⟩, d', t', s.mod hs mm, (g.commit hk hr).1⟩
theorem run_abort {w0 w : World} {B : Blk} {k : Nat} (h : Run w0 B k w) : Calls Tryz.prog 13 #[ptr B.ss] w (fun e w' => e = .returned none' ∧ Run w0 B k w') := by
  obtain ⟨d, t, s, g⟩ := h
  obtain ⟨a, st⟩ := s.has
  refine (abort_any st).mono ?_
  rintro e w' ⟨rfl, hs, m⟩
  exact ⟨rfl, d, _, s.mod hs m, g.abort⟩
theorem size_call : (Tryz.prog.info? 50).map (·.size) = some 21 := by kernel_rfl
abbrev callZ : Array Value := #[.int .i64 0, .int .i64 0, .int .i64 0, .int .i64 0, .int .i64 0, .slice none 0 0, .slice none 0 0, .slice none 0 0, .slice none 0 0, .int .i64 0, .int .u64 0, .int .i64 0, .int .i64 0, .int .i64 0, .int .i64 0, .int .i64 0, .int .i64 0, .slice none 0 0, .slice none 0 0, .int .i64 0, .int .u8 0]
theorem call_one (x : CallS) : (callC x).all (·.oneCell') = true := by simp [Value.oneCell']
theorem put_call (W : World) (x : CallS) : (Instr.storeAt 50 (.pointer (some ⟨W.heap.size, 0, none⟩)) (.agg (callC x))).run Tryz.prog (W.alloc (.cells callZ 50)) = .ok () (W.alloc (.cells (callC x) 50)) :=
  run_storeAt_new W 50 callZ (callC x) size_call rfl (call_one x)
theorem load_call {w : World} {b o : Nat} {x : CallS} (h : w.rangeAt b o (callC x).toList) : (Instr.loadAt 50 (.pointer (some ⟨b, o, none⟩))).run Tryz.prog w = .ok (.agg (callC x)) w := by
  have := run_loadAt_mid (P := Tryz.prog) w b o 50 (callC x).toList _ h Tryz.underlying50 rfl (by simpa using size_call)
  simpa using this
set_option maxRecDepth 100000 in
set_option maxHeartbeats 8000000 in
theorem done_walk {w0 w : World} {B : Blk} (h : Run w0 B 1 w) {A : Option Addr} {n c : Nat} {l : List CallS} (hl : l.length = n) (hn : n ≤ 9223372036854775807) (hs : Script w0 A l) :
    Calls Tryz.prog 12 #[ptr B.ss, .slice A n c] w (fun e w' => e = .returned none' ∧ Run w0 B 41 w') := by
  have R0 := Lib.hid h
  have HL := Lib.hid hl
  have HS := Lib.hid hs
  clear h hl hs
  go_enter Tryz.func12, Tryz.ntmps12
  go_wp2_with fail
  go_loopw [4] (fun i wr => ∃ k : Nat, i = .int .i64 (k : Int) ∧ k ≤ 40 ∧ k ≤ n ∧ Hid (Run w0 B (k + 1) wr)) (fun i _ => n - (intOf i).toNat)
  case atStart => exact ⟨0, rfl, by omega, by omega, R0⟩
  case round =>
    obtain ⟨k, rfl, hk, hkn, R⟩ := hrel
    clear R0
    by_cases hlt : k < n
    rotate_left
    · have FIN := Lib.hid (show Run w0 B 41 wr from by obtain ⟨d, t, s, g⟩ := R.out; exact ⟨d, t, s, g.mono (by omega)⟩)
      go_wp2_with fail
      (try simp only [Exit.inBlock, Exit.then])
      first | refine bodyPost_ret (results_none rfl _ _ _) rfl ?_ | refine bodyPost_end (results_none rfl _ _ _) rfl ?_
      exact ⟨rfl, FIN.out⟩
    by_cases h40 : k < 40
    rotate_left
    · have FIN := Lib.hid (show Run w0 B 41 wr from by obtain ⟨d, t, s, g⟩ := R.out; exact ⟨d, t, s, g.mono (by omega)⟩)
      go_wp2_with fail
      (try simp only [Exit.inBlock, Exit.then])
      first | refine bodyPost_ret (results_none rfl _ _ _) rfl ?_ | refine bodyPost_end (results_none rfl _ _ _) rfl ?_
      exact ⟨rfl, FIN.out⟩
    have hwr : IntKind.i64.wrap ((k : Int) + 1) = (k : Int) + 1 := IntWalk.i64_in _ (by omega)
    have hkl : k < l.length := by have := HL.out; omega
    obtain ⟨b, off, rfl, hbl, hc⟩ := HS.out.row (by intro e; rw [e] at hkl; simp at hkl)
    have HX := Lib.hid (HS.out.all _ (List.getElem_mem hkl))
    have hcx := hc k hkl
    generalize l[k] = x at HX hcx
    have hbw : Below w0.heap.size w0 wr := by obtain ⟨d, t, s, g⟩ := R.out; exact s.below
    have L := Lib.hid (load_call (range_below hcx hbl hbw))
    have P := Lib.hid (put_call wr x)
    have b1 := Pool.below_box wr (.cells (callC x) 50)
    have A1 := at_new wr (callC x) 50
    have R1 := Lib.hid (R.out.quiet b1)
    have hbw1 := hbw.trans (b1.mono hbw.size)
    obtain ⟨W1, hW1⟩ : ∃ W1, wr.alloc (.cells (callC x) 50) = W1 := ⟨_, rfl⟩
    rw [hW1] at P A1 R1 hbw1
    have LP := Lib.hid (load_page (o := 4) A1 x.p x.y rfl)
    have cF := Page.few_any x.p x.y W1 HX.out.ok (HX.out.rows.below hbw1)
    have AH := Lib.hid A1
    clear hc hcx b1 A1 hW1 hbw hbw1
    obtain ⟨cv, hcv⟩ : ∃ cv, callC x = cv := ⟨_, rfl⟩
    have LV := L.out
    have PV := P.out
    rw [hcv] at LV PV
    have LC := Lib.hid LV
    have PC := Lib.hid PV
    clear LV PV L P
    go_wp2_with (first | ((with_reducible refine Disk.wpList_load_eq rfl 50 (.tmp 19) rfl _ ?_ LC.out ?_); (next => rfl)) | ((with_reducible refine Disk.wpList_store_eq rfl 50 (.tmp 5) (.tmp 20) rfl _ _ ?_ ?_ PC.out ?_); (next => rfl); (next => rfl)) | ((with_reducible refine Disk.wpList_load_eq rfl 37 (.tmp 21) rfl _ ?_ LP.out ?_); (next => rfl)))
    refine cF.mono ?_
    rintro e w2 ⟨⟨r, rfl⟩, b2⟩
    have R2 := Lib.hid (R1.out.quiet b2)
    have AH2 := Lib.hid (AH.out.below b2 AH.out.1)
    have LP2 := Lib.hid (load_page (o := 4) AH2.out x.p x.y rfl)
    have c0 : w2.cell? ⟨wr.heap.size, 0, none⟩ = some (.int .i64 x.kind) := AH2.out.2.2 0 _ rfl
    have c1 : w2.cell? ⟨wr.heap.size, 1, none⟩ = some (.int .i64 x.n) := AH2.out.2.2 1 _ rfl
    have c2 : w2.cell? ⟨wr.heap.size, 2, none⟩ = some (.int .i64 x.m) := AH2.out.2.2 2 _ rfl
    have c3 : w2.cell? ⟨wr.heap.size, 3, none⟩ = some (.int .i64 x.count) := AH2.out.2.2 3 _ rfl
    clear b2 cF R1 AH LP LC PC hcv R AH2
    rcases r with _ | _
    · have NEW := Lib.hid (show Run w0 B (k + 1 + 1) w2 from by obtain ⟨d, t, s, g⟩ := R2.out; exact ⟨d, t, s, g.mono (by omega)⟩)
      go_wp2_with fail
      go_roundw
      case rel => exact ⟨k + 1, by go_num, by omega, by omega, NEW⟩
      case measure => simp [intOf]; omega
    obtain ⟨kd, hkd⟩ : ∃ kd, x.kind = kd := ⟨_, rfl⟩
    rw [hkd] at c0
    clear hkd
    by_cases k1 : kd = 1
    · subst k1
      have cY := run_lay R2.out HX.out
      go_wp2_with (first | ((with_reducible refine Disk.wpList_load_eq rfl 37 (.tmp 33) rfl _ ?_ LP2.out ?_); (next => rfl)))
      refine cY.mono ?_
      rintro e w3 ⟨⟨y1, y2, rfl⟩, r3⟩
      have NEW := Lib.hid (show Run w0 B (k + 1 + 1) w3 from by obtain ⟨d, t, s, g⟩ := r3; exact ⟨d, t, s, g.mono (by omega)⟩)
      clear cY r3 c0 c1 c2 c3 R2 LP2
      go_wp2_with fail
      go_roundw
      case rel => exact ⟨k + 1, by go_num, by omega, by omega, NEW⟩
      case measure => simp [intOf]; omega
    by_cases k2 : kd = 2
    · subst k2
      have cY := run_drop R2.out x.n HX.out.n
      go_wp2_with fail
      refine cY.mono ?_
      rintro e w3 ⟨⟨y2, rfl⟩, r3⟩
      have NEW := Lib.hid (show Run w0 B (k + 1 + 1) w3 from by obtain ⟨d, t, s, g⟩ := r3; exact ⟨d, t, s, g.mono (by omega)⟩)
      clear cY r3 c0 c1 c2 c3 R2 LP2
      go_wp2_with fail
      go_roundw
      case rel => exact ⟨k + 1, by go_num, by omega, by omega, NEW⟩
      case measure => simp [intOf]; omega
    by_cases k4 : kd = 4
    · subst k4
      have cY := run_commit R2.out (by omega) x.n x.m x.count HX.out.n HX.out.m HX.out.count
      go_wp2_with fail
      refine cY.mono ?_
      rintro e w3 ⟨⟨y2, rfl⟩, r3⟩
      have NEW := Lib.hid r3
      clear cY r3 c0 c1 c2 c3 R2 LP2
      go_wp2_with fail
      go_roundw
      case rel => exact ⟨k + 1, by go_num, by omega, by omega, NEW⟩
      case measure => simp [intOf]; omega
    by_cases k5 : kd = 5
    · subst k5
      have cY := run_abort R2.out
      go_wp2_with fail
      refine cY.mono ?_
      rintro e w3 ⟨rfl, r3⟩
      have NEW := Lib.hid (show Run w0 B (k + 1 + 1) w3 from by obtain ⟨d, t, s, g⟩ := r3; exact ⟨d, t, s, g.mono (by omega)⟩)
      clear cY r3 c0 c1 c2 c3 R2 LP2
      go_wp2_with fail
      go_roundw
      case rel => exact ⟨k + 1, by go_num, by omega, by omega, NEW⟩
      case measure => simp [intOf]; omega
    have NEW := Lib.hid (show Run w0 B (k + 1 + 1) w2 from by obtain ⟨d, t, s, g⟩ := R2.out; exact ⟨d, t, s, g.mono (by omega)⟩)
    have d1 : (kd == 1) = false := beq_eq_false_iff_ne.2 k1
    have d2 : (kd == 2) = false := beq_eq_false_iff_ne.2 k2
    have d4 : (kd == 4) = false := beq_eq_false_iff_ne.2 k4
    have d5 : (kd == 5) = false := beq_eq_false_iff_ne.2 k5
    clear k1 k2 k4 k5 R2 LP2 c1 c2 c3
    go_wp2_with fail
    go_roundw
    case rel => exact ⟨k + 1, by go_num, by omega, by omega, NEW⟩
    case measure => simp [intOf]; omega
end Go.Proofs.YthnodkhcenmnfaaGreat.Store
namespace Go.Proofs.YthnodkhcenmnfaaGreat.Store
open Go.RowKit Gen
open Disk (St Dev Mod ptr)
open Page (Pg Lay PgOk PgRows pgC pgV Enc IsDec BytesAt strV)
open Pool (Po NAt PoAt La poC poV numV At takeP giveP backP Fresh PoolOk OwnI chunks layAll May)

/-- A fuse changes nothing of what a device holds. -/
theorem Pre.fuse {d : St} {t : T} (h : Pre d t) (k : Int) : Pre (d.setFuse k) t := ⟨h.inv, h.bk, h.pk, h.nle, h.C, h.mine, h.own⟩
theorem Safe.fuse {d : St} {t : T} (h : Safe d t) (k : Int) : Safe (d.setFuse k) t := ⟨h.pre.fuse k, h.holds, h.other⟩
theorem get_fuse (d : St) (k x : Int) : (d.setFuse k).get x = d.get x := rfl
/-- Behind a restart nothing is cached, and the power is on. -/
theorem restart_C (d : St) (ks : List Int) (k cut : Int) : (d.restart ks k cut).C = fun _ => none := rfl
theorem restart_off (d : St) (ks : List Int) (k cut : Int) : (d.restart ks k cut).off = false := rfl
theorem restart_get (d : St) (ks : List Int) (k cut : Int) (x : Int) : (d.restart ks k cut).get x = dur (d.restart ks k cut) x := rfl
/-- Behind a commit that is done nothing is cached. -/
theorem commit_clean {d0 d' : St} {t t' : T} {root depth count : Int} (c : CommitR d0 t root depth count d' t' 0) : ∀ x, d'.C x = none := by
  rcases c with ⟨_, _, _, h⟩ | ⟨_, ⟨_, h, _⟩ | ⟨_, t2, p, own, r, _⟩⟩
  · exact absurd h (by decide)
  · exact absurd rfl h
  · cases r with
    | last r hs => exact (sync_done hs).2
/-- What Open finds behind a commit, whatever of it was cut, and any restart. -/
theorem cut_ends {d0 d' : St} {t t' : T} {root depth count x : Int} (h : Safe d0 t) (he : t.sup.epoch + 1 < 18446744073709551616) (c : CommitR d0 t root depth count d' t' x) (ks : List Int) (k cut : Int) :
    (x ≠ 0 ∧ Holds (d'.restart ks k cut).n (d'.restart ks k cut).get t.sup t.own t.base) ∨
    ∃ p own base, p.epoch = t.sup.epoch + 1 ∧ p.root = root ∧ Holds (d'.restart ks k cut).n (d'.restart ks k cut).get p own base ∧ ∀ y, t.fresh y = true → (d'.restart ks k cut).get y = d0.get y := by
  have low : ∀ y, t.fresh y = true → y ≠ side (t.sup.epoch + 1) := fun y hy => by
    have := (h.pre.inv.out hy).low
    rcases side_or (t.sup.epoch + 1) with e | e <;> rw [e] <;> omega
  rcases commit_ends h.pre he c with ⟨hx, s, _⟩ | ⟨hx, m, _⟩ | ⟨rfl, m⟩
  · exact .inl ⟨hx, s.restart h ks k cut⟩
  · rcases m.restart h he ks k cut with g | ⟨p, own, base, e1, e2, g⟩
    · exact .inl ⟨hx, g⟩
    · refine .inr ⟨p, own, base, e1, e2, g, fun y hy => ?_⟩
      obtain ⟨_, l, _, _, _, _, _, h4, _⟩ := m.lead
      rw [restart_get, restart_still, m.fresh y hy]
      cases hc : d'.C y with
      | none => rfl
      | some q => exact absurd (h4 y q hc).1 (low y hy)
  · have cl := commit_clean c
    refine .inr ⟨t'.sup, t'.own, t'.base, m.epoch, m.root, ?_, fun y hy => ?_⟩
    · rw [restart_n]
      exact m.safe.holds.congr (fun y _ => restart_still d' ks k cut (cl y))
    · rw [restart_get, restart_still d' ks k cut (cl y), m.fresh y hy]
/-- What was laid is read of its page. -/
theorem lay_zero {k : Nat} {d d' : St} {t t' : T} {n e : Int} {p : Pg} (G : Good k d t) (g : LayR d t 0 p d' t' n e) (he : e = 0) : t'.fresh n = true ∧ 2 ≤ n ∧ n < 60 ∧ Enc n p (d'.get n) := by
  have hk : PoolOk t.pool d.n := G.safe.pre.pk
  have h0 : ¬ t.fresh 0 = true := fun e => by have := (G.safe.pre.inv.out e).low; omega
  rcases g with ⟨_, _, _, _, h⟩ | ⟨_, ⟨hx, _, _, _, h⟩ | ⟨hz, x, hw, ⟨rfl, rfl, rfl, -⟩ | ⟨hx, _, _, h⟩⟩⟩
  · rw [h] at he; exact absurd he (by decide)
  · exact absurd (h.symm.trans he) hx
  · by_cases h1 : (takeT t d.n).2.2 = 0
    · have hp : placeT t d.n 0 = (frT (takeT t d.n).1 (takeT t d.n).2.1 true, (takeT t d.n).2.1, 0) := by rw [placeT, if_neg h0, if_pos h1, if_pos rfl]
      have ra := takeT_at hk h1
      obtain ⟨l, hl, hC⟩ := hw.writ.done rfl
      rw [hp] at hl hC ⊢
      refine ⟨?_, ra.1, by have := ra.2; have := G.n; show (takeT t d.n).2.1 < 60; omega, ?_⟩
      · show fup (takeT t d.n).1.fresh _ true _ = true
        exact fup_at _ _ _
      · have : d'.get (takeT t d.n).2.1 = l := by rw [St.get, hC]; rfl
        show Enc (takeT t d.n).2.1 p (d'.get (takeT t d.n).2.1)
        rw [this]; exact hl
    · have hp : placeT t d.n 0 = ((takeT t d.n).1, 0, (takeT t d.n).2.2) := by rw [placeT, if_neg h0, if_neg h1]
      rw [hp] at hz; exact absurd hz h1
  · rw [h] at he; exact absurd he hx
theorem dev_all (B : Blk) : ∀ x ∈ [B.sb, B.bl, B.bc], x ∈ B.all := by
  intro x hx
  simp only [Blk.all, List.mem_cons, List.not_mem_nil, or_false] at hx ⊢
  rcases hx with h | h | h <;> simp [h]
/-- A store's device is given a fuse. -/
theorem SOn.fuse {w0 w : World} {B : Blk} {d : St} {t : T} (h : SOn w0 w B d t) (k : Int) (k1 : k ≤ 9223372036854775807) :
    Calls Tryz.prog 28 #[ptr B.sb, .int .i64 k] w fun e w' => e = .returned (.tuple #[]) ∧ SOn w0 w' B (d.setFuse k) t ∧ Mod B.all w w' := by
  obtain ⟨a, s⟩ := h.has
  refine (Disk.fuse_dev w B.sb B.bl B.bc d k s.dev k1).mono ?_
  rintro e w' ⟨rfl, hd, m⟩
  exact ⟨rfl, h.mod ⟨a, s.withDev hd m rfl⟩ (m.mono (dev_all B)), m.mono (dev_all B)⟩
/-- .. and starts anew. -/
theorem SOn.restart {w0 w : World} {B : Blk} {d : St} {t : T} (h : SOn w0 w B d t) (A : Option Addr) (n c : Nat) (k cut : Int) (ks : List Int) (hks : ks.length = n) (hn : n ≤ 9223372036854775807) (hR : Disk.IRow w0 A ks)
    (hkb : ∀ x ∈ ks, I64 x) (hk : I64 k) :
    Calls Tryz.prog 22 #[ptr B.sb, .slice A n c, .int .i64 k, .int .i64 cut] w fun e w' => e = .returned (.tuple #[]) ∧ SOn w0 w' B (d.restart ks k cut) t ∧ Mod B.all w w' := by
  obtain ⟨a, s⟩ := h.has
  refine (Disk.restart_dev w B.sb B.bl B.bc d A n c k cut ks hks hn (RowG.below hR h.below) (fun hne a ha => by
    obtain ⟨b, off, e, hb, _⟩ := hR hne
    rw [ha] at e
    cases e
    have f : ∀ x ∈ B.all, b ≠ x := fun x hx e => by have := h.new x hx; omega
    exact ⟨f _ (dev_all B _ (by simp)), f _ (dev_all B _ (by simp)), f _ (dev_all B _ (by simp))⟩) hkb hk.1 hk.2 s.dev).mono ?_
  rintro e w' ⟨rfl, hd, m⟩
  exact ⟨rfl, h.mod ⟨a, s.withDev hd m (restart_n d ks k cut)⟩ (m.mono (dev_all B)), m.mono (dev_all B)⟩
end Go.Proofs.YthnodkhcenmnfaaGreat.Store
