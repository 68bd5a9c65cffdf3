/-
  Texts of one family, one behind the other: SDraft, SList, SLead.
-/
import Derived.Test.YtboaamaneeodfaaGreatKS2
import Derived.Test.YtboaamaneeodfaaGreatKQ3
namespace Go.Proofs.YtboaamaneeodfaaGreat.Store
open Go.RowKit Gen
open Disk (St Dev Mod ptr)
open Page (Pg Lay PgOk PgRows pgC pgV Enc IsDec BytesAt)
open Pool (Po NAt PoAt La poC poV numV At takeP giveP backP Fresh PoolOk OwnI chunks layAll)

theorem chunks_size : ∀ (l : List Int), (chunks l).length = (l.length + 199) / 200 := by
  intro l
  obtain ⟨n, hn⟩ : ∃ n, l.length = n := ⟨_, rfl⟩
  induction n using Nat.strongRecOn generalizing l with
  | ind n ih =>
    by_cases h : l.length = 0
    · rw [List.eq_nil_of_length_eq_zero h]; rfl
    · rw [Pool.chunks_cons l h, List.length_cons, ih (l.drop 200).length (by rw [List.length_drop]; omega) _ rfl, List.length_drop]
      omega
/-- How many lists a pool has. -/
def many (p : Po) : Nat := (chunks (layAll p.free p.limbo)).length
theorem many_eq (p : Po) : many p = (p.free.length + p.limbo.length + 199) / 200 := by rw [many, chunks_size, Pool.layAll_len]
/-- Lists' pages are taken till there are enough. -/
inductive Takes (N : Int) : T → List Int → T → List Int → Int → Prop
  | done {t own} : many t.pool ≤ own.length → Takes N t own t own 0
  | fail {t own} : own.length < many t.pool → (takeT t N).2.2 ≠ 0 → Takes N t own (takeT t N).1 own (takeT t N).2.2
  | step {t own t' own' x} : own.length < many t.pool → (takeT t N).2.2 = 0 → Takes N (takeT t N).1 (own ++ [(takeT t N).2.1]) t' own' x → Takes N t own t' own' x
theorem take_many (t : T) (N : Int) : many (takeT t N).1.pool ≤ many t.pool := by
  rw [takeT]
  by_cases h : (takeP t.pool N).2.2 = 0
  · rw [if_pos h, many_eq, many_eq]
    have h1 : (takeP t.pool N).1.free.length ≤ t.pool.free.length ∧ (takeP t.pool N).1.limbo.length ≤ t.pool.limbo.length := by
      unfold takeP
      rcases t.pool.free with _ | ⟨x, fs⟩
      · simp only
        split <;> simp
      · simp
    show ((takeP t.pool N).1.free.length + (takeP t.pool N).1.limbo.length + 199) / 200 ≤ _
    omega
  · rw [if_neg h]
    exact Nat.le_refl _

abbrev draC (B : Blk) (p : Pg) (y : Lay) (v : Value) : Array Value := #[ptr B.ss, .int .i64 p.kind, .slice y.A1 p.pairs.length y.c1, .slice y.A2 p.keys.length y.c2, .slice y.A3 p.kids.length y.c3, .slice y.A4 p.pages.length y.c4, .int .i64 p.next, .int .u64 (p.epoch : Int), .int .i64 p.root, .int .i64 p.depth, .int .i64 p.count, .int .i64 p.high, v]
/-- But for the draft's box and the store's own blocks all is as it was. -/
abbrev Fr (B : Blk) (cb : Nat) (w w' : World) : Prop := Mod (cb :: B.all) w w'
theorem Fr.refl (B : Blk) (cb : Nat) (w : World) : Fr B cb w w := Mod.refl _ w
theorem Fr.trans {B : Blk} {cb : Nat} {a b c : World} (h : Fr B cb a b) (k : Fr B cb b c) : Fr B cb a c := Mod.trans h k
theorem Fr.of_mod {B : Blk} {cb : Nat} {w w' : World} (h : Mod B.all w w') : Fr B cb w w' := h.mono (fun _ hx => List.mem_cons_of_mem _ hx)
/-- The store's lists lie apart from a block. -/
structure SepB (g : Nat) (t : T) (a : Lys) : Prop where
  o : t.own ≠ [] → Off [g] a.o
  bf : t.base.free ≠ [] → Off [g] a.b.A1
  bl : t.base.limbo ≠ [] → Off [g] a.b.A2
  pf : t.pool.free ≠ [] → Off [g] a.p.A1
  pl : t.pool.limbo ≠ [] → Off [g] a.p.A2
/-- .. from the block of one of the call's own lists. -/
def Sep (v : Value) (t : T) (a : Lys) : Prop := ∀ g, v.ownBlock = some g → SepB g t a
theorem nat_block {w : World} {A : Option Addr} {n c : Nat} {l : List Int} (h : NAt w A n c l) (hne : l ≠ []) : ∀ x, A = some x → x.block < w.heap.size := fun x e => by
  obtain ⟨b, o, e', hlt, _⟩ := h.row hne
  rw [e] at e'
  cases e'
  exact hlt
theorem Off.cons {B : Blk} {x : Nat} {A : Option Addr} (h : Off B.off A) (k : Off [x] A) : Off (Blk.off { B with xs := x :: B.xs }) A := fun y e hy => by
  unfold Blk.off at hy
  rcases List.mem_append.1 hy with g | g
  · exact h y e (List.mem_append_left _ g)
  · rcases List.mem_cons.1 g with g | g
    · exact k y e (by rw [g]; simp)
    · exact h y e (List.mem_append_right _ g)
/-- One block more that the lists keep off. -/
theorem Sto.addx {w : World} {B : Blk} {d : St} {t : T} {a : Lys} (h : Sto w B d t a) {x : Nat} (hx : x < w.heap.size) (k : SepB x t a) : Sto w { B with xs := x :: B.xs } d t a :=
  { box := h.box, dev := h.dev, fr := h.fr, n1 := h.n1, n2 := h.n2, own := h.own, base := h.base, pool := h.pool, ao := fun e => (h.ao e).cons (k.o e), ab := ⟨fun e => (h.ab.1 e).cons (k.bf e), fun e => (h.ab.2 e).cons (k.bl e)⟩, ap := ⟨fun e => (h.ap.1 e).cons (k.pf e), fun e => (h.ap.2 e).cons (k.pl e)⟩,
    xl := fun y hy => (List.mem_cons.1 hy).elim (fun e => by rw [e]; exact hx) (h.xl y), ok := h.ok, bare := h.bare, bk := h.bk, pk := h.pk }
theorem Off.one {B : Blk} {x : Nat} (hx : x ∈ B.xs) {A : Option Addr} (h : Off B.off A) : Off [x] A := h.mono (fun y hy => by
  rw [List.mem_singleton] at hy
  rw [hy]
  exact List.mem_append_right _ hx)
theorem Sto.sepx {w : World} {B : Blk} {d : St} {t : T} {a : Lys} (h : Sto w B d t a) {x : Nat} (hx : x ∈ B.xs) : SepB x t a :=
  ⟨fun e => (h.ao e).one hx, fun e => (h.ab.1 e).one hx, fun e => (h.ab.2 e).one hx, fun e => (h.ap.1 e).one hx, fun e => (h.ap.2 e).one hx⟩
/-- A draft: its store, its superblock, and the pages of its lists. -/
structure Dr (w : World) (cb : Nat) (B : Blk) (d : St) (t : T) (a : Lys) (p : Pg) (y : Lay) (v : Value) (own : List Int) : Prop where
  sto : Sto w B d t a
  box : At w cb (draC B p y v)
  low : ∀ x ∈ B.all, x < cb
  lowx : ∀ x ∈ B.xs, x < cb
  own : OwnI w (cb + 1) v own
  cbs : SepB cb t a
theorem own_low {w : World} {lo : Nat} {v : Value} {l : List Int} (h : OwnI w lo v l) {g : Nat} (hg : v.ownBlock = some g) : lo ≤ g ∧ g < w.heap.size := by
  have := World.ownsRow.lt h g hg
  exact ⟨this.1, this.2⟩
theorem own_mod {w w' : World} {S : List Nat} {lo : Nat} {v : Value} {l : List Int} (h : OwnI w lo v l) (m : Mod S w w') (hs : ∀ x ∈ S, x < lo) : OwnI w' lo v l := by
  obtain ⟨hl, h | ⟨g, cap, cur, rfl, hg, hh, h4, h5, h6, h7⟩⟩ := h
  · exact ⟨hl, .inl h⟩
  · exact ⟨hl, .inr ⟨g, cap, cur, rfl, hg, by rw [m.block g (Array.getElem?_eq_some_iff.1 hh).1 (fun e => by have := hs g e; omega)]; exact hh, h4, h5, h6, h7⟩⟩
/-- The store and its device have changed. -/
theorem Dr.step {w w' : World} {cb : Nat} {B : Blk} {d d' : St} {t t' : T} {a a' : Lys} {p : Pg} {y : Lay} {v : Value} {own : List Int} (h : Dr w cb B d t a p y v own) (s : Sto w' B d' t' a') (m : Mod B.all w w') (c : SepB cb t' a') : Dr w' cb B d' t' a' p y v own :=
  ⟨s, at_mod h.box m (fun e => Nat.lt_irrefl _ (h.low _ e)), h.low, h.lowx, own_mod h.own m (fun x hx => Nat.lt_succ_of_lt (h.low x hx)), c⟩
theorem Dr.below {w w' : World} {cb : Nat} {B : Blk} {d : St} {t : T} {a : Lys} {p : Pg} {y : Lay} {v : Value} {own : List Int} (h : Dr w cb B d t a p y v own) (b : Below w.heap.size w w') : Dr w' cb B d t a p y v own := h.step (h.sto.below b) (mod_below b) h.cbs
/-- Only a block that is none of the store's has changed. -/
theorem Sto.other {w w' : World} {B : Blk} {d : St} {t : T} {a : Lys} (h : Sto w B d t a) {g : Nat} (m : Mod [g] w w') (hg : g ∉ B.all) (k : SepB g t a) : Sto w' B d t a := by
  have e1 : ∀ x ∈ B.all, x ∉ [g] := fun x hx e => hg (by have : x = g := by simpa using e
                                                         rw [← this]; exact hx)
  exact { box := at_mod h.box m (e1 _ (by simp [Blk.all])), dev := h.dev.kept m (e1 _ (by simp [Blk.all])) (e1 _ (by simp [Blk.all])) (e1 _ (by simp [Blk.all])), fr := h.fr.of_block (m.block _ h.fr.lt (e1 _ (by simp [Blk.all]))), n1 := h.n1, n2 := h.n2, own := nat_mod' h.own m k.o, base := ⟨nat_mod' h.base.f m k.bf, nat_mod' h.base.l m k.bl⟩, pool := ⟨nat_mod' h.pool.f m k.pf, nat_mod' h.pool.l m k.pl⟩, ao := h.ao, ab := h.ab, ap := h.ap, xl := fun x hx => Nat.lt_of_lt_of_le (h.xl x hx) m.size, ok := h.ok, bare := h.bare, bk := h.bk, pk := h.pk }
theorem own_none {g : Nat} : (Value.slice none 0 0).ownBlock ≠ some g := fun e => by cases e
theorem Sep.nil (t : T) (a : Lys) : Sep (.slice none 0 0) t a := fun _ e => absurd e own_none
theorem take_part (t : T) (N : Int) : (takeT t N).1.own = t.own ∧ (takeT t N).1.base = t.base ∧ (takeT t N).1.sup = t.sup ∧ (takeT t N).1.fresh = t.fresh ∧ ((takeT t N).1.pool.free ≠ [] → t.pool.free ≠ []) ∧ ((takeT t N).1.pool.limbo ≠ [] → t.pool.limbo ≠ []) := by
  rw [takeT]
  by_cases h : (takeP t.pool N).2.2 = 0
  · rw [if_pos h]
    refine ⟨rfl, rfl, rfl, rfl, ?_⟩
    show ((takeP t.pool N).1.free ≠ [] → _) ∧ ((takeP t.pool N).1.limbo ≠ [] → _)
    unfold takeP
    rcases t.pool.free with _ | ⟨x, fs⟩
    · simp only
      split <;> simp
    · simp
  · rw [if_neg h]
    exact ⟨rfl, rfl, rfl, rfl, id, id⟩
/-- Behind a page that is taken. -/
theorem SepB.take {n : Nat} {t : T} {N : Int} {a a' : Lys} {g : Nat} (h : SepB g t a) (hl : Lyt n a a') (hg : g < n) : SepB g (takeT t N).1 a' := by
  obtain ⟨p1, p2, _, _, p5, p6⟩ := take_part t N
  have fr : ∀ {A : Option Addr}, (∀ x, A = some x → n ≤ x.block) → Off [g] A := fun hA x e hx => by
    have h1 := hA x e
    rw [List.mem_singleton] at hx
    omega
  refine ⟨fun hne => by rw [hl.1]; exact h.o (by rw [p1] at hne; exact hne), fun hne => by rw [hl.2.1]; exact h.bf (by rw [p2] at hne; exact hne), fun hne => by rw [hl.2.1]; exact h.bl (by rw [p2] at hne; exact hne), fun hne => ?_, fun hne => ?_⟩
  · rcases hl.2.2 with e | e
    · rw [e]; exact h.pf (p5 hne)
    · exact fr e.1
  · rcases hl.2.2 with e | e
    · rw [e]; exact h.pl (p6 hne)
    · exact fr e.2
/-- A block that is yet to be made. -/
theorem SepB.new {w : World} {B : Blk} {d : St} {t : T} {a : Lys} (s : Sto w B d t a) {g : Nat} (hg : w.heap.size ≤ g) : SepB g t a := by
  have k : ∀ {A : Option Addr} {n c : Nat} {l : List Int}, NAt w A n c l → l ≠ [] → Off [g] A := fun hN hne x ex hx => by
    have h1 := nat_block hN hne x ex
    rw [List.mem_singleton] at hx
    omega
  exact ⟨fun hne => k s.own hne, fun hne => k s.base.f hne, fun hne => k s.base.l hne, fun hne => k s.pool.f hne, fun hne => k s.pool.l hne⟩
/-- Behind an append. -/
theorem Sep.more {w : World} {B : Blk} {d : St} {t : T} {a : Lys} {v v' : Value} (h : Sep v t a) (s : Sto w B d t a) (hv : v'.ownBlock = v.ownBlock ∨ v'.ownBlock = some w.heap.size) : Sep v' t a := by
  rcases hv with e | e
  · exact fun g hg => h g (e ▸ hg)
  · exact fun g hg => SepB.new s (by rw [e] at hg; cases hg; exact Nat.le_refl _)
theorem dr_cells {w : World} {cb : Nat} {B : Blk} {p : Pg} {y : Lay} {v : Value} (h : At w cb (draC B p y v)) : w.cell? ⟨cb, 0, none⟩ = some (ptr B.ss) ∧ w.cell? ⟨cb, 12, none⟩ = some v := ⟨h.2.2 0 _ rfl, h.2.2 12 _ rfl⟩
theorem own_shape {w : World} {lo : Nat} {v : Value} {l : List Int} (h : OwnI w lo v l) : ∃ A c, v = .slice A l.length c ∧ NAt w A l.length c l := by
  obtain ⟨A, n, c, e, hN, _⟩ := Pool.own_nums h
  obtain rfl := hN.len
  exact ⟨A, c, e, hN⟩
set_option maxRecDepth 100000 in
/-- The page behind one. -/
theorem next_any {w : World} {cb : Nat} {B : Blk} {p : Pg} {y : Lay} {v : Value} {lo : Nat} {own : List Int} (hb : At w cb (draC B p y v)) (ho : OwnI w lo v own) (k : Nat) (hk : k < own.length) (hm : own.length ≤ 100000) :
    Calls Tryz.prog 101 #[ptr cb, .int .i64 (k : Int)] w fun e w' => e = .returned (numV (own.getD (k + 1) 0)) ∧ w = w' := by
  obtain ⟨A, c, rfl, hN⟩ := own_shape ho
  have c12 := (dr_cells hb).2
  have hw : IntKind.i64.wrap ((k : Int) + 1) = (k : Int) + 1 := IntWalk.i64_in _ (by omega)
  by_cases h1 : k + 1 = own.length
  · have d1 : (((k : Int) + 1) == (own.length : Int)) = true := by simp; omega
    have EQ := Lib.hid (show own.getD (k + 1) 0 = 0 from by rw [List.getD_eq_getElem?_getD, List.getElem?_eq_none (by omega)]; rfl)
    clear hN ho hb h1 hk hm
    go_enter Tryz.func101, Tryz.ntmps101
    go_wp2_with fail
    go_ret
    exact ⟨by rw [EQ.out]; rfl, rfl⟩
  · have d1 : (((k : Int) + 1) == (own.length : Int)) = false := beq_eq_false_iff_ne.2 (by omega)
    obtain ⟨b, o, rfl, hlt, hc⟩ := hN.row (by intro e; rw [e] at hk; simp at hk)
    have hc1 := hc (k + 1) (by omega)
    have EQ := Lib.hid (show own.getD (k + 1) 0 = own[k + 1]'(by omega) from by rw [List.getD_eq_getElem?_getD, List.getElem?_eq_getElem (by omega)]; rfl)
    have hlt2 : k + 1 < own.length := by omega
    obtain ⟨m, hm'⟩ : ∃ m, own.length = m := ⟨_, rfl⟩
    obtain ⟨z, hz⟩ : ∃ z, own[k + 1]'(by omega) = z := ⟨_, rfl⟩
    rw [hz] at hc1 EQ
    rw [hm'] at c12 d1 hlt2
    clear hN ho hb h1 hk hm hc hz hm'
    go_enter Tryz.func101, Tryz.ntmps101
    go_wp2_with fail
    go_ret
    exact ⟨by rw [EQ.out]; rfl, rfl⟩
theorem cell1 (W : World) (x : Int) : RowG (W.alloc (.cells #[.int .i64 x] 3)) numV (some ⟨W.heap.size, 0, none⟩) [x] := fun _ =>
  ⟨W.heap.size, 0, rfl, by simp, fun k hk => by
    obtain rfl : k = 0 := by simp at hk; omega
    exact (Pool.cell1 W (.int .i64 x) 3).1⟩
/-- What a draft's method does: its error, the store behind it, its pages. -/
def Drafted (cb : Nat) (B : Blk) (lo : Nat) (p : Pg) (y : Lay) (R : St → T → List Int → Int → Prop) (w : World) (e : Ending) (w' : World) : Prop := ∃ d' t' own' x, e = .returned (numV x) ∧ R d' t' own' x ∧ (∃ a' v', Dr w' cb B d' t' a' p y v' own') ∧ Fr B lo w w'
def lenV : Value → Nat
  | .slice _ n _ => n
  | _ => 0
structure TkRel (w : World) (cb : Nat) (B : Blk) (d : St) (t0 : T) (own0 : List Int) (p : Pg) (y : Lay) (K : Nat) (t : T) (a : Lys) (v : Value) (own : List Int) (wr : World) : Prop where
  dr : Dr wr cb B d t a p y v own
  sep : Sep v t a
  fr : Fr B cb w wr
  up : ∀ g, v.ownBlock = some g → w.heap.size ≤ g
  many : many t.pool ≤ K
  len : own.length ≤ K
  rest : ∀ t' own' x, Takes d.n t own t' own' x → Takes d.n t0 own0 t' own' x
set_option maxRecDepth 100000 in
set_option maxHeartbeats 8000000 in
theorem dtake_any {w : World} {cb : Nat} {B : Blk} {d : St} {t : T} {a : Lys} {p : Pg} {y : Lay} (h : Dr w cb B d t a p y (.slice none 0 0) []) :
    Calls Tryz.prog 66 #[ptr cb] w (Drafted cb B cb p y (fun d' t' own' x => d' = d ∧ Takes d.n t [] t' own' x) w) := by
  obtain ⟨K, hK⟩ : ∃ K, many t.pool = K := ⟨_, rfl⟩
  have HK : Hid (K ≤ 42) := by
    have h1 := ok_len h.sto.pk (by have := h.sto.dev.nle; omega)
    have h2 := many_eq t.pool
    exact Lib.hid (by omega)
  have H0 : Hid (TkRel w cb B d t [] p y K t a (.slice none 0 0) [] w) := Lib.hid ⟨h, Sep.nil t a, Fr.refl _ _ _, fun _ e => absurd e own_none, by omega, Nat.zero_le _, fun _ _ _ => id⟩
  clear h hK
  go_enter Tryz.func66, Tryz.ntmps66
  go_wp2_with fail
  go_loopw [] (fun wr => ∃ t1 a1 v own, TkRel w cb B d t [] p y K t1 a1 v own wr) (fun wr => K - lenV ((wr.cell? ⟨cb, 12, none⟩).getD (.bool false)))
  case atStart => exact ⟨t, a, _, [], H0.out⟩
  case round =>
    obtain ⟨t1, a1, v, own, hr⟩ := hrel
    obtain ⟨A, c, rfl, hN⟩ := own_shape hr.dr.own
    have R := Lib.hid hr
    have bD : Below wr.heap.size wr wr.drew := (Below.refl _ _).drew
    have KS : ∀ w', Below wr.heap.size wr w' → w'.cell? ⟨cb, 0, none⟩ = some (ptr B.ss) ∧ w'.cell? ⟨cb, 12, none⟩ = some (.slice A own.length c) ∧ w'.cell? ⟨B.ss, 16, none⟩ = some (.int .i64 t1.pool.high) ∧ w'.cell? ⟨B.ss, 17, none⟩ = some (.slice a1.p.A1 t1.pool.free.length a1.p.c1) ∧ w'.cell? ⟨B.ss, 18, none⟩ = some (.slice a1.p.A2 t1.pool.limbo.length a1.p.c2) := fun w' hb => by
      have g := hr.dr.below hb
      have g1 := dr_cells g.box
      have g2 := g.sto.cells
      exact ⟨g1.1, g1.2, g2.2.1, g2.2.2.1, g2.2.2.2.1⟩
    have K0 := Lib.hid (KS _ bD)
    have HKS := Lib.hid KS
    have BD := Lib.hid bD
    have cL := Pool.lists_any t1.pool a1.p wr.drew (hr.dr.sto.below bD).pool hr.dr.sto.few.1 hr.dr.sto.few.2
    unfold poV poC at cL
    clear KS bD hN hr
    go_wp2_with fail
    go_region_held3 (fun w' => w'.cell? ⟨cb, 0, none⟩ = some (ptr B.ss) ∧ w'.cell? ⟨cb, 12, none⟩ = some (.slice A own.length c) ∧ w'.cell? ⟨B.ss, 16, none⟩ = some (.int .i64 t1.pool.high) ∧ w'.cell? ⟨B.ss, 17, none⟩ = some (.slice a1.p.A1 t1.pool.free.length a1.p.c1) ∧ w'.cell? ⟨B.ss, 18, none⟩ = some (.slice a1.p.A2 t1.pool.limbo.length a1.p.c2))
      (with_reducible (first | exact K0.out | exact K1.out))
      (first
        | (go_at_call 99; (with_reducible refine cL.mono ?_); rintro e w1 ⟨v2, xs, rfl, ho, hp, hm, hb, hf⟩
           have hq : xs.length = many t1.pool := by rw [many, ← hm, List.length_map]
           obtain ⟨A2, c2, rfl, -, -, -, -⟩ := OwnG.row ho
           have B1 := Lib.hid (BD.out.trans hb)
           have K1 := Lib.hid (HKS.out _ B1.out)
           have HQ := Lib.hid hq
           clear ho hp hm hf hb))
    obtain ⟨k0, k12, -, -, -⟩ := K1.out
    have D1 := Lib.hid (R.out.dr.below B1.out)
    have F1 := Lib.hid (R.out.fr.trans (Fr.of_mod (mod_below B1.out)))
    clear K0 K1 HKS BD cL
    by_cases hlt : own.length < many t1.pool
    · have cT := take_lyt D1.out.sto
      obtain ⟨n1, hn1⟩ : ∃ n1, (takeT t1 d.n).2.1 = n1 := ⟨_, rfl⟩
      obtain ⟨e1, he1⟩ : ∃ e1, (takeT t1 d.n).2.2 = e1 := ⟨_, rfl⟩
      obtain ⟨t2, ht2⟩ : ∃ t2, (takeT t1 d.n).1 = t2 := ⟨_, rfl⟩
      rw [hn1, he1, ht2] at cT
      have HT := Lib.hid (show (takeT t1 d.n).1 = t2 ∧ (takeT t1 d.n).2.1 = n1 ∧ (takeT t1 d.n).2.2 = e1 from ⟨ht2, hn1, he1⟩)
      have HLT := Lib.hid hlt
      clear hn1 he1 ht2
      go_wp2_with fail
      refine cT.mono ?_
      rintro e w2 ⟨rfl, ⟨a2, s2, hl2⟩, m2⟩
      have D2 := Lib.hid (D1.out.step s2 m2 (by rw [← HT.out.1]; exact D1.out.cbs.take hl2 D1.out.box.1))
      have F2 := Lib.hid (F1.out.trans (Fr.of_mod m2))
      have SP2 := Lib.hid (show Sep (.slice A own.length c) t2 a2 from by rw [← HT.out.1]; exact fun g hg => (R.out.sep g hg).take hl2 (own_low D1.out.own hg).2)
      clear s2 hl2 m2 cT D1 F1 k0 k12
      by_cases h0 : e1 = 0
      · have d1 : (e1 != 0) = false := by simp [h0]
        have k12 := (dr_cells D2.out.box).2
        have hlk := HLT.out
        have b3 := Pool.below_box w2 (.cells #[.int .i64 n1] 3)
        have cells := cell1 w2 n1
        obtain ⟨v', w3, hrun, ho3, hg3, hv3⟩ := append_row Pool.ints_elem (w2.alloc (.cells #[.int .i64 n1] 3)) (cb + 1) (.slice A own.length c) own (OwnG.kept D2.out.own b3) (some ⟨w2.heap.size, 0, none⟩) 1 1 [n1] rfl (fun e => by cases e) cells (by have := R.out.len; have := HK.out; simp; omega) (by have := D2.out.box.1; have := b3.size; omega)
        have hne : ∀ g, (Value.slice A own.length c).ownBlock = some g → g ∉ B.all ∧ g ≠ cb := fun g hg => by
          have h1 := (own_low D2.out.own hg).1
          exact ⟨fun e => by have := D2.out.low g e; omega, by omega⟩
        have S3 : Sto w3 B d t2 a2 := by
          rcases hv : (Value.slice A own.length c).ownBlock with _ | g
          · rw [hv] at hg3
            exact (D2.out.sto.below b3).below ((Below.refl _ _).grown hg3 (Nat.le_refl _) (fun k e => by cases e))
          · rw [hv] at hg3
            exact (D2.out.sto.below b3).other ((Mod.refl [g] _).grown hg3 (fun k e => .inl (by cases e; simp))) (hne g hv).1 (SP2.out g hv)
        have A3 : At w3 cb (draC B p y (.slice A own.length c)) := by
          have h1 := D2.out.box.below b3 D2.out.box.1
          rcases hv : (Value.slice A own.length c).ownBlock with _ | g
          · rw [hv] at hg3
            exact h1.below ((Below.refl _ _).grown hg3 (Nat.le_refl _) (fun k e => by cases e)) h1.1
          · rw [hv] at hg3
            exact at_mod h1 ((Mod.refl [g] _).grown hg3 (fun k e => .inl (by cases e; simp))) (by have := (hne g hv).2; simp; omega)
        have F3 : Fr B cb w w3 := (Mod.alloc F2.out (.cells #[.int .i64 n1] 3)).grown hg3 (fun k e => .inr (R.out.up k e))
        have U3 : ∀ g, v'.ownBlock = some g → w.heap.size ≤ g := fun g hg => by
          rcases hv3 with e | e
          · exact R.out.up g (e ▸ hg)
          · rw [e] at hg
            cases hg
            have := F2.out.size
            simp only [World.size_alloc] at *
            omega
        have SP3 := SP2.out.more (D2.out.sto.below b3) hv3
        obtain ⟨A', c', rfl, hN'⟩ := own_shape ho3
        have el : (own ++ [n1]).length = own.length + 1 := by simp
        rw [el] at ho3 hv3 hrun SP3 hN' U3
        have hcb : ∀ g, (Value.slice A' (own.length + 1) c').ownBlock = some g → g ≠ cb := fun g hg => by
          have h1 := (own_low ho3 hg).1
          omega
        have A4 : At (w3.setCell ⟨cb, 12, none⟩ (.slice A' (own.length + 1) c')) cb (draC B p y (.slice A' (own.length + 1) c')) := A3.set 12 _ (by simp)
        have M4 : Mod [cb] w3 (w3.setCell ⟨cb, 12, none⟩ (.slice A' (own.length + 1) c')) := mod_set w3 cb 12 _
        have r12 : w3.cell? ⟨cb, 12, none⟩ = some (.slice A own.length c) := A3.2.2 12 _ rfl
        have fz := A3.2.1 12
        have hcbn : cb ∉ B.all := fun e => Nat.lt_irrefl _ (D2.out.low cb e)
        have hk2 : many t2.pool ≤ K := by rw [← HT.out.1]; exact Nat.le_trans (take_many t1 d.n) R.out.many
        have NEW := Lib.hid (show TkRel w cb B d t [] p y K t2 a2 (.slice A' (own.length + 1) c') (own ++ [n1]) (w3.setCell ⟨cb, 12, none⟩ (.slice A' (own.length + 1) c')) from
          { dr := ⟨S3.other M4 hcbn D2.out.cbs, A4, D2.out.low, D2.out.lowx, own_mod ho3 M4 (fun x hx => by rw [List.mem_singleton] at hx; omega), D2.out.cbs⟩, sep := SP3
            fr := F3.trans (M4.mono (fun x hx => by rw [List.mem_singleton] at hx; rw [hx]; exact List.mem_cons_self ..)), up := U3
            many := hk2, len := by have := R.out.many; rw [el]; omega
            rest := fun t' own' x ht => R.out.rest t' own' x (.step hlk (by rw [HT.out.2.2]; exact h0) (by rw [HT.out.1, HT.out.2.1]; exact ht)) })
        have MS := Lib.hid (show K - lenV (((w3.setCell ⟨cb, 12, none⟩ (.slice A' (own.length + 1) c')).cell? ⟨cb, 12, none⟩).getD (.bool false)) < K - lenV ((wr.cell? ⟨cb, 12, none⟩).getD (.bool false)) from by
          rw [(dr_cells A4).2, (dr_cells R.out.dr.box).2]
          show K - (own.length + 1) < K - own.length
          have := R.out.many
          omega)
        have RR := Lib.hid hrun
        clear hrun ho3 hg3 hv3 hne S3 A3 U3 F3 SP3 hN' hcb A4 M4 h0 el hcbn hk2 D2 F2 SP2 R HT cells b3
        go_wp2_with (first | ((with_reducible refine wpList_append_eq rfl (.tmp 35) (.tmp 37) 68 rfl ?_ ?_ RR.out ?_); (next => rfl); (next => rfl)))
        exact ⟨⟨t2, a2, _, _, NEW.out⟩, MS.out⟩
      · have d1 : (e1 != 0) = true := by simp [h0]
        have FIN := Lib.hid (show (∃ a' v', Dr w2 cb B d t2 a' p y v' own) ∧ Takes d.n t [] t2 own e1 ∧ Fr B cb w w2 from ⟨⟨a2, _, D2.out⟩, R.out.rest _ _ _ (by
          have := Takes.fail (N := d.n) (t := t1) (own := own) HLT.out (by rw [HT.out.2.2]; exact h0)
          rw [HT.out.1, HT.out.2.2] at this
          exact this), F2.out⟩)
        clear h0 D2 F2 SP2 R HT
        go_wp2_with fail
        go_ret
        exact ⟨d, t2, own, e1, rfl, ⟨rfl, FIN.out.2.1⟩, FIN.out.1, FIN.out.2.2⟩
    · have FIN := Lib.hid (show (∃ a' v', Dr w1 cb B d t1 a' p y v' own) ∧ Takes d.n t [] t1 own 0 ∧ Fr B cb w w1 from ⟨⟨a1, _, D1.out⟩, R.out.rest _ _ _ (.done (by omega)), F1.out⟩)
      clear D1 F1 R k0 k12
      go_wp2_with fail
      go_ret
      exact ⟨d, t1, own, 0, rfl, ⟨rfl, FIN.out.2.1⟩, FIN.out.1, FIN.out.2.2⟩
end Go.Proofs.YtboaamaneeodfaaGreat.Store
namespace Go.Proofs.YtboaamaneeodfaaGreat.Store
open Go.RowKit Gen
open Disk (St Dev Mod ptr)
open Page (Pg Lay PgOk PgRows pgC pgV Enc IsDec BytesAt)
open Pool (Po NAt PoAt La poC poV numV At takeP giveP backP Fresh PoolOk OwnI chunks layAll Part PartsIn)

/-- The page of a list. -/
def listP (own : List Int) (ls : List (List Int)) (k : Nat) : Pg := { kind := 3, next := own.getD (k + 1) 0, pages := ls.getD k [] }
/-- Lists are written, one behind the other, up to an error. -/
inductive Writes (own : List Int) (ls : List (List Int)) : St → Nat → St → Int → Prop
  | done {d k} : own.length ≤ k → Writes own ls d k d 0
  | fail {d k d' x} : k < own.length → WriteR d (own.getD k 0) (listP own ls k) d' x → x ≠ 0 → Writes own ls d k d' x
  | step {d k d' d'' x} : k < own.length → WriteR d (own.getD k 0) (listP own ls k) d' 0 → Writes own ls d' (k + 1) d'' x → Writes own ls d k d'' x
/-- The lists, in memory of the call's own. -/
structure Ls (w : World) (B : Blk) (A : Option Addr) (n c : Nat) (xs : List Part) : Prop where
  len : xs.length = n
  row : RowG w Pool.encS A xs
  off : Off B.all A
  parts : PartsIn w xs
  offs : ∀ x ∈ xs, Off B.all x.1
theorem Ls.mod {w w' : World} {B : Blk} {A : Option Addr} {n c : Nat} {xs : List Part} (h : Ls w B A n c xs) (m : Mod B.all w w') : Ls w' B A n c xs :=
  ⟨h.len, row_mod h.row m h.off, h.off, fun x hx => nat_mod (h.parts x hx) m (h.offs x hx), h.offs⟩
structure LiRel (w : World) (cb : Nat) (B : Blk) (d0 : St) (t : T) (a : Lys) (p : Pg) (y : Lay) (v : Value) (own : List Int) (ls : List (List Int)) (A : Option Addr) (n c : Nat) (xs : List Part) (k : Nat) (d : St) (wr : World) : Prop where
  dr : Dr wr cb B d t a p y v own
  li : Ls wr B A n c xs
  fr : Fr B cb w wr
  rest : ∀ d' x, Writes own ls d k d' x → Writes own ls d0 0 d' x
theorem i64_getD {own : List Int} (h : ∀ x ∈ own, I64 x) (k : Nat) : I64 (own.getD k 0) := by
  rw [List.getD_eq_getElem?_getD]
  rcases Nat.lt_or_ge k own.length with g | g
  · rw [List.getElem?_eq_getElem g]; exact h _ (List.getElem_mem g)
  · rw [List.getElem?_eq_none g]; exact ⟨by show _ ≤ (0:Int); omega, by show (0:Int) ≤ _; omega⟩
theorem listP_ok {own : List Int} {ls : List (List Int)} {k : Nat} (h : ∀ x ∈ own, I64 x) (hl : (ls.getD k []).length ≤ 9223372036854775807) : PgOk (listP own ls k) := by
  have := i64_getD h (k + 1)
  refine ⟨?_, ?_, ?_, ?_, hl, this, ?_, ?_, ?_, ?_, ?_⟩ <;> simp [listP, Page.I64]
set_option maxRecDepth 100000 in
set_option maxHeartbeats 8000000 in
theorem dlist_any {w : World} {cb : Nat} {B : Blk} {d : St} {t : T} {a : Lys} {p : Pg} {y : Lay} {v : Value} {own : List Int} (h : Dr w cb B d t a p y v own) (hlen : own.length ≤ 100000) (hI : ∀ x ∈ own, I64 x) :
    Calls Tryz.prog 67 #[ptr cb] w (fun e w' => ∃ d' x, e = .returned (numV x) ∧ Writes own (chunks (layAll t.pool.free t.pool.limbo)) d 0 d' x ∧ Dr w' cb B d' t a p y v own ∧ Fr B cb w w') := by
  have H := Lib.hid h
  have HL := Lib.hid hlen
  have HI := Lib.hid hI
  obtain ⟨A, c, rfl, hN⟩ := own_shape h.own
  have cL := Pool.lists_any t.pool a.p w h.sto.pool h.sto.few.1 h.sto.few.2
  obtain ⟨k0, k12⟩ := dr_cells h.box
  obtain ⟨_, s16, s17, s18, _⟩ := h.sto.cells
  generalize chunks (layAll t.pool.free t.pool.limbo) = ls at *
  unfold poV poC at cL
  clear hN h hlen hI
  go_enter Tryz.func67, Tryz.ntmps67
  go_wp2_with fail
  refine cL.mono ?_
  rintro e w1 ⟨v2, xs, rfl, ho, hp, hm, hb, hf⟩
  have hol : ∀ g, v2.ownBlock = some g → w.heap.size ≤ g := fun g hg => (World.ownsRow.lt ho g hg).1
  obtain ⟨A2, c2, rfl, -, -, -, hrow⟩ := OwnG.row ho
  have D1 := Lib.hid (H.out.below hb)
  have L1 := Lib.hid (show Ls w1 B A2 xs.length c2 xs from ⟨rfl, hrow, (H.out.sto.off (Nat.le_refl _) (fun x e => hol x.block (by rw [e]; rfl))).mono B.in_off, hp, fun x hx => (H.out.sto.off (Nat.le_refl _) (hf x hx)).mono B.in_off⟩)
  have F1 := Lib.hid (show Fr B cb w w1 from Fr.of_mod (mod_below hb))
  have HM := Lib.hid hm
  obtain ⟨k0', k12'⟩ := dr_cells D1.out.box
  obtain ⟨q, hq⟩ : ∃ q, xs.length = q := ⟨_, rfl⟩
  have HQ := Lib.hid hq
  obtain ⟨m, hmm⟩ : ∃ m, own.length = m := ⟨_, rfl⟩
  have HMM := Lib.hid hmm
  rw [hmm] at k12' D1 H
  rw [hq] at L1 ⊢
  clear hol ho hrow hp hb hf hm hq hmm k0 k12 s16 s17 s18 cL
  go_wp2_with fail
  clear k0' k12'
  go_loopw [21] (fun i wr => ∃ (k : Nat) (d1 : St), i = .int .i64 (k : Int) ∧ k ≤ m ∧ LiRel w cb B d t a p y (.slice A m c) own ls A2 q c2 xs k d1 wr) (fun i _ => m - (intOf i).toNat)
  case atStart => exact ⟨0, d, rfl, Nat.zero_le _, D1.out, L1.out, F1.out, fun _ _ => id⟩
  case round =>
    obtain ⟨k, d1, rfl, hk, hr⟩ := hrel
    have R := Lib.hid hr
    clear hr D1 L1 F1
    by_cases hlt : k < m
    · have hko : k < own.length := by have := HMM.out; omega
      obtain ⟨A', c', e, hN⟩ := own_shape R.out.dr.own
      cases e
      obtain ⟨b, o, rfl, hbl, hc⟩ := hN.row (by intro e; rw [e] at hko; simp at hko)
      have hcell := hc k hko
      have cN := next_any R.out.dr.box R.out.dr.own k hko HL.out
      obtain ⟨z, hz⟩ : ∃ z, own[k] = z := ⟨_, rfl⟩
      rw [hz] at hcell
      have hzz : own.getD k 0 = z := by rw [List.getD_eq_getElem?_getD, List.getElem?_eq_getElem hko, hz]; rfl
      obtain ⟨nx, hnx⟩ : ∃ nx, own.getD (k + 1) 0 = nx := ⟨_, rfl⟩
      rw [hnx] at cN
      have HZ := Lib.hid hzz
      have HNX := Lib.hid hnx
      clear hN hc hz hzz hnx
      go_wp2_with fail
      refine cN.mono ?_
      rintro e wn ⟨rfl, rfl⟩
      clear cN hcell
      have P1 := Lib.hid (put_page wr { kind := 3, next := nx } {})
      have b2 := Pool.below_box wr (.cells (pgC { kind := 3, next := nx } {}) 82)
      obtain ⟨W2, hW2⟩ : ∃ W2, wr.alloc (.cells (pgC { kind := 3, next := nx } {}) 82) = W2 := ⟨_, rfl⟩
      have ap2 : At W2 wr.heap.size (pgC { kind := 3, next := nx } {}) := hW2 ▸ at_new wr _ _
      rw [hW2] at P1 b2
      have hdr2 := R.out.dr.below b2
      have hli2 := R.out.li.mod (mod_below b2)
      have hfr2 := R.out.fr.trans (Fr.of_mod (mod_below (B := B) b2))
      clear hW2
      by_cases hkq : k < q
      · have hxl : k < xs.length := by have := HQ.out; omega
        obtain ⟨b', o', rfl, hbl', hc'⟩ := hli2.row (by intro e; rw [e] at hxl; simp at hxl)
        have hc2 := hc' k hxl
        obtain ⟨⟨X, cx, lx⟩, hx⟩ : ∃ z, xs[k] = z := ⟨_, rfl⟩
        have hpart := hli2.parts _ (List.getElem_mem hxl)
        have hoff := hli2.offs _ (List.getElem_mem hxl)
        rw [hx] at hc2 hpart hoff
        have hc2 : W2.cell? ⟨b', o' + k, none⟩ = some (.slice X lx.length cx) := hc2
        have hpart : NAt W2 X lx.length cx lx := hpart
        have hlsk : ls.getD k [] = lx := by
          have e1 : ls = xs.map (·.2.2) := HM.out.symm
          rw [e1, List.getD_eq_getElem?_getD, List.getElem?_map, List.getElem?_eq_getElem hxl, hx]; rfl
        have r4 : W2.cell? ⟨wr.heap.size, 4, none⟩ = some (.slice none 0 0) := ap2.2.2 4 _ rfl
        have fz := ap2.2.1 4
        have ap3 : At (W2.setCell ⟨wr.heap.size, 4, none⟩ (.slice X lx.length cx)) wr.heap.size (pgC { kind := 3, next := nx, pages := lx } { A4 := X, c4 := cx }) := ap2.set 4 _ (by simp)
        have b3 : Below wr.heap.size wr (W2.setCell ⟨wr.heap.size, 4, none⟩ (.slice X lx.length cx)) := b2.setCell (p := ⟨wr.heap.size, 4, none⟩) (Nat.le_refl _) _
        obtain ⟨W3, hW3⟩ : ∃ W3, W2.setCell ⟨wr.heap.size, 4, none⟩ (.slice X lx.length cx) = W3 := ⟨_, rfl⟩
        rw [hW3] at ap3 b3
        have AP := Lib.hid ap3
        have D2 := Lib.hid (R.out.dr.below b3)
        have L2 := Lib.hid (R.out.li.mod (mod_below b3))
        have F2 := Lib.hid (R.out.fr.trans (Fr.of_mod (mod_below (B := B) b3)))
        have hp0 := R.out.li.parts _ (List.getElem_mem hxl)
        rw [hx] at hp0
        have PR := Lib.hid (show PgRows W3 { kind := 3, next := nx, pages := lx } { A4 := X, c4 := cx } from ⟨fun h => absurd rfl h, fun h => absurd rfl h, fun h => absurd rfl h, (NAt.below hp0 b3).row⟩)
        have HP := Lib.hid (show listP own ls k = { kind := 3, next := nx, pages := lx } from by rw [listP, HNX.out, hlsk])
        have PO := Lib.hid (show PgOk { kind := 3, next := nx, pages := lx } from by
          rw [← HP.out]
          exact listP_ok HI.out (by rw [hlsk]; have h1 := hpart.cap; have h2 := hpart.max; unfold maxLen at h2; omega))
        clear hlsk hpart hoff hc' hbl' hx ap2 ap3 hp0 hdr2 hli2 hfr2 b2 b3
        go_wp2_with (first | ((with_reducible refine Disk.wpList_store_eq rfl 82 (.tmp 6) (.tmp 29) rfl _ _ ?_ ?_ P1.out ?_); (next => rfl); (next => rfl)))
        have KS : ∀ w', Below W3.heap.size W3 w' → w'.cell? ⟨cb, 0, none⟩ = some (ptr B.ss) ∧ w'.cell? ⟨wr.heap.size, 0, none⟩ = some (.int .i64 3) ∧ w'.cell? ⟨wr.heap.size, 1, none⟩ = some (.slice none 0 0) ∧ w'.cell? ⟨wr.heap.size, 2, none⟩ = some (.slice none 0 0) ∧ w'.cell? ⟨wr.heap.size, 3, none⟩ = some (.slice none 0 0) ∧ w'.cell? ⟨wr.heap.size, 4, none⟩ = some (.slice X lx.length cx) ∧ w'.cell? ⟨wr.heap.size, 5, none⟩ = some (.int .i64 nx) ∧ w'.cell? ⟨wr.heap.size, 6, none⟩ = some (.int .u64 0) ∧ w'.cell? ⟨wr.heap.size, 7, none⟩ = some (.int .i64 0) ∧ w'.cell? ⟨wr.heap.size, 8, none⟩ = some (.int .i64 0) ∧ w'.cell? ⟨wr.heap.size, 9, none⟩ = some (.int .i64 0) ∧ w'.cell? ⟨wr.heap.size, 10, none⟩ = some (.int .i64 0) := fun w' hb => by
          have g1 := (dr_cells (D2.out.below hb).box).1
          have g2 := AP.out.below hb AP.out.1
          exact ⟨g1, g2.2.2 0 _ rfl, g2.2.2 1 _ rfl, g2.2.2 2 _ rfl, g2.2.2 3 _ rfl, g2.2.2 4 _ rfl, g2.2.2 5 _ rfl, g2.2.2 6 _ rfl, g2.2.2 7 _ rfl, g2.2.2 8 _ rfl, g2.2.2 9 _ rfl, g2.2.2 10 _ rfl⟩
        have bD : Below W3.heap.size W3 W3.drew := (Below.refl _ _).drew
        have K0 := Lib.hid (KS _ bD)
        have cW : Calls Tryz.prog 102 #[ptr B.ss, .int .i64 z, .agg #[.int .i64 3, .slice none 0 0, .slice none 0 0, .slice none 0 0, .slice X lx.length cx, .int .i64 nx, .int .u64 0, .int .i64 0, .int .i64 0, .int .i64 0, .int .i64 0]] W3.drew (Wrote B d1 t a z { kind := 3, next := nx, pages := lx } W3.drew) := write_any (D2.out.below bD).sto z { kind := 3, next := nx, pages := lx } { A4 := X, c4 := cx } PO.out (PR.out.below bD)
        have BD := Lib.hid bD
        have NB := Lib.hid (show wr.heap.size ∉ B.all from fun e => Nat.lt_irrefl _ (R.out.dr.sto.lt _ e))
        have HKS := Lib.hid (show ∀ w', Mod B.all W3 w' → w'.cell? ⟨cb, 0, none⟩ = some (ptr B.ss) ∧ w'.cell? ⟨wr.heap.size, 0, none⟩ = some (.int .i64 3) ∧ w'.cell? ⟨wr.heap.size, 1, none⟩ = some (.slice none 0 0) ∧ w'.cell? ⟨wr.heap.size, 2, none⟩ = some (.slice none 0 0) ∧ w'.cell? ⟨wr.heap.size, 3, none⟩ = some (.slice none 0 0) ∧ w'.cell? ⟨wr.heap.size, 4, none⟩ = some (.slice X lx.length cx) ∧ w'.cell? ⟨wr.heap.size, 5, none⟩ = some (.int .i64 nx) ∧ w'.cell? ⟨wr.heap.size, 6, none⟩ = some (.int .u64 0) ∧ w'.cell? ⟨wr.heap.size, 7, none⟩ = some (.int .i64 0) ∧ w'.cell? ⟨wr.heap.size, 8, none⟩ = some (.int .i64 0) ∧ w'.cell? ⟨wr.heap.size, 9, none⟩ = some (.int .i64 0) ∧ w'.cell? ⟨wr.heap.size, 10, none⟩ = some (.int .i64 0) from fun w' hm => by
          have g1 := (dr_cells (at_mod D2.out.box hm (fun e => Nat.lt_irrefl _ (D2.out.low _ e)))).1
          have g2 := at_mod AP.out hm NB.out
          exact ⟨g1, g2.2.2 0 _ rfl, g2.2.2 1 _ rfl, g2.2.2 2 _ rfl, g2.2.2 3 _ rfl, g2.2.2 4 _ rfl, g2.2.2 5 _ rfl, g2.2.2 6 _ rfl, g2.2.2 7 _ rfl, g2.2.2 8 _ rfl, g2.2.2 9 _ rfl, g2.2.2 10 _ rfl⟩)
        clear KS bD
        go_region_held3 (fun w' => w'.cell? ⟨cb, 0, none⟩ = some (ptr B.ss) ∧ w'.cell? ⟨wr.heap.size, 0, none⟩ = some (.int .i64 3) ∧ w'.cell? ⟨wr.heap.size, 1, none⟩ = some (.slice none 0 0) ∧ w'.cell? ⟨wr.heap.size, 2, none⟩ = some (.slice none 0 0) ∧ w'.cell? ⟨wr.heap.size, 3, none⟩ = some (.slice none 0 0) ∧ w'.cell? ⟨wr.heap.size, 4, none⟩ = some (.slice X lx.length cx) ∧ w'.cell? ⟨wr.heap.size, 5, none⟩ = some (.int .i64 nx) ∧ w'.cell? ⟨wr.heap.size, 6, none⟩ = some (.int .u64 0) ∧ w'.cell? ⟨wr.heap.size, 7, none⟩ = some (.int .i64 0) ∧ w'.cell? ⟨wr.heap.size, 8, none⟩ = some (.int .i64 0) ∧ w'.cell? ⟨wr.heap.size, 9, none⟩ = some (.int .i64 0) ∧ w'.cell? ⟨wr.heap.size, 10, none⟩ = some (.int .i64 0))
          (with_reducible (first | exact K0.out | exact K1.out))
          (first
            | (go_at_call 102; (with_reducible refine cW.mono ?_); rintro e w4 ⟨d2, x, rfl, hw, s4, m4⟩
               have M4 := Lib.hid ((mod_below (B := B) BD.out).trans m4)
               have K1 := Lib.hid (HKS.out _ M4.out)
               have S4 := Lib.hid s4
               have HW := Lib.hid hw
               clear s4 hw m4))
        have D4 := Lib.hid (D2.out.step S4.out M4.out D2.out.cbs)
        have L4 := Lib.hid (L2.out.mod M4.out)
        have F4 := Lib.hid (F2.out.trans (Fr.of_mod M4.out))
        clear K0 K1 HKS cW D2 L2 F2 AP PR S4 M4
        by_cases h0 : x = 0
        · have d1' : (x != 0) = false := by simp [h0]
          have NEW := Lib.hid (show LiRel w cb B d t a p y (.slice (some ⟨b, o, none⟩) own.length c) own ls (some ⟨b', o', none⟩) q c2 xs (k + 1) d2 w4 from
            ⟨D4.out, L4.out, F4.out, fun d' x' ht => R.out.rest d' x' (.step hko (by rw [HZ.out, HP.out]; rw [h0] at HW; exact HW.out) ht)⟩)
          have hwr : IntKind.i64.wrap ((k : Int) + 1) = (k : Int) + 1 := IntWalk.i64_in _ (by have := HL.out; omega)
          clear h0 D4 L4 F4 HW R HP PO HMM
          go_wp2_with fail
          exact ⟨⟨k + 1, d2, congrArg (Value.int .i64) (by omega), by omega, NEW.out⟩, by show own.length - ((k : Int) + 1).toNat < own.length - (k : Int).toNat; omega⟩
        · have d1' : (x != 0) = true := by simp [h0]
          have FIN := Lib.hid (show Writes own ls d 0 d2 x ∧ Dr w4 cb B d2 t a p y (.slice (some ⟨b, o, none⟩) own.length c) own ∧ Fr B cb w w4 from ⟨R.out.rest d2 x (.fail hko (by rw [HZ.out, HP.out]; exact HW.out) h0), D4.out, F4.out⟩)
          clear h0 D4 L4 F4 HW R HP PO HMM
          go_wp2_with fail
          go_ret
          exact ⟨d2, x, rfl, FIN.out⟩
      · have hlsk : ls.getD k [] = [] := by
          have e1 : ls = xs.map (·.2.2) := HM.out.symm
          rw [e1, List.getD_eq_getElem?_getD, List.getElem?_eq_none (by rw [List.length_map, HQ.out]; omega)]; rfl
        have AP := Lib.hid ap2
        have D2 := Lib.hid hdr2
        have L2 := Lib.hid hli2
        have F2 := Lib.hid hfr2
        have PR := Lib.hid (show PgRows W2 { kind := 3, next := nx } {} from ⟨fun h => absurd rfl h, fun h => absurd rfl h, fun h => absurd rfl h, fun h => absurd rfl h⟩)
        have HP := Lib.hid (show listP own ls k = { kind := 3, next := nx } from by rw [listP, HNX.out, hlsk])
        have PO := Lib.hid (show PgOk { kind := 3, next := nx } from by
          rw [← HP.out]
          exact listP_ok HI.out (by rw [hlsk]; simp))
        clear hlsk ap2 hdr2 hli2 hfr2 b2
        go_wp2_with (first | ((with_reducible refine Disk.wpList_store_eq rfl 82 (.tmp 6) (.tmp 29) rfl _ _ ?_ ?_ P1.out ?_); (next => rfl); (next => rfl)))
        have KS : ∀ w', Below W2.heap.size W2 w' → w'.cell? ⟨cb, 0, none⟩ = some (ptr B.ss) ∧ w'.cell? ⟨wr.heap.size, 0, none⟩ = some (.int .i64 3) ∧ w'.cell? ⟨wr.heap.size, 1, none⟩ = some (.slice none 0 0) ∧ w'.cell? ⟨wr.heap.size, 2, none⟩ = some (.slice none 0 0) ∧ w'.cell? ⟨wr.heap.size, 3, none⟩ = some (.slice none 0 0) ∧ w'.cell? ⟨wr.heap.size, 4, none⟩ = some (.slice none 0 0) ∧ w'.cell? ⟨wr.heap.size, 5, none⟩ = some (.int .i64 nx) ∧ w'.cell? ⟨wr.heap.size, 6, none⟩ = some (.int .u64 0) ∧ w'.cell? ⟨wr.heap.size, 7, none⟩ = some (.int .i64 0) ∧ w'.cell? ⟨wr.heap.size, 8, none⟩ = some (.int .i64 0) ∧ w'.cell? ⟨wr.heap.size, 9, none⟩ = some (.int .i64 0) ∧ w'.cell? ⟨wr.heap.size, 10, none⟩ = some (.int .i64 0) := fun w' hb => by
          have g1 := (dr_cells (D2.out.below hb).box).1
          have g2 := AP.out.below hb AP.out.1
          exact ⟨g1, g2.2.2 0 _ rfl, g2.2.2 1 _ rfl, g2.2.2 2 _ rfl, g2.2.2 3 _ rfl, g2.2.2 4 _ rfl, g2.2.2 5 _ rfl, g2.2.2 6 _ rfl, g2.2.2 7 _ rfl, g2.2.2 8 _ rfl, g2.2.2 9 _ rfl, g2.2.2 10 _ rfl⟩
        have bD : Below W2.heap.size W2 W2.drew := (Below.refl _ _).drew
        have K0 := Lib.hid (KS _ bD)
        have cW : Calls Tryz.prog 102 #[ptr B.ss, .int .i64 z, .agg #[.int .i64 3, .slice none 0 0, .slice none 0 0, .slice none 0 0, .slice none 0 0, .int .i64 nx, .int .u64 0, .int .i64 0, .int .i64 0, .int .i64 0, .int .i64 0]] W2.drew (Wrote B d1 t a z { kind := 3, next := nx } W2.drew) := write_any (D2.out.below bD).sto z { kind := 3, next := nx } {} PO.out (PR.out.below bD)
        have BD := Lib.hid bD
        have NB := Lib.hid (show wr.heap.size ∉ B.all from fun e => Nat.lt_irrefl _ (R.out.dr.sto.lt _ e))
        have HKS := Lib.hid (show ∀ w', Mod B.all W2 w' → w'.cell? ⟨cb, 0, none⟩ = some (ptr B.ss) ∧ w'.cell? ⟨wr.heap.size, 0, none⟩ = some (.int .i64 3) ∧ w'.cell? ⟨wr.heap.size, 1, none⟩ = some (.slice none 0 0) ∧ w'.cell? ⟨wr.heap.size, 2, none⟩ = some (.slice none 0 0) ∧ w'.cell? ⟨wr.heap.size, 3, none⟩ = some (.slice none 0 0) ∧ w'.cell? ⟨wr.heap.size, 4, none⟩ = some (.slice none 0 0) ∧ w'.cell? ⟨wr.heap.size, 5, none⟩ = some (.int .i64 nx) ∧ w'.cell? ⟨wr.heap.size, 6, none⟩ = some (.int .u64 0) ∧ w'.cell? ⟨wr.heap.size, 7, none⟩ = some (.int .i64 0) ∧ w'.cell? ⟨wr.heap.size, 8, none⟩ = some (.int .i64 0) ∧ w'.cell? ⟨wr.heap.size, 9, none⟩ = some (.int .i64 0) ∧ w'.cell? ⟨wr.heap.size, 10, none⟩ = some (.int .i64 0) from fun w' hm => by
          have g1 := (dr_cells (at_mod D2.out.box hm (fun e => Nat.lt_irrefl _ (D2.out.low _ e)))).1
          have g2 := at_mod AP.out hm NB.out
          exact ⟨g1, g2.2.2 0 _ rfl, g2.2.2 1 _ rfl, g2.2.2 2 _ rfl, g2.2.2 3 _ rfl, g2.2.2 4 _ rfl, g2.2.2 5 _ rfl, g2.2.2 6 _ rfl, g2.2.2 7 _ rfl, g2.2.2 8 _ rfl, g2.2.2 9 _ rfl, g2.2.2 10 _ rfl⟩)
        clear KS bD
        go_region_held3 (fun w' => w'.cell? ⟨cb, 0, none⟩ = some (ptr B.ss) ∧ w'.cell? ⟨wr.heap.size, 0, none⟩ = some (.int .i64 3) ∧ w'.cell? ⟨wr.heap.size, 1, none⟩ = some (.slice none 0 0) ∧ w'.cell? ⟨wr.heap.size, 2, none⟩ = some (.slice none 0 0) ∧ w'.cell? ⟨wr.heap.size, 3, none⟩ = some (.slice none 0 0) ∧ w'.cell? ⟨wr.heap.size, 4, none⟩ = some (.slice none 0 0) ∧ w'.cell? ⟨wr.heap.size, 5, none⟩ = some (.int .i64 nx) ∧ w'.cell? ⟨wr.heap.size, 6, none⟩ = some (.int .u64 0) ∧ w'.cell? ⟨wr.heap.size, 7, none⟩ = some (.int .i64 0) ∧ w'.cell? ⟨wr.heap.size, 8, none⟩ = some (.int .i64 0) ∧ w'.cell? ⟨wr.heap.size, 9, none⟩ = some (.int .i64 0) ∧ w'.cell? ⟨wr.heap.size, 10, none⟩ = some (.int .i64 0))
          (with_reducible (first | exact K0.out | exact K1.out))
          (first
            | (go_at_call 102; (with_reducible refine cW.mono ?_); rintro e w4 ⟨d2, x, rfl, hw, s4, m4⟩
               have M4 := Lib.hid ((mod_below (B := B) BD.out).trans m4)
               have K1 := Lib.hid (HKS.out _ M4.out)
               have S4 := Lib.hid s4
               have HW := Lib.hid hw
               clear s4 hw m4))
        have D4 := Lib.hid (D2.out.step S4.out M4.out D2.out.cbs)
        have L4 := Lib.hid (L2.out.mod M4.out)
        have F4 := Lib.hid (F2.out.trans (Fr.of_mod M4.out))
        clear K0 K1 HKS cW D2 L2 F2 AP PR S4 M4
        by_cases h0 : x = 0
        · have d1' : (x != 0) = false := by simp [h0]
          have NEW := Lib.hid (show LiRel w cb B d t a p y (.slice (some ⟨b, o, none⟩) own.length c) own ls A2 q c2 xs (k + 1) d2 w4 from
            ⟨D4.out, L4.out, F4.out, fun d' x' ht => R.out.rest d' x' (.step hko (by rw [HZ.out, HP.out]; rw [h0] at HW; exact HW.out) ht)⟩)
          have hwr : IntKind.i64.wrap ((k : Int) + 1) = (k : Int) + 1 := IntWalk.i64_in _ (by have := HL.out; omega)
          clear h0 D4 L4 F4 HW R HP PO HMM
          go_wp2_with fail
          exact ⟨⟨k + 1, d2, congrArg (Value.int .i64) (by omega), by omega, NEW.out⟩, by show own.length - ((k : Int) + 1).toNat < own.length - (k : Int).toNat; omega⟩
        · have d1' : (x != 0) = true := by simp [h0]
          have FIN := Lib.hid (show Writes own ls d 0 d2 x ∧ Dr w4 cb B d2 t a p y (.slice (some ⟨b, o, none⟩) own.length c) own ∧ Fr B cb w w4 from ⟨R.out.rest d2 x (.fail hko (by rw [HZ.out, HP.out]; exact HW.out) h0), D4.out, F4.out⟩)
          clear h0 D4 L4 F4 HW R HP PO HMM
          go_wp2_with fail
          go_ret
          exact ⟨d2, x, rfl, FIN.out⟩
    · have FIN := Lib.hid (show Writes own ls d 0 d1 0 ∧ Dr wr cb B d1 t a p y (.slice A m c) own ∧ Fr B cb w wr from ⟨R.out.rest d1 0 (.done (by have := HMM.out; omega)), R.out.dr, R.out.fr⟩)
      clear R
      go_wp2_with fail
      go_ret
      exact ⟨d1, 0, rfl, FIN.out.1, by rw [HMM.out]; exact FIN.out.2.1, FIN.out.2.2⟩
end Go.Proofs.YtboaamaneeodfaaGreat.Store
namespace Go.Proofs.YtboaamaneeodfaaGreat.Store
open Go.RowKit Gen
open Disk (St Dev Mod ptr)
open Page (Pg Lay PgOk PgRows pgC pgV Enc IsDec BytesAt)
open Pool (Po NAt PoAt La poC poV numV At takeP giveP backP Fresh PoolOk OwnI chunks layAll)

/-- The superblock that is written. -/
def leadP (p : Pg) (t : T) (own : List Int) : Pg := { p with high := t.pool.high, next := own.headD p.next }
theorem Fr.set (B : Blk) {cb : Nat} (w : World) (i : Nat) (v : Value) : Fr B cb w (w.setCell ⟨cb, i, none⟩ v) := (mod_set w cb i v).mono (fun x hx => by rw [List.mem_singleton] at hx; rw [hx]; exact List.mem_cons_self ..)
theorem Dr.put {w : World} {cb : Nat} {B : Blk} {d : St} {t : T} {a : Lys} {p p' : Pg} {y : Lay} {v : Value} {own : List Int} (h : Dr w cb B d t a p y v own) (i : Nat) (u : Value) (hb : At (w.setCell ⟨cb, i, none⟩ u) cb (draC B p' y v)) : Dr (w.setCell ⟨cb, i, none⟩ u) cb B d t a p' y v own :=
  ⟨h.sto.other (mod_set w cb i u) (fun e => Nat.lt_irrefl _ (h.low cb e)) h.cbs, hb, h.low, h.lowx, own_mod h.own (mod_set w cb i u) (fun x hx => by rw [List.mem_singleton] at hx; omega), h.cbs⟩
theorem dr_page {w : World} {cb : Nat} {B : Blk} {p : Pg} {y : Lay} {v : Value} (h : At w cb (draC B p y v)) : w.cell? ⟨cb, 1, none⟩ = some (.int .i64 p.kind) ∧ w.cell? ⟨cb, 2, none⟩ = some (.slice y.A1 p.pairs.length y.c1) ∧ w.cell? ⟨cb, 3, none⟩ = some (.slice y.A2 p.keys.length y.c2) ∧ w.cell? ⟨cb, 4, none⟩ = some (.slice y.A3 p.kids.length y.c3) ∧ w.cell? ⟨cb, 5, none⟩ = some (.slice y.A4 p.pages.length y.c4) ∧ w.cell? ⟨cb, 6, none⟩ = some (.int .i64 p.next) ∧ w.cell? ⟨cb, 7, none⟩ = some (.int .u64 (p.epoch : Int)) ∧ w.cell? ⟨cb, 8, none⟩ = some (.int .i64 p.root) ∧ w.cell? ⟨cb, 9, none⟩ = some (.int .i64 p.depth) ∧ w.cell? ⟨cb, 10, none⟩ = some (.int .i64 p.count) ∧ w.cell? ⟨cb, 11, none⟩ = some (.int .i64 p.high) :=
  ⟨h.2.2 1 _ rfl, h.2.2 2 _ rfl, h.2.2 3 _ rfl, h.2.2 4 _ rfl, h.2.2 5 _ rfl, h.2.2 6 _ rfl, h.2.2 7 _ rfl, h.2.2 8 _ rfl, h.2.2 9 _ rfl, h.2.2 10 _ rfl, h.2.2 11 _ rfl⟩
theorem pool_i64 {p : Po} {N : Int} (h : PoolOk p N) (hN : N ≤ 4096) : I64 p.high := ⟨by have := h.low; omega, by have := h.top; omega⟩
theorem leadP_ok {p : Pg} {t : T} {own : List Int} (h : PgOk p) (hh : I64 t.pool.high) (hI : ∀ x ∈ own, I64 x) : PgOk (leadP p t own) :=
  ⟨h.kind, h.pairs, h.keys, h.kids, h.pages, by
    show Page.I64 (own.headD p.next)
    rcases own with _ | ⟨x, l⟩
    · exact h.next
    · exact hI x (List.mem_cons_self ..), h.epoch, h.root, h.depth, h.count, hh⟩
set_option maxRecDepth 100000 in
set_option maxHeartbeats 8000000 in
theorem dlead_any {w : World} {cb : Nat} {B : Blk} {d : St} {t : T} {a : Lys} {p : Pg} {y : Lay} {v : Value} {own : List Int} (h : Dr w cb B d t a p y v own) (hok : PgOk p) (hbr : Bare p) (hI : ∀ x ∈ own, I64 x) :
    Calls Tryz.prog 69 #[ptr cb] w (fun e w' => ∃ d' x, e = .returned (numV x) ∧ WriteR d ((p.epoch % 2 : Nat) : Int) (leadP p t own) d' x ∧ Dr w' cb B d' t a (leadP p t own) y v own ∧ Fr B cb w w') := by
  obtain ⟨A, c, rfl, hN⟩ := own_shape h.own
  have hph := pool_i64 h.sto.pk (by have := h.sto.dev.nle; omega)
  have hL := leadP_ok (t := t) hok hph hI
  have hLb : Bare (leadP p t own) := ⟨hbr.pairs, hbr.keys, hbr.kids, hbr.pages⟩
  obtain ⟨hi, hhi⟩ : ∃ hi, t.pool.high = hi := ⟨_, rfl⟩
  obtain ⟨k0, k12⟩ := dr_cells h.box
  have s16 := h.sto.cells.2.1
  rw [hhi] at s16
  have r11 := (dr_page h.box).2.2.2.2.2.2.2.2.2.2
  have r6 := (dr_page h.box).2.2.2.2.2.1
  have fz := h.box.2.1
  have D1 : Dr (w.setCell ⟨cb, 11, none⟩ (.int .i64 hi)) cb B d t a { p with high := hi } y (.slice A own.length c) own := h.put 11 _ (h.box.set 11 _ (by simp))
  obtain ⟨sn, hsn⟩ : ∃ sn : Int, ((p.epoch % 2 : Nat) : Int) = sn := ⟨_, rfl⟩
  have he2 : IntKind.i64.wrap ((p.epoch : Int).tmod 2) = sn := by
    have e1 : (p.epoch : Int).tmod 2 = sn := by rw [Int.tmod_eq_emod_of_nonneg (by omega)]; omega
    rw [e1]
    exact IntWalk.i64_in _ (by omega)
  rw [hsn]
  clear hsn
  have HOK := Lib.hid hL
  have HB := Lib.hid hLb
  have HEP := Lib.hid hok.epoch
  have NS := Lib.hid (show cb ≠ B.ss from fun e => Nat.lt_irrefl cb (h.low cb (by rw [e]; simp [Blk.all])))
  by_cases hz : own = []
  · subst hz
    have hlp : leadP p t [] = { p with high := hi } := by rw [← hhi]; rfl
    rw [hlp] at HOK HB ⊢
    have F2 := Lib.hid (show Fr B cb w (w.setCell ⟨cb, 11, none⟩ (.int .i64 hi)) from Fr.set B w 11 _)
    have D2 := Lib.hid D1
    obtain ⟨k0', k12'⟩ := dr_cells D1.box
    obtain ⟨W2, hW2⟩ : ∃ W2, w.setCell ⟨cb, 11, none⟩ (.int .i64 hi) = W2 := ⟨_, rfl⟩
    rw [hW2] at D2 F2 k12' k0'
    have LP := Lib.hid hlp
    clear D1 h hN hok hbr hI hph hL hLb hlp
    go_enter Tryz.func69, Tryz.ntmps69
    have KS : ∀ w', Below W2.heap.size W2 w' → w'.cell? ⟨cb, 0, none⟩ = some (ptr B.ss) ∧ w'.cell? ⟨cb, 1, none⟩ = some (.int .i64 p.kind) ∧ w'.cell? ⟨cb, 2, none⟩ = some (.slice y.A1 p.pairs.length y.c1) ∧ w'.cell? ⟨cb, 3, none⟩ = some (.slice y.A2 p.keys.length y.c2) ∧ w'.cell? ⟨cb, 4, none⟩ = some (.slice y.A3 p.kids.length y.c3) ∧ w'.cell? ⟨cb, 5, none⟩ = some (.slice y.A4 p.pages.length y.c4) ∧ w'.cell? ⟨cb, 6, none⟩ = some (.int .i64 p.next) ∧ w'.cell? ⟨cb, 7, none⟩ = some (.int .u64 (p.epoch : Int)) ∧ w'.cell? ⟨cb, 8, none⟩ = some (.int .i64 p.root) ∧ w'.cell? ⟨cb, 9, none⟩ = some (.int .i64 p.depth) ∧ w'.cell? ⟨cb, 10, none⟩ = some (.int .i64 p.count) ∧ w'.cell? ⟨cb, 11, none⟩ = some (.int .i64 hi) := fun w' hb => by
      have g := D2.out.below hb
      exact ⟨(dr_cells g.box).1, dr_page g.box⟩
    have bD : Below W2.heap.size W2 W2.drew := (Below.refl _ _).drew
    have K0 := Lib.hid (KS _ bD)
    have cW : Calls Tryz.prog 102 #[ptr B.ss, .int .i64 sn, .agg #[.int .i64 p.kind, .slice y.A1 p.pairs.length y.c1, .slice y.A2 p.keys.length y.c2, .slice y.A3 p.kids.length y.c3, .slice y.A4 p.pages.length y.c4, .int .i64 p.next, .int .u64 (p.epoch : Int), .int .i64 p.root, .int .i64 p.depth, .int .i64 p.count, .int .i64 hi]] W2.drew (Wrote B d t a sn { p with high := hi } W2.drew) := write_any (D2.out.below bD).sto _ { p with high := hi } y HOK.out (HB.out.rows _ _)
    have BD := Lib.hid bD
    have HKS := Lib.hid (show ∀ w', Mod B.all W2 w' → w'.cell? ⟨cb, 0, none⟩ = some (ptr B.ss) ∧ w'.cell? ⟨cb, 1, none⟩ = some (.int .i64 p.kind) ∧ w'.cell? ⟨cb, 2, none⟩ = some (.slice y.A1 p.pairs.length y.c1) ∧ w'.cell? ⟨cb, 3, none⟩ = some (.slice y.A2 p.keys.length y.c2) ∧ w'.cell? ⟨cb, 4, none⟩ = some (.slice y.A3 p.kids.length y.c3) ∧ w'.cell? ⟨cb, 5, none⟩ = some (.slice y.A4 p.pages.length y.c4) ∧ w'.cell? ⟨cb, 6, none⟩ = some (.int .i64 p.next) ∧ w'.cell? ⟨cb, 7, none⟩ = some (.int .u64 (p.epoch : Int)) ∧ w'.cell? ⟨cb, 8, none⟩ = some (.int .i64 p.root) ∧ w'.cell? ⟨cb, 9, none⟩ = some (.int .i64 p.depth) ∧ w'.cell? ⟨cb, 10, none⟩ = some (.int .i64 p.count) ∧ w'.cell? ⟨cb, 11, none⟩ = some (.int .i64 hi) from fun w' hm => by
      have g := at_mod D2.out.box hm (fun e => Nat.lt_irrefl _ (D2.out.low _ e))
      exact ⟨(dr_cells g).1, dr_page g⟩)
    clear KS bD
    go_wp2_with fail
    clear s16 r11 r6 fz hW2 k12
    go_region_held3 (fun w' => w'.cell? ⟨cb, 0, none⟩ = some (ptr B.ss) ∧ w'.cell? ⟨cb, 1, none⟩ = some (.int .i64 p.kind) ∧ w'.cell? ⟨cb, 2, none⟩ = some (.slice y.A1 p.pairs.length y.c1) ∧ w'.cell? ⟨cb, 3, none⟩ = some (.slice y.A2 p.keys.length y.c2) ∧ w'.cell? ⟨cb, 4, none⟩ = some (.slice y.A3 p.kids.length y.c3) ∧ w'.cell? ⟨cb, 5, none⟩ = some (.slice y.A4 p.pages.length y.c4) ∧ w'.cell? ⟨cb, 6, none⟩ = some (.int .i64 p.next) ∧ w'.cell? ⟨cb, 7, none⟩ = some (.int .u64 (p.epoch : Int)) ∧ w'.cell? ⟨cb, 8, none⟩ = some (.int .i64 p.root) ∧ w'.cell? ⟨cb, 9, none⟩ = some (.int .i64 p.depth) ∧ w'.cell? ⟨cb, 10, none⟩ = some (.int .i64 p.count) ∧ w'.cell? ⟨cb, 11, none⟩ = some (.int .i64 hi))
      (with_reducible (first | exact K0.out | exact K1.out))
      (first
        | (go_at_call 102; (with_reducible refine cW.mono ?_); rintro e w4 ⟨d2, x, rfl, hw, s4, m4⟩
           have M4 := Lib.hid ((mod_below (B := B) BD.out).trans m4)
           have K1 := Lib.hid (HKS.out _ M4.out)
           have S4 := Lib.hid s4
           have HW := Lib.hid hw
           clear s4 hw m4))
    have FIN := Lib.hid (show Dr w4 cb B d2 t a { p with high := hi } y _ _ ∧ Fr B cb w w4 from ⟨D2.out.step S4.out M4.out D2.out.cbs, F2.out.trans (Fr.of_mod M4.out)⟩)
    clear K0 K1 HKS cW D2 F2 S4 M4
    go_wp2_with fail
    go_ret
    exact ⟨d2, x, rfl, HW.out, FIN.out⟩
  · obtain ⟨z, l, rfl⟩ : ∃ z l, own = z :: l := by
      rcases own with _ | ⟨z, l⟩
      · exact absurd rfl hz
      · exact ⟨z, l, rfl⟩
    obtain ⟨b, o, rfl, hbl, hc⟩ := hN.row (by simp)
    have hc0 := hc 0 (by simp)
    have hz0 : b ≠ cb := by
      have := (own_low h.own (g := b) rfl).1
      omega
    have hc0 : (w.setCell ⟨cb, 11, none⟩ (.int .i64 hi)).cell? ⟨b, o, none⟩ = some (.int .i64 z) := ((mod_set w cb 11 _).cell (p := ⟨b, o, none⟩) hbl (by simpa using hz0)).trans (by simpa using hc0)
    obtain ⟨nx, hnx⟩ : ∃ nx, z = nx := ⟨_, rfl⟩
    subst hnx
    have hlp : leadP p t (z :: l) = { p with high := hi, next := z } := by rw [← hhi]; rfl
    rw [hlp] at HOK HB ⊢
    obtain ⟨m, hm⟩ : ∃ m, (z :: l).length = m := ⟨_, rfl⟩
    have hm0 : 0 < m := by rw [← hm]; simp
    rw [hm] at k12 D1
    have D2 := Lib.hid (show Dr ((w.setCell ⟨cb, 11, none⟩ (.int .i64 hi)).setCell ⟨cb, 6, none⟩ (.int .i64 z)) cb B d t a { p with high := hi, next := z } y (.slice (some ⟨b, o, none⟩) m c) (z :: l) from D1.put 6 _ (D1.box.set 6 _ (by simp)))
    have F2 := Lib.hid (show Fr B cb w ((w.setCell ⟨cb, 11, none⟩ (.int .i64 hi)).setCell ⟨cb, 6, none⟩ (.int .i64 z)) from (Fr.set B w 11 _).trans (Fr.set B _ 6 _))
    obtain ⟨k0', k12'⟩ := dr_cells D1.box
    have r6' := (dr_page D1.box).2.2.2.2.2.1
    have fz' := D1.box.2.1
    obtain ⟨W1, hW1⟩ : ∃ W1, w.setCell ⟨cb, 11, none⟩ (.int .i64 hi) = W1 := ⟨_, rfl⟩
    rw [hW1] at D2 F2 k12' k0' r6' hc0 fz'
    obtain ⟨W2, hW2⟩ : ∃ W2, W1.setCell ⟨cb, 6, none⟩ (.int .i64 z) = W2 := ⟨_, rfl⟩
    rw [hW2] at D2 F2
    have k0'' := (dr_cells D2.out.box).1
    have MM := Lib.hid hm
    rw [hm]
    clear D1 h hN hok hbr hI hph hL hLb hlp hc hz hm
    go_enter Tryz.func69, Tryz.ntmps69
    have KS : ∀ w', Below W2.heap.size W2 w' → w'.cell? ⟨cb, 0, none⟩ = some (ptr B.ss) ∧ w'.cell? ⟨cb, 1, none⟩ = some (.int .i64 p.kind) ∧ w'.cell? ⟨cb, 2, none⟩ = some (.slice y.A1 p.pairs.length y.c1) ∧ w'.cell? ⟨cb, 3, none⟩ = some (.slice y.A2 p.keys.length y.c2) ∧ w'.cell? ⟨cb, 4, none⟩ = some (.slice y.A3 p.kids.length y.c3) ∧ w'.cell? ⟨cb, 5, none⟩ = some (.slice y.A4 p.pages.length y.c4) ∧ w'.cell? ⟨cb, 6, none⟩ = some (.int .i64 z) ∧ w'.cell? ⟨cb, 7, none⟩ = some (.int .u64 (p.epoch : Int)) ∧ w'.cell? ⟨cb, 8, none⟩ = some (.int .i64 p.root) ∧ w'.cell? ⟨cb, 9, none⟩ = some (.int .i64 p.depth) ∧ w'.cell? ⟨cb, 10, none⟩ = some (.int .i64 p.count) ∧ w'.cell? ⟨cb, 11, none⟩ = some (.int .i64 hi) := fun w' hb => by
      have g := D2.out.below hb
      exact ⟨(dr_cells g.box).1, dr_page g.box⟩
    have bD : Below W2.heap.size W2 W2.drew := (Below.refl _ _).drew
    have K0 := Lib.hid (KS _ bD)
    have cW : Calls Tryz.prog 102 #[ptr B.ss, .int .i64 sn, .agg #[.int .i64 p.kind, .slice y.A1 p.pairs.length y.c1, .slice y.A2 p.keys.length y.c2, .slice y.A3 p.kids.length y.c3, .slice y.A4 p.pages.length y.c4, .int .i64 z, .int .u64 (p.epoch : Int), .int .i64 p.root, .int .i64 p.depth, .int .i64 p.count, .int .i64 hi]] W2.drew (Wrote B d t a sn { p with high := hi, next := z } W2.drew) := write_any (D2.out.below bD).sto _ { p with high := hi, next := z } y HOK.out (HB.out.rows _ _)
    have BD := Lib.hid bD
    have HKS := Lib.hid (show ∀ w', Mod B.all W2 w' → w'.cell? ⟨cb, 0, none⟩ = some (ptr B.ss) ∧ w'.cell? ⟨cb, 1, none⟩ = some (.int .i64 p.kind) ∧ w'.cell? ⟨cb, 2, none⟩ = some (.slice y.A1 p.pairs.length y.c1) ∧ w'.cell? ⟨cb, 3, none⟩ = some (.slice y.A2 p.keys.length y.c2) ∧ w'.cell? ⟨cb, 4, none⟩ = some (.slice y.A3 p.kids.length y.c3) ∧ w'.cell? ⟨cb, 5, none⟩ = some (.slice y.A4 p.pages.length y.c4) ∧ w'.cell? ⟨cb, 6, none⟩ = some (.int .i64 z) ∧ w'.cell? ⟨cb, 7, none⟩ = some (.int .u64 (p.epoch : Int)) ∧ w'.cell? ⟨cb, 8, none⟩ = some (.int .i64 p.root) ∧ w'.cell? ⟨cb, 9, none⟩ = some (.int .i64 p.depth) ∧ w'.cell? ⟨cb, 10, none⟩ = some (.int .i64 p.count) ∧ w'.cell? ⟨cb, 11, none⟩ = some (.int .i64 hi) from fun w' hm => by
      have g := at_mod D2.out.box hm (fun e => Nat.lt_irrefl _ (D2.out.low _ e))
      exact ⟨(dr_cells g).1, dr_page g⟩)
    clear KS bD
    go_wp2_with fail
    clear s16 r11 r6 fz hW2 k12
    go_region_held3 (fun w' => w'.cell? ⟨cb, 0, none⟩ = some (ptr B.ss) ∧ w'.cell? ⟨cb, 1, none⟩ = some (.int .i64 p.kind) ∧ w'.cell? ⟨cb, 2, none⟩ = some (.slice y.A1 p.pairs.length y.c1) ∧ w'.cell? ⟨cb, 3, none⟩ = some (.slice y.A2 p.keys.length y.c2) ∧ w'.cell? ⟨cb, 4, none⟩ = some (.slice y.A3 p.kids.length y.c3) ∧ w'.cell? ⟨cb, 5, none⟩ = some (.slice y.A4 p.pages.length y.c4) ∧ w'.cell? ⟨cb, 6, none⟩ = some (.int .i64 z) ∧ w'.cell? ⟨cb, 7, none⟩ = some (.int .u64 (p.epoch : Int)) ∧ w'.cell? ⟨cb, 8, none⟩ = some (.int .i64 p.root) ∧ w'.cell? ⟨cb, 9, none⟩ = some (.int .i64 p.depth) ∧ w'.cell? ⟨cb, 10, none⟩ = some (.int .i64 p.count) ∧ w'.cell? ⟨cb, 11, none⟩ = some (.int .i64 hi))
      (with_reducible (first | exact K0.out | exact K1.out))
      (first
        | (go_at_call 102; (with_reducible refine cW.mono ?_); rintro e w4 ⟨d2, x, rfl, hw, s4, m4⟩
           have M4 := Lib.hid ((mod_below (B := B) BD.out).trans m4)
           have K1 := Lib.hid (HKS.out _ M4.out)
           have S4 := Lib.hid s4
           have HW := Lib.hid hw
           clear s4 hw m4))
    have FIN := Lib.hid (show Dr w4 cb B d2 t a { p with high := hi, next := z } y _ _ ∧ Fr B cb w w4 from ⟨D2.out.step S4.out M4.out D2.out.cbs, F2.out.trans (Fr.of_mod M4.out)⟩)
    clear K0 K1 HKS cW D2 F2 S4 M4
    go_wp2_with fail
    go_ret
    exact ⟨d2, x, rfl, HW.out, FIN.out⟩
end Go.Proofs.YtboaamaneeodfaaGreat.Store
