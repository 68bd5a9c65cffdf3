/-
  Texts of one family, one behind the other: STakesWalk.
-/
import Derived.Test.YtbjfcinaankmjaaGreatKE1
import Derived.Deep.WholeRow
import Derived.Deep.OwnRows
namespace Go.Proofs.YtbjfcinaankmjaaGreat.Store
open Go.RowKit Gen
open Disk (St Dev Mod ptr)
open Page (Pg Lay PgOk PgRows pgC pgV Enc IsDec BytesAt strV CallS callC CallIn Script)
open Pool (Po NAt PoAt La poC poV numV At takeP giveP backP Fresh PoolOk OwnI chunks layAll May)

/-- A leaf is laid anew. -/
theorem lay_new {k : Nat} {d d' : St} {t t' : T} {n e : Int} {key : Disk.Bs} (G : Good k d t) (hf : Page.Fine (leafP key)) (g : LayR d t 0 (leafP key) d' t' n e) :
    e = 60 ∨ (e = 0 ∧ 2 ≤ n ∧ n < 60 ∧ t.fresh n = false ∧ t'.fresh = fup t.fresh n true ∧ ¬ Live t.base n ∧ t'.base = t.base) := by
  have hk : PoolOk t.pool d.n := G.safe.pre.pk
  have h0 : ¬ t.fresh 0 = true := fun e => by have := (G.safe.pre.inv.out e).low; omega
  obtain ⟨i1, p1, f1, _, _, _, o1⟩ := G.safe.pre.inv.take hk
  have e2 : ∃ l, Enc 2 (leafP key) l := enc_other ⟨by omega, by omega⟩ hf (by show (1 : Int) ≠ 4; omega)
  by_cases h1 : (takeT t d.n).2.2 = 0
  · have hp : placeT t d.n 0 = (frT (takeT t d.n).1 (takeT t d.n).2.1 true, (takeT t d.n).2.1, 0) := by rw [placeT, if_neg h0, if_pos h1, if_pos rfl]
    have ra := takeT_at hk h1
    obtain ⟨rfl, rfl, rfl, -⟩ := lay_calm g hp G.calm hf (by show (1 : Int) ≠ 4; omega) ra.1 ra.2 G.safe.pre.nle
    obtain ⟨o, _, fr, _⟩ := o1 h1
    refine .inr ⟨rfl, ra.1, by have := ra.2; have := G.n; omega, fr, ?_, by rw [← p1.base]; exact o.live, p1.base⟩
    show fup (takeT t d.n).1.fresh _ true = _
    rw [f1]
  · have hp : placeT t d.n 0 = ((takeT t d.n).1, 0, (takeT t d.n).2.2) := by rw [placeT, if_neg h0, if_neg h1]
    have he : (takeT t d.n).2.2 = 60 := by
      rw [takeT] at h1 ⊢
      split at h1
      · exact absurd rfl h1
      · rename_i h2
        rw [if_neg h2]
        exact take_err0 h2
    rcases g with ⟨hno, _⟩ | ⟨_, ⟨_, _, _, _, rfl⟩ | ⟨hz, _⟩⟩
    · obtain ⟨l, hl⟩ := e2
      exact absurd hl (hno l)
    · rw [hp]; exact .inl he
    · rw [hp] at hz; exact absurd hz h1
/-- .. and in its own place. -/
theorem lay_again {k : Nat} {d d' : St} {t t' : T} {n m e : Int} {key : Disk.Bs} (G : Good k d t) (hf : Page.Fine (leafP key)) (hfr : t.fresh n = true) (g : LayR d t n (leafP key) d' t' m e) : m = n ∧ e = 0 ∧ t' = t := by
  have hp : placeT t d.n n = (t, n, 0) := by rw [placeT, if_pos hfr]
  have o := G.safe.pre.inv.out hfr
  have ht := G.safe.pre.pk.top
  obtain ⟨rfl, rfl, rfl, -⟩ := lay_calm g hp G.calm hf (by show (1 : Int) ≠ 4; omega) o.low (by have := o.top; omega) G.safe.pre.nle
  exact ⟨rfl, rfl, rfl⟩
/-- Which pages have been seen. -/
structure SeenAt (w : World) (b : Nat) (S : Nat → Bool) : Prop where
  lt : b < w.heap.size
  free : ∀ j, w.frozen? ⟨b, j, none⟩ = false
  cell : ∀ k, k < 61 → w.cell? ⟨b, k, none⟩ = some (.bool (S k))
  out : ∀ k, 61 ≤ k → w.cell? ⟨b, k, none⟩ = none
theorem SeenAt.mod {w w' : World} {b : Nat} {S : Nat → Bool} {M : List Nat} (h : SeenAt w b S) (m : Mod M w w') (hb : b ∉ M) : SeenAt w' b S :=
  ⟨Nat.lt_of_lt_of_le h.lt m.size, fun j => (World.frozen?_of_block (a := ⟨b, j, none⟩) (m.block b h.lt hb)).trans (h.free j), fun k hk => (m.cell (p := ⟨b, k, none⟩) h.lt hb).trans (h.cell k hk), fun k hk => (m.cell (p := ⟨b, k, none⟩) h.lt hb).trans (h.out k hk)⟩
/-- A row of numbers lies in another block. -/
theorem SeenAt.off {w : World} {b : Nat} {S : Nat → Bool} (h : SeenAt w b S) {A : Option Addr} {n c : Nat} {l : List Int} (hN : NAt w A n c l) (hne : l ≠ []) : Off [b] A := fun x e hx => by
  obtain ⟨b', o, e', _, hc⟩ := hN.row hne
  rw [e] at e'
  cases e'
  obtain rfl : b' = b := by simpa using hx
  have h1 := hc 0 (List.length_pos_iff.2 hne)
  by_cases ho : o + 0 < 61
  · rw [h.cell _ ho] at h1; cases h1
  · rw [h.out _ (by omega)] at h1; cases h1
theorem SeenAt.sep {w : World} {B : Blk} {d : St} {t : T} {a : Lys} {b : Nat} {S : Nat → Bool} (h : SeenAt w b S) (s : Sto w B d t a) : SepB b t a :=
  ⟨fun hne => h.off s.own hne, fun hne => h.off s.base.f hne, fun hne => h.off s.base.l hne, fun hne => h.off s.pool.f hne, fun hne => h.off s.pool.l hne⟩
def seenUp (S : Nat → Bool) (k : Nat) : Nat → Bool := fun j => if j = k then true else S j
theorem SeenAt.set {w : World} {b k : Nat} {S : Nat → Bool} (h : SeenAt w b S) (hk : k < 61) : SeenAt (w.setCell ⟨b, k, none⟩ (.bool true)) b (seenUp S k) :=
  ⟨by simpa using h.lt, fun j => by rw [World.frozen?_setCell]; exact h.free j, fun j hj => by
    unfold seenUp
    by_cases e : j = k
    · subst e; rw [if_pos rfl]; exact World.cell?_setCell_same _ _ _ (h.cell j hj)
    · rw [if_neg e, World.cell?_setCell_other _ _ _ _ (by intro h; injection h with _ h _; exact e h.symm)]; exact h.cell j hj, fun j hj => by
    rw [World.cell?_setCell_other _ _ _ _ (by intro h; injection h with _ h _; omega)]; exact h.out j hj⟩
theorem made_get (z : Value) (n i : Nat) (h : i < n) : (madeCells #[z] n)[i]? = some z := by
  rw [← Array.getElem?_toList, toList_madeCells_one]
  simp [h]
theorem seen_made (w : World) : SeenAt (w.alloc (.cells (madeCells #[.bool false] 61) 4)) w.heap.size (fun _ => false) := by
  have h : At (w.alloc (.cells (madeCells #[.bool false] 61) 4)) w.heap.size (madeCells #[.bool false] 61) := Page.At.of_block (heap_alloc_new w _)
  exact ⟨h.1, h.2.1, fun k hk => h.2.2 k _ (made_get _ _ _ hk), fun k hk => by
    rw [cell_of_row _ w.heap.size k _ _ _ (heap_alloc_last w (.cells (madeCells #[.bool false] 61) 4)), Array.getElem?_eq_none]
    rw [← Array.length_toList, toList_madeCells_one]; simpa using hk⟩
theorem bool_info : (Tryz.prog.info? 4).map (fun i => (i.zero, i.size, i.bytes)) = some (some (.bool false), 1, 1) := by kernel_rfl
theorem make_seen (w : World) : (Instr.makeSlice 68 (.int .i64 61) (.int .i64 61)).run Tryz.prog w = .ok (.slice (some ⟨w.heap.size, 0, none⟩) 61 61) (w.alloc (.cells (madeCells #[.bool false] 61) 4)) :=
  run_make_row' (P := Tryz.prog) 68 4 (.bool false) 1 Tryz.underlying68 bool_info rfl .i64 .i64 61 (by omega) (by omega) w
/-- What lies beside the store between two rounds. -/
structure Side (wr : World) (B : Blk) (g pb : Nat) (p0 : Po) (cc : La) (S : Nat → Bool) : Prop where
  seen : SeenAt wr g S
  box : At wr pb (poC p0 cc)
  pool : PoAt wr p0 cc
  ng : g ∉ B.all
  npb : pb ∉ B.all
  ne : pb ≠ g
  off : OffP B.all cc
  o1 : p0.free ≠ [] → Off [g] cc.A1
  o2 : p0.limbo ≠ [] → Off [g] cc.A2
theorem Side.mod {wr w' : World} {B : Blk} {g pb : Nat} {p0 : Po} {cc : La} {S : Nat → Bool} (h : Side wr B g pb p0 cc S) (m : Mod B.all wr w') : Side w' B g pb p0 cc S :=
  { h with seen := h.seen.mod m h.ng, box := at_mod h.box m h.npb, pool := po_mod h.pool m h.off }
theorem Side.set {wr : World} {B : Blk} {g pb k : Nat} {p0 : Po} {cc : La} {S : Nat → Bool} (h : Side wr B g pb p0 cc S) (hk : k < 61) : Side (wr.setCell ⟨g, k, none⟩ (.bool true)) B g pb p0 cc (seenUp S k) :=
  { h with seen := h.seen.set hk, box := at_mod h.box (mod_set wr g k _) (by simpa using h.ne), pool := ⟨nat_mod' h.pool.f (mod_set wr g k _) h.o1, nat_mod' h.pool.l (mod_set wr g k _) h.o2⟩ }
/-- Between two rounds. -/
def Between (W : World) (B : Blk) (g pb : Nat) (p0 : Po) (cc : La) (wr : World) : Prop := ∃ d t S, SOn W wr B d t ∧ Good 41 d t ∧ t.base = p0 ∧ (∀ m : Nat, S m = true → t.fresh (m : Int) = true) ∧ Side wr B g pb p0 cc S ∧ W.heap.size ≤ g
set_option maxRecDepth 100000 in
set_option maxHeartbeats 8000000 in
theorem takes_walk {A : Option Addr} {n c : Nat} {l : List CallS} (count : Int) (W : World) (hl : l.length = n) (hn : n ≤ 9223372036854775807) (hs : Script W A l) (h0 : -9223372036854775808 ≤ count) (h1 : count ≤ 9223372036854775807) :
    Calls Tryz.prog 6 #[.slice A n c, .int .i64 count] W fun e W' => e = .returned (.bool true) ∧ Below W.heap.size W W' := by
  have cA := awake_any W
  have HL := Lib.hid hl
  have HS := Lib.hid hs
  clear hl hs
  go_enter Tryz.func6, Tryz.ntmps6
  go_wp2_with fail
  refine cA.mono ?_
  rintro e w1 ⟨rfl, b1⟩
  have cN : Calls Tryz.prog 10 #[.int .i64 60] w1 _ := Disk.new_dev 60 w1 (by omega) (by omega)
  have B1 := Lib.hid b1
  clear b1 cA
  go_wp2_with fail
  refine cN.mono ?_
  rintro e w2 ⟨rfl, hd, b2⟩
  have cF := format_any hd (by show 2 ≤ 60; omega)
  have B2 := Lib.hid (B1.out.trans (b2.mono B1.out.size))
  clear b2 hd cN
  go_wp2_with fail
  refine cF.mono ?_
  rintro e w3 ⟨d1, t1, x, hc, m3, hx⟩
  obtain ⟨rfl, rfl, sf1, cm1, n1⟩ := format_ok (n := 60) (by omega) (by omega) hc
  rcases hx with ⟨hx, -⟩ | ⟨-, B, rfl, g1, g2, g3, g4, g5, hs⟩
  · exact absurd rfl hx
  have R3 := Lib.hid (show Run W B 1 w3 from ⟨d1, _, ⟨hs, B2.out.trans (m3.below B2.out.size (fun k hk => by have := B1.out.size; simp at hk; omega)), fun k hk => by
    have := B1.out.size
    have := B2.out.size
    simp only [Blk.all, List.mem_cons, List.not_mem_nil, or_false] at hk
    omega⟩, ⟨sf1, cm1, n1, by show (0 + 1) % 18446744073709551616 ≤ 1; omega⟩⟩)
  clear hc m3 sf1 cm1 n1 g1 g2 g3 g4 g5 hs cF B2 B1
  have cW := done_walk (c := c) R3.out HL.out hn HS.out
  clear R3
  go_wp2_with fail
  refine cW.mono ?_
  rintro e w4 ⟨rfl, d4, t4, s4, G4⟩
  obtain ⟨a4, st4⟩ := s4.has
  have cB := abort_any st4
  have S4 := Lib.hid s4
  have HG4 := Lib.hid G4.abort
  clear s4 G4 st4 cW
  go_wp2_with fail
  refine cB.mono ?_
  rintro e w5 ⟨rfl, h5, m5⟩
  have S5 := Lib.hid (S4.out.mod h5 m5)
  obtain ⟨a5, st5⟩ := h5
  have s5off : ∀ {c : La}, Fresh w5.heap.size c → OffP B.all c := fun h => st5.offP (Nat.le_refl _) h
  have cP := pool_any st5
  clear st5 m5 cB S4
  obtain ⟨t5, ht5⟩ : ∃ t, abortT t4 = t := ⟨_, rfl⟩
  rw [ht5] at S5 HG4 cP
  have HT5 := Lib.hid (show t5.pool = t5.base ∧ t5.fresh = fun _ => false from by rw [← ht5]; exact ⟨rfl, rfl⟩)
  clear ht5
  go_wp2_with fail
  refine cP.mono ?_
  rintro e w6 ⟨cc, rfl, hp, b6, hfr⟩
  have PP := Lib.hid (put_pool w6 t5.pool cc)
  have b7 := Pool.below_box w6 (.cells (poC t5.pool cc) 40)
  have A7 := at_new w6 (poC t5.pool cc) 40
  have S7 := Lib.hid (S5.out.quiet (b6.trans (b7.mono b6.size)))
  have P7 := Lib.hid (hp.below b7)
  obtain ⟨W7, hW7⟩ : ∃ W7, w6.alloc (.cells (poC t5.pool cc) 40) = W7 := ⟨_, rfl⟩
  rw [hW7] at PP A7 S7 P7
  have hs7 : w6.heap.size < W7.heap.size := A7.1
  have b8 := Pool.below_box W7 (.cells (madeCells #[.bool false] 61) 4)
  have hmk := make_seen W7
  have lt5 : ∀ x ∈ B.all, x < w6.heap.size := fun x hx => by
    obtain ⟨a, s⟩ := S5.out.has
    exact Nat.lt_of_lt_of_le (s.lt x hx) b6.size
  have S8 := S7.out.quiet b8
  have ST := Lib.hid (show Between W B W7.heap.size w6.heap.size t5.pool cc (W7.alloc (.cells (madeCells #[.bool false] 61) 4)) from
    ⟨d4, t5, fun _ => false, S8, HG4.out, HT5.out.1.symm, fun m e => (by cases e), { seen := seen_made W7, box := A7.below b8 A7.1, pool := P7.out.below b8, ng := fun e => by have := lt5 _ e; omega, npb := fun e => by have := lt5 _ e; omega, ne := by omega, off := s5off hfr, o1 := fun hne x e hx => by have := nat_block P7.out.f hne x e; simp at hx; omega, o2 := fun hne x e hx => by have := nat_block P7.out.l hne x e; simp at hx; omega }, Nat.le_trans S5.out.below.size (Nat.le_trans b6.size (by omega))⟩)
  clear b6 b7 b8 A7 hp hfr hW7 cP S5 S7 P7 HG4 HT5 lt5 S8 hs7
  by_cases hneg : count < 0
  · have hw1 : IntKind.i64.wrap (count + 1) = count + 1 := IntWalk.i64_in _ (by omega)
    have hw2 : IntKind.i64.wrap (-(count + 1)) = -(count + 1) := IntWalk.i64_in _ (by omega)
    go_wp2_with (first | ((with_reducible refine Disk.wpList_store_eq rfl 40 (.tmp 10) (.tmp 38) rfl _ _ ?_ ?_ PP.out ?_); (next => rfl); (next => rfl)))
    obtain ⟨cnt, hcnt⟩ : ∃ cnt, -(count + 1) = cnt := ⟨_, rfl⟩
    rw [hcnt]
    have HC := Lib.hid (show 0 ≤ cnt ∧ cnt ≤ 9223372036854775807 from by omega)
    clear hw1 hw2 hmk PP hcnt hneg
    obtain ⟨q, hq⟩ : ∃ q : Nat, cnt.tmod 40 = (q : Int) := ⟨(cnt.tmod 40).toNat, by rw [Int.tmod_eq_emod_of_nonneg HC.out.1]; omega⟩
    have hq40 : q < 40 := by rw [Int.tmod_eq_emod_of_nonneg HC.out.1] at hq; omega
    have hrem : IntKind.i64.wrap (cnt.tmod 40) = (q : Int) := by rw [hq]; exact IntWalk.i64_in _ (by omega)
    have hrem3 : cnt.tmod 40 = (q : Int) := hq
    have hrem2 : cnt % 40 = (q : Int) := by rw [← Int.tmod_eq_emod_of_nonneg HC.out.1]; exact hq
    clear hq
    go_loopw [12] (fun i wr => ∃ k : Nat, i = .int .i64 (k : Int) ∧ k ≤ q ∧ Hid (Between W B W7.heap.size w6.heap.size t5.pool cc wr)) (fun i _ => q - (intOf i).toNat)
    case atStart => exact ⟨0, rfl, Nat.zero_le _, ST⟩
    case round =>
      obtain ⟨k, rfl, hk, R⟩ := hrel
      clear ST
      have hwr : IntKind.i64.wrap ((k : Int) + 1) = (k : Int) + 1 := IntWalk.i64_in _ (by omega)
      by_cases hlt : k < q
      rotate_left
      · have FIN := Lib.hid (show Below W.heap.size W wr from by obtain ⟨d, t, S, s, _⟩ := R.out; exact s.below)
        go_wp2_with fail
        go_ret
        exact ⟨rfl, FIN.out⟩
      obtain ⟨d, t, S, s, G, hb, hS, hSd, hWg⟩ := R.out
      have cL : Calls Tryz.prog 27 #[.string { data := #[97] }] wr _ := leaf_any [97] wr
      have HSN := Lib.hid s
      have HG := Lib.hid G
      have HX := Lib.hid (show t.base = t5.pool ∧ (∀ m : Nat, S m = true → t.fresh (m : Int) = true) ∧ W.heap.size ≤ W7.heap.size from ⟨hb, hS, hWg⟩)
      have SD := Lib.hid hSd
      clear R s G hb hS hSd hWg
      go_wp2_with fail
      refine cL.mono ?_
      rintro e v1 ⟨rfl, hr, b1⟩
      have cY := lay_leaf HSN.out hr b1 0 hz
      have S1 := Lib.hid (HSN.out.quiet b1)
      have D1 := Lib.hid (SD.out.mod (mod_below b1))
      clear hr b1 cL SD HSN
      go_wp2_with fail
      refine cY.mono ?_
      rintro e v2 ⟨d2, t2, n2, x2, rfl, hl, hs2, m2⟩
      have S2 := Lib.hid (S1.out.mod hs2 m2)
      have D2 := Lib.hid (D1.out.mod m2)
      have G2 := Lib.hid (HG.out.lay hl)
      have LN := Lib.hid (lay_new HG.out (fine_leaf (by decide) (by decide)) hl)
      clear hl hs2 m2 cY S1 D1
      by_cases he : x2 = 60
      · subst he
        have FIN := Lib.hid S2.out.below
        clear S2 D2 G2 LN HG
        go_wp2_with fail
        go_ret
        exact ⟨rfl, FIN.out⟩
      have LN2 := Lib.hid (LN.out.resolve_left he)
      obtain ⟨rfl, hn2, hn60, -⟩ := LN2.out
      obtain ⟨m, rfl⟩ : ∃ m : Nat, n2 = (m : Int) := ⟨n2.toNat, by omega⟩
      have hm60 : m < 60 := by omega
      have hm2 : 2 ≤ m := by omega
      have d2' : decide ((m : Int) < 2) = false := decide_eq_false (by omega)
      have d60 : decide ((60 : Int) ≤ (m : Int)) = false := decide_eq_false (by omega)
      have hSm : S m = false := by
        rcases e : S m with _ | _
        · rfl
        · have h1 := HX.out.2.1 m e
          rw [LN2.out.2.2.2.1] at h1; cases h1
      have cm := D2.out.seen.cell m (by omega)
      rw [hSm] at cm
      have fz := D2.out.seen.free m
      have D3 := Lib.hid (D2.out.set (k := m) (by omega))
      have S3 := Lib.hid (show SOn W (v2.setCell ⟨W7.heap.size, m, none⟩ (.bool true)) B d2 t2 from by
        obtain ⟨a2, st2⟩ := S2.out.has
        refine ⟨⟨a2, st2.other (mod_set v2 W7.heap.size m _) D2.out.ng (D2.out.seen.sep st2)⟩, S2.out.below.trans ((mod_set v2 W7.heap.size m _).below S2.out.below.size (fun y hy => by rw [List.mem_singleton] at hy; rw [hy]; exact HX.out.2.2)), S2.out.new⟩)
      have B3 := Lib.hid (show t2.base = t5.pool ∧ (∀ j : Nat, seenUp S m j = true → t2.fresh (j : Int) = true) ∧ ¬ Live t2.base (m : Int) ∧ t2.fresh (m : Int) = true from by
        obtain ⟨-, -, -, -, f1, f2, f3⟩ := LN2.out
        refine ⟨f3.trans HX.out.1, fun j hj => ?_, by rw [f3]; exact f2, by rw [f1]; exact fup_at _ _ _⟩
        rw [f1]
        unfold fup
        split
        · rfl
        · rename_i hne
          unfold seenUp at hj
          split at hj
          · rename_i e; exact absurd (by rw [e]) hne
          · exact HX.out.2.1 j hj)
      have KN := Pool.rKnown_any t5.pool cc (m : Int) (v2.setCell ⟨W7.heap.size, m, none⟩ (.bool true)) D3.out.pool
      have LPn := Lib.hid (load_pool (o := 0) D3.out.box t5.pool cc rfl)
      clear he LN LN2 hn2 hn60 HG S2 D2 hSm
      go_wp2_with (first | ((with_reducible refine Disk.wpList_load_eq rfl 40 (.tmp 10) rfl _ ?_ LPn.out ?_); (next => rfl)))
      refine KN.mono ?_
      rintro e v4 ⟨r, rfl, hr, b4⟩
      have hpd : w6.heap.size ∉ B.all := D3.out.npb
      have D4 := Lib.hid (D3.out.mod (mod_below b4))
      have S4 := Lib.hid (S3.out.quiet b4)
      have cL2 : Calls Tryz.prog 27 #[.string { data := #[98] }] v4 _ := leaf_any [98] v4
      have RK := Lib.hid (show r = false → ¬ (m : Int) < t5.pool.high from fun e hlt2 => by
        refine B3.out.2.2.1 ⟨by omega, by rw [B3.out.1]; exact hlt2, fun hm => ?_⟩
        rw [B3.out.1] at hm
        have := hr.2 (.inl hm)
        rw [e] at this; cases this)
      clear b4 hr KN LPn D3 S3 cm fz
      go_wp2_with fail
      refine cL2.mono ?_
      rintro e v5 ⟨rfl, hr5, b5⟩
      have cY2 := lay_leaf S4.out hr5 b5 (m : Int) ⟨by omega, by omega⟩
      have S5 := Lib.hid (S4.out.quiet b5)
      have D5 := Lib.hid (D4.out.mod (mod_below b5))
      clear hr5 b5 cL2 D4 S4
      go_wp2_with fail
      refine cY2.mono ?_
      rintro e v6 ⟨d6, t6, n6, x6, rfl, hl6, hs6, m6⟩
      obtain ⟨rfl, rfl, rfl⟩ := lay_again G2.out (fine_leaf (by decide) (by decide)) B3.out.2.2.2 hl6
      have S6 := Lib.hid (S5.out.mod hs6 m6)
      have D6 := Lib.hid (D5.out.mod m6)
      have NEW := Lib.hid (show Between W B W7.heap.size w6.heap.size t5.pool cc v6 from ⟨d6, t6, _, S6.out, G2.out.lay hl6, B3.out.1, B3.out.2.1, D6.out, HX.out.2.2⟩)
      have ch : v6.cell? ⟨w6.heap.size, 0, none⟩ = some (.int .i64 t5.pool.high) := D6.out.box.2.2 0 _ rfl
      clear hl6 hs6 m6 cY2 S5 D5 S6 D6 B3 G2 HX
      rcases r with _ | _
      · have d7 : decide ((m : Int) < t5.pool.high) = false := decide_eq_false (by have := RK.out rfl; omega)
        clear RK
        go_wp2_with fail
        go_roundw
        case rel => exact ⟨k + 1, by go_num, by omega, NEW⟩
        case measure => simp [intOf]; omega
      · clear RK
        go_wp2_with fail
        go_roundw
        case rel => exact ⟨k + 1, by go_num, by omega, NEW⟩
        case measure => simp [intOf]; omega
  · go_wp2_with (first | ((with_reducible refine Disk.wpList_store_eq rfl 40 (.tmp 10) (.tmp 38) rfl _ _ ?_ ?_ PP.out ?_); (next => rfl); (next => rfl)))
    have HC := Lib.hid (show 0 ≤ count ∧ count ≤ 9223372036854775807 from by omega)
    clear hmk PP hneg
    obtain ⟨q, hq⟩ : ∃ q : Nat, count.tmod 40 = (q : Int) := ⟨(count.tmod 40).toNat, by rw [Int.tmod_eq_emod_of_nonneg HC.out.1]; omega⟩
    have hq40 : q < 40 := by rw [Int.tmod_eq_emod_of_nonneg HC.out.1] at hq; omega
    have hrem : IntKind.i64.wrap (count.tmod 40) = (q : Int) := by rw [hq]; exact IntWalk.i64_in _ (by omega)
    have hrem3 : count.tmod 40 = (q : Int) := hq
    have hrem2 : count % 40 = (q : Int) := by rw [← Int.tmod_eq_emod_of_nonneg HC.out.1]; exact hq
    clear hq
    go_loopw [12] (fun i wr => ∃ k : Nat, i = .int .i64 (k : Int) ∧ k ≤ q ∧ Hid (Between W B W7.heap.size w6.heap.size t5.pool cc wr)) (fun i _ => q - (intOf i).toNat)
    case atStart => exact ⟨0, rfl, Nat.zero_le _, ST⟩
    case round =>
      obtain ⟨k, rfl, hk, R⟩ := hrel
      clear ST
      have hwr : IntKind.i64.wrap ((k : Int) + 1) = (k : Int) + 1 := IntWalk.i64_in _ (by omega)
      by_cases hlt : k < q
      rotate_left
      · have FIN := Lib.hid (show Below W.heap.size W wr from by obtain ⟨d, t, S, s, _⟩ := R.out; exact s.below)
        go_wp2_with fail
        go_ret
        exact ⟨rfl, FIN.out⟩
      obtain ⟨d, t, S, s, G, hb, hS, hSd, hWg⟩ := R.out
      have cL : Calls Tryz.prog 27 #[.string { data := #[97] }] wr _ := leaf_any [97] wr
      have HSN := Lib.hid s
      have HG := Lib.hid G
      have HX := Lib.hid (show t.base = t5.pool ∧ (∀ m : Nat, S m = true → t.fresh (m : Int) = true) ∧ W.heap.size ≤ W7.heap.size from ⟨hb, hS, hWg⟩)
      have SD := Lib.hid hSd
      clear R s G hb hS hSd hWg
      go_wp2_with fail
      refine cL.mono ?_
      rintro e v1 ⟨rfl, hr, b1⟩
      have cY := lay_leaf HSN.out hr b1 0 hz
      have S1 := Lib.hid (HSN.out.quiet b1)
      have D1 := Lib.hid (SD.out.mod (mod_below b1))
      clear hr b1 cL SD HSN
      go_wp2_with fail
      refine cY.mono ?_
      rintro e v2 ⟨d2, t2, n2, x2, rfl, hl, hs2, m2⟩
      have S2 := Lib.hid (S1.out.mod hs2 m2)
      have D2 := Lib.hid (D1.out.mod m2)
      have G2 := Lib.hid (HG.out.lay hl)
      have LN := Lib.hid (lay_new HG.out (fine_leaf (by decide) (by decide)) hl)
      clear hl hs2 m2 cY S1 D1
      by_cases he : x2 = 60
      · subst he
        have FIN := Lib.hid S2.out.below
        clear S2 D2 G2 LN HG
        go_wp2_with fail
        go_ret
        exact ⟨rfl, FIN.out⟩
      have LN2 := Lib.hid (LN.out.resolve_left he)
      obtain ⟨rfl, hn2, hn60, -⟩ := LN2.out
      obtain ⟨m, rfl⟩ : ∃ m : Nat, n2 = (m : Int) := ⟨n2.toNat, by omega⟩
      have hm60 : m < 60 := by omega
      have hm2 : 2 ≤ m := by omega
      have d2' : decide ((m : Int) < 2) = false := decide_eq_false (by omega)
      have d60 : decide ((60 : Int) ≤ (m : Int)) = false := decide_eq_false (by omega)
      have hSm : S m = false := by
        rcases e : S m with _ | _
        · rfl
        · have h1 := HX.out.2.1 m e
          rw [LN2.out.2.2.2.1] at h1; cases h1
      have cm := D2.out.seen.cell m (by omega)
      rw [hSm] at cm
      have fz := D2.out.seen.free m
      have D3 := Lib.hid (D2.out.set (k := m) (by omega))
      have S3 := Lib.hid (show SOn W (v2.setCell ⟨W7.heap.size, m, none⟩ (.bool true)) B d2 t2 from by
        obtain ⟨a2, st2⟩ := S2.out.has
        refine ⟨⟨a2, st2.other (mod_set v2 W7.heap.size m _) D2.out.ng (D2.out.seen.sep st2)⟩, S2.out.below.trans ((mod_set v2 W7.heap.size m _).below S2.out.below.size (fun y hy => by rw [List.mem_singleton] at hy; rw [hy]; exact HX.out.2.2)), S2.out.new⟩)
      have B3 := Lib.hid (show t2.base = t5.pool ∧ (∀ j : Nat, seenUp S m j = true → t2.fresh (j : Int) = true) ∧ ¬ Live t2.base (m : Int) ∧ t2.fresh (m : Int) = true from by
        obtain ⟨-, -, -, -, f1, f2, f3⟩ := LN2.out
        refine ⟨f3.trans HX.out.1, fun j hj => ?_, by rw [f3]; exact f2, by rw [f1]; exact fup_at _ _ _⟩
        rw [f1]
        unfold fup
        split
        · rfl
        · rename_i hne
          unfold seenUp at hj
          split at hj
          · rename_i e; exact absurd (by rw [e]) hne
          · exact HX.out.2.1 j hj)
      have KN := Pool.rKnown_any t5.pool cc (m : Int) (v2.setCell ⟨W7.heap.size, m, none⟩ (.bool true)) D3.out.pool
      have LPn := Lib.hid (load_pool (o := 0) D3.out.box t5.pool cc rfl)
      clear he LN LN2 hn2 hn60 HG S2 D2 hSm
      go_wp2_with (first | ((with_reducible refine Disk.wpList_load_eq rfl 40 (.tmp 10) rfl _ ?_ LPn.out ?_); (next => rfl)))
      refine KN.mono ?_
      rintro e v4 ⟨r, rfl, hr, b4⟩
      have hpd : w6.heap.size ∉ B.all := D3.out.npb
      have D4 := Lib.hid (D3.out.mod (mod_below b4))
      have S4 := Lib.hid (S3.out.quiet b4)
      have cL2 : Calls Tryz.prog 27 #[.string { data := #[98] }] v4 _ := leaf_any [98] v4
      have RK := Lib.hid (show r = false → ¬ (m : Int) < t5.pool.high from fun e hlt2 => by
        refine B3.out.2.2.1 ⟨by omega, by rw [B3.out.1]; exact hlt2, fun hm => ?_⟩
        rw [B3.out.1] at hm
        have := hr.2 (.inl hm)
        rw [e] at this; cases this)
      clear b4 hr KN LPn D3 S3 cm fz
      go_wp2_with fail
      refine cL2.mono ?_
      rintro e v5 ⟨rfl, hr5, b5⟩
      have cY2 := lay_leaf S4.out hr5 b5 (m : Int) ⟨by omega, by omega⟩
      have S5 := Lib.hid (S4.out.quiet b5)
      have D5 := Lib.hid (D4.out.mod (mod_below b5))
      clear hr5 b5 cL2 D4 S4
      go_wp2_with fail
      refine cY2.mono ?_
      rintro e v6 ⟨d6, t6, n6, x6, rfl, hl6, hs6, m6⟩
      obtain ⟨rfl, rfl, rfl⟩ := lay_again G2.out (fine_leaf (by decide) (by decide)) B3.out.2.2.2 hl6
      have S6 := Lib.hid (S5.out.mod hs6 m6)
      have D6 := Lib.hid (D5.out.mod m6)
      have NEW := Lib.hid (show Between W B W7.heap.size w6.heap.size t5.pool cc v6 from ⟨d6, t6, _, S6.out, G2.out.lay hl6, B3.out.1, B3.out.2.1, D6.out, HX.out.2.2⟩)
      have ch : v6.cell? ⟨w6.heap.size, 0, none⟩ = some (.int .i64 t5.pool.high) := D6.out.box.2.2 0 _ rfl
      clear hl6 hs6 m6 cY2 S5 D5 S6 D6 B3 G2 HX
      rcases r with _ | _
      · have d7 : decide ((m : Int) < t5.pool.high) = false := decide_eq_false (by have := RK.out rfl; omega)
        clear RK
        go_wp2_with fail
        go_roundw
        case rel => exact ⟨k + 1, by go_num, by omega, NEW⟩
        case measure => simp [intOf]; omega
      · clear RK
        go_wp2_with fail
        go_roundw
        case rel => exact ⟨k + 1, by go_num, by omega, NEW⟩
        case measure => simp [intOf]; omega
end Go.Proofs.YtbjfcinaankmjaaGreat.Store
