/-
  Texts of one family, one behind the other: SDone, SInv, SCommit1, SCommit2.
-/
import Derived.Test.YtboaamaneeodfaaGreatKS3
import Derived.Test.YtboaamaneeodfaaGreatKQ2
namespace Go.Proofs.YtboaamaneeodfaaGreat.Store
open Go.RowKit Gen
open Disk (St Dev Mod ptr)
open Pool (numV)

/-- A method's value. -/
abbrev encF (x : Nat × Nat) : Value := .func (.func x.1) #[ptr x.2] #[]
structure DoRel (A : Option Addr) (fs : List (Nat × Nat)) (R : Nat → World → Prop) (k : Nat) (wr : World) : Prop where
  here : R k wr
  row : RowG wr encF A fs
set_option maxRecDepth 100000 in
set_option maxHeartbeats 4000000 in
theorem done_any {w : World} {A : Option Addr} {n c : Nat} (fs : List (Nat × Nat)) (hn : fs.length = n) (hmax : n ≤ 1000) (R : Nat → World → Prop) (Q : Int → World → Prop)
    (hrow : ∀ i wr, R i wr → RowG wr encF A fs) (h0 : R 0 w) (he : ∀ x ∈ fs, ∀ args w, (callFunc x.1 args).run Tryz.prog w = .ok (.enter x.1 args) w)
    (hs : ∀ i (hi : i < fs.length) wr, R i wr → Calls Tryz.prog fs[i].1 #[ptr fs[i].2] wr (fun e w' => ∃ x, e = .returned (numV x) ∧ (x = 0 → R (i + 1) w') ∧ (x ≠ 0 → Q x w'))) :
    Calls Tryz.prog 65 #[.slice A n c] w (fun e w' => ∃ x, e = .returned (numV x) ∧ (x = 0 → R n w') ∧ (x ≠ 0 → Q x w')) := by
  have HROW := Lib.hid hrow
  have H0 := Lib.hid h0
  have HE := Lib.hid he
  have HS := Lib.hid hs
  have HN := Lib.hid hn
  have HM := Lib.hid hmax
  clear hrow h0 he hs hn hmax
  have hmf : ∀ (fn : Fn) (first cap : Array Value) (w : World), (Instr.makeFunc fn first cap).run Tryz.prog w = .ok (.func fn first cap) w := fun _ _ _ _ => rfl
  go_enter Tryz.func65, Tryz.ntmps65
  go_wp2_with fail
  go_loopw [8] (fun i wr => ∃ k : Nat, i = .int .i64 (k : Int) ∧ k ≤ n ∧ DoRel A fs R k wr) (fun i _ => n - (intOf i).toNat)
  case atStart => exact ⟨0, rfl, Nat.zero_le _, H0.out, HROW.out 0 _ H0.out⟩
  case round =>
    obtain ⟨k, rfl, hk, hr⟩ := hrel
    have HR := Lib.hid hr
    clear hr
    by_cases hlt : k < n
    · have hkf : k < fs.length := by have := HN.out; omega
      obtain ⟨b, o, rfl, hbl, hc⟩ := HR.out.row (by intro e; rw [e] at hkf; simp at hkf)
      have hcell := hc k hkf
      have cS := HS.out k hkf wr HR.out.here
      have eg := HE.out _ (List.getElem_mem hkf)
      obtain ⟨⟨f, x⟩, hx⟩ : ∃ z, fs[k] = z := ⟨_, rfl⟩
      rw [hx] at hcell cS eg
      have hcell : wr.cell? ⟨b, o + k, none⟩ = some (.func (.func f) #[ptr x] #[]) := hcell
      have cS : Calls Tryz.prog f #[ptr x] wr (fun e w' => ∃ x, e = .returned (numV x) ∧ (x = 0 → R (k + 1) w') ∧ (x ≠ 0 → Q x w')) := cS
      have eg : ∀ args w, (callFunc f args).run Tryz.prog w = .ok (.enter f args) w := eg
      have hwr : IntKind.i64.wrap ((k : Int) + 1) = (k : Int) + 1 := IntWalk.i64_in _ (by have := HM.out; omega)
      clear hc hx
      go_wp2_with fail
      refine cS.mono ?_
      rintro e w2 ⟨y, rfl, hz, hnz⟩
      have HZ := Lib.hid hz
      have HNZ := Lib.hid hnz
      clear hz hnz cS hcell
      by_cases h0 : y = 0
      · have d1 : (y != 0) = false := by simp [h0]
        have NEW := Lib.hid (HZ.out h0)
        have NROW := Lib.hid (HROW.out _ _ NEW.out)
        clear h0
        go_wp2_with fail
        exact ⟨⟨k + 1, congrArg (Value.int .i64) (by omega), by omega, NEW.out, NROW.out⟩, by show n - ((k : Int) + 1).toNat < n - (k : Int).toNat; omega⟩
      · have d1 : (y != 0) = true := by simp [h0]
        have FIN := Lib.hid (show y = 0 → R n w2 from fun e => absurd e h0)
        clear h0
        go_wp2_with fail
        go_ret
        exact ⟨y, rfl, FIN.out, HNZ.out⟩
    · have FIN := Lib.hid (show R n wr from by have := HR.out.here; rwa [show k = n by omega] at this)
      clear HR
      go_wp2_with fail
      go_ret
      exact ⟨0, rfl, fun _ => FIN.out, fun e => absurd rfl e⟩
end Go.Proofs.YtboaamaneeodfaaGreat.Store
namespace Go.Proofs.YtboaamaneeodfaaGreat.Store
open Go.RowKit Gen
open Disk (St Dev Mod ptr)
open Page (Pg Lay PgOk PgRows pgC pgV Enc IsDec BytesAt)
open Pool (Po NAt PoAt La poC poV numV At takeP giveP backP Fresh PoolOk OwnI chunks layAll May lay1 lay1_mem layAll_mem)

/-- The last commit has it. -/
def Live (p : Po) (x : Int) : Prop := 2 ≤ x ∧ x < p.high ∧ x ∉ p.free
/-- What the pool and the fresh pages have to do with the last commit. -/
structure Inv (t : T) : Prop where
  limbo : t.base.limbo = []
  high : t.base.high ≤ t.pool.high
  live : ∀ x, Live t.base x → x ∉ t.pool.free
  fresh : ∀ x, t.fresh x = true → 2 ≤ x ∧ x < t.pool.high ∧ x ∉ t.pool.free ∧ ¬ Live t.base x
/-- What a call leaves of a store. -/
structure Part (t t' : T) : Prop where
  own : t'.own = t.own
  base : t'.base = t.base
  sup : t'.sup = t.sup
theorem Part.refl (t : T) : Part t t := ⟨rfl, rfl, rfl⟩
theorem Part.trans {a b c : T} (h : Part a b) (k : Part b c) : Part a c := ⟨k.own.trans h.own, k.base.trans h.base, k.sup.trans h.sup⟩
/-- A page that is out of the pool, and of no commit. -/
structure Out (t : T) (n : Int) : Prop where
  low : 2 ≤ n
  top : n < t.pool.high
  free : n ∉ t.pool.free
  live : ¬ Live t.base n
theorem Inv.out {t : T} (h : Inv t) {x : Int} (hx : t.fresh x = true) : Out t x := ⟨(h.fresh x hx).1, (h.fresh x hx).2.1, (h.fresh x hx).2.2.1, (h.fresh x hx).2.2.2⟩
theorem Inv.abort {t : T} (h : Inv t) : Inv (abortT t) := ⟨h.limbo, Int.le_refl _, fun x hx => hx.2.2, fun x hx => by simp [abortT] at hx⟩
theorem abort_part (t : T) : Part t (abortT t) := ⟨rfl, rfl, rfl⟩
theorem Inv.ended {t : T} (h : Inv t) (e : Int) : Inv (endT t e) := by
  rw [endT]
  split
  · exact h
  · exact h.abort
theorem end_part (t : T) (e : Int) : Part t (endT t e) := by
  rw [endT]
  split
  · exact Part.refl t
  · exact abort_part t
theorem give_what {p : Po} {n : Int} (he : (giveP p n).2 = 0) : (giveP p n).1.high = p.high ∧ (giveP p n).1.free = p.free ∧ (∀ x, x ∈ (giveP p n).1.limbo ↔ x = n ∨ x ∈ p.limbo) ∧ May p n := by
  unfold giveP at *
  by_cases hm : May p n
  · rw [if_pos hm]
    exact ⟨rfl, rfl, fun x => lay1_mem p.limbo n x, hm⟩
  · rw [if_neg hm] at he; simp at he
theorem back_what {p : Po} {n : Int} (he : (backP p n).2 = 0) : (backP p n).1.high = p.high ∧ (backP p n).1.limbo = p.limbo ∧ (∀ x, x ∈ (backP p n).1.free ↔ x = n ∨ x ∈ p.free) ∧ May p n := by
  unfold backP at *
  by_cases hm : May p n
  · rw [if_pos hm]
    exact ⟨rfl, rfl, fun x => lay1_mem p.free n x, hm⟩
  · rw [if_neg hm] at he; simp at he
theorem takeT_ok {t : T} {N : Int} (h : PoolOk t.pool N) : PoolOk (takeT t N).1.pool N := by
  rw [takeT]
  by_cases h0 : (takeP t.pool N).2.2 = 0
  · rw [if_pos h0]; exact take_ok h h0
  · rw [if_neg h0]; exact h
theorem giveT_ok {t : T} {n : Int} {N : Int} (h : PoolOk t.pool N) : PoolOk (giveT t n).1.pool N := by
  rw [giveT]
  by_cases h0 : (giveP t.pool n).2 = 0
  · rw [if_pos h0]; exact (give_ok h h0).1
  · rw [if_neg h0]; exact h
theorem backT_ok {t : T} {n : Int} {N : Int} (h : PoolOk t.pool N) : PoolOk (backT t n).1.pool N := by
  rw [backT]
  by_cases h0 : (backP t.pool n).2 = 0
  · rw [if_pos h0]; exact (back_ok h h0).1
  · rw [if_neg h0]; exact h
/-- What taking leaves. -/
theorem Inv.take {t : T} {N : Int} (h : Inv t) (hk : PoolOk t.pool N) : Inv (takeT t N).1 ∧ Part t (takeT t N).1 ∧ (takeT t N).1.fresh = t.fresh ∧ t.pool.high ≤ (takeT t N).1.pool.high ∧ (takeT t N).1.pool.limbo = t.pool.limbo ∧ (∀ x ∈ (takeT t N).1.pool.free, x ∈ t.pool.free) ∧
    ((takeT t N).2.2 = 0 → Out (takeT t N).1 (takeT t N).2.1 ∧ (takeT t N).2.1 ∉ t.pool.limbo ∧ t.fresh (takeT t N).2.1 = false ∧ ((takeT t N).2.1 ∈ t.pool.free ∨ (takeT t N).2.1 = t.pool.high)) := by
  rw [takeT]
  by_cases h0 : (takeP t.pool N).2.2 = 0
  · rw [if_pos h0]
    obtain ⟨k1, k2, k3, k4, k5, k6, k7, k8, k9⟩ := take_what hk h0
    refine ⟨⟨h.limbo, Int.le_trans h.high k7, fun x hx hf => h.live x hx (k9 x hf), fun x hx => ?_⟩, ⟨rfl, rfl, rfl⟩, rfl, k7, k6, k9, fun _ => ⟨⟨k1, k8, k4, fun hl => ?_⟩, k5, ?_, k3⟩⟩
    · have g := h.out hx
      exact ⟨g.low, Int.lt_of_lt_of_le g.top k7, fun hf => g.free (k9 x hf), g.live⟩
    · rcases k3 with e | e
      · exact h.live _ hl e
      · have := hl.2.1
        have := h.high
        show False
        simp only at *
        omega
    · cases hf : t.fresh (takeP t.pool N).2.1
      · rfl
      · exfalso
        have g := h.out hf
        rcases k3 with e | e
        · exact g.free e
        · have := g.top
          omega
  · rw [if_neg h0]
    exact ⟨h, Part.refl t, rfl, Int.le_refl _, rfl, fun _ => id, fun e => absurd e h0⟩
/-- What giving leaves. -/
theorem Inv.give {t : T} (h : Inv t) (n : Int) : Inv (giveT t n).1 ∧ Part t (giveT t n).1 ∧ (giveT t n).1.fresh = t.fresh ∧ (giveT t n).1.pool.high = t.pool.high ∧ (giveT t n).1.pool.free = t.pool.free ∧ (∀ x ∈ (giveT t n).1.pool.limbo, x = n ∨ x ∈ t.pool.limbo) := by
  rw [giveT]
  by_cases h0 : (giveP t.pool n).2 = 0
  · rw [if_pos h0]
    obtain ⟨k1, k2, k3, k4⟩ := give_what h0
    refine ⟨⟨h.limbo, by show _ ≤ (giveP t.pool n).1.high; rw [k1]; exact h.high, fun x hx => by show x ∉ (giveP t.pool n).1.free; rw [k2]; exact h.live x hx, fun x hx => ?_⟩, ⟨rfl, rfl, rfl⟩, rfl, k1, k2, fun x hx => (k3 x).1 hx⟩
    have g := h.out hx
    exact ⟨g.low, by show x < (giveP t.pool n).1.high; rw [k1]; exact g.top, by show x ∉ (giveP t.pool n).1.free; rw [k2]; exact g.free, g.live⟩
  · rw [if_neg h0]
    exact ⟨h, Part.refl t, rfl, rfl, rfl, fun x hx => .inr hx⟩
/-- What bringing back leaves. -/
theorem Inv.back {t : T} {n : Int} (h : Inv t) (hl : ¬ Live t.base n) (hn : ∀ x, t.fresh x = true → x ≠ n) : Inv (backT t n).1 ∧ Part t (backT t n).1 ∧ (backT t n).1.fresh = t.fresh := by
  rw [backT]
  by_cases h0 : (backP t.pool n).2 = 0
  · rw [if_pos h0]
    obtain ⟨k1, k2, k3, k4⟩ := back_what h0
    refine ⟨⟨h.limbo, by show _ ≤ (backP t.pool n).1.high; rw [k1]; exact h.high, fun x hx hf => ?_, fun x hx => ?_⟩, ⟨rfl, rfl, rfl⟩, rfl⟩
    · rcases (k3 x).1 hf with e | e
      · rw [e] at hx; exact hl hx
      · exact h.live x hx e
    · have g := h.out hx
      refine ⟨g.low, by show x < (backP t.pool n).1.high; rw [k1]; exact g.top, fun hf => ?_, g.live⟩
      rcases (k3 x).1 hf with e | e
      · exact hn x hx e
      · exact g.free e
  · rw [if_neg h0]
    exact ⟨h, Part.refl t, rfl⟩
theorem Inv.off {t : T} (h : Inv t) (n : Int) : Inv (frT t n false) := ⟨h.limbo, h.high, h.live, fun x hx => h.fresh x (by
  have hx' : fup t.fresh n false x = true := hx
  unfold fup at hx'
  split at hx'
  · cases hx'
  · exact hx')⟩
theorem Inv.on {t : T} (h : Inv t) {n : Int} (ho : Out t n) : Inv (frT t n true) := ⟨h.limbo, h.high, h.live, fun x hx => by
  have hx' : fup t.fresh n true x = true := hx
  unfold fup at hx'
  split at hx'
  · rename_i e
    rw [e]
    exact ⟨ho.low, ho.top, ho.free, ho.live⟩
  · exact h.fresh x hx'⟩
theorem frT_part (t : T) (n : Int) (v : Bool) : Part t (frT t n v) := ⟨rfl, rfl, rfl⟩
theorem fup_at (f : Int → Bool) (n : Int) (v : Bool) : fup f n v n = v := by simp [fup]
/-- What a place leaves. -/
theorem Inv.place {t : T} {N : Int} (h : Inv t) (hk : PoolOk t.pool N) (old : Int) : Inv (placeT t N old).1 ∧ Part t (placeT t N old).1 ∧ ((placeT t N old).2.2 = 0 → (placeT t N old).1.fresh (placeT t N old).2.1 = true) := by
  rw [placeT]
  by_cases hf : t.fresh old = true
  · rw [if_pos hf]
    exact ⟨h, Part.refl t, fun _ => hf⟩
  have hf' : t.fresh old = false := by simpa using hf
  rw [if_neg hf]
  obtain ⟨i1, p1, f1, g1, l1, s1, o1⟩ := h.take hk
  by_cases h1 : (takeT t N).2.2 = 0
  · rw [if_pos h1]
    obtain ⟨o1, _, n1, -⟩ := o1 h1
    by_cases h2 : old = 0
    · rw [if_pos h2]
      exact ⟨i1.on o1, p1.trans (frT_part _ _ _), fun _ => fup_at _ _ _⟩
    · rw [if_neg h2]
      obtain ⟨i2, p2, f2, hg2, hf2, hl2⟩ := i1.give old
      by_cases h3 : (giveT (takeT t N).1 old).2 = 0
      · rw [if_pos h3]
        exact ⟨i2.on ⟨o1.low, by rw [hg2]; exact o1.top, by rw [hf2]; exact o1.free, by rw [p2.base]; exact o1.live⟩, p1.trans (p2.trans (frT_part _ _ _)), fun _ => fup_at _ _ _⟩
      · rw [if_neg h3]
        have i3 := (i2.back (n := (takeT t N).2.1) (by rw [p2.base]; exact o1.live) (fun x hx e => by
          rw [f2, f1] at hx
          rw [e, n1] at hx; cases hx))
        exact ⟨i3.1, p1.trans (p2.trans i3.2.1), fun e => absurd e h3⟩
  · rw [if_neg h1]
    exact ⟨i1, p1, fun e => absurd e h1⟩
theorem back_fr (t : T) (n m : Int) (v : Bool) : (backT (frT t m v) n).1 = frT (backT t n).1 m v := by
  unfold backT frT
  show (if (backP t.pool n).2 = 0 then _ else _ : T × Int).1 = _
  split <;> rfl
/-- What a drop leaves. -/
theorem Inv.drop {t : T} (h : Inv t) (n : Int) : Inv (dropT t n).1 ∧ Part t (dropT t n).1 := by
  rw [dropT]
  by_cases hf : t.fresh n = true
  · rw [if_pos hf]
    have i := (h.off n).back (n := n) (h.out hf).live (fun x hx e => by
      rw [e] at hx
      have hx' : fup t.fresh n false n = true := hx
      rw [fup_at] at hx'; cases hx')
    by_cases h1 : (backT t n).2 = 0
    · rw [if_pos h1]
      rw [back_fr] at i
      exact ⟨i.1, (frT_part t n false).trans i.2.1⟩
    · rw [if_neg h1]
      have e : (backT t n).1 = t := by
        rw [backT] at h1 ⊢
        by_cases h2 : (backP t.pool n).2 = 0
        · rw [if_pos h2] at h1; exact absurd rfl h1
        · rw [if_neg h2]
      rw [e]
      exact ⟨h, Part.refl t⟩
  · rw [if_neg hf]
    have i := h.give n
    exact ⟨i.1, i.2.1⟩
/-- The last commit's lists are dropped. -/
def dropAll (t : T) (l : List Int) : T := l.foldl (fun t n => (dropT t n).1) t
theorem dropAll_snoc (t : T) (l : List Int) (k : Nat) (h : k < l.length) : dropAll t (l.take (k + 1)) = (dropT (dropAll t (l.take k)) l[k]).1 := by
  rw [List.take_succ_eq_append_getElem h, dropAll, List.foldl_append]; rfl
theorem Inv.drops : ∀ (l : List Int) {t : T}, Inv t → Inv (dropAll t l) ∧ Part t (dropAll t l)
  | [], t, h => ⟨h, Part.refl t⟩
  | n :: l, t, h => by
    have h1 := h.drop n
    have h2 := Inv.drops l h1.1
    exact ⟨h2.1, h1.2.trans h2.2⟩
/-- Pages that are taken for lists. -/
structure Own (t : T) (own : List Int) : Prop where
  out : ∀ x ∈ own, Out t x ∧ x ∉ t.pool.limbo
  nodup : own.Nodup
theorem Inv.takes {N : Int} {t t' : T} {own own' : List Int} {x : Int} (k : Takes N t own t' own' x) : Inv t → PoolOk t.pool N → Own t own → Inv t' ∧ Part t t' ∧ PoolOk t'.pool N ∧ Own t' own' ∧ (x = 0 → many t'.pool ≤ own'.length) := by
  induction k with
  | done h => exact fun hi hk ho => ⟨hi, Part.refl _, hk, ho, fun _ => h⟩
  | fail h hx =>
    exact fun hi hk ho => by
      obtain ⟨i1, p1, _, g1, l1, s1, _⟩ := hi.take hk
      exact ⟨i1, p1, takeT_ok hk, ⟨fun x hx => ⟨⟨(ho.out x hx).1.low, Int.lt_of_lt_of_le (ho.out x hx).1.top g1, fun hf => (ho.out x hx).1.free (s1 x hf), by rw [p1.base]; exact (ho.out x hx).1.live⟩, by rw [l1]; exact (ho.out x hx).2⟩, ho.nodup⟩, fun e => absurd e hx⟩
  | step h hx _ ih =>
    exact fun hi hk ho => by
      obtain ⟨i1, p1, _, g1, l1, s1, o1⟩ := hi.take hk
      obtain ⟨o1, b1, c1, d1⟩ := o1 hx
      obtain ⟨j1, j2, j3, j4, j5⟩ := ih i1 (takeT_ok hk) ⟨fun x hx => by
        rcases List.mem_append.1 hx with hx | hx
        · exact ⟨⟨(ho.out x hx).1.low, Int.lt_of_lt_of_le (ho.out x hx).1.top g1, fun hf => (ho.out x hx).1.free (s1 x hf), by rw [p1.base]; exact (ho.out x hx).1.live⟩, by rw [l1]; exact (ho.out x hx).2⟩
        · rw [List.mem_singleton] at hx
          rw [hx]
          exact ⟨o1, by rw [l1]; exact b1⟩, List.nodup_append.2 ⟨ho.nodup, (by simp), fun x hx y hy => by
        rw [List.mem_singleton] at hy
        rw [hy]
        intro e
        rw [e] at hx
        have g := (ho.out _ hx).1
        rcases d1 with q | q
        · exact g.free q
        · have := g.top
          omega⟩⟩
      exact ⟨j1, p1.trans j2, j3, j4, j5⟩
end Go.Proofs.YtboaamaneeodfaaGreat.Store
namespace Go.Proofs.YtboaamaneeodfaaGreat.Store
open Go.RowKit Gen
open Disk (St Dev Mod ptr)
open Page (Pg Lay PgOk PgRows pgC pgV Enc IsDec BytesAt)
open Pool (Po NAt PoAt La poC poV numV At takeP giveP backP Fresh PoolOk OwnI chunks layAll)

/-- The superblock that a commit begins with. -/
def superP (t : T) (root depth count : Int) : Pg := { kind := 4, epoch := (t.sup.epoch + 1) % 18446744073709551616, root := root, depth := depth, count := count, high := t.pool.high }
/-- How far a commit has come. -/
inductive Reach (d0 : St) (t1 : T) (sp : Pg) : Nat → St → T → Pg → List Int → Prop
  | start : Reach d0 t1 sp 0 d0 t1 sp []
  | take {t own} : Takes d0.n t1 [] t own 0 → Reach d0 t1 sp 1 d0 t sp own
  | list {d t own d'} : Reach d0 t1 sp 1 d t sp own → Writes own (chunks (layAll t.pool.free t.pool.limbo)) d 0 d' 0 → Reach d0 t1 sp 2 d' t sp own
  | sync {d t own} : Reach d0 t1 sp 2 d t sp own → d.syncE = 0 → Reach d0 t1 sp 3 d.sync t sp own
  | lead {d t own d'} : Reach d0 t1 sp 3 d t sp own → WriteR d ((sp.epoch % 2 : Nat) : Int) (leadP sp t own) d' 0 → Reach d0 t1 sp 4 d' t (leadP sp t own) own
  | last {d t p own} : Reach d0 t1 sp 4 d t p own → d.syncE = 0 → Reach d0 t1 sp 5 d.sync t p own
/-- Where it is refused. -/
inductive Halts (d0 : St) (t1 : T) (sp : Pg) : St → T → Int → Prop
  | take {t own x} : Takes d0.n t1 [] t own x → x ≠ 0 → Halts d0 t1 sp d0 t x
  | list {d t own d' x} : Reach d0 t1 sp 1 d t sp own → Writes own (chunks (layAll t.pool.free t.pool.limbo)) d 0 d' x → x ≠ 0 → Halts d0 t1 sp d' t x
  | sync {d t own} : Reach d0 t1 sp 2 d t sp own → d.syncE ≠ 0 → Halts d0 t1 sp d.sync t d.syncE
  | lead {d t own d' x} : Reach d0 t1 sp 3 d t sp own → WriteR d ((sp.epoch % 2 : Nat) : Int) (leadP sp t own) d' x → x ≠ 0 → Halts d0 t1 sp d' t x
  | last {d t p own} : Reach d0 t1 sp 4 d t p own → d.syncE ≠ 0 → Halts d0 t1 sp d.sync t d.syncE
def turnP (p : Po) : Po := { high := p.high, free := layAll p.free p.limbo }
def newT (t : T) (p : Pg) (own : List Int) : T := { sup := p, own := own, base := turnP t.pool, pool := turnP t.pool, fresh := fun _ => false }
/-- What a commit does, and tells. -/
def CommitR (d : St) (t : T) (root depth count : Int) (d' : St) (t' : T) (x : Int) : Prop :=
  (¬ Page.Fine (superP t root depth count) ∧ d' = d ∧ t' = t ∧ x = 50) ∨
  (Page.Fine (superP t root depth count) ∧ ((∃ t2, x ≠ 0 ∧ Halts d (dropAll t t.own) (superP t root depth count) d' t2 x ∧ t' = endT t2 x) ∨
    (x = 0 ∧ ∃ t2 p own, Reach d (dropAll t t.own) (superP t root depth count) 5 d' t2 p own ∧ t' = newT t2 p own)))
theorem sync_n (d : St) : d.sync.n = d.n := by
  unfold St.sync
  split
  · rfl
  · split
    · exact Disk.act_n d
    · exact Disk.act_n d
theorem takes_len {N : Int} {t t' : T} {own own' : List Int} {x : Int} (k : Takes N t own t' own' x) : ∀ K, own.length ≤ K → many t.pool ≤ K → own'.length ≤ K := by
  induction k with
  | done _ => exact fun K h _ => h
  | fail _ _ => exact fun K h _ => h
  | step h _ _ ih => exact fun K h1 h2 => ih K (by rw [List.length_append, List.length_singleton]; omega) (Nat.le_trans (take_many _ _) h2)
theorem takes_at {N : Int} {t t' : T} {own own' : List Int} {x : Int} (k : Takes N t own t' own' x) : PoolOk t.pool N → (∀ x ∈ own, 2 ≤ x ∧ x < N) → (∀ x ∈ own', 2 ≤ x ∧ x < N) ∧ PoolOk t'.pool N := by
  induction k with
  | done _ => exact fun hk h => ⟨h, hk⟩
  | fail _ _ => exact fun hk h => ⟨h, takeT_ok hk⟩
  | step h h0 _ ih => exact fun hk h => ih (takeT_ok hk) (fun x hx => by
      rcases List.mem_append.1 hx with hx | hx
      · exact h x hx
      · rw [List.mem_singleton] at hx
        rw [hx]
        exact takeT_at hk h0)
/-- What holds behind each step. -/
structure CoRel (w0 : World) (cb : Nat) (B : Blk) (d0 : St) (t1 : T) (sp : Pg) (y : Lay) (A : Option Addr) (fs : List (Nat × Nat)) (i : Nat) (d : St) (t : T) (a : Lys) (p : Pg) (v : Value) (own : List Int) (wr : World) : Prop where
  reach : Reach d0 t1 sp i d t p own
  dr : Dr wr cb B d t a p y v own
  row : RowG wr encF A fs
  fr : Fr B cb w0 wr
  ok : PgOk p
  bare : Bare p
  i64 : ∀ x ∈ own, I64 x
  len : own.length ≤ 100000
  zero : i = 0 → v = .slice none 0 0
def CoAt (w0 : World) (cb : Nat) (B : Blk) (d0 : St) (t1 : T) (sp : Pg) (y : Lay) (A : Option Addr) (fs : List (Nat × Nat)) (i : Nat) (wr : World) : Prop := ∃ d t a p v own, CoRel w0 cb B d0 t1 sp y A fs i d t a p v own wr
def CoEnd (w0 : World) (cb : Nat) (B : Blk) (d0 : St) (t1 : T) (sp : Pg) (x : Int) (wr : World) : Prop := ∃ d t, Halts d0 t1 sp d t x ∧ Has wr B d t ∧ Fr B cb w0 wr
def stepsOf (cb sb : Nat) : List (Nat × Nat) := [(66, cb), (67, cb), (68, sb), (69, cb), (68, sb)]
abbrev CoStep (w0 : World) (cb : Nat) (B : Blk) (d0 : St) (t1 : T) (sp : Pg) (y : Lay) (A : Option Addr) (fs : List (Nat × Nat)) (i : Nat) (_w : World) (e : Ending) (w' : World) : Prop :=
  ∃ x, e = .returned (numV x) ∧ (x = 0 → CoAt w0 cb B d0 t1 sp y A fs (i + 1) w') ∧ (x ≠ 0 → CoEnd w0 cb B d0 t1 sp x w')
theorem range64 {N : Int} {own : List Int} (h : ∀ x ∈ own, 2 ≤ x ∧ x < N) (hN : N ≤ 4096) : ∀ x ∈ own, I64 x := fun x hx => ⟨by have := h x hx; omega, by have := h x hx; omega⟩
theorem reach0 {d0 : St} {t1 : T} {sp : Pg} {d : St} {t : T} {p : Pg} {own : List Int} (h : Reach d0 t1 sp 0 d t p own) : d = d0 ∧ t = t1 ∧ p = sp ∧ own = [] := by
  cases h; exact ⟨rfl, rfl, rfl, rfl⟩
theorem reach1 {d0 : St} {t1 : T} {sp : Pg} {d : St} {t : T} {p : Pg} {own : List Int} (h : Reach d0 t1 sp 1 d t p own) : p = sp := by cases h; rfl
theorem reach2 {d0 : St} {t1 : T} {sp : Pg} {d : St} {t : T} {p : Pg} {own : List Int} (h : Reach d0 t1 sp 2 d t p own) : p = sp := by cases h; rfl
theorem reach3 {d0 : St} {t1 : T} {sp : Pg} {d : St} {t : T} {p : Pg} {own : List Int} (h : Reach d0 t1 sp 3 d t p own) : p = sp := by cases h; rfl
theorem co_take {w0 : World} {cb : Nat} {B : Blk} {d0 : St} {t1 : T} {sp : Pg} {y : Lay} {A : Option Addr} {fs : List (Nat × Nat)} (hA : Off (cb :: B.all) A) {w : World} (h : CoAt w0 cb B d0 t1 sp y A fs 0 w) :
    Calls Tryz.prog 66 #[ptr cb] w (CoStep w0 cb B d0 t1 sp y A fs 0 w) := by
  obtain ⟨d, t, a, p, v, own, h⟩ := h
  obtain ⟨rfl, rfl, rfl, rfl⟩ := reach0 h.reach
  obtain rfl := h.zero rfl
  refine (dtake_any h.dr).mono ?_
  rintro e w' ⟨d', t', own', x, rfl, ⟨rfl, ht⟩, ⟨a', v', hd⟩, hf⟩
  refine ⟨x, rfl, fun e => ?_, fun e => ⟨d', t', .take ht e, ⟨a', hd.sto⟩, h.fr.trans hf⟩⟩
  have hN : (d'.n : Int) ≤ 4096 := by have := hd.sto.dev.nle; omega
  have g := takes_at ht h.dr.sto.pk (fun x hx => by cases hx)
  subst e
  exact ⟨d', t', a', p, v', own', .take ht, hd, row_mod h.row hf hA, h.fr.trans hf, h.ok, h.bare, range64 g.1 hN,
    takes_len ht 100000 (by simp) (by have h1 := ok_len h.dr.sto.pk hN; have h2 := many_eq t.pool; omega), fun e => by cases e⟩
theorem co_list {w0 : World} {cb : Nat} {B : Blk} {d0 : St} {t1 : T} {sp : Pg} {y : Lay} {A : Option Addr} {fs : List (Nat × Nat)} (hA : Off (cb :: B.all) A) {w : World} (h : CoAt w0 cb B d0 t1 sp y A fs 1 w) :
    Calls Tryz.prog 67 #[ptr cb] w (CoStep w0 cb B d0 t1 sp y A fs 1 w) := by
  obtain ⟨d, t, a, p, v, own, h⟩ := h
  obtain rfl := reach1 h.reach
  refine (dlist_any h.dr h.len h.i64).mono ?_
  rintro e w' ⟨d', x, rfl, hw, hd, hf⟩
  refine ⟨x, rfl, fun e => ?_, fun e => ⟨d', t, .list h.reach hw e, ⟨a, hd.sto⟩, h.fr.trans hf⟩⟩
  subst e
  exact ⟨d', t, a, p, v, own, .list h.reach hw, hd, row_mod h.row hf hA, h.fr.trans hf, h.ok, h.bare, h.i64, h.len, fun e => by cases e⟩
theorem co_lead {w0 : World} {cb : Nat} {B : Blk} {d0 : St} {t1 : T} {sp : Pg} {y : Lay} {A : Option Addr} {fs : List (Nat × Nat)} (hA : Off (cb :: B.all) A) {w : World} (h : CoAt w0 cb B d0 t1 sp y A fs 3 w) :
    Calls Tryz.prog 69 #[ptr cb] w (CoStep w0 cb B d0 t1 sp y A fs 3 w) := by
  obtain ⟨d, t, a, p, v, own, h⟩ := h
  obtain rfl := reach3 h.reach
  refine (dlead_any h.dr h.ok h.bare h.i64).mono ?_
  rintro e w' ⟨d', x, rfl, hw, hd, hf⟩
  refine ⟨x, rfl, fun e => ?_, fun e => ⟨d', t, .lead h.reach hw e, ⟨a, hd.sto⟩, h.fr.trans hf⟩⟩
  subst e
  exact ⟨d', t, a, _, v, own, .lead h.reach hw, hd, row_mod h.row hf hA, h.fr.trans hf, leadP_ok h.ok (pool_i64 h.dr.sto.pk (by have := h.dr.sto.dev.nle; omega)) h.i64, ⟨h.bare.pairs, h.bare.keys, h.bare.kids, h.bare.pages⟩, h.i64, h.len, fun e => by cases e⟩
theorem sub_all (B : Blk) : ∀ x ∈ [B.sb, B.bl, B.bc], x ∈ B.all := by
  intro x hx
  simp only [Blk.all, List.mem_cons, List.not_mem_nil, or_false] at hx ⊢
  rcases hx with h | h | h <;> simp [h]
theorem co_sync {w0 : World} {cb : Nat} {B : Blk} {d0 : St} {t1 : T} {sp : Pg} {y : Lay} {A : Option Addr} {fs : List (Nat × Nat)} (hA : Off (cb :: B.all) A) {i : Nat} (hi : i = 2 ∨ i = 4) {w : World} (h : CoAt w0 cb B d0 t1 sp y A fs i w) :
    Calls Tryz.prog 68 #[ptr B.sb] w (CoStep w0 cb B d0 t1 sp y A fs i w) := by
  obtain ⟨d, t, a, p, v, own, h⟩ := h
  refine (Disk.sync_dev w B.sb B.bl B.bc d h.dr.sto.dev).mono ?_
  rintro e w' ⟨rfl, hd, hm⟩
  have m : Mod B.all w w' := hm.mono (sub_all B)
  have hf : Fr B cb w w' := Fr.of_mod m
  have s := h.dr.sto.withDev hd hm (sync_n d)
  refine ⟨d.syncE, rfl, fun e => ?_, fun e => ⟨d.sync, t, ?_, ⟨a, s⟩, h.fr.trans hf⟩⟩
  · refine ⟨d.sync, t, a, p, v, own, ?_, h.dr.step s m h.dr.cbs, row_mod h.row hf hA, h.fr.trans hf, h.ok, h.bare, h.i64, h.len, fun e => by omega⟩
    rcases hi with rfl | rfl
    · obtain rfl := reach2 h.reach
      exact .sync h.reach e
    · exact .last h.reach e
  · rcases hi with rfl | rfl
    · obtain rfl := reach2 h.reach
      exact .sync h.reach e
    · exact .last h.reach e
theorem steps_any {w0 : World} {cb : Nat} {B : Blk} {d0 : St} {t1 : T} {sp : Pg} {y : Lay} {A : Option Addr} {c : Nat} (hA : Off (cb :: B.all) A) {w : World} (h : CoAt w0 cb B d0 t1 sp y A (stepsOf cb B.sb) 0 w) :
    Calls Tryz.prog 65 #[.slice A 5 c] w (fun e w' => ∃ x, e = .returned (numV x) ∧ (x = 0 → CoAt w0 cb B d0 t1 sp y A (stepsOf cb B.sb) 5 w') ∧ (x ≠ 0 → CoEnd w0 cb B d0 t1 sp x w')) := by
  refine done_any (n := 5) (stepsOf cb B.sb) rfl (by omega) (fun i wr => CoAt w0 cb B d0 t1 sp y A (stepsOf cb B.sb) i wr) (fun x wr => CoEnd w0 cb B d0 t1 sp x wr) (fun i wr ⟨_, _, _, _, _, _, h⟩ => h.row) h ?_ ?_
  · intro x hx args w
    simp only [stepsOf, List.mem_cons, List.not_mem_nil, or_false] at hx
    rcases hx with rfl | rfl | rfl | rfl | rfl
    · exact enters_of Tryz.func66 (by kernel_rfl) rfl args w
    · exact enters_of Tryz.func67 (by kernel_rfl) rfl args w
    · exact enters_of Tryz.func68 (by kernel_rfl) rfl args w
    · exact enters_of Tryz.func69 (by kernel_rfl) rfl args w
    · exact enters_of Tryz.func68 (by kernel_rfl) rfl args w
  · intro i hi wr h
    match i, hi, h with
    | 0, _, h => exact co_take hA h
    | 1, _, h => exact co_list hA h
    | 2, _, h => exact co_sync hA (.inl rfl) h
    | 3, _, h => exact co_lead hA h
    | 4, _, h => exact co_sync hA (.inr rfl) h
    | n + 5, hi, _ => exact absurd hi (by simp [stepsOf])
end Go.Proofs.YtboaamaneeodfaaGreat.Store
namespace Go.Proofs.YtboaamaneeodfaaGreat.Store
open Go.RowKit Gen
open Disk (St Dev Mod ptr)
open Page (Pg Lay PgOk PgRows pgC pgV Enc IsDec BytesAt)
open Pool (Po NAt PoAt La poC poV numV At takeP giveP backP Fresh PoolOk OwnI chunks layAll)

theorem mod_drop {S : List Nat} {cb : Nat} {w w' : World} (h : Mod (cb :: S) w w') (hc : w.heap.size ≤ cb) : Mod S w w' :=
  ⟨h.os, h.tape, h.output, h.size, fun k hk hn => h.block k hk (fun e => by
    rcases List.mem_cons.1 e with rfl | e
    · omega
    · exact hn e)⟩
theorem superP_ok (t : T) {root depth count : Int} (hr : I64 root) (hd : I64 depth) (hc : I64 count) (hh : I64 t.pool.high) : PgOk (superP t root depth count) :=
  ⟨⟨by show (_ : Int) ≤ 4; omega, by show (4 : Int) ≤ _; omega⟩, Nat.zero_le _, Nat.zero_le _, Nat.zero_le _, Nat.zero_le _, ⟨by show (_ : Int) ≤ 0; omega, by show (0 : Int) ≤ _; omega⟩, Nat.mod_lt _ (by decide), hr, hd, hc, hh⟩
theorem superP_bare (t : T) (root depth count : Int) : Bare (superP t root depth count) := ⟨rfl, rfl, rfl, rfl⟩
theorem row5 (W4 : World) (cb sb : Nat) : RowG (W4.alloc (.cells #[encF (66, cb), encF (67, cb), encF (68, sb), encF (69, cb), encF (68, sb)] 40)).drew encF (some ⟨W4.heap.size, 0, none⟩) (stepsOf cb sb) := fun _ => ⟨W4.heap.size, 0, rfl, by simp, fun k hk => by
  have h := at_new W4 #[encF (66, cb), encF (67, cb), encF (68, sb), encF (69, cb), encF (68, sb)] 40
  have hk' : k < 5 := hk
  rw [Nat.zero_add]
  match k, hk' with
  | 0, _ => exact h.2.2 0 _ rfl
  | 1, _ => exact h.2.2 1 _ rfl
  | 2, _ => exact h.2.2 2 _ rfl
  | 3, _ => exact h.2.2 3 _ rfl
  | 4, _ => exact h.2.2 4 _ rfl⟩
theorem three {w : World} {B : Blk} {d : St} {t : T} {a : Lys} (h : Sto w B d t a) : w.cell? ⟨B.ss, 16, none⟩ = some (.int .i64 t.pool.high) ∧ w.cell? ⟨B.ss, 17, none⟩ = some (.slice a.p.A1 t.pool.free.length a.p.c1) ∧ w.cell? ⟨B.ss, 18, none⟩ = some (.slice a.p.A2 t.pool.limbo.length a.p.c2) := ⟨h.cells.2.1, h.cells.2.2.1, h.cells.2.2.2.1⟩
/-- How far the last commit's lists have been dropped. -/
structure DropRel (B : Blk) (d : St) (t : T) (sp : Pg) (g : Nat) (w2 : World) (a : Lys) (k : Nat) (wr : World) : Prop where
  sto : Has wr B d (dropAll t (t.own.take k))
  mod : Mod B.all w2 wr
  box : At wr g (pgC sp {})
  row : NAt wr a.o t.own.length a.oc t.own
theorem DropRel.more {B : Blk} {d : St} {t : T} {sp : Pg} {g : Nat} {w2 : World} {a : Lys} {k : Nat} {wr w' : World} (h : DropRel B d t sp g w2 a k wr) (hk : k < t.own.length) (hg : g ∉ B.all) (h1 : Has w' B d (dropT (dropAll t (t.own.take k)) t.own[k]).1) (h2 : Mod B.all wr w') (ho : t.own ≠ [] → Off B.off a.o) : DropRel B d t sp g w2 a (k + 1) w' :=
  ⟨by rw [dropAll_snoc t t.own k hk]; exact h1, h.mod.trans h2, at_mod h.box h2 hg, nat_mod' h.row h2 (fun e => (ho e).mono B.in_off)⟩
set_option maxRecDepth 100000 in
set_option maxHeartbeats 8000000 in
theorem commit_any {w : World} {B : Blk} {d : St} {t : T} {a : Lys} (h : Sto w B d t a) (root depth count : Int) (hr : I64 root) (hd : I64 depth) (hc : I64 count) (hn : t.own.length ≤ 100000) (ho : ∀ x ∈ t.own, I64 x) :
    Calls Tryz.prog 40 #[ptr B.ss, .int .i64 root, .int .i64 depth, .int .i64 count] w (Doing B (CommitR d t root depth count) w) := by
  have H := Lib.hid h
  obtain ⟨ep, hep⟩ : ∃ ep, (t.sup.epoch + 1) % 18446744073709551616 = ep := ⟨_, rfl⟩
  obtain ⟨sp, hsp⟩ : ∃ sp, superP t root depth count = sp := ⟨_, rfl⟩
  have HSP := Lib.hid (show PgOk sp ∧ Bare sp from by rw [← hsp]; exact ⟨superP_ok t hr hd hc (pool_i64 h.pk (by have := h.dev.nle; omega)), superP_bare _ _ _ _⟩)
  have ESP := Lib.hid hsp
  have hs2 : sp = { kind := 4, epoch := ep, root := root, depth := depth, count := count, high := t.pool.high } := by rw [← hsp, superP, hep]
  have HN := Lib.hid hn
  have HO := Lib.hid ho
  have HKS := Lib.hid (show ∀ w', Below w.heap.size w w' → w'.cell? ⟨B.ss, 7, none⟩ = some (.int .u64 (t.sup.epoch : Int)) ∧ w'.cell? ⟨B.ss, 16, none⟩ = some (.int .i64 t.pool.high) from fun w' hb => ⟨(h.below hb).super.2.2.2.2.2.2.1, (h.below hb).cells.2.1⟩)
  have hwe : IntKind.u64.wrap ((t.sup.epoch : Int) + 1) = (ep : Int) := by
    rw [← hep]
    show ((t.sup.epoch : Int) + 1) % 18446744073709551616 = _
    omega
  have AB : At (w.alloc (.cells #[.int .i64 4, .slice none 0 0, .slice none 0 0, .slice none 0 0, .slice none 0 0, .int .i64 0, .int .u64 (ep : Int), .int .i64 root, .int .i64 depth, .int .i64 count, .int .i64 t.pool.high] 82)).drew w.heap.size (pgC sp {}) := by
    rw [hs2]
    exact at_new w #[.int .i64 4, .slice none 0 0, .slice none 0 0, .slice none 0 0, .slice none 0 0, .int .i64 0, .int .u64 (ep : Int), .int .i64 root, .int .i64 depth, .int .i64 count, .int .i64 t.pool.high] 82
  have BB : Below w.heap.size w (w.alloc (.cells #[.int .i64 4, .slice none 0 0, .slice none 0 0, .slice none 0 0, .slice none 0 0, .int .i64 0, .int .u64 (ep : Int), .int .i64 root, .int .i64 depth, .int .i64 count, .int .i64 t.pool.high] 82)).drew := (Pool.below_box w _).drew
  clear h hr hd hc hn ho hep hsp hs2
  go_enter Tryz.func40, Tryz.ntmps40
  go_wp2_with fail
  go_region_held3 (fun w' => w'.cell? ⟨B.ss, 7, none⟩ = some (.int .u64 (t.sup.epoch : Int)) ∧ w'.cell? ⟨B.ss, 16, none⟩ = some (.int .i64 t.pool.high))
    (with_reducible (first | exact HKS.out _ (Below.refl _ _).drew | exact HKS.out _ ((Below.refl _ _).alloc (Nat.le_refl _) _).drew | exact HKS.out _ ((Below.refl _ _).alloc (Nat.le_refl _) _) | exact HKS.out _ ((Below.refl _ _).drew.alloc (Nat.le_refl _) _)))
    (first | fail)
  obtain ⟨W1, hW1⟩ : ∃ W1, (w.alloc (.cells #[.int .i64 4, .slice none 0 0, .slice none 0 0, .slice none 0 0, .slice none 0 0, .int .i64 0, .int .u64 (ep : Int), .int .i64 root, .int .i64 depth, .int .i64 count, .int .i64 t.pool.high] 82)).drew = W1 := ⟨_, rfl⟩
  rw [hW1] at AB BB ⊢
  have ABH := Lib.hid AB
  have B1 := Lib.hid BB
  have LP := Lib.hid (load_page (o := 0) AB sp {} rfl)
  have cC := Page.check_any sp {} W1 HSP.out.1 (HSP.out.2.rows _ _)
  clear hW1 AB BB hwe HKS

  generalize hpv : pgV sp {} = pv at *
  go_wp2_with (first | ((with_reducible refine Disk.wpList_load_eq rfl 82 (.tmp 9) rfl _ ?_ LP.out ?_); (next => rfl)))
  refine cC.mono ?_
  rintro e w2 ⟨x, rfl, hx, b2⟩
  have S2 := Lib.hid (H.out.below (B1.out.trans (b2.mono B1.out.size)))
  have M2 := Lib.hid (mod_below (B := B) (B1.out.trans (b2.mono B1.out.size)))
  rcases hx with ⟨rfl, hF⟩ | ⟨rfl, hF⟩
  · subst hpv
    have HF := Lib.hid hF
    have hlo : ∀ x ∈ B.all, x < w.heap.size := H.out.lt
    have hg : w.heap.size ∉ B.all := fun e => Nat.lt_irrefl _ (hlo _ e)
    have HLO := Lib.hid hlo
    have c12 := S2.out.commit.1
    have ST := Lib.hid (show DropRel B d t sp w.heap.size w2 a 0 w2 from ⟨⟨a, S2.out⟩, Mod.refl _ _, ABH.out.below b2 ABH.out.1, S2.out.own⟩)
    obtain ⟨m, hm⟩ : ∃ m, t.own.length = m := ⟨_, rfl⟩
    rw [hm] at c12
    have HM := Lib.hid hm
    have HNG := Lib.hid hg
    clear hF cC b2 LP ABH hlo hg hm
    go_wp2_with fail
    go_loopw [44] (fun i wr => ∃ k : Nat, i = .int .i64 (k : Int) ∧ k ≤ m ∧ Hid (DropRel B d t sp w.heap.size w2 a k wr)) (fun i _ => m - (intOf i).toNat)
    case atStart => exact ⟨0, rfl, Nat.zero_le _, ST⟩
    case round =>
      obtain ⟨k, rfl, hk, R⟩ := hrel
      clear ST c12
      by_cases hlt : k < m
      · have hkl : k < t.own.length := by have := HM.out; omega
        obtain ⟨b, off, e1, hbl, hc⟩ := R.out.row.row (by intro e; rw [e] at hkl; simp at hkl)
        have hcell := hc k hkl
        obtain ⟨a1, s1⟩ := R.out.sto
        have cD := drop_any s1 t.own[k] (HO.out _ (List.getElem_mem hkl))
        have hwr : IntKind.i64.wrap ((k : Int) + 1) = (k : Int) + 1 := IntWalk.i64_in _ (by have := HN.out; omega)
        have HR := Lib.hid (show ∀ w', Has w' B d (dropT (dropAll t (t.own.take k)) t.own[k]).1 → Mod B.all wr w' → DropRel B d t sp w.heap.size w2 a (k + 1) w' from fun w' h1 h2 => R.out.more hkl HNG.out h1 h2 S2.out.ao)
        generalize t.own[k] = y at *
        generalize a.o = AO at *
        obtain rfl := e1
        clear hc s1
        go_wp2_with fail
        refine cD.mono ?_
        rintro e w3 ⟨rfl, h3, m3⟩
        have NEW := Lib.hid (HR.out _ h3 m3)
        clear h3 m3 cD HR
        go_wp2_with fail
        go_roundw
        case rel => exact ⟨k + 1, by go_num, by omega, NEW⟩
        case measure => simp [intOf]; omega
      · obtain ⟨a1, s1⟩ := R.out.sto
        have hkm : t.own.take k = t.own := List.take_of_length_le (by have := HM.out; omega)
        rw [hkm] at s1
        have S3 := Lib.hid s1
        have HKM := Lib.hid hkm
        have cb0 : wr.heap.size ∉ B.all := fun e => Nat.lt_irrefl _ (s1.lt _ e)
        have LP := Lib.hid (load_page (o := 0) R.out.box sp {} rfl)
        obtain ⟨cb, hcb⟩ : ∃ cb, wr.heap.size = cb := ⟨_, rfl⟩
        have b4 := Pool.below_box wr (.cells (draC B sp {} (.slice none 0 0)) 125)
        have A4 := at_new wr (draC B sp {} (.slice none 0 0)) 125
        obtain ⟨W4, hW4⟩ : ∃ W4, wr.alloc (.cells (draC B sp {} (.slice none 0 0)) 125) = W4 := ⟨_, rfl⟩
        rw [hW4, hcb] at A4
        rw [hW4] at b4
        have b5 := b4.trans ((Pool.below_box W4 (.cells #[encF (66, cb), encF (67, cb), encF (68, B.sb), encF (69, cb), encF (68, B.sb)] 40)).drew.mono b4.size)
        have r5 := row5 W4 cb B.sb
        have A5 := A4.below ((Pool.below_box W4 (.cells #[encF (66, cb), encF (67, cb), encF (68, B.sb), encF (69, cb), encF (68, B.sb)] 40)).drew) A4.1
        obtain ⟨W5, hW5⟩ : ∃ W5, (W4.alloc (.cells #[encF (66, cb), encF (67, cb), encF (68, B.sb), encF (69, cb), encF (68, B.sb)] 40)).drew = W5 := ⟨_, rfl⟩
        rw [hW5] at b5 r5 A5
        have h4s : cb < W4.heap.size := A4.1
        have hA : Off (cb :: B.all) (some ⟨W4.heap.size, 0, none⟩) := fun x e hx => by
          cases e
          rcases List.mem_cons.1 hx with e | e
          · simp only at e; omega
          · have := s1.lt _ e; have := b4.size; simp only at *; omega
        have co : CoAt wr cb B d (dropAll t t.own) sp {} (some ⟨W4.heap.size, 0, none⟩) (stepsOf cb B.sb) 0 W5 := ⟨d, dropAll t t.own, a1, sp, .slice none 0 0, [], {
          reach := .start
          dr := ⟨s1.below b5, A5, fun x hx => by rw [← hcb]; exact s1.lt x hx, fun x hx => by rw [← hcb]; exact s1.xl x hx, OwnG.nil _ _ _ _, SepB.new s1 (Nat.le_of_eq hcb)⟩
          row := r5, fr := Fr.of_mod (mod_below b5), ok := HSP.out.1, bare := HSP.out.2, i64 := fun x hx => (by cases hx), len := by simp, zero := fun _ => rfl }⟩
        have cS := steps_any (c := 5) hA co
        have KD := Lib.hid (show ∀ w', Below W4.heap.size W4 w' → w'.cell? ⟨B.ss, 0, none⟩ = some (ptr B.sb) from fun w' hb => (s1.below (b4.trans (hb.mono b4.size))).cells.1)
        have K4 := Lib.hid (KD.out W4.drew (Below.refl _ _).drew)
        have K5 := Lib.hid (show W5.cell? ⟨B.ss, 0, none⟩ = some (ptr B.sb) from (s1.below b5).cells.1)
        have MW := Lib.hid (M2.out.trans R.out.mod)
        have hcbw : wr.heap.size ≤ cb := Nat.le_of_eq hcb
        clear b4 A4 r5 A5 hA co s1 R hk hkm b5
        rw [← hW5] at cS K5
        have hmf : ∀ (fn : Fn) (first cap : Array Value) (w : World), (Instr.makeFunc fn first cap).run Tryz.prog w = .ok (.func fn first cap) w := fun _ _ _ _ => rfl
        go_wp2_with (first | ((with_reducible refine Disk.wpList_load_eq rfl 82 (.tmp 9) rfl _ ?_ LP.out ?_); (next => rfl)))
        have K5' := K5
        clear K5 hW5 hW4 LP hlt
        refine wp_region_held (S := fun w' => w'.cell? ⟨B.ss, 0, none⟩ = some (ptr B.sb)) (by kernel_rfl) ?_
        change wpAnyH _ _ _ _ _ _ _ _ W4.drew
        have hSR := K4.out
        refine wpAnyH_take (i := 0) (v := ?_) rfl (by kernel_rfl) (by kernel_rfl) (by kernel_rfl) (fun _ _ _ h => h) (Or.inl ⟨by rfl, ?_⟩) hSR ?_
        rotate_left
        · (intro w' hSw; (try dsimp only at hSw); go_simp; (try with_reducible rfl))
        simp only [Act.put]
        refine wpAnyH_take (i := 1) (v := ?_) rfl (by kernel_rfl) (by kernel_rfl) (by kernel_rfl) (fun _ _ _ h => h) (Or.inl ⟨by rfl, ?_⟩) hSR ?_
        rotate_left
        · (intro w' hSw; (try dsimp only at hSw); go_simp; (try with_reducible rfl))
        simp only [Act.put]
        refine wpAnyH_take (i := 2) (v := ?_) rfl (by kernel_rfl) (by kernel_rfl) (by kernel_rfl) (fun _ _ _ h => h) (Or.inl ⟨by rfl, ?_⟩) hSR ?_
        rotate_left
        · (intro w' hSw; (try dsimp only at hSw); go_simp; (try with_reducible rfl))
        simp only [Act.put]
        refine wpAnyH_take (i := 3) (v := ?_) rfl (by kernel_rfl) (by kernel_rfl) (by kernel_rfl) (fun _ _ _ h => h) (Or.inl ⟨by rfl, ?_⟩) hSR ?_
        rotate_left
        · (intro w' hSw; (try dsimp only at hSw); go_simp; (try with_reducible rfl))
        simp only [Act.put]
        refine wpAnyH_take (i := 4) (v := ?_) rfl (by kernel_rfl) (by kernel_rfl) (by kernel_rfl) (fun _ _ _ h => h) (Or.inl ⟨by rfl, ?_⟩) hSR ?_
        rotate_left
        · (intro w' hSw; (try dsimp only at hSw); go_simp; (try with_reducible rfl))
        simp only [Act.put]
        refine wpAnyH_take (i := 5) (v := ?_) rfl (by kernel_rfl) (by kernel_rfl) (by kernel_rfl) (fun _ _ _ h => h) (Or.inl ⟨by rfl, ?_⟩) hSR ?_
        rotate_left
        · (intro w' hSw; (try dsimp only at hSw); go_simp; (try with_reducible rfl))
        simp only [Act.put]
        refine wpAnyH_take (i := 6) (v := ?_) rfl (by kernel_rfl) (by kernel_rfl) (by kernel_rfl) (fun _ _ _ h => h) (Or.inl ⟨by rfl, ?_⟩) hSR ?_
        rotate_left
        · (intro w' hSw; (try dsimp only at hSw); go_simp; (try with_reducible rfl))
        simp only [Act.put]
        refine wpAnyH_take (i := 7) (v := ?_) rfl (by kernel_rfl) (by kernel_rfl) (by kernel_rfl) (fun _ _ _ h => h) (Or.inl ⟨by rfl, ?_⟩) hSR ?_
        rotate_left
        · (intro w' hSw; (try dsimp only at hSw); go_simp; (try with_reducible rfl))
        simp only [Act.put]
        refine wpAnyH_take (i := 8) (v := ?_) rfl (by kernel_rfl) (by kernel_rfl) (by kernel_rfl) (fun _ _ _ h => h) (Or.inl ⟨by rfl, ?_⟩) hSR ?_
        rotate_left
        · (intro w' hSw; (try dsimp only at hSw); go_simp; (try with_reducible rfl))
        simp only [Act.put]
        refine wpAnyH_take (i := 9) (v := ?_) rfl (by kernel_rfl) (by kernel_rfl) (by kernel_rfl) (fun _ _ _ h => h) (Or.inl ⟨by rfl, ?_⟩) hSR ?_
        rotate_left
        · (intro w' hSw; (try dsimp only at hSw); go_simp; (try with_reducible rfl))
        simp only [Act.put]
        refine wpAnyH_take (i := 10) (v := ?_) rfl (by kernel_rfl) (by kernel_rfl) (by kernel_rfl) (fun _ _ _ h => h) (Or.inl ⟨by rfl, ?_⟩) hSR ?_
        rotate_left
        · (intro w' hSw; (try dsimp only at hSw); go_simp; (try with_reducible rfl))
        simp only [Act.put]
        refine wpAnyH_take (i := 11) (v := ?_) rfl (by kernel_rfl) (by kernel_rfl) (by kernel_rfl) (fun _ _ _ h => h) (Or.inl ⟨by rfl, ?_⟩) hSR ?_
        rotate_left
        · (intro w' hSw; (try dsimp only at hSw); go_simp; (try with_reducible rfl))
        simp only [Act.put]
        refine wpAnyH_take (i := 12) (v := ?_) rfl (by kernel_rfl) (by kernel_rfl) (by kernel_rfl) (fun _ _ _ h => h) (Or.inl ⟨by rfl, ?_⟩) hSR ?_
        rotate_left
        · (intro w' hSw; (try dsimp only at hSw); go_simp; (try with_reducible rfl))
        simp only [Act.put]
        refine wpAnyH_take (i := 13) (v := ?_) rfl (by kernel_rfl) (by kernel_rfl) (by kernel_rfl) (fun _ _ _ h => h) (Or.inl ⟨by rfl, ?_⟩) hSR ?_
        rotate_left
        · (intro w' hSw; (try dsimp only at hSw); go_simp; (try with_reducible rfl))
        simp only [Act.put]
        refine wpAnyH_take (i := 14) (v := ?_) rfl (by kernel_rfl) (by kernel_rfl) (by kernel_rfl) (fun _ _ _ h => h) (Or.inl ⟨by rfl, ?_⟩) hSR ?_
        rotate_left
        · (intro w' hSw; (try dsimp only at hSw); go_simp; (try with_reducible rfl))
        simp only [Act.put]
        refine wpAnyH_take (i := 15) (v := ?_) rfl (by kernel_rfl) (by kernel_rfl) (by kernel_rfl) (fun _ _ _ h => h) (Or.inl ⟨by rfl, ?_⟩) hSR ?_
        rotate_left
        · (intro w' hSw; (try dsimp only at hSw); go_simp; (try with_reducible rfl))
        simp only [Act.put]
        refine wpAnyH_ready (rs := [16]) (by kernel_rfl) (by simp) (AllReadyH.cons rfl (fun K hK => ?_) AllReadyH.nil)
        go_simp
        refine hK.out _ _ K5'.out (fun hSR => ?_)
        clear hK K
        refine wpAnyH_ready (rs := [17]) (by kernel_rfl) (by simp) (AllReadyH.cons rfl (fun K hK => ?_) AllReadyH.nil)
        go_simp
        refine cS.mono ?_
        rintro e w6 ⟨x, rfl, hz, hnz⟩
        have HZ := Lib.hid hz
        have HNZ := Lib.hid hnz
        have K6 := Lib.hid (show w6.cell? ⟨B.ss, 0, none⟩ = some (ptr B.sb) from by
          by_cases e : x = 0
          · obtain ⟨_, _, _, _, _, _, g⟩ := HZ.out e
            exact g.dr.sto.cells.1
          · obtain ⟨_, _, _, ⟨_, g⟩, _⟩ := HNZ.out e
            exact g.cells.1)
        clear hz hnz
        refine hK.out _ _ K6.out (fun hSR => ?_)
        clear hK K
        refine wpAnyH_take (i := 18) (v := ?_) rfl (by kernel_rfl) (by kernel_rfl) (by kernel_rfl) (fun _ _ _ h => h) (Or.inl ⟨by rfl, ?_⟩) hSR ?_
        rotate_left
        · (intro w' hSw; (try dsimp only at hSw); go_simp; (try with_reducible rfl))
        simp only [Act.put]
        refine wpAnyH_done (by kernel_rfl) ?_ _
        clear hSR
        by_cases h0 : x = 0
        · have d1 : (x != 0) = false := by simp [h0]
          obtain ⟨d', t2, a2, p2, v2, own2, g⟩ := HZ.out h0
          obtain ⟨A2, c2, rfl, hN2⟩ := own_shape g.dr.own
          have KS := Lib.hid (show ∀ w', At w' cb (draC B p2 {} (.slice A2 own2.length c2)) → (w'.cell? ⟨B.ss, 16, none⟩ = some (.int .i64 t2.pool.high) ∧ w'.cell? ⟨B.ss, 17, none⟩ = some (.slice a2.p.A1 t2.pool.free.length a2.p.c1) ∧ w'.cell? ⟨B.ss, 18, none⟩ = some (.slice a2.p.A2 t2.pool.limbo.length a2.p.c2)) → w'.cell? ⟨cb, 1, none⟩ = some (.int .i64 p2.kind) ∧ w'.cell? ⟨cb, 2, none⟩ = some (.slice none p2.pairs.length 0) ∧ w'.cell? ⟨cb, 3, none⟩ = some (.slice none p2.keys.length 0) ∧ w'.cell? ⟨cb, 4, none⟩ = some (.slice none p2.kids.length 0) ∧ w'.cell? ⟨cb, 5, none⟩ = some (.slice none p2.pages.length 0) ∧ w'.cell? ⟨cb, 6, none⟩ = some (.int .i64 p2.next) ∧ w'.cell? ⟨cb, 7, none⟩ = some (.int .u64 (p2.epoch : Int)) ∧ w'.cell? ⟨cb, 8, none⟩ = some (.int .i64 p2.root) ∧ w'.cell? ⟨cb, 9, none⟩ = some (.int .i64 p2.depth) ∧ w'.cell? ⟨cb, 10, none⟩ = some (.int .i64 p2.count) ∧ w'.cell? ⟨cb, 11, none⟩ = some (.int .i64 p2.high) ∧ w'.cell? ⟨cb, 12, none⟩ = some (.slice A2 own2.length c2) ∧ w'.cell? ⟨B.ss, 16, none⟩ = some (.int .i64 t2.pool.high) ∧ w'.cell? ⟨B.ss, 17, none⟩ = some (.slice a2.p.A1 t2.pool.free.length a2.p.c1) ∧ w'.cell? ⟨B.ss, 18, none⟩ = some (.slice a2.p.A2 t2.pool.limbo.length a2.p.c2) from fun w' h1 h2 => ⟨h1.2.2 1 _ rfl, h1.2.2 2 _ rfl, h1.2.2 3 _ rfl, h1.2.2 4 _ rfl, h1.2.2 5 _ rfl, h1.2.2 6 _ rfl, h1.2.2 7 _ rfl, h1.2.2 8 _ rfl, h1.2.2 9 _ rfl, h1.2.2 10 _ rfl, h1.2.2 11 _ rfl, h1.2.2 12 _ rfl, h2.1, h2.2.1, h2.2.2⟩)
          have K7 := Lib.hid (KS.out w6.drew (g.dr.box.below (Below.refl _ _).drew g.dr.box.1) (three (g.dr.sto.below (Below.refl _ _).drew)))
          have cT := Pool.turn_full t2.pool a2.p w6.drew (g.dr.sto.below (Below.refl _ _).drew).pool g.dr.sto.few.1 g.dr.sto.few.2
          unfold poV poC at cT
          have G := Lib.hid g
          have HN2 := Lib.hid hN2
          have EQ := Lib.hid (show numV 0 = numV x from by rw [h0])
          clear h0 g hN2 K6 K5' K4 KD cS HZ HNZ
          go_wp2_with fail
          refine wp_region_held (S := fun w' => w'.cell? ⟨cb, 1, none⟩ = some (.int .i64 p2.kind) ∧ w'.cell? ⟨cb, 2, none⟩ = some (.slice none p2.pairs.length 0) ∧ w'.cell? ⟨cb, 3, none⟩ = some (.slice none p2.keys.length 0) ∧ w'.cell? ⟨cb, 4, none⟩ = some (.slice none p2.kids.length 0) ∧ w'.cell? ⟨cb, 5, none⟩ = some (.slice none p2.pages.length 0) ∧ w'.cell? ⟨cb, 6, none⟩ = some (.int .i64 p2.next) ∧ w'.cell? ⟨cb, 7, none⟩ = some (.int .u64 (p2.epoch : Int)) ∧ w'.cell? ⟨cb, 8, none⟩ = some (.int .i64 p2.root) ∧ w'.cell? ⟨cb, 9, none⟩ = some (.int .i64 p2.depth) ∧ w'.cell? ⟨cb, 10, none⟩ = some (.int .i64 p2.count) ∧ w'.cell? ⟨cb, 11, none⟩ = some (.int .i64 p2.high) ∧ w'.cell? ⟨cb, 12, none⟩ = some (.slice A2 own2.length c2) ∧ w'.cell? ⟨B.ss, 16, none⟩ = some (.int .i64 t2.pool.high) ∧ w'.cell? ⟨B.ss, 17, none⟩ = some (.slice a2.p.A1 t2.pool.free.length a2.p.c1) ∧ w'.cell? ⟨B.ss, 18, none⟩ = some (.slice a2.p.A2 t2.pool.limbo.length a2.p.c2)) (by kernel_rfl) ?_
          change wpAnyH _ _ _ _ _ _ _ _ w6.drew
          have hSR := K7.out
          refine wpAnyH_take (i := 0) (v := ?_) rfl (by kernel_rfl) (by kernel_rfl) (by kernel_rfl) (fun _ _ _ h => h) (Or.inl ⟨by rfl, ?_⟩) hSR ?_
          rotate_left
          · (intro w' hSw; (try dsimp only at hSw); go_simp; (try with_reducible rfl))
          simp only [Act.put]
          refine wpAnyH_take (i := 1) (v := ?_) rfl (by kernel_rfl) (by kernel_rfl) (by kernel_rfl) (fun _ _ _ h => h) (Or.inl ⟨by rfl, ?_⟩) hSR ?_
          rotate_left
          · (intro w' hSw; (try dsimp only at hSw); go_simp; (try with_reducible rfl))
          simp only [Act.put]
          refine wpAnyH_take (i := 2) (v := ?_) rfl (by kernel_rfl) (by kernel_rfl) (by kernel_rfl) (fun _ _ _ h => h) (Or.inl ⟨by rfl, ?_⟩) hSR ?_
          rotate_left
          · (intro w' hSw; (try dsimp only at hSw); go_simp; (try with_reducible rfl))
          simp only [Act.put]
          refine wpAnyH_take (i := 3) (v := ?_) rfl (by kernel_rfl) (by kernel_rfl) (by kernel_rfl) (fun _ _ _ h => h) (Or.inl ⟨by rfl, ?_⟩) hSR ?_
          rotate_left
          · (intro w' hSw; (try dsimp only at hSw); go_simp; (try with_reducible rfl))
          simp only [Act.put]
          refine wpAnyH_take (i := 4) (v := ?_) rfl (by kernel_rfl) (by kernel_rfl) (by kernel_rfl) (fun _ _ _ h => h) (Or.inl ⟨by rfl, ?_⟩) hSR ?_
          rotate_left
          · (intro w' hSw; (try dsimp only at hSw); go_simp; (try with_reducible rfl))
          simp only [Act.put]
          refine wpAnyH_take (i := 5) (v := ?_) rfl (by kernel_rfl) (by kernel_rfl) (by kernel_rfl) (fun _ _ _ h => h) (Or.inl ⟨by rfl, ?_⟩) hSR ?_
          rotate_left
          · (intro w' hSw; (try dsimp only at hSw); go_simp; (try with_reducible rfl))
          simp only [Act.put]
          refine wpAnyH_take (i := 6) (v := ?_) rfl (by kernel_rfl) (by kernel_rfl) (by kernel_rfl) (fun _ _ _ h => h) (Or.inl ⟨by rfl, ?_⟩) hSR ?_
          rotate_left
          · (intro w' hSw; (try dsimp only at hSw); go_simp; (try with_reducible rfl))
          simp only [Act.put]
          refine wpAnyH_take (i := 7) (v := ?_) rfl (by kernel_rfl) (by kernel_rfl) (by kernel_rfl) (fun _ _ _ h => h) (Or.inl ⟨by rfl, ?_⟩) hSR ?_
          rotate_left
          · (intro w' hSw; (try dsimp only at hSw); go_simp; (try with_reducible rfl))
          simp only [Act.put]
          refine wpAnyH_take (i := 8) (v := ?_) rfl (by kernel_rfl) (by kernel_rfl) (by kernel_rfl) (fun _ _ _ h => h) (Or.inl ⟨by rfl, ?_⟩) hSR ?_
          rotate_left
          · (intro w' hSw; (try dsimp only at hSw); go_simp; (try with_reducible rfl))
          simp only [Act.put]
          refine wpAnyH_take (i := 9) (v := ?_) rfl (by kernel_rfl) (by kernel_rfl) (by kernel_rfl) (fun _ _ _ h => h) (Or.inl ⟨by rfl, ?_⟩) hSR ?_
          rotate_left
          · (intro w' hSw; (try dsimp only at hSw); go_simp; (try with_reducible rfl))
          simp only [Act.put]
          refine wpAnyH_take (i := 10) (v := ?_) rfl (by kernel_rfl) (by kernel_rfl) (by kernel_rfl) (fun _ _ _ h => h) (Or.inl ⟨by rfl, ?_⟩) hSR ?_
          rotate_left
          · (intro w' hSw; (try dsimp only at hSw); go_simp; (try with_reducible rfl))
          simp only [Act.put]
          refine wpAnyH_take (i := 11) (v := ?_) rfl (by kernel_rfl) (by kernel_rfl) (by kernel_rfl) (fun _ _ _ h => h) (Or.inl ⟨by rfl, ?_⟩) hSR ?_
          rotate_left
          · (intro w' hSw; (try dsimp only at hSw); go_simp; (try with_reducible rfl))
          simp only [Act.put]
          refine wpAnyH_take (i := 12) (v := ?_) rfl (by kernel_rfl) (by kernel_rfl) (by kernel_rfl) (fun _ _ _ h => h) (Or.inl ⟨by rfl, ?_⟩) hSR ?_
          rotate_left
          · (intro w' hSw; (try dsimp only at hSw); go_simp; (try with_reducible rfl))
          simp only [Act.put]
          refine wpAnyH_ready (rs := [13]) (by kernel_rfl) (by simp) (AllReadyH.cons rfl (fun K hK => ?_) AllReadyH.nil)
          go_simp
          refine cT.mono ?_
          rintro e w8 ⟨c, rfl, hp, hb, hlo, hnone⟩
          have B8 := Lib.hid ((Below.refl w6.heap.size w6).drew.trans (hb.mono (Nat.le_refl _)))
          have S8 := Lib.hid (G.out.dr.sto.below B8.out)
          have A8 := Lib.hid (G.out.dr.box.below B8.out G.out.dr.box.1)
          have K8 := Lib.hid (KS.out w8 A8.out (three S8.out))
          have HC := Lib.hid (show OffP B.off c from ⟨G.out.dr.sto.off (n := w6.heap.size) (Nat.le_refl _) (fun y e => by have h1 : w6.heap.size + 2 ≤ y.block := hlo y e; omega), fun y e => by rw [hnone] at e; cases e⟩)
          have R := Lib.hid (store_at (o := 1) (c := comC p2 own2 (turnP t2.pool) { a2 with s := {}, o := A2, oc := c2, b := c }) S8.out.box (by simp) size_commit (by simp [Value.oneCell']))
          have hcbn : cb ≠ B.ss := fun e => by have := G.out.dr.low B.ss (by simp [Blk.all]); omega
          have M9 := Lib.hid ((mod_puts (comC p2 own2 (turnP t2.pool) { a2 with s := {}, o := A2, oc := c2, b := c }).toList 1 w8 B.ss))
          have S9 := Lib.hid (S8.out.withBox (t' := { t2 with sup := p2, own := own2, base := turnP t2.pool }) (a' := { a2 with s := {}, o := A2, oc := c2, b := c }) M9.out (at_over S8.out.box (by simp) rfl) rfl (HN2.out.below B8.out) hp S8.out.pool (fun _ y e hy => by
            obtain ⟨A0, n0, c0, e0, _, hA0⟩ := Pool.own_nums G.out.dr.own
            cases e0
            have h1 := hA0 y e
            have h2 := (List.mem_append.1 hy).elim (G.out.dr.low _) (G.out.dr.lowx _)
            omega) HC.out.q S8.out.ap G.out.ok G.out.bare (turn_ok S8.out.pk) S8.out.pk)
          have K9 := Lib.hid (KS.out _ (at_mod A8.out M9.out (by simpa using hcbn)) ⟨S9.out.cells.2.1, S9.out.cells.2.2.1, S9.out.cells.2.2.2.1⟩)
          have cB := begin_any S9.out
          have M68 := Lib.hid (show Mod B.all w6 (w8.setCells B.ss 1 (comC p2 own2 (turnP t2.pool) { a2 with s := {}, o := A2, oc := c2, b := c }).toList) from (mod_below B8.out).trans (Mod.mono M9.out (fun y hy => by rw [List.mem_singleton] at hy; rw [hy]; simp [Blk.all])))
          have FIN := Lib.hid (show ∀ w', Has w' B d' (abortT { t2 with sup := p2, own := own2, base := turnP t2.pool }) → Mod B.all (w8.setCells B.ss 1 (comC p2 own2 (turnP t2.pool) { a2 with s := {}, o := A2, oc := c2, b := c }).toList) w' → CommitR d t root depth count d' (newT t2 p2 own2) 0 ∧ Has w' B d' (newT t2 p2 own2) ∧ Mod B.all w w' from fun w' h1 h2 => ⟨.inr ⟨by rw [ESP.out]; exact HF.out, .inr ⟨rfl, t2, p2, own2, by rw [ESP.out]; exact G.out.reach, rfl⟩⟩, h1, MW.out.trans ((mod_drop G.out.fr hcbw).trans (M68.out.trans h2))⟩)
          obtain ⟨W9, hW9⟩ : ∃ W9, w8.setCells B.ss 1 (comC p2 own2 (turnP t2.pool) { a2 with s := {}, o := A2, oc := c2, b := c }).toList = W9 := ⟨_, rfl⟩
          rw [hW9] at R K9 cB FIN
          clear hW9 M68 S9 M9 hcbn HC A8 S8 B8 HN2 G KS cT hp hb hlo hnone K7
          clear hSR
          refine hK.out _ _ K8.out (fun hSR => ?_)
          clear hK K
          refine wpAnyH_take (i := 14) (v := ?_) rfl (by kernel_rfl) (by kernel_rfl) (by kernel_rfl) (fun _ _ _ h => h) (Or.inl ⟨by rfl, ?_⟩) hSR ?_
          rotate_left
          · (intro w' hSw; (try dsimp only at hSw); go_simp; (try with_reducible rfl))
          simp only [Act.put]
          refine wpAnyH_take (i := 15) (v := ?_) rfl (by kernel_rfl) (by kernel_rfl) (by kernel_rfl) (fun _ _ _ h => h) (Or.inl ⟨by rfl, ?_⟩) hSR ?_
          rotate_left
          · (intro w' hSw; (try dsimp only at hSw); go_simp; (try with_reducible rfl))
          simp only [Act.put]
          refine wpAnyH_take (i := 16) (v := ?_) rfl (by kernel_rfl) (by kernel_rfl) (by kernel_rfl) (fun _ _ _ h => h) (Or.inl ⟨by rfl, ?_⟩) hSR ?_
          rotate_left
          · (intro w' hSw; (try dsimp only at hSw); go_simp; (try with_reducible rfl))
          simp only [Act.put]
          refine wpAnyH_ready (rs := [17]) (by kernel_rfl) (by simp) (AllReadyH.cons rfl (fun K hK => ?_) AllReadyH.nil)
          refine step_store_eq (by rfl) 84 (.tmp 95) (.tmp 93) (by rfl) (by rfl) (by rfl) R.out ?_
          refine hK.out _ _ K9.out (fun hSR => ?_)
          clear hK K
          simp only [Act.put]
          refine wpAnyH_done (by kernel_rfl) ?_ _
          clear hSR R K8 K9
          go_wp2_with fail
          refine cB.mono ?_
          rintro e w10 ⟨rfl, h10, m10⟩
          have FF := Lib.hid (FIN.out w10 h10 m10)
          clear h10 m10 cB FIN
          go_wp2_with fail
          go_ret
          exact ⟨d', newT t2 p2 own2, 0, rfl, FF.out⟩
        · have d1 : (x != 0) = true := by simp [h0]
          obtain ⟨d', t', hh, ⟨a6, s6⟩, f6⟩ := HNZ.out h0
          have cE := ended_any s6 x
          have FIN := Lib.hid (show ∀ w', Has w' B d' (endT t' x) → Mod B.all w6 w' → CommitR d t root depth count d' (endT t' x) x ∧ Has w' B d' (endT t' x) ∧ Mod B.all w w' from fun w' h1 h2 => ⟨.inr ⟨by rw [ESP.out]; exact HF.out, .inl ⟨t', h0, by rw [ESP.out]; exact hh, rfl⟩⟩, h1, MW.out.trans ((mod_drop f6 hcbw).trans h2)⟩)
          clear h0 hh s6 f6 K6 K5' K4 KD cS HZ HNZ
          go_wp2_with fail
          refine cE.mono ?_
          rintro e w7 ⟨rfl, h7, m7⟩
          have FF := Lib.hid (FIN.out w7 h7 m7)
          clear h7 m7 cE FIN
          go_wp2_with fail
          go_ret
          exact ⟨d', endT t' x, x, rfl, FF.out⟩
  · have FIN := Lib.hid (show CommitR d t root depth count d t 50 ∧ Has w2 B d t ∧ Mod B.all w w2 from ⟨.inl ⟨by rw [ESP.out]; exact hF, rfl, rfl, rfl⟩, ⟨_, S2.out⟩, M2.out⟩)
    clear hF cC
    go_wp2_with fail
    go_ret
    exact ⟨d, t, 50, rfl, FIN.out⟩
end Go.Proofs.YtboaamaneeodfaaGreat.Store
