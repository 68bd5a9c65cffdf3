/-
  Texts of one family, one behind the other: SDone, SInv, SCommit1, SChain0, SKeep, SKeep2, SKeep3.
-/
import Derived.Test.YthnodkhcenmnfaaGreatKS3
import Derived.Test.YthnodkhcenmnfaaGreatKQ2
import Derived.Test.YthnodkhcenmnfaaGreatKS2
import Derived.Test.YthnodkhcenmnfaaGreatKP9
namespace Go.Proofs.YthnodkhcenmnfaaGreat.Store
open Go.RowKit Gen
open Disk (St Dev Mod ptr)
open Pool (numV)

/-- A method's value. -/
abbrev encF (x : Nat × Nat) : Value := .func (.func x.1) #[ptr x.2] #[]
structure DoRel (A : Option Addr) (fs : List (Nat × Nat)) (R : Nat → World → Prop) (k : Nat) (wr : World) : Prop where
  here : R k wr
  row : RowG wr encF A fs
set_option maxRecDepth 100000 in
set_option maxHeartbeats 4000000 in
theorem done_any {w : World} {A : Option Addr} {n c : Nat} (fs : List (Nat × Nat)) (hn : fs.length = n) (hmax : n ≤ 1000) (R : Nat → World → Prop) (Q : Int → World → Prop)
    (hrow : ∀ i wr, R i wr → RowG wr encF A fs) (h0 : R 0 w) (he : ∀ x ∈ fs, ∀ args w, (callFunc x.1 args).run Tryz.prog w = .ok (.enter x.1 args) w)
    (hs : ∀ i (hi : i < fs.length) wr, R i wr → Calls Tryz.prog fs[i].1 #[ptr fs[i].2] wr (fun e w' => ∃ x, e = .returned (numV x) ∧ (x = 0 → R (i + 1) w') ∧ (x ≠ 0 → Q x w'))) :
    Calls Tryz.prog 58 #[.slice A n c] w (fun e w' => ∃ x, e = .returned (numV x) ∧ (x = 0 → R n w') ∧ (x ≠ 0 → Q x w')) := by
  have HROW := Lib.hid hrow
  have H0 := Lib.hid h0
  have HE := Lib.hid he
  have HS := Lib.hid hs
  have HN := Lib.hid hn
  have HM := Lib.hid hmax
  clear hrow h0 he hs hn hmax
  have hmf : ∀ (fn : Fn) (first cap : Array Value) (w : World), (Instr.makeFunc fn first cap).run Tryz.prog w = .ok (.func fn first cap) w := fun _ _ _ _ => rfl
  go_enter Tryz.func58, Tryz.ntmps58
  go_wp2_with fail
  go_loopw [8] (fun i wr => ∃ k : Nat, i = .int .i64 (k : Int) ∧ k ≤ n ∧ DoRel A fs R k wr) (fun i _ => n - (intOf i).toNat)
  case atStart => exact ⟨0, rfl, Nat.zero_le _, H0.out, HROW.out 0 _ H0.out⟩
  case round =>
    obtain ⟨k, rfl, hk, hr⟩ := hrel
    have HR := Lib.hid hr
    clear hr
    by_cases hlt : k < n
    · have hkf : k < fs.length := by have := HN.out; omega
      obtain ⟨b, o, rfl, hbl, hc⟩ := HR.out.row (by intro e; rw [e] at hkf; simp at hkf)
      have hcell := hc k hkf
      have cS := HS.out k hkf wr HR.out.here
      have eg := HE.out _ (List.getElem_mem hkf)
      obtain ⟨⟨f, x⟩, hx⟩ : ∃ z, fs[k] = z := ⟨_, rfl⟩
      rw [hx] at hcell cS eg
      have hcell : wr.cell? ⟨b, o + k, none⟩ = some (.func (.func f) #[ptr x] #[]) := hcell
      have cS : Calls Tryz.prog f #[ptr x] wr (fun e w' => ∃ x, e = .returned (numV x) ∧ (x = 0 → R (k + 1) w') ∧ (x ≠ 0 → Q x w')) := cS
      have eg : ∀ args w, (callFunc f args).run Tryz.prog w = .ok (.enter f args) w := eg
      have hwr : IntKind.i64.wrap ((k : Int) + 1) = (k : Int) + 1 := IntWalk.i64_in _ (by have := HM.out; omega)
      clear hc hx
      go_wp2_with fail
      refine cS.mono ?_
      rintro e w2 ⟨y, rfl, hz, hnz⟩
      have HZ := Lib.hid hz
      have HNZ := Lib.hid hnz
      clear hz hnz cS hcell
      by_cases h0 : y = 0
      · have d1 : (y != 0) = false := by simp [h0]
        have NEW := Lib.hid (HZ.out h0)
        have NROW := Lib.hid (HROW.out _ _ NEW.out)
        clear h0
        go_wp2_with fail
        exact ⟨⟨k + 1, congrArg (Value.int .i64) (by omega), by omega, NEW.out, NROW.out⟩, by show n - ((k : Int) + 1).toNat < n - (k : Int).toNat; omega⟩
      · have d1 : (y != 0) = true := by simp [h0]
        have FIN := Lib.hid (show y = 0 → R n w2 from fun e => absurd e h0)
        clear h0
        go_wp2_with fail
        go_ret
        exact ⟨y, rfl, FIN.out, HNZ.out⟩
    · have FIN := Lib.hid (show R n wr from by have := HR.out.here; rwa [show k = n by omega] at this)
      clear HR
      go_wp2_with fail
      go_ret
      exact ⟨0, rfl, fun _ => FIN.out, fun e => absurd rfl e⟩
end Go.Proofs.YthnodkhcenmnfaaGreat.Store
namespace Go.Proofs.YthnodkhcenmnfaaGreat.Store
open Go.RowKit Gen
open Disk (St Dev Mod ptr)
open Page (Pg Lay PgOk PgRows pgC pgV Enc IsDec BytesAt)
open Pool (Po NAt PoAt La poC poV numV At takeP giveP backP Fresh PoolOk OwnI chunks layAll May lay1 lay1_mem layAll_mem)

/-- The last commit has it. -/
def Live (p : Po) (x : Int) : Prop := 2 ≤ x ∧ x < p.high ∧ x ∉ p.free
/-- What the pool and the fresh pages have to do with the last commit. -/
structure Inv (t : T) : Prop where
  limbo : t.base.limbo = []
  high : t.base.high ≤ t.pool.high
  live : ∀ x, Live t.base x → x ∉ t.pool.free
  fresh : ∀ x, t.fresh x = true → 2 ≤ x ∧ x < t.pool.high ∧ x ∉ t.pool.free ∧ ¬ Live t.base x
/-- What a call leaves of a store. -/
structure Part (t t' : T) : Prop where
  own : t'.own = t.own
  base : t'.base = t.base
  sup : t'.sup = t.sup
theorem Part.refl (t : T) : Part t t := ⟨rfl, rfl, rfl⟩
theorem Part.trans {a b c : T} (h : Part a b) (k : Part b c) : Part a c := ⟨k.own.trans h.own, k.base.trans h.base, k.sup.trans h.sup⟩
/-- A page that is out of the pool, and of no commit. -/
structure Out (t : T) (n : Int) : Prop where
  low : 2 ≤ n
  top : n < t.pool.high
  free : n ∉ t.pool.free
  live : ¬ Live t.base n
theorem Inv.out {t : T} (h : Inv t) {x : Int} (hx : t.fresh x = true) : Out t x := ⟨(h.fresh x hx).1, (h.fresh x hx).2.1, (h.fresh x hx).2.2.1, (h.fresh x hx).2.2.2⟩
theorem Inv.abort {t : T} (h : Inv t) : Inv (abortT t) := ⟨h.limbo, Int.le_refl _, fun x hx => hx.2.2, fun x hx => by simp [abortT] at hx⟩
theorem abort_part (t : T) : Part t (abortT t) := ⟨rfl, rfl, rfl⟩
theorem Inv.ended {t : T} (h : Inv t) (e : Int) : Inv (endT t e) := by
  rw [endT]
  split
  · exact h
  · exact h.abort
theorem end_part (t : T) (e : Int) : Part t (endT t e) := by
  rw [endT]
  split
  · exact Part.refl t
  · exact abort_part t
theorem give_what {p : Po} {n : Int} (he : (giveP p n).2 = 0) : (giveP p n).1.high = p.high ∧ (giveP p n).1.free = p.free ∧ (∀ x, x ∈ (giveP p n).1.limbo ↔ x = n ∨ x ∈ p.limbo) ∧ May p n := by
  unfold giveP at *
  by_cases hm : May p n
  · rw [if_pos hm]
    exact ⟨rfl, rfl, fun x => lay1_mem p.limbo n x, hm⟩
  · rw [if_neg hm] at he; simp at he
theorem back_what {p : Po} {n : Int} (he : (backP p n).2 = 0) : (backP p n).1.high = p.high ∧ (backP p n).1.limbo = p.limbo ∧ (∀ x, x ∈ (backP p n).1.free ↔ x = n ∨ x ∈ p.free) ∧ May p n := by
  unfold backP at *
  by_cases hm : May p n
  · rw [if_pos hm]
    exact ⟨rfl, rfl, fun x => lay1_mem p.free n x, hm⟩
  · rw [if_neg hm] at he; simp at he
theorem takeT_ok {t : T} {N : Int} (h : PoolOk t.pool N) : PoolOk (takeT t N).1.pool N := by
  rw [takeT]
  by_cases h0 : (takeP t.pool N).2.2 = 0
  · rw [if_pos h0]; exact take_ok h h0
  · rw [if_neg h0]; exact h
theorem giveT_ok {t : T} {n : Int} {N : Int} (h : PoolOk t.pool N) : PoolOk (giveT t n).1.pool N := by
  rw [giveT]
  by_cases h0 : (giveP t.pool n).2 = 0
  · rw [if_pos h0]; exact (give_ok h h0).1
  · rw [if_neg h0]; exact h
theorem backT_ok {t : T} {n : Int} {N : Int} (h : PoolOk t.pool N) : PoolOk (backT t n).1.pool N := by
  rw [backT]
  by_cases h0 : (backP t.pool n).2 = 0
  · rw [if_pos h0]; exact (back_ok h h0).1
  · rw [if_neg h0]; exact h
/-- What taking leaves. -/
theorem Inv.take {t : T} {N : Int} (h : Inv t) (hk : PoolOk t.pool N) : Inv (takeT t N).1 ∧ Part t (takeT t N).1 ∧ (takeT t N).1.fresh = t.fresh ∧ t.pool.high ≤ (takeT t N).1.pool.high ∧ (takeT t N).1.pool.limbo = t.pool.limbo ∧ (∀ x ∈ (takeT t N).1.pool.free, x ∈ t.pool.free) ∧
    ((takeT t N).2.2 = 0 → Out (takeT t N).1 (takeT t N).2.1 ∧ (takeT t N).2.1 ∉ t.pool.limbo ∧ t.fresh (takeT t N).2.1 = false ∧ ((takeT t N).2.1 ∈ t.pool.free ∨ (takeT t N).2.1 = t.pool.high)) := by
  rw [takeT]
  by_cases h0 : (takeP t.pool N).2.2 = 0
  · rw [if_pos h0]
    obtain ⟨k1, k2, k3, k4, k5, k6, k7, k8, k9⟩ := take_what hk h0
    refine ⟨⟨h.limbo, Int.le_trans h.high k7, fun x hx hf => h.live x hx (k9 x hf), fun x hx => ?_⟩, ⟨rfl, rfl, rfl⟩, rfl, k7, k6, k9, fun _ => ⟨⟨k1, k8, k4, fun hl => ?_⟩, k5, ?_, k3⟩⟩
    · have g := h.out hx
      exact ⟨g.low, Int.lt_of_lt_of_le g.top k7, fun hf => g.free (k9 x hf), g.live⟩
    · rcases k3 with e | e
      · exact h.live _ hl e
      · have := hl.2.1
        have := h.high
        show False
        simp only at *
        omega
    · cases hf : t.fresh (takeP t.pool N).2.1
      · rfl
      · exfalso
        have g := h.out hf
        rcases k3 with e | e
        · exact g.free e
        · have := g.top
          omega
  · rw [if_neg h0]
    exact ⟨h, Part.refl t, rfl, Int.le_refl _, rfl, fun _ => id, fun e => absurd e h0⟩
/-- What giving leaves. -/
theorem Inv.give {t : T} (h : Inv t) (n : Int) : Inv (giveT t n).1 ∧ Part t (giveT t n).1 ∧ (giveT t n).1.fresh = t.fresh ∧ (giveT t n).1.pool.high = t.pool.high ∧ (giveT t n).1.pool.free = t.pool.free ∧ (∀ x ∈ (giveT t n).1.pool.limbo, x = n ∨ x ∈ t.pool.limbo) := by
  rw [giveT]
  by_cases h0 : (giveP t.pool n).2 = 0
  · rw [if_pos h0]
    obtain ⟨k1, k2, k3, k4⟩ := give_what h0
    refine ⟨⟨h.limbo, by show _ ≤ (giveP t.pool n).1.high; rw [k1]; exact h.high, fun x hx => by show x ∉ (giveP t.pool n).1.free; rw [k2]; exact h.live x hx, fun x hx => ?_⟩, ⟨rfl, rfl, rfl⟩, rfl, k1, k2, fun x hx => (k3 x).1 hx⟩
    have g := h.out hx
    exact ⟨g.low, by show x < (giveP t.pool n).1.high; rw [k1]; exact g.top, by show x ∉ (giveP t.pool n).1.free; rw [k2]; exact g.free, g.live⟩
  · rw [if_neg h0]
    exact ⟨h, Part.refl t, rfl, rfl, rfl, fun x hx => .inr hx⟩
/-- What bringing back leaves. -/
theorem Inv.back {t : T} {n : Int} (h : Inv t) (hl : ¬ Live t.base n) (hn : ∀ x, t.fresh x = true → x ≠ n) : Inv (backT t n).1 ∧ Part t (backT t n).1 ∧ (backT t n).1.fresh = t.fresh := by
  rw [backT]
  by_cases h0 : (backP t.pool n).2 = 0
  · rw [if_pos h0]
    obtain ⟨k1, k2, k3, k4⟩ := back_what h0
    refine ⟨⟨h.limbo, by show _ ≤ (backP t.pool n).1.high; rw [k1]; exact h.high, fun x hx hf => ?_, fun x hx => ?_⟩, ⟨rfl, rfl, rfl⟩, rfl⟩
    · rcases (k3 x).1 hf with e | e
      · rw [e] at hx; exact hl hx
      · exact h.live x hx e
    · have g := h.out hx
      refine ⟨g.low, by show x < (backP t.pool n).1.high; rw [k1]; exact g.top, fun hf => ?_, g.live⟩
      rcases (k3 x).1 hf with e | e
      · exact hn x hx e
      · exact g.free e
  · rw [if_neg h0]
    exact ⟨h, Part.refl t, rfl⟩
theorem Inv.off {t : T} (h : Inv t) (n : Int) : Inv (frT t n false) := ⟨h.limbo, h.high, h.live, fun x hx => h.fresh x (by
  have hx' : fup t.fresh n false x = true := hx
  unfold fup at hx'
  split at hx'
  · cases hx'
  · exact hx')⟩
theorem Inv.on {t : T} (h : Inv t) {n : Int} (ho : Out t n) : Inv (frT t n true) := ⟨h.limbo, h.high, h.live, fun x hx => by
  have hx' : fup t.fresh n true x = true := hx
  unfold fup at hx'
  split at hx'
  · rename_i e
    rw [e]
    exact ⟨ho.low, ho.top, ho.free, ho.live⟩
  · exact h.fresh x hx'⟩
theorem frT_part (t : T) (n : Int) (v : Bool) : Part t (frT t n v) := ⟨rfl, rfl, rfl⟩
theorem fup_at (f : Int → Bool) (n : Int) (v : Bool) : fup f n v n = v := by simp [fup]
/-- What a place leaves. -/
theorem Inv.place {t : T} {N : Int} (h : Inv t) (hk : PoolOk t.pool N) (old : Int) : Inv (placeT t N old).1 ∧ Part t (placeT t N old).1 ∧ ((placeT t N old).2.2 = 0 → (placeT t N old).1.fresh (placeT t N old).2.1 = true) := by
  rw [placeT]
  by_cases hf : t.fresh old = true
  · rw [if_pos hf]
    exact ⟨h, Part.refl t, fun _ => hf⟩
  have hf' : t.fresh old = false := by simpa using hf
  rw [if_neg hf]
  obtain ⟨i1, p1, f1, g1, l1, s1, o1⟩ := h.take hk
  by_cases h1 : (takeT t N).2.2 = 0
  · rw [if_pos h1]
    obtain ⟨o1, _, n1, -⟩ := o1 h1
    by_cases h2 : old = 0
    · rw [if_pos h2]
      exact ⟨i1.on o1, p1.trans (frT_part _ _ _), fun _ => fup_at _ _ _⟩
    · rw [if_neg h2]
      obtain ⟨i2, p2, f2, hg2, hf2, hl2⟩ := i1.give old
      by_cases h3 : (giveT (takeT t N).1 old).2 = 0
      · rw [if_pos h3]
        exact ⟨i2.on ⟨o1.low, by rw [hg2]; exact o1.top, by rw [hf2]; exact o1.free, by rw [p2.base]; exact o1.live⟩, p1.trans (p2.trans (frT_part _ _ _)), fun _ => fup_at _ _ _⟩
      · rw [if_neg h3]
        have i3 := (i2.back (n := (takeT t N).2.1) (by rw [p2.base]; exact o1.live) (fun x hx e => by
          rw [f2, f1] at hx
          rw [e, n1] at hx; cases hx))
        exact ⟨i3.1, p1.trans (p2.trans i3.2.1), fun e => absurd e h3⟩
  · rw [if_neg h1]
    exact ⟨i1, p1, fun e => absurd e h1⟩
theorem back_fr (t : T) (n m : Int) (v : Bool) : (backT (frT t m v) n).1 = frT (backT t n).1 m v := by
  unfold backT frT
  show (if (backP t.pool n).2 = 0 then _ else _ : T × Int).1 = _
  split <;> rfl
/-- What a drop leaves. -/
theorem Inv.drop {t : T} (h : Inv t) (n : Int) : Inv (dropT t n).1 ∧ Part t (dropT t n).1 := by
  rw [dropT]
  by_cases hf : t.fresh n = true
  · rw [if_pos hf]
    have i := (h.off n).back (n := n) (h.out hf).live (fun x hx e => by
      rw [e] at hx
      have hx' : fup t.fresh n false n = true := hx
      rw [fup_at] at hx'; cases hx')
    by_cases h1 : (backT t n).2 = 0
    · rw [if_pos h1]
      rw [back_fr] at i
      exact ⟨i.1, (frT_part t n false).trans i.2.1⟩
    · rw [if_neg h1]
      have e : (backT t n).1 = t := by
        rw [backT] at h1 ⊢
        by_cases h2 : (backP t.pool n).2 = 0
        · rw [if_pos h2] at h1; exact absurd rfl h1
        · rw [if_neg h2]
      rw [e]
      exact ⟨h, Part.refl t⟩
  · rw [if_neg hf]
    have i := h.give n
    exact ⟨i.1, i.2.1⟩
/-- The last commit's lists are dropped. -/
def dropAll (t : T) (l : List Int) : T := l.foldl (fun t n => (dropT t n).1) t
theorem dropAll_snoc (t : T) (l : List Int) (k : Nat) (h : k < l.length) : dropAll t (l.take (k + 1)) = (dropT (dropAll t (l.take k)) l[k]).1 := by
  rw [List.take_succ_eq_append_getElem h, dropAll, List.foldl_append]; rfl
theorem Inv.drops : ∀ (l : List Int) {t : T}, Inv t → Inv (dropAll t l) ∧ Part t (dropAll t l)
  | [], t, h => ⟨h, Part.refl t⟩
  | n :: l, t, h => by
    have h1 := h.drop n
    have h2 := Inv.drops l h1.1
    exact ⟨h2.1, h1.2.trans h2.2⟩
/-- Pages that are taken for lists. -/
structure Own (t : T) (own : List Int) : Prop where
  out : ∀ x ∈ own, Out t x ∧ x ∉ t.pool.limbo
  nodup : own.Nodup
theorem Inv.takes {N : Int} {t t' : T} {own own' : List Int} {x : Int} (k : Takes N t own t' own' x) : Inv t → PoolOk t.pool N → Own t own → Inv t' ∧ Part t t' ∧ PoolOk t'.pool N ∧ Own t' own' ∧ (x = 0 → many t'.pool ≤ own'.length) := by
  induction k with
  | done h => exact fun hi hk ho => ⟨hi, Part.refl _, hk, ho, fun _ => h⟩
  | fail h hx =>
    exact fun hi hk ho => by
      obtain ⟨i1, p1, _, g1, l1, s1, _⟩ := hi.take hk
      exact ⟨i1, p1, takeT_ok hk, ⟨fun x hx => ⟨⟨(ho.out x hx).1.low, Int.lt_of_lt_of_le (ho.out x hx).1.top g1, fun hf => (ho.out x hx).1.free (s1 x hf), by rw [p1.base]; exact (ho.out x hx).1.live⟩, by rw [l1]; exact (ho.out x hx).2⟩, ho.nodup⟩, fun e => absurd e hx⟩
  | step h hx _ ih =>
    exact fun hi hk ho => by
      obtain ⟨i1, p1, _, g1, l1, s1, o1⟩ := hi.take hk
      obtain ⟨o1, b1, c1, d1⟩ := o1 hx
      obtain ⟨j1, j2, j3, j4, j5⟩ := ih i1 (takeT_ok hk) ⟨fun x hx => by
        rcases List.mem_append.1 hx with hx | hx
        · exact ⟨⟨(ho.out x hx).1.low, Int.lt_of_lt_of_le (ho.out x hx).1.top g1, fun hf => (ho.out x hx).1.free (s1 x hf), by rw [p1.base]; exact (ho.out x hx).1.live⟩, by rw [l1]; exact (ho.out x hx).2⟩
        · rw [List.mem_singleton] at hx
          rw [hx]
          exact ⟨o1, by rw [l1]; exact b1⟩, List.nodup_append.2 ⟨ho.nodup, (by simp), fun x hx y hy => by
        rw [List.mem_singleton] at hy
        rw [hy]
        intro e
        rw [e] at hx
        have g := (ho.out _ hx).1
        rcases d1 with q | q
        · exact g.free q
        · have := g.top
          omega⟩⟩
      exact ⟨j1, p1.trans j2, j3, j4, j5⟩
end Go.Proofs.YthnodkhcenmnfaaGreat.Store
namespace Go.Proofs.YthnodkhcenmnfaaGreat.Store
open Go.RowKit Gen
open Disk (St Dev Mod ptr)
open Page (Pg Lay PgOk PgRows pgC pgV Enc IsDec BytesAt)
open Pool (Po NAt PoAt La poC poV numV At takeP giveP backP Fresh PoolOk OwnI chunks layAll)

/-- The superblock that a commit begins with. -/
def superP (t : T) (root depth count : Int) : Pg := { kind := 4, epoch := (t.sup.epoch + 1) % 18446744073709551616, root := root, depth := depth, count := count, high := t.pool.high }
/-- How far a commit has come. -/
inductive Reach (d0 : St) (t1 : T) (sp : Pg) : Nat → St → T → Pg → List Int → Prop
  | start : Reach d0 t1 sp 0 d0 t1 sp []
  | take {t own} : Takes d0.n t1 [] t own 0 → Reach d0 t1 sp 1 d0 t sp own
  | list {d t own d'} : Reach d0 t1 sp 1 d t sp own → Writes own (chunks (layAll t.pool.free t.pool.limbo)) d 0 d' 0 → Reach d0 t1 sp 2 d' t sp own
  | sync {d t own} : Reach d0 t1 sp 2 d t sp own → d.syncE = 0 → Reach d0 t1 sp 3 d.sync t sp own
  | lead {d t own d'} : Reach d0 t1 sp 3 d t sp own → WriteR d ((sp.epoch % 2 : Nat) : Int) (leadP sp t own) d' 0 → Reach d0 t1 sp 4 d' t (leadP sp t own) own
  | last {d t p own} : Reach d0 t1 sp 4 d t p own → d.syncE = 0 → Reach d0 t1 sp 5 d.sync t p own
/-- Where it is refused. -/
inductive Halts (d0 : St) (t1 : T) (sp : Pg) : St → T → Int → Prop
  | take {t own x} : Takes d0.n t1 [] t own x → x ≠ 0 → Halts d0 t1 sp d0 t x
  | list {d t own d' x} : Reach d0 t1 sp 1 d t sp own → Writes own (chunks (layAll t.pool.free t.pool.limbo)) d 0 d' x → x ≠ 0 → Halts d0 t1 sp d' t x
  | sync {d t own} : Reach d0 t1 sp 2 d t sp own → d.syncE ≠ 0 → Halts d0 t1 sp d.sync t d.syncE
  | lead {d t own d' x} : Reach d0 t1 sp 3 d t sp own → WriteR d ((sp.epoch % 2 : Nat) : Int) (leadP sp t own) d' x → x ≠ 0 → Halts d0 t1 sp d' t x
  | last {d t p own} : Reach d0 t1 sp 4 d t p own → d.syncE ≠ 0 → Halts d0 t1 sp d.sync t d.syncE
def turnP (p : Po) : Po := { high := p.high, free := layAll p.free p.limbo }
def newT (t : T) (p : Pg) (own : List Int) : T := { sup := p, own := own, base := turnP t.pool, pool := turnP t.pool, fresh := fun _ => false }
/-- What a commit does, and tells. -/
def CommitR (d : St) (t : T) (root depth count : Int) (d' : St) (t' : T) (x : Int) : Prop :=
  (¬ Page.Fine (superP t root depth count) ∧ d' = d ∧ t' = t ∧ x = 50) ∨
  (Page.Fine (superP t root depth count) ∧ ((∃ t2, x ≠ 0 ∧ Halts d (dropAll t t.own) (superP t root depth count) d' t2 x ∧ t' = endT t2 x) ∨
    (x = 0 ∧ ∃ t2 p own, Reach d (dropAll t t.own) (superP t root depth count) 5 d' t2 p own ∧ t' = newT t2 p own)))
theorem sync_n (d : St) : d.sync.n = d.n := by
  unfold St.sync
  split
  · rfl
  · split
    · exact Disk.act_n d
    · exact Disk.act_n d
theorem takes_len {N : Int} {t t' : T} {own own' : List Int} {x : Int} (k : Takes N t own t' own' x) : ∀ K, own.length ≤ K → many t.pool ≤ K → own'.length ≤ K := by
  induction k with
  | done _ => exact fun K h _ => h
  | fail _ _ => exact fun K h _ => h
  | step h _ _ ih => exact fun K h1 h2 => ih K (by rw [List.length_append, List.length_singleton]; omega) (Nat.le_trans (take_many _ _) h2)
theorem takes_at {N : Int} {t t' : T} {own own' : List Int} {x : Int} (k : Takes N t own t' own' x) : PoolOk t.pool N → (∀ x ∈ own, 2 ≤ x ∧ x < N) → (∀ x ∈ own', 2 ≤ x ∧ x < N) ∧ PoolOk t'.pool N := by
  induction k with
  | done _ => exact fun hk h => ⟨h, hk⟩
  | fail _ _ => exact fun hk h => ⟨h, takeT_ok hk⟩
  | step h h0 _ ih => exact fun hk h => ih (takeT_ok hk) (fun x hx => by
      rcases List.mem_append.1 hx with hx | hx
      · exact h x hx
      · rw [List.mem_singleton] at hx
        rw [hx]
        exact takeT_at hk h0)
/-- What holds behind each step. -/
structure CoRel (w0 : World) (cb : Nat) (B : Blk) (d0 : St) (t1 : T) (sp : Pg) (y : Lay) (A : Option Addr) (fs : List (Nat × Nat)) (i : Nat) (d : St) (t : T) (a : Lys) (p : Pg) (v : Value) (own : List Int) (wr : World) : Prop where
  reach : Reach d0 t1 sp i d t p own
  dr : Dr wr cb B d t a p y v own
  row : RowG wr encF A fs
  fr : Fr B cb w0 wr
  ok : PgOk p
  bare : Bare p
  i64 : ∀ x ∈ own, I64 x
  len : own.length ≤ 100000
  zero : i = 0 → v = .slice none 0 0
def CoAt (w0 : World) (cb : Nat) (B : Blk) (d0 : St) (t1 : T) (sp : Pg) (y : Lay) (A : Option Addr) (fs : List (Nat × Nat)) (i : Nat) (wr : World) : Prop := ∃ d t a p v own, CoRel w0 cb B d0 t1 sp y A fs i d t a p v own wr
def CoEnd (w0 : World) (cb : Nat) (B : Blk) (d0 : St) (t1 : T) (sp : Pg) (x : Int) (wr : World) : Prop := ∃ d t, Halts d0 t1 sp d t x ∧ Has wr B d t ∧ Fr B cb w0 wr
def stepsOf (cb sb : Nat) : List (Nat × Nat) := [(59, cb), (60, cb), (61, sb), (62, cb), (61, sb)]
abbrev CoStep (w0 : World) (cb : Nat) (B : Blk) (d0 : St) (t1 : T) (sp : Pg) (y : Lay) (A : Option Addr) (fs : List (Nat × Nat)) (i : Nat) (_w : World) (e : Ending) (w' : World) : Prop :=
  ∃ x, e = .returned (numV x) ∧ (x = 0 → CoAt w0 cb B d0 t1 sp y A fs (i + 1) w') ∧ (x ≠ 0 → CoEnd w0 cb B d0 t1 sp x w')
theorem range64 {N : Int} {own : List Int} (h : ∀ x ∈ own, 2 ≤ x ∧ x < N) (hN : N ≤ 4096) : ∀ x ∈ own, I64 x := fun x hx => ⟨by have := h x hx; omega, by have := h x hx; omega⟩
theorem reach0 {d0 : St} {t1 : T} {sp : Pg} {d : St} {t : T} {p : Pg} {own : List Int} (h : Reach d0 t1 sp 0 d t p own) : d = d0 ∧ t = t1 ∧ p = sp ∧ own = [] := by
  cases h; exact ⟨rfl, rfl, rfl, rfl⟩
theorem reach1 {d0 : St} {t1 : T} {sp : Pg} {d : St} {t : T} {p : Pg} {own : List Int} (h : Reach d0 t1 sp 1 d t p own) : p = sp := by cases h; rfl
theorem reach2 {d0 : St} {t1 : T} {sp : Pg} {d : St} {t : T} {p : Pg} {own : List Int} (h : Reach d0 t1 sp 2 d t p own) : p = sp := by cases h; rfl
theorem reach3 {d0 : St} {t1 : T} {sp : Pg} {d : St} {t : T} {p : Pg} {own : List Int} (h : Reach d0 t1 sp 3 d t p own) : p = sp := by cases h; rfl
theorem co_take {w0 : World} {cb : Nat} {B : Blk} {d0 : St} {t1 : T} {sp : Pg} {y : Lay} {A : Option Addr} {fs : List (Nat × Nat)} (hA : Off (cb :: B.all) A) {w : World} (h : CoAt w0 cb B d0 t1 sp y A fs 0 w) :
    Calls Tryz.prog 59 #[ptr cb] w (CoStep w0 cb B d0 t1 sp y A fs 0 w) := by
  obtain ⟨d, t, a, p, v, own, h⟩ := h
  obtain ⟨rfl, rfl, rfl, rfl⟩ := reach0 h.reach
  obtain rfl := h.zero rfl
  refine (dtake_any h.dr).mono ?_
  rintro e w' ⟨d', t', own', x, rfl, ⟨rfl, ht⟩, ⟨a', v', hd⟩, hf⟩
  refine ⟨x, rfl, fun e => ?_, fun e => ⟨d', t', .take ht e, ⟨a', hd.sto⟩, h.fr.trans hf⟩⟩
  have hN : (d'.n : Int) ≤ 4096 := by have := hd.sto.dev.nle; omega
  have g := takes_at ht h.dr.sto.pk (fun x hx => by cases hx)
  subst e
  exact ⟨d', t', a', p, v', own', .take ht, hd, row_mod h.row hf hA, h.fr.trans hf, h.ok, h.bare, range64 g.1 hN,
    takes_len ht 100000 (by simp) (by have h1 := ok_len h.dr.sto.pk hN; have h2 := many_eq t.pool; omega), fun e => by cases e⟩
theorem co_list {w0 : World} {cb : Nat} {B : Blk} {d0 : St} {t1 : T} {sp : Pg} {y : Lay} {A : Option Addr} {fs : List (Nat × Nat)} (hA : Off (cb :: B.all) A) {w : World} (h : CoAt w0 cb B d0 t1 sp y A fs 1 w) :
    Calls Tryz.prog 60 #[ptr cb] w (CoStep w0 cb B d0 t1 sp y A fs 1 w) := by
  obtain ⟨d, t, a, p, v, own, h⟩ := h
  obtain rfl := reach1 h.reach
  refine (dlist_any h.dr h.len h.i64).mono ?_
  rintro e w' ⟨d', x, rfl, hw, hd, hf⟩
  refine ⟨x, rfl, fun e => ?_, fun e => ⟨d', t, .list h.reach hw e, ⟨a, hd.sto⟩, h.fr.trans hf⟩⟩
  subst e
  exact ⟨d', t, a, p, v, own, .list h.reach hw, hd, row_mod h.row hf hA, h.fr.trans hf, h.ok, h.bare, h.i64, h.len, fun e => by cases e⟩
theorem co_lead {w0 : World} {cb : Nat} {B : Blk} {d0 : St} {t1 : T} {sp : Pg} {y : Lay} {A : Option Addr} {fs : List (Nat × Nat)} (hA : Off (cb :: B.all) A) {w : World} (h : CoAt w0 cb B d0 t1 sp y A fs 3 w) :
    Calls Tryz.prog 62 #[ptr cb] w (CoStep w0 cb B d0 t1 sp y A fs 3 w) := by
  obtain ⟨d, t, a, p, v, own, h⟩ := h
  obtain rfl := reach3 h.reach
  refine (dlead_any h.dr h.ok h.bare h.i64).mono ?_
  rintro e w' ⟨d', x, rfl, hw, hd, hf⟩
  refine ⟨x, rfl, fun e => ?_, fun e => ⟨d', t, .lead h.reach hw e, ⟨a, hd.sto⟩, h.fr.trans hf⟩⟩
  subst e
  exact ⟨d', t, a, _, v, own, .lead h.reach hw, hd, row_mod h.row hf hA, h.fr.trans hf, leadP_ok h.ok (pool_i64 h.dr.sto.pk (by have := h.dr.sto.dev.nle; omega)) h.i64, ⟨h.bare.pairs, h.bare.keys, h.bare.kids, h.bare.pages⟩, h.i64, h.len, fun e => by cases e⟩
theorem sub_all (B : Blk) : ∀ x ∈ [B.sb, B.bl, B.bc], x ∈ B.all := by
  intro x hx
  simp only [Blk.all, List.mem_cons, List.not_mem_nil, or_false] at hx ⊢
  rcases hx with h | h | h <;> simp [h]
theorem co_sync {w0 : World} {cb : Nat} {B : Blk} {d0 : St} {t1 : T} {sp : Pg} {y : Lay} {A : Option Addr} {fs : List (Nat × Nat)} (hA : Off (cb :: B.all) A) {i : Nat} (hi : i = 2 ∨ i = 4) {w : World} (h : CoAt w0 cb B d0 t1 sp y A fs i w) :
    Calls Tryz.prog 61 #[ptr B.sb] w (CoStep w0 cb B d0 t1 sp y A fs i w) := by
  obtain ⟨d, t, a, p, v, own, h⟩ := h
  refine (Disk.sync_dev w B.sb B.bl B.bc d h.dr.sto.dev).mono ?_
  rintro e w' ⟨rfl, hd, hm⟩
  have m : Mod B.all w w' := hm.mono (sub_all B)
  have hf : Fr B cb w w' := Fr.of_mod m
  have s := h.dr.sto.withDev hd hm (sync_n d)
  refine ⟨d.syncE, rfl, fun e => ?_, fun e => ⟨d.sync, t, ?_, ⟨a, s⟩, h.fr.trans hf⟩⟩
  · refine ⟨d.sync, t, a, p, v, own, ?_, h.dr.step s m h.dr.cbs, row_mod h.row hf hA, h.fr.trans hf, h.ok, h.bare, h.i64, h.len, fun e => by omega⟩
    rcases hi with rfl | rfl
    · obtain rfl := reach2 h.reach
      exact .sync h.reach e
    · exact .last h.reach e
  · rcases hi with rfl | rfl
    · obtain rfl := reach2 h.reach
      exact .sync h.reach e
    · exact .last h.reach e
theorem steps_any {w0 : World} {cb : Nat} {B : Blk} {d0 : St} {t1 : T} {sp : Pg} {y : Lay} {A : Option Addr} {c : Nat} (hA : Off (cb :: B.all) A) {w : World} (h : CoAt w0 cb B d0 t1 sp y A (stepsOf cb B.sb) 0 w) :
    Calls Tryz.prog 58 #[.slice A 5 c] w (fun e w' => ∃ x, e = .returned (numV x) ∧ (x = 0 → CoAt w0 cb B d0 t1 sp y A (stepsOf cb B.sb) 5 w') ∧ (x ≠ 0 → CoEnd w0 cb B d0 t1 sp x w')) := by
  refine done_any (n := 5) (stepsOf cb B.sb) rfl (by omega) (fun i wr => CoAt w0 cb B d0 t1 sp y A (stepsOf cb B.sb) i wr) (fun x wr => CoEnd w0 cb B d0 t1 sp x wr) (fun i wr ⟨_, _, _, _, _, _, h⟩ => h.row) h ?_ ?_
  · intro x hx args w
    simp only [stepsOf, List.mem_cons, List.not_mem_nil, or_false] at hx
    rcases hx with rfl | rfl | rfl | rfl | rfl
    · exact enters_of Tryz.func59 (by kernel_rfl) rfl args w
    · exact enters_of Tryz.func60 (by kernel_rfl) rfl args w
    · exact enters_of Tryz.func61 (by kernel_rfl) rfl args w
    · exact enters_of Tryz.func62 (by kernel_rfl) rfl args w
    · exact enters_of Tryz.func61 (by kernel_rfl) rfl args w
  · intro i hi wr h
    match i, hi, h with
    | 0, _, h => exact co_take hA h
    | 1, _, h => exact co_list hA h
    | 2, _, h => exact co_sync hA (.inl rfl) h
    | 3, _, h => exact co_lead hA h
    | 4, _, h => exact co_sync hA (.inr rfl) h
    | n + 5, hi, _ => exact absurd hi (by simp [stepsOf])
end Go.Proofs.YthnodkhcenmnfaaGreat.Store
namespace Go.Proofs.YthnodkhcenmnfaaGreat.Store
open Page (IsDec)

/-- Lists that lead from one to the next. -/
inductive Chain (g : Int → Disk.Bs) : Int → List Int → List (List Int) → Prop
  | done : Chain g 0 [] []
  | step {n p own ls} : n ≠ 0 → IsDec n (g n) p → p.kind = 3 → Chain g p.next own ls → Chain g n (n :: own) (p.pages :: ls)
theorem Chain.congr {g g' : Int → Disk.Bs} {n : Int} {own : List Int} {ls : List (List Int)} (h : Chain g n own ls) : (∀ x ∈ own, g' x = g x) → Chain g' n own ls := by
  induction h with
  | done => exact fun _ => .done
  | step h0 h1 h2 _ ih => exact fun he => .step h0 (by rw [he _ (List.mem_cons_self ..)]; exact h1) h2 (ih (fun x hx => he x (List.mem_cons_of_mem _ hx)))
theorem chain_inv {g : Int → Disk.Bs} {n : Int} {own : List Int} {ls : List (List Int)} (h : Chain g n own ls) : (n = 0 ∧ own = [] ∧ ls = []) ∨ ∃ p o l, n ≠ 0 ∧ own = n :: o ∧ ls = p.pages :: l ∧ IsDec n (g n) p ∧ p.kind = 3 ∧ Chain g p.next o l := by
  cases h with
  | done => exact .inl ⟨rfl, rfl, rfl⟩
  | step h1 h2 h3 h4 => exact .inr ⟨_, _, _, h1, rfl, rfl, h2, h3, h4⟩
end Go.Proofs.YthnodkhcenmnfaaGreat.Store
namespace Go.Proofs.YthnodkhcenmnfaaGreat.Store
open Go.RowKit Gen
open Disk (St Dev Mod ptr)
open Page (Pg Lay PgOk PgRows pgC pgV Enc IsDec BytesAt)
open Pool (Po NAt PoAt La poC poV numV At takeP giveP backP Fresh PoolOk OwnI chunks layAll May)

/-- What a restart that loses all finds in a sector. -/
def dur (d : St) (x : Int) : Disk.Bs := (d.L x).getD Disk.zeros
/-- It is on, and has no fuse. -/
def Calm (d : St) : Prop := d.off = false ∧ d.fused = false
theorem Calm.act {d : St} (h : Calm d) : d.act = d ∧ d.actE = 0 := by
  unfold St.act St.actE
  rw [h.2]
  exact ⟨rfl, rfl⟩
theorem dur_laid (l : Disk.Bs) : (Disk.laid l).getD Disk.zeros = l := by
  unfold Disk.laid
  split
  · rename_i h; rw [h]; rfl
  · rfl
theorem write_L (d : St) (n : Int) (l : Disk.Bs) : (d.write n l).L = d.L := by
  unfold St.write
  split
  · rfl
  · split
    · rfl
    · split
      · exact Disk.act_L d
      · exact Disk.act_L d
theorem write_C (d : St) (n : Int) (l : Disk.Bs) {x : Int} (hx : x ≠ n) : (d.write n l).C x = d.C x := by
  unfold St.write
  split
  · rfl
  · split
    · rfl
    · split
      · show Disk.upd d.act.C n _ x = _
        rw [Disk.upd, if_neg hx, Disk.act_C]
      · rw [Disk.act_C]
theorem write_done {d : St} {n : Int} {l : Disk.Bs} (h : d.writeE n l = 0) : (d.write n l).C n = some (Disk.pad l) := by
  unfold St.writeE at h
  unfold St.write
  by_cases h1 : d.off = true
  · rw [if_pos h1] at h; exact absurd h (by decide)
  rw [if_neg h1] at h ⊢
  by_cases h2 : d.bad n l.length = true
  · rw [if_pos h2] at h; exact absurd h (by decide)
  rw [if_neg h2] at h ⊢
  rw [if_pos h]
  show Disk.upd d.act.C n _ n = _
  rw [Disk.upd, if_pos rfl]
theorem write_fail {d : St} {n : Int} {l : Disk.Bs} (h : d.writeE n l ≠ 0) : (d.write n l).C = d.C := by
  unfold St.writeE at h
  unfold St.write
  by_cases h1 : d.off = true
  · rw [if_pos h1]
  rw [if_neg h1] at h ⊢
  by_cases h2 : d.bad n l.length = true
  · rw [if_pos h2]
  rw [if_neg h2] at h ⊢
  rw [if_neg h]
  exact Disk.act_C d
theorem write_calm {d : St} (h : Calm d) (n : Int) (l : Disk.Bs) : Calm (d.write n l) := by
  have ha := h.act.1
  unfold St.write
  split
  · exact h
  · split
    · exact h
    · split
      · show Calm { d.act with C := _ }
        rw [ha]; exact h
      · rw [ha]; exact h
theorem sync_done {d : St} (h : d.syncE = 0) : (∀ x, dur d.sync x = d.get x) ∧ ∀ x, d.sync.C x = none := by
  unfold St.syncE at h
  unfold St.sync
  by_cases h1 : d.off = true
  · rw [if_pos h1] at h; exact absurd h (by decide)
  rw [if_neg h1] at h ⊢
  rw [if_pos h]
  refine ⟨fun x => ?_, fun x => rfl⟩
  show (Disk.merged d.act (fun _ => false) x).getD Disk.zeros = _
  unfold Disk.merged St.get
  rw [Disk.act_C, Disk.act_L]
  cases d.C x with
  | none => rfl
  | some l => exact dur_laid l
theorem sync_fail {d : St} (h : d.syncE ≠ 0) : d.sync.L = d.L ∧ d.sync.C = d.C := by
  unfold St.syncE at h
  unfold St.sync
  by_cases h1 : d.off = true
  · rw [if_pos h1]; exact ⟨rfl, rfl⟩
  rw [if_neg h1] at h ⊢
  rw [if_neg h]
  exact ⟨Disk.act_L d, Disk.act_C d⟩
theorem sync_calm {d : St} (h : Calm d) : Calm d.sync ∧ d.syncE = 0 := by
  have ha := h.act
  unfold St.syncE St.sync
  rw [h.1, ha.2, ha.1]
  exact ⟨h, rfl⟩
/-- A page's writing, as plain facts. -/
structure Writ (d : St) (sn : Int) (p : Pg) (d' : St) (x : Int) : Prop where
  L : d'.L = d.L
  C : ∀ y, y ≠ sn → d'.C y = d.C y
  n : d'.n = d.n
  done : x = 0 → ∃ l, Enc sn p l ∧ d'.C sn = some l
  fail : x ≠ 0 → d'.C = d.C
  calm : Calm d → Calm d'
theorem WriteR.writ {d d' : St} {n : Int} {p : Pg} {x : Int} (h : WriteR d n p d' x) : Writ d n p d' x := by
  rcases h with ⟨l, hl, rfl, rfl⟩ | ⟨hno, rfl, rfl⟩
  · refine ⟨write_L d n l, fun y hy => write_C d n l hy, writeD_n d n l, fun e => ⟨l, hl, ?_⟩, fun e => write_fail e, fun hc => write_calm hc n l⟩
    rw [write_done e, Disk.pad, Page.enc_len hl, Nat.sub_self, List.replicate_zero, List.append_nil]
  · exact ⟨rfl, fun _ _ => rfl, rfl, fun e => absurd e (by decide), fun _ => rfl, id⟩
/-- Lists' writing. -/
structure Writs (own : List Int) (ls : List (List Int)) (d : St) (k : Nat) (d' : St) (x : Int) : Prop where
  L : d'.L = d.L
  n : d'.n = d.n
  C : ∀ y, y ∉ own → d'.C y = d.C y
  low : ∀ j, j < k → (hj : j < own.length) → d'.C own[j] = d.C own[j]
  done : x = 0 → ∀ j, k ≤ j → (hj : j < own.length) → ∃ l, Enc own[j] (listP own ls j) l ∧ d'.C own[j] = some l
  calm : Calm d → Calm d'
theorem getD_at {α : Type} {l : List α} {k : Nat} (h : k < l.length) (z : α) : l.getD k z = l[k] := by
  rw [List.getD_eq_getElem?_getD, List.getElem?_eq_getElem h]; rfl
theorem Writes.writs {own : List Int} {ls : List (List Int)} {d d' : St} {k : Nat} {x : Int} (h : Writes own ls d k d' x) (hn : own.Nodup) : Writs own ls d k d' x := by
  have apart : ∀ {i j : Nat} (hi : i < own.length) (hj : j < own.length), i ≠ j → own[i] ≠ own[j] := fun hi hj hij e => hij ((List.getElem_inj hn).1 e)
  induction h with
  | done hk => exact ⟨rfl, rfl, fun _ _ => rfl, fun _ _ _ => rfl, fun _ j hj hj' => absurd hj' (by omega), id⟩
  | fail hk hw hx =>
    have g := hw.writ
    rw [getD_at hk] at g
    exact ⟨g.L, g.n, fun y hy => g.C y (fun e => hy (e ▸ List.getElem_mem hk)), fun j hj hj' => g.C _ (apart hj' hk (by omega)), fun e => absurd e hx, g.calm⟩
  | step hk hw _ ih =>
    have g := hw.writ
    rw [getD_at hk] at g
    refine ⟨ih.L.trans g.L, ih.n.trans g.n, fun y hy => (ih.C y hy).trans (g.C y (fun e => hy (e ▸ List.getElem_mem hk))), fun j hj hj' => (ih.low j (by omega) hj').trans (g.C _ (apart hj' hk (by omega))), fun e j hj hj' => ?_, fun hc => ih.calm (g.calm hc)⟩
    rcases Nat.eq_or_lt_of_le hj with rfl | hj
    · obtain ⟨l, h1, h2⟩ := g.done rfl
      exact ⟨l, h1, (ih.low _ (by omega) hj').trans h2⟩
    · exact ih.done e j hj hj'
theorem chain_of {g : Int → Disk.Bs} {own : List Int} {ls : List (List Int)} (h0 : ∀ x ∈ own, x ≠ 0) (hl : ls.length ≤ own.length) (h : ∀ j, (hj : j < own.length) → Enc own[j] (listP own ls j) (g own[j])) :
    ∀ (n k : Nat), own.length - k = n → k ≤ own.length → ∃ ls', Chain g (own.getD k 0) (own.drop k) ls' ∧ ls'.flatten = (ls.drop k).flatten
  | 0, k, hn, hk => by
    obtain rfl : k = own.length := by omega
    refine ⟨[], ?_, ?_⟩
    · rw [List.drop_length, List.getD_eq_getElem?_getD, List.getElem?_eq_none (Nat.le_refl _)]
      exact .done
    · rw [List.drop_eq_nil_of_le hl]
  | n + 1, k, hn, hk => by
    have hk' : k < own.length := by omega
    obtain ⟨ls', h1, h2⟩ := chain_of h0 hl h n (k + 1) (by omega) (by omega)
    refine ⟨ls.getD k [] :: ls', ?_, ?_⟩
    · rw [getD_at hk', List.drop_eq_getElem_cons hk']
      exact Chain.step (p := listP own ls k) (h0 _ (List.getElem_mem hk')) (Page.dec_of_enc (h k hk') (by show 0 < _; decide)) rfl h1
    · rw [List.flatten_cons, h2]
      by_cases hl' : k < ls.length
      · rw [List.drop_eq_getElem_cons hl', List.flatten_cons, getD_at hl']
      · rw [List.drop_eq_nil_of_le (by omega), List.drop_eq_nil_of_le (by omega), List.getD_eq_getElem?_getD, List.getElem?_eq_none (by omega)]
        rfl
/-- Sectors of the last commit's superblock, and of the other one. -/
abbrev side (e : Nat) : Int := ((e % 2 : Nat) : Int)
/-- A device holds a store. -/
structure Holds (N : Nat) (g : Int → Disk.Bs) (sup : Pg) (own : List Int) (base : Po) : Prop where
  here : IsDec (side sup.epoch) (g (side sup.epoch)) sup
  kind : sup.kind = 4
  there : ∀ q, IsDec (side (sup.epoch + 1)) (g (side (sup.epoch + 1))) q → q.epoch < sup.epoch
  lists : ∃ ls, Chain g sup.next own ls ∧ ls.flatten = base.free
  nodup : own.Nodup
  high : base.high = sup.high
  limbo : base.limbo = []
  ok : PoolOk base N
  live : ∀ x ∈ own, Live base x
theorem side_or (e : Nat) : side e = 0 ∨ side e = 1 := by unfold side; omega
theorem side_ne (e : Nat) : side (e + 1) ≠ side e := by unfold side; omega
theorem side_two (e : Nat) : side (e + 1 + 1) = side e := by unfold side; omega
theorem Holds.congr {N : Nat} {g g' : Int → Disk.Bs} {sup : Pg} {own : List Int} {base : Po} (h : Holds N g sup own base) (he : ∀ x, x = 0 ∨ x = 1 ∨ Live base x → g' x = g x) : Holds N g' sup own base := by
  have e0 : ∀ e, g' (side e) = g (side e) := fun e => he _ (by rcases side_or e with h | h <;> simp [h])
  obtain ⟨ls, h1, h2⟩ := h.lists
  exact ⟨by rw [e0]; exact h.here, h.kind, by rw [e0]; exact h.there, ⟨ls, h1.congr (fun x hx => he x (.inr (.inr (h.live x hx)))), h2⟩, h.nodup, h.high, h.limbo, h.ok, h.live⟩
/-- A superblock's sector, whatever it holds, is of a commit that is no newer. -/
def Elder (g : Disk.Bs) (e : Nat) : Prop := Page.Twin g ∧ ∃ oe, oe < e ∧ g.take 8 = Page.be 8 oe
theorem Elder.mono {g : Disk.Bs} {e f : Nat} (h : Elder g e) (k : e ≤ f) : Elder g f := ⟨h.1, h.2.elim fun oe h => ⟨oe, by omega, h.2⟩⟩
theorem Elder.zeros {e : Nat} (h : 0 < e) : Elder Disk.zeros e := ⟨Page.twin_zeros, 0, h, by decide⟩
theorem Elder.enc {s : Int} {p : Pg} {l : Disk.Bs} (h : Enc s p l) (hs : s = 0 ∨ s = 1) : Elder l (p.epoch + 1) := ⟨(Page.enc_twin h hs).1, p.epoch, by omega, (Page.enc_twin h hs).2.2.2⟩
theorem Elder.dec {s : Int} {g : Disk.Bs} {e : Nat} (h : Elder g e) (hs : s = 0 ∨ s = 1) (he : e ≤ 18446744073709551616) {q : Pg} (hq : IsDec s g q) (hb : q.epoch < 18446744073709551616) : q.epoch < e := by
  obtain ⟨_, oe, h1, h2⟩ := h
  have h3 := (Page.enc_twin hq.2 hs).2.2.2
  rw [h2] at h3
  have := Page.be_inj h3 (by omega) (by omega)
  omega
end Go.Proofs.YthnodkhcenmnfaaGreat.Store
namespace Go.Proofs.YthnodkhcenmnfaaGreat.Store
open Go.RowKit Gen
open Disk (St Dev Mod ptr)
open Page (Pg Lay PgOk PgRows pgC pgV Enc IsDec BytesAt)
open Pool (Po NAt PoAt La poC poV numV At takeP giveP backP Fresh PoolOk OwnI chunks layAll May)

/-- What is so ahead of a commit, the first one too. -/
structure Pre (d : St) (t : T) : Prop where
  inv : Inv t
  bk : PoolOk t.base d.n
  pk : PoolOk t.pool d.n
  nle : d.n ≤ 4096
  C : ∀ x, d.C x ≠ none → 2 ≤ x ∧ ¬ Live t.base x
  mine : Elder (dur d (side t.sup.epoch)) (t.sup.epoch + 1)
  own : ∀ x ∈ t.own, Live t.base x
/-- A store whose last commit its device holds. -/
structure Safe (d : St) (t : T) : Prop where
  pre : Pre d t
  holds : Holds d.n (dur d) t.sup t.own t.base
  other : Elder (dur d (side (t.sup.epoch + 1))) t.sup.epoch
/-- What happens to a device and a store ahead of a superblock's writing. -/
structure Step (d : St) (t : T) (d1 : St) (t1 : T) : Prop where
  n : d1.n = d.n
  part : Part t t1
  inv : Inv t1
  pk : PoolOk t1.pool d.n
  L : ∀ x, x = 0 ∨ x = 1 ∨ Live t.base x → dur d1 x = dur d x
  C : ∀ x, d1.C x ≠ none → 2 ≤ x ∧ ¬ Live t.base x
theorem Pre.refl {d : St} {t : T} (h : Pre d t) : Step d t d t := ⟨rfl, Part.refl t, h.inv, h.pk, fun _ _ => rfl, h.C⟩
theorem side_lit (e : Nat) (x : Int) (h : x = side e) : x = 0 ∨ x = 1 := by rw [h]; exact side_or e
theorem Step.pre {d d1 : St} {t t1 : T} (s : Step d t d1 t1) (h : Pre d t) : Pre d1 t1 := by
  refine ⟨s.inv, by rw [s.part.base, s.n]; exact h.bk, by rw [s.n]; exact s.pk, by rw [s.n]; exact h.nle, by rw [s.part.base]; exact s.C, ?_, by rw [s.part.own, s.part.base]; exact h.own⟩
  rw [s.part.sup, s.L _ (by rcases side_or t.sup.epoch with h | h <;> simp [h])]
  exact h.mine
theorem Step.safe {d d1 : St} {t t1 : T} (s : Step d t d1 t1) (h : Safe d t) : Safe d1 t1 := by
  refine ⟨s.pre h.pre, ?_, ?_⟩
  · rw [s.part.sup, s.part.own, s.part.base, s.n]
    exact h.holds.congr s.L
  · rw [s.part.sup, s.L _ (by rcases side_or (t.sup.epoch + 1) with h | h <;> simp [h])]
    exact h.other
/-- The pool, and what is fresh, alone change. -/
theorem Step.pool {d d1 : St} {t t1 t2 : T} (s : Step d t d1 t1) (hp : Part t1 t2) (hi : Inv t2) (hk : PoolOk t2.pool d.n) : Step d t d1 t2 := ⟨s.n, s.part.trans hp, hi, hk, s.L, s.C⟩
/-- Pages of no commit are written. -/
theorem Step.cache {d d1 d2 : St} {t t1 : T} (s : Step d t d1 t1) (hn : d2.n = d1.n) (hL : d2.L = d1.L) (hC : ∀ x, d2.C x ≠ d1.C x → 2 ≤ x ∧ ¬ Live t.base x) : Step d t d2 t1 := by
  refine ⟨hn.trans s.n, s.part, s.inv, s.pk, fun x hx => by rw [← s.L x hx, dur, dur, hL], fun x hx => ?_⟩
  by_cases e : d2.C x = d1.C x
  · exact s.C x (by rw [← e]; exact hx)
  · exact hC x e
theorem Step.write {d d1 d2 : St} {t t1 : T} {n x : Int} {p : Pg} (s : Step d t d1 t1) (h : WriteR d1 n p d2 x) (ho : Out t1 n) : Step d t d2 t1 := by
  have g := h.writ
  refine s.cache g.n g.L (fun y hy => ?_)
  by_cases e : y = n
  · rw [e]
    exact ⟨ho.low, by rw [← s.part.base]; exact ho.live⟩
  · exact absurd (g.C y e) hy
theorem endT_ok {t : T} {N : Int} (hb : PoolOk t.base N) (hp : PoolOk t.pool N) (e : Int) : PoolOk (endT t e).pool N := by
  rw [endT]
  split
  · exact hp
  · exact hb
theorem Step.ended {d d1 : St} {t t1 : T} (s : Step d t d1 t1) (h : Pre d t) (e : Int) : Step d t d1 (endT t1 e) :=
  s.pool (end_part t1 e) (s.inv.ended e) (endT_ok (by rw [s.part.base]; exact h.bk) s.pk e)
theorem placeT_ok {t : T} {N : Int} (h : PoolOk t.pool N) (old : Int) : PoolOk (placeT t N old).1.pool N := by
  rw [placeT]
  split
  · exact h
  split
  · split
    · exact takeT_ok h
    · split
      · exact giveT_ok (takeT_ok h)
      · exact backT_ok (giveT_ok (takeT_ok h))
  · exact takeT_ok h
theorem dropT_ok {t : T} {N : Int} (h : PoolOk t.pool N) (n : Int) : PoolOk (dropT t n).1.pool N := by
  rw [dropT]
  split
  · split
    · exact backT_ok h
    · exact backT_ok h
  · exact giveT_ok h
theorem dropAll_ok {N : Int} : ∀ (l : List Int) {t : T}, PoolOk t.pool N → PoolOk (dropAll t l).pool N
  | [], _, h => h
  | n :: l, _, h => dropAll_ok l (dropT_ok h n)
/-- Lay. -/
theorem Step.lay {d d1 d2 : St} {t t1 t2 : T} {old n e : Int} {p : Pg} (s : Step d t d1 t1) (h : Pre d t) (g : LayR d1 t1 old p d2 t2 n e) : Step d t d2 t2 := by
  have hk : PoolOk t1.pool d1.n := by rw [s.n]; exact s.pk
  rcases g with ⟨_, rfl, rfl, _⟩ | ⟨_, ⟨_, rfl, rfl, _⟩ | ⟨h0, x, hw, hx⟩⟩
  · exact s
  · obtain ⟨i1, p1, _⟩ := s.inv.place hk old
    exact (s.pool p1 i1 (by have := placeT_ok hk old; rw [s.n] at this ⊢; exact this)).ended h _
  · obtain ⟨i1, p1, f1⟩ := s.inv.place hk old
    have s1 := s.pool p1 i1 (by have := placeT_ok hk old; rw [s.n] at this ⊢; exact this)
    have s2 := s1.write hw (i1.out (f1 h0))
    rcases hx with ⟨_, rfl, _⟩ | ⟨_, rfl, _⟩
    · exact s2
    · exact s2.ended h _
theorem Step.drop {d d1 : St} {t t1 : T} (s : Step d t d1 t1) (n : Int) : Step d t d1 (dropT t1 n).1 := s.pool (s.inv.drop n).2 (s.inv.drop n).1 (dropT_ok s.pk n)
theorem Step.abort {d d1 : St} {t t1 : T} (s : Step d t d1 t1) (h : Pre d t) : Step d t d1 (abortT t1) := s.pool (abort_part t1) s.inv.abort (by show PoolOk t1.base d.n; rw [s.part.base]; exact h.bk)
/-- What is synced. -/
theorem Step.sync {d d1 : St} {t t1 : T} (s : Step d t d1 t1) : Step d t d1.sync t1 := by
  by_cases h : d1.syncE = 0
  · obtain ⟨h1, h2⟩ := sync_done h
    refine ⟨(sync_n d1).trans s.n, s.part, s.inv, s.pk, fun x hx => ?_, fun x hx => absurd (h2 x) hx⟩
    have hC : d1.C x = none := by
      cases hc : d1.C x with
      | none => rfl
      | some l =>
        have := s.C x (by rw [hc]; simp)
        rcases hx with rfl | rfl | hx
        · omega
        · omega
        · exact absurd hx this.2
    rw [h1, St.get, hC, ← s.L x hx]
    rfl
  · obtain ⟨h1, h2⟩ := sync_fail h
    exact s.cache (sync_n d1) h1 (fun x hx => absurd (by rw [h2]) hx)
/-- No fresh page is taken for a list. -/
theorem takes_fresh {N : Int} {t t' : T} {own own' : List Int} {x : Int} (k : Takes N t own t' own' x) : Inv t → PoolOk t.pool N → (∀ y ∈ own, t.fresh y = false) → t'.fresh = t.fresh ∧ ∀ y ∈ own', t.fresh y = false := by
  induction k with
  | done _ => exact fun _ _ h => ⟨rfl, h⟩
  | fail _ _ => exact fun hi hk h => ⟨(hi.take hk).2.2.1, h⟩
  | step h0 hx _ ih =>
    exact fun hi hk h => by
      obtain ⟨i1, _, f1, _, _, _, o1⟩ := hi.take hk
      have g := ih i1 (takeT_ok hk) (fun y hy => by
        rw [f1]
        rcases List.mem_append.1 hy with hy | hy
        · exact h y hy
        · rw [List.mem_singleton] at hy
          rw [hy]
          exact (o1 hx).2.2.1)
      rw [f1] at g
      exact g
theorem drops_fresh : ∀ (l : List Int) {t : T}, Inv t → (∀ x ∈ l, Live t.base x) → (dropAll t l).fresh = t.fresh
  | [], _, _, _ => rfl
  | n :: l, t, hi, h => by
    have h1 := hi.drop n
    have e : (dropT t n).1.fresh = t.fresh := by
      have : t.fresh n ≠ true := fun e => (hi.out e).live (h n (List.mem_cons_self ..))
      rw [dropT, if_neg this]
      exact (hi.give n).2.2.1
    have h2 := drops_fresh l h1.1 (fun x hx => by rw [h1.2.base]; exact h x (List.mem_cons_of_mem _ hx))
    exact h2.trans e
end Go.Proofs.YthnodkhcenmnfaaGreat.Store
namespace Go.Proofs.YthnodkhcenmnfaaGreat.Store
open Go.RowKit Gen
open Disk (St Dev Mod ptr)
open Page (Pg Lay PgOk PgRows pgC pgV Enc IsDec BytesAt)
open Pool (Po NAt PoAt La poC poV numV At takeP giveP backP Fresh PoolOk OwnI chunks layAll May)

theorem dec_epoch {s : Int} {u : Disk.Bs} {p : Pg} (h : IsDec s u p) (hs : s = 0 ∨ s = 1) : p.epoch < 18446744073709551616 := by
  have hr := h.1
  rw [Page.rRead, if_pos hs, Page.rWide] at hr
  split at hr
  · rename_i hl
    have hb := Page.ofBe_lt (u.take 8)
    rw [List.length_take, Nat.min_eq_left hl] at hb
    simp only [Option.bind_some, Option.map_eq_some_iff] at hr
    obtain ⟨y, _, rfl⟩ := hr
    exact hb
  · simp at hr
theorem reach_one {d0 : St} {t t2 : T} {own : List Int} {x : Int} (h : Pre d0 t) (ht : Takes d0.n (dropAll t t.own) [] t2 own x) : Step d0 t d0 t2 ∧ Own t2 own ∧ (x = 0 → many t2.pool ≤ own.length) ∧ ∀ y, t.fresh y = true → y ∉ own := by
  have h1 := Inv.drops t.own h.inv
  have k1 : PoolOk (dropAll t t.own).pool d0.n := dropAll_ok t.own h.pk
  obtain ⟨i2, p2, k2, o2, m2⟩ := Inv.takes ht h1.1 k1 ⟨fun x hx => (by cases hx), List.nodup_nil⟩
  have f := takes_fresh ht h1.1 k1 (fun y hy => (by cases hy))
  rw [drops_fresh t.own h.inv h.own] at f
  exact ⟨(h.refl.pool h1.2 h1.1 k1).pool p2 i2 k2, o2, m2, fun y hy hm => by rw [f.2 y hm] at hy; cases hy⟩
theorem list_two {d0 d' : St} {t t2 : T} {own : List Int} {ls : List (List Int)} {x : Int} (s : Step d0 t d0 t2) (o : Own t2 own) (hw : Writes own ls d0 0 d' x) : Step d0 t d' t2 ∧ Writs own ls d0 0 d' x := by
  have W := hw.writs o.nodup
  refine ⟨s.cache W.n W.L (fun y hy => ?_), W⟩
  have hm : y ∈ own := Classical.byContradiction fun hn => hy (W.C y hn)
  exact ⟨(o.out y hm).1.low, by rw [← s.part.base]; exact (o.out y hm).1.live⟩
/-- Lists are written, and synced. -/
structure Full (d0 : St) (t : T) (d : St) (t2 : T) (own : List Int) : Prop where
  step : Step d0 t d t2
  C : ∀ x, d.C x = none
  out : Own t2 own
  many : many t2.pool ≤ own.length
  enc : ∀ j, (hj : j < own.length) → Enc own[j] (listP own (chunks (layAll t2.pool.free t2.pool.limbo)) j) (dur d own[j])
  fresh : ∀ y, t.fresh y = true → dur d y = d0.get y
  calm : Calm d0 → Calm d
theorem reach_full {d0 d : St} {t t2 : T} {sp p : Pg} {own : List Int} (h : Pre d0 t) (r : Reach d0 (dropAll t t.own) sp 3 d t2 p own) : Full d0 t d t2 own ∧ p = sp := by
  cases r with
  | sync r2 hs =>
    cases r2 with
    | list r1 hw =>
      cases r1 with
      | take ht =>
        obtain ⟨s1, o1, m1, f1⟩ := reach_one h ht
        obtain ⟨s2, W⟩ := list_two s1 o1 hw
        obtain ⟨g1, g2⟩ := sync_done hs
        refine ⟨⟨s2.sync, g2, o1, m1 rfl, fun j hj => ?_, fun y hy => ?_, fun hc => (sync_calm (W.calm hc)).1⟩, rfl⟩
        · obtain ⟨l, e1, e2⟩ := W.done rfl j (Nat.zero_le _) hj
          rw [g1, St.get, e2]
          exact e1
        · rw [g1, St.get, W.C y (f1 y hy), W.L]
          rfl
/-- The device that holds what was begun. -/
theorem full_new {d0 d : St} {t t2 : T} {own : List Int} {root depth count : Int} {l : Disk.Bs} (h : Pre d0 t) (f : Full d0 t d t2 own) (he : t.sup.epoch + 1 < 18446744073709551616) (hl : Enc (side (t.sup.epoch + 1)) (leadP (superP t root depth count) t2 own) l) :
    ∀ g : Int → Disk.Bs, (∀ x, x ≠ side (t.sup.epoch + 1) → g x = dur d x) → g (side (t.sup.epoch + 1)) = l → Holds d.n g (leadP (superP t root depth count) t2 own) own (turnP t2.pool) := by
  intro g hg hs
  have hep : (leadP (superP t root depth count) t2 own).epoch = t.sup.epoch + 1 := by show (t.sup.epoch + 1) % 18446744073709551616 = _; omega
  have low : ∀ x ∈ own, g x = dur d x := fun x hx => hg x (by have := (f.out.out x hx).1.low; rcases side_or (t.sup.epoch + 1) with e | e <;> rw [e] <;> omega)
  obtain ⟨ls, c1, c2⟩ := chain_of (g := g) (ls := chunks (layAll t2.pool.free t2.pool.limbo)) (fun x hx e => by have := (f.out.out x hx).1.low; omega) f.many (fun j hj => by rw [low _ (List.getElem_mem hj)]; exact f.enc j hj) own.length 0 rfl (Nat.zero_le _)
  refine ⟨?_, rfl, fun q hq => ?_, ⟨ls, ?_, ?_⟩, f.out.nodup, rfl, rfl, ?_, fun x hx => ?_⟩
  · rw [hep, hs]
    exact Page.dec_of_enc hl (by rw [hep]; exact he)
  · rw [hep, side_two] at hq
    rw [hep]
    rw [hg _ (fun e => side_ne _ e.symm), f.step.L _ (by rcases side_or t.sup.epoch with e | e <;> simp [e])] at hq
    exact h.mine.dec (side_or _) (by omega) hq (dec_epoch hq (side_or _))
  · have e : (leadP (superP t root depth count) t2 own).next = own.getD 0 0 := by
      show own.headD 0 = _
      rcases own with _ | ⟨x, r⟩ <;> rfl
    rw [e]
    exact c1
  · rw [c2, List.drop_zero, Pool.chunks_flat]
    rfl
  · rw [f.step.n]
    exact turn_ok f.step.pk
  · have o := f.out.out x hx
    exact ⟨o.1.low, o.1.top, fun hm => by
      rcases (Pool.layAll_mem _ _ x).1 hm with hm | hm
      · exact o.1.free hm
      · exact o.2 hm⟩
/-- A superblock that is written, yet not synced. -/
structure Mid (d0 : St) (t : T) (d : St) (root : Int) : Prop where
  n : d.n = d0.n
  L : ∀ x, x = 0 ∨ x = 1 ∨ Live t.base x → dur d x = dur d0 x
  fresh : ∀ y, t.fresh y = true → dur d y = d0.get y
  lead : ∃ p l own base, Enc (side (t.sup.epoch + 1)) p l ∧ p.epoch = t.sup.epoch + 1 ∧ p.root = root ∧ (∀ x m, d.C x = some m → x = side (t.sup.epoch + 1) ∧ m = l) ∧
    ∀ g : Int → Disk.Bs, (∀ x, x ≠ side (t.sup.epoch + 1) → g x = dur d x) → g (side (t.sup.epoch + 1)) = l → Holds d.n g p own base
/-- What a commit that is done leaves. -/
structure Made (d0 : St) (t : T) (root : Int) (d : St) (t' : T) : Prop where
  safe : Safe d t'
  epoch : t'.sup.epoch = t.sup.epoch + 1
  root : t'.sup.root = root
  fresh : ∀ y, t.fresh y = true → dur d y = d0.get y
  calm : Calm d0 → Calm d
  n : d.n = d0.n
theorem lead_facts {d0 d d' : St} {t t2 : T} {own : List Int} {root depth count x : Int} (_ : Pre d0 t) (_ : Full d0 t d t2 own) (he : t.sup.epoch + 1 < 18446744073709551616) (hw : WriteR d (((superP t root depth count).epoch % 2 : Nat) : Int) (leadP (superP t root depth count) t2 own) d' x) :
    Writ d (side (t.sup.epoch + 1)) (leadP (superP t root depth count) t2 own) d' x := by
  have g := hw.writ
  have e : (((superP t root depth count).epoch % 2 : Nat) : Int) = side (t.sup.epoch + 1) := by show ((((t.sup.epoch + 1) % 18446744073709551616) % 2 : Nat) : Int) = _; rw [Nat.mod_eq_of_lt he]
  rw [e] at g
  exact g
theorem commit_ends {d0 d' : St} {t t' : T} {root depth count x : Int} (h : Pre d0 t) (he : t.sup.epoch + 1 < 18446744073709551616) (c : CommitR d0 t root depth count d' t' x) :
    (x ≠ 0 ∧ Step d0 t d' t' ∧ (Calm d0 → Calm d')) ∨ (x ≠ 0 ∧ Mid d0 t d' root ∧ ¬ Calm d0) ∨ (x = 0 ∧ Made d0 t root d' t') := by
  rcases c with ⟨_, rfl, rfl, rfl⟩ | ⟨_, ⟨t2, hx, hh, rfl⟩ | ⟨rfl, t2, p, own, r, rfl⟩⟩
  · exact .inl ⟨by decide, h.refl, id⟩
  · cases hh with
    | take ht _ => exact .inl ⟨hx, (reach_one h ht).1.ended h _, id⟩
    | list r hw _ =>
      cases r with
      | take ht =>
        obtain ⟨s1, o1, _, _⟩ := reach_one h ht
        obtain ⟨s2, W⟩ := list_two s1 o1 hw
        exact .inl ⟨hx, s2.ended h _, W.calm⟩
    | sync r hs =>
      cases r with
      | list r hw =>
        cases r with
        | take ht =>
          obtain ⟨s1, o1, _, _⟩ := reach_one h ht
          obtain ⟨s2, W⟩ := list_two s1 o1 hw
          exact .inl ⟨hx, s2.sync.ended h _, fun hc => (sync_calm (W.calm hc)).1⟩
    | lead r hw _ =>
      obtain ⟨f, -⟩ := reach_full h r
      have g := lead_facts h f he hw
      exact .inl ⟨hx, (f.step.cache g.n g.L (fun y hy => absurd (by rw [g.fail hx]) hy)).ended h _, fun hc => g.calm (f.calm hc)⟩
    | @last dd _ _ own r hs =>
      cases r with
      | @lead d1 _ _ _ r hw =>
        obtain ⟨f, -⟩ := reach_full h r
        have g := lead_facts h f he hw
        obtain ⟨l, e1, e2⟩ := g.done rfl
        obtain ⟨k1, k2⟩ := sync_fail hs
        have hd : ∀ y, dur dd.sync y = dur d1 y := fun y => by rw [dur, dur, k1, g.L]
        have hn : dd.sync.n = d1.n := (sync_n _).trans g.n
        refine .inr (.inl ⟨hx, ⟨hn.trans f.step.n, fun y hy => (hd y).trans (f.step.L y hy), fun y hy => (hd y).trans (f.fresh y hy), _, l, own, turnP t2.pool, e1, ?_, rfl, fun y m hm => ?_, fun q hq hs' => ?_⟩, fun hc => hs (sync_calm (g.calm (f.calm hc))).2⟩)
        · show (t.sup.epoch + 1) % 18446744073709551616 = _
          omega
        · rw [k2] at hm
          by_cases e : y = side (t.sup.epoch + 1)
          · rw [e, e2] at hm
            exact ⟨e, (Option.some.inj hm).symm⟩
          · rw [g.C y e, f.C y] at hm
            cases hm
        · rw [hn]
          exact full_new h f he e1 q (fun y hy => (hq y hy).trans (hd y)) hs'
  · cases r with
    | @last dd _ _ _ r hs =>
      cases r with
      | @lead d1 _ _ _ r hw =>
        obtain ⟨f, -⟩ := reach_full h r
        have g := lead_facts h f he hw
        obtain ⟨l, e1, e2⟩ := g.done rfl
        obtain ⟨k1, k2⟩ := sync_done hs
        have hep : (leadP (superP t root depth count) t2 own).epoch = t.sup.epoch + 1 := by show (t.sup.epoch + 1) % 18446744073709551616 = _; omega
        have hn : dd.sync.n = d1.n := (sync_n _).trans g.n
        have hd : ∀ y, y ≠ side (t.sup.epoch + 1) → dur dd.sync y = dur d1 y := fun y hy => by rw [k1, St.get, g.C y hy, f.C y, g.L]; rfl
        have hs2 : dur dd.sync (side (t.sup.epoch + 1)) = l := by rw [k1, St.get, e2]; rfl
        have H := full_new h f he e1 (dur dd.sync) hd hs2
        rw [← hn] at H
        have hk : PoolOk (turnP t2.pool) dd.sync.n := by rw [hn, f.step.n]; exact turn_ok f.step.pk
        have low : ∀ y, t.fresh y = true → y ≠ side (t.sup.epoch + 1) := fun y hy => by
          have := (h.inv.out hy).low
          rcases side_or (t.sup.epoch + 1) with e | e <;> rw [e] <;> omega
        refine .inr (.inr ⟨rfl, ⟨⟨⟨⟨rfl, Int.le_refl _, fun y hy => hy.2.2, fun y hy => by cases hy⟩, hk, hk, by rw [hn, f.step.n]; exact h.nle, fun y hy => absurd (k2 y) hy, ?_, fun y hy => H.live y hy⟩, H, ?_⟩, hep, rfl, fun y hy => (hd y (low y hy)).trans (f.fresh y hy), fun hc => (sync_calm (g.calm (f.calm hc))).1, hn.trans f.step.n⟩⟩)
        · show Elder (dur dd.sync (side (leadP (superP t root depth count) t2 own).epoch)) ((leadP (superP t root depth count) t2 own).epoch + 1)
          rw [hep, hs2, ← hep]
          exact Elder.enc e1 (side_or _)
        · show Elder (dur dd.sync (side ((leadP (superP t root depth count) t2 own).epoch + 1))) (leadP (superP t root depth count) t2 own).epoch
          rw [hep, side_two, hd _ (fun e => side_ne _ e.symm), f.step.L _ (by rcases side_or t.sup.epoch with e | e <;> simp [e])]
          exact h.mine
end Go.Proofs.YthnodkhcenmnfaaGreat.Store
