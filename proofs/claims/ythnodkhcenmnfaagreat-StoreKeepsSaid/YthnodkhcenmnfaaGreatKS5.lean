/-
  Texts of one family, one behind the other: SKeep4, SCommit2, SBegun, SFormat, SLeaf, SEasy.
-/
import Derived.Test.YthnodkhcenmnfaaGreatKS4
import Derived.Test.YthnodkhcenmnfaaGreatKD2
import Derived.Test.YthnodkhcenmnfaaGreatKS2
import Derived.Lib.LaidTab
import Derived.Test.YthnodkhcenmnfaaGreatKP8
namespace Go.Proofs.YthnodkhcenmnfaaGreat.Store
open Go.RowKit Gen
open Disk (St Dev Mod ptr)
open Page (Pg Lay PgOk PgRows pgC pgV Enc IsDec BytesAt)
open Pool (Po NAt PoAt La poC poV numV At takeP giveP backP Fresh PoolOk OwnI chunks layAll May)

theorem dur_lay (d : St) (n : Int) (l : Disk.Bs) (x : Int) : dur (d.lay n l) x = if x = n then l else dur d x := by
  unfold dur St.lay
  show (Disk.upd d.L n _ x).getD _ = _
  rw [Disk.upd]
  split
  · exact dur_laid l
  · rfl
/-- Behind some of the cache kept: a sector holds what it held, or what was cached of it. -/
structure Kept (d d1 : St) : Prop where
  n : d1.n = d.n
  here : ∀ x, dur d1 x = dur d x ∨ d.C x = some (dur d1 x)
  C : ∀ x l, d1.C x = some l → d.C x = some l ∧ dur d1 x = dur d x
theorem Kept.refl (d : St) : Kept d d := ⟨rfl, fun _ => .inl rfl, fun _ _ h => ⟨h, rfl⟩⟩
theorem Kept.keep1 {d d1 : St} (h : Kept d d1) (n : Int) : Kept d (d1.keep1 n) := by
  unfold St.keep1
  cases hc : d1.C n with
  | none => exact h
  | some l =>
    obtain ⟨h1, h2⟩ := h.C n l hc
    have hd : ∀ x, dur { d1.lay n l with C := Disk.upd d1.C n none } x = if x = n then l else dur d1 x := dur_lay d1 n l
    refine ⟨h.n, fun x => ?_, fun x m hx => ?_⟩
    · rw [hd]
      by_cases e : x = n
      · rw [if_pos e, e]; exact .inr h1
      · rw [if_neg e]; exact h.here x
    · have hx' : Disk.upd d1.C n none x = some m := hx
      rw [Disk.upd] at hx'
      rw [hd]
      by_cases e : x = n
      · rw [if_pos e] at hx'; cases hx'
      · rw [if_neg e] at hx' ⊢; exact h.C x m hx'
theorem Kept.keeps {d : St} : ∀ (ks : List Int) {d1 : St}, Kept d d1 → Kept d (d1.keeps ks)
  | [], _, h => h
  | k :: ks, _, h => Kept.keeps ks (h.keep1 k)
/-- Behind a restart: what was, what was cached, or both, torn. -/
theorem restart_dur (d : St) (ks : List Int) (t cut : Int) (x : Int) : dur (d.restart ks t cut) x = dur d x ∨ ∃ l, d.C x = some l ∧ (dur (d.restart ks t cut) x = l ∨ ∃ k, k ≤ 1024 ∧ dur (d.restart ks t cut) x = Disk.torn l (dur d x) k) := by
  have k := Kept.keeps ks (Kept.refl d)
  unfold St.restart
  show dur ((d.keeps ks).tear1 t (Disk.cutN cut)) x = _ ∨ ∃ l, _ ∧ (dur ((d.keeps ks).tear1 t (Disk.cutN cut)) x = _ ∨ ∃ k, _ ∧ dur ((d.keeps ks).tear1 t (Disk.cutN cut)) x = _)
  unfold St.tear1
  cases hc : (d.keeps ks).C t with
  | none =>
    rcases k.here x with h | h
    · exact .inl h
    · exact .inr ⟨_, h, .inl rfl⟩
  | some l =>
    obtain ⟨h1, h2⟩ := k.C t l hc
    rw [dur_lay]
    by_cases e : x = t
    · rw [if_pos e, e]
      refine .inr ⟨l, h1, .inr ⟨Disk.cutN cut, ?_, ?_⟩⟩
      · unfold Disk.cutN; omega
      · show Disk.torn l (dur (d.keeps ks) t) _ = _
        rw [h2]
    · rw [if_neg e]
      rcases k.here x with h | h
      · exact .inl h
      · exact .inr ⟨_, h, .inl rfl⟩
theorem keep1_n (d : St) (n : Int) : (d.keep1 n).n = d.n := by unfold St.keep1; split <;> rfl
theorem keeps_n (d : St) (ks : List Int) : (d.keeps ks).n = d.n := (Kept.keeps ks (Kept.refl d)).n
theorem restart_n (d : St) (ks : List Int) (t cut : Int) : (d.restart ks t cut).n = d.n := by
  unfold St.restart
  show ((d.keeps ks).tear1 t _).n = _
  unfold St.tear1
  split
  · exact keeps_n d ks
  · exact keeps_n d ks
theorem restart_still (d : St) (ks : List Int) (t cut : Int) {x : Int} (h : d.C x = none) : dur (d.restart ks t cut) x = dur d x := by
  rcases restart_dur d ks t cut x with e | ⟨l, e, _⟩
  · exact e
  · rw [h] at e; cases e
/-- Nothing is lost of a store whose superblock is not being written. -/
theorem Step.restart {d d1 : St} {t t1 : T} (s : Step d t d1 t1) (h : Safe d t) (ks : List Int) (k cut : Int) : Holds (d1.restart ks k cut).n (dur (d1.restart ks k cut)) t.sup t.own t.base := by
  rw [restart_n, s.n]
  refine h.holds.congr (fun x hx => ?_)
  rw [restart_still, s.L x hx]
  cases hc : d1.C x with
  | none => rfl
  | some l =>
    have := s.C x (by rw [hc]; simp)
    rcases hx with rfl | rfl | hx
    · omega
    · omega
    · exact absurd hx this.2
/-- .. and of one whose superblock is: it is the last one, or the one that was begun. -/
theorem Mid.restart {d0 d : St} {t : T} {root : Int} (m : Mid d0 t d root) (h : Safe d0 t) (he : t.sup.epoch + 1 < 18446744073709551616) (ks : List Int) (k cut : Int) :
    Holds (d.restart ks k cut).n (dur (d.restart ks k cut)) t.sup t.own t.base ∨ ∃ p own base, p.epoch = t.sup.epoch + 1 ∧ p.root = root ∧ Holds (d.restart ks k cut).n (dur (d.restart ks k cut)) p own base := by
  obtain ⟨p, l, own, base, h1, h2, h3, h4, h5⟩ := m.lead
  have out : ∀ x, x ≠ side (t.sup.epoch + 1) → dur (d.restart ks k cut) x = dur d x := fun x hx => restart_still d ks k cut (by
    cases hc : d.C x with
    | none => rfl
    | some l => exact absurd (h4 x l hc).1 hx)
  have hE : Elder (dur d (side (t.sup.epoch + 1))) t.sup.epoch := by rw [m.L _ (by rcases side_or (t.sup.epoch + 1) with e | e <;> simp [e])]; exact h.other
  have new : dur (d.restart ks k cut) (side (t.sup.epoch + 1)) = l → ∃ p own base, p.epoch = t.sup.epoch + 1 ∧ p.root = root ∧ Holds (d.restart ks k cut).n (dur (d.restart ks k cut)) p own base := fun e =>
    ⟨p, own, base, h2, h3, by rw [restart_n]; exact h5 _ out e⟩
  have old : (∀ q, IsDec (side (t.sup.epoch + 1)) (dur (d.restart ks k cut) (side (t.sup.epoch + 1))) q → q.epoch < t.sup.epoch) → Holds (d.restart ks k cut).n (dur (d.restart ks k cut)) t.sup t.own t.base := fun hq => by
    have low : ∀ x, x = side t.sup.epoch ∨ Live t.base x → dur (d.restart ks k cut) x = dur d0 x := fun x hx => by
      rw [out]
      · exact m.L x (by rcases hx with e | e; exact (side_lit _ _ e).elim .inl (fun e => .inr (.inl e)); exact .inr (.inr e))
      · rcases hx with e | e
        · rw [e]; exact fun e => side_ne _ e.symm
        · have := e.1
          rcases side_or (t.sup.epoch + 1) with e | e <;> rw [e] <;> omega
    obtain ⟨ls, c1, c2⟩ := h.holds.lists
    rw [restart_n, m.n]
    exact ⟨by rw [low _ (.inl rfl)]; exact h.holds.here, h.holds.kind, hq, ⟨ls, c1.congr (fun x hx => low x (.inr (h.holds.live x hx))), c2⟩, h.holds.nodup, h.holds.high, h.holds.limbo, h.holds.ok, h.holds.live⟩
  rcases restart_dur d ks k cut (side (t.sup.epoch + 1)) with e | ⟨l', e, e' | ⟨c, hc, e'⟩⟩
  · exact .inl (old (fun q hq => by rw [e] at hq; exact hE.dec (side_or _) (by omega) hq (dec_epoch hq (side_or _))))
  · exact .inr (new (e'.trans (h4 _ l' e).2))
  · obtain rfl := (h4 _ l' e).2
    have tB := (Page.enc_twin h1 (side_or _)).1
    have hT : Disk.torn l' (dur d (side (t.sup.epoch + 1))) c = l'.take c ++ (dur d (side (t.sup.epoch + 1))).drop c := by
      rw [Disk.torn, Disk.over, List.length_take, tB.len, Nat.min_eq_left hc]
    by_cases hq : ∃ q, IsDec (side (t.sup.epoch + 1)) (dur (d.restart ks k cut) (side (t.sup.epoch + 1))) q
    · obtain ⟨q, hq⟩ := hq
      obtain ⟨tA, oe, ho, h8⟩ := hE
      have hq2 := hq.2
      rw [e', hT] at hq2
      rcases Page.enc_torn h1 (Page.enc_twin h1 (side_or _)).2.1 tA h8 (by omega) (by omega) (by omega) hc hq2 with ⟨r, _⟩ | r
      · refine .inl (old (fun q hq => ?_))
        rw [e', hT, r] at hq
        exact Elder.dec ⟨tA, oe, ho, h8⟩ (side_or _) (by omega) hq (dec_epoch hq (side_or _))
      · exact .inr (new (by rw [e', hT, r]))
    · exact .inl (old (fun q h => absurd ⟨q, h⟩ hq))
/-- What is cached of no page of the last commit is what is read of it. -/
theorem Safe.get {d : St} {t : T} (h : Safe d t) {x : Int} (hx : x = 0 ∨ x = 1 ∨ Live t.base x) : d.get x = dur d x := by
  have : d.C x = none := by
    cases hc : d.C x with
    | none => rfl
    | some l =>
      have := h.pre.C x (by rw [hc]; simp)
      rcases hx with rfl | rfl | hx
      · omega
      · omega
      · exact absurd hx this.2
  rw [St.get, this]
  rfl
theorem Safe.view {d : St} {t : T} (h : Safe d t) : Holds d.n d.get t.sup t.own t.base := h.holds.congr (fun _ hx => h.get hx)
end Go.Proofs.YthnodkhcenmnfaaGreat.Store
namespace Go.Proofs.YthnodkhcenmnfaaGreat.Store
open Go.RowKit Gen
open Disk (St Dev Mod ptr)
open Page (Pg Lay PgOk PgRows pgC pgV Enc IsDec BytesAt)
open Pool (Po NAt PoAt La poC poV numV At takeP giveP backP Fresh PoolOk OwnI chunks layAll)

theorem mod_drop {S : List Nat} {cb : Nat} {w w' : World} (h : Mod (cb :: S) w w') (hc : w.heap.size ≤ cb) : Mod S w w' :=
  ⟨h.os, h.tape, h.output, h.size, fun k hk hn => h.block k hk (fun e => by
    rcases List.mem_cons.1 e with rfl | e
    · omega
    · exact hn e)⟩
theorem superP_ok (t : T) {root depth count : Int} (hr : I64 root) (hd : I64 depth) (hc : I64 count) (hh : I64 t.pool.high) : PgOk (superP t root depth count) :=
  ⟨⟨by show (_ : Int) ≤ 4; omega, by show (4 : Int) ≤ _; omega⟩, Nat.zero_le _, Nat.zero_le _, Nat.zero_le _, Nat.zero_le _, ⟨by show (_ : Int) ≤ 0; omega, by show (0 : Int) ≤ _; omega⟩, Nat.mod_lt _ (by decide), hr, hd, hc, hh⟩
theorem superP_bare (t : T) (root depth count : Int) : Bare (superP t root depth count) := ⟨rfl, rfl, rfl, rfl⟩
theorem row5 (W4 : World) (cb sb : Nat) : RowG (W4.alloc (.cells #[encF (59, cb), encF (60, cb), encF (61, sb), encF (62, cb), encF (61, sb)] 83)).drew encF (some ⟨W4.heap.size, 0, none⟩) (stepsOf cb sb) := fun _ => ⟨W4.heap.size, 0, rfl, by simp, fun k hk => by
  have h := at_new W4 #[encF (59, cb), encF (60, cb), encF (61, sb), encF (62, cb), encF (61, sb)] 83
  have hk' : k < 5 := hk
  rw [Nat.zero_add]
  match k, hk' with
  | 0, _ => exact h.2.2 0 _ rfl
  | 1, _ => exact h.2.2 1 _ rfl
  | 2, _ => exact h.2.2 2 _ rfl
  | 3, _ => exact h.2.2 3 _ rfl
  | 4, _ => exact h.2.2 4 _ rfl⟩
theorem three {w : World} {B : Blk} {d : St} {t : T} {a : Lys} (h : Sto w B d t a) : w.cell? ⟨B.ss, 16, none⟩ = some (.int .i64 t.pool.high) ∧ w.cell? ⟨B.ss, 17, none⟩ = some (.slice a.p.A1 t.pool.free.length a.p.c1) ∧ w.cell? ⟨B.ss, 18, none⟩ = some (.slice a.p.A2 t.pool.limbo.length a.p.c2) := ⟨h.cells.2.1, h.cells.2.2.1, h.cells.2.2.2.1⟩
/-- How far the last commit's lists have been dropped. -/
structure DropRel (B : Blk) (d : St) (t : T) (sp : Pg) (g : Nat) (w2 : World) (a : Lys) (k : Nat) (wr : World) : Prop where
  sto : Has wr B d (dropAll t (t.own.take k))
  mod : Mod B.all w2 wr
  box : At wr g (pgC sp {})
  row : NAt wr a.o t.own.length a.oc t.own
theorem DropRel.more {B : Blk} {d : St} {t : T} {sp : Pg} {g : Nat} {w2 : World} {a : Lys} {k : Nat} {wr w' : World} (h : DropRel B d t sp g w2 a k wr) (hk : k < t.own.length) (hg : g ∉ B.all) (h1 : Has w' B d (dropT (dropAll t (t.own.take k)) t.own[k]).1) (h2 : Mod B.all wr w') (ho : Off B.all a.o) : DropRel B d t sp g w2 a (k + 1) w' :=
  ⟨by rw [dropAll_snoc t t.own k hk]; exact h1, h.mod.trans h2, at_mod h.box h2 hg, nat_mod h.row h2 ho⟩
set_option maxRecDepth 100000 in
set_option maxHeartbeats 8000000 in
theorem commit_any {w : World} {B : Blk} {d : St} {t : T} {a : Lys} (h : Sto w B d t a) (root depth count : Int) (hr : I64 root) (hd : I64 depth) (hc : I64 count) (hn : t.own.length ≤ 100000) (ho : ∀ x ∈ t.own, I64 x) :
    Calls Tryz.prog 29 #[ptr B.ss, .int .i64 root, .int .i64 depth, .int .i64 count] w (Doing B (CommitR d t root depth count) w) := by
  have H := Lib.hid h
  obtain ⟨ep, hep⟩ : ∃ ep, (t.sup.epoch + 1) % 18446744073709551616 = ep := ⟨_, rfl⟩
  obtain ⟨sp, hsp⟩ : ∃ sp, superP t root depth count = sp := ⟨_, rfl⟩
  have HSP := Lib.hid (show PgOk sp ∧ Bare sp from by rw [← hsp]; exact ⟨superP_ok t hr hd hc (pool_i64 h.pk (by have := h.dev.nle; omega)), superP_bare _ _ _ _⟩)
  have ESP := Lib.hid hsp
  have hs2 : sp = { kind := 4, epoch := ep, root := root, depth := depth, count := count, high := t.pool.high } := by rw [← hsp, superP, hep]
  have HN := Lib.hid hn
  have HO := Lib.hid ho
  have HKS := Lib.hid (show ∀ w', Below w.heap.size w w' → w'.cell? ⟨B.ss, 7, none⟩ = some (.int .u64 (t.sup.epoch : Int)) ∧ w'.cell? ⟨B.ss, 16, none⟩ = some (.int .i64 t.pool.high) from fun w' hb => ⟨(h.below hb).super.2.2.2.2.2.2.1, (h.below hb).cells.2.1⟩)
  have hwe : IntKind.u64.wrap ((t.sup.epoch : Int) + 1) = (ep : Int) := by
    rw [← hep]
    show ((t.sup.epoch : Int) + 1) % 18446744073709551616 = _
    omega
  have AB : At (w.alloc (.cells #[.int .i64 4, .slice none 0 0, .slice none 0 0, .slice none 0 0, .slice none 0 0, .int .i64 0, .int .u64 (ep : Int), .int .i64 root, .int .i64 depth, .int .i64 count, .int .i64 t.pool.high] 37)).drew w.heap.size (pgC sp {}) := by
    rw [hs2]
    exact at_new w #[.int .i64 4, .slice none 0 0, .slice none 0 0, .slice none 0 0, .slice none 0 0, .int .i64 0, .int .u64 (ep : Int), .int .i64 root, .int .i64 depth, .int .i64 count, .int .i64 t.pool.high] 37
  have BB : Below w.heap.size w (w.alloc (.cells #[.int .i64 4, .slice none 0 0, .slice none 0 0, .slice none 0 0, .slice none 0 0, .int .i64 0, .int .u64 (ep : Int), .int .i64 root, .int .i64 depth, .int .i64 count, .int .i64 t.pool.high] 37)).drew := (Pool.below_box w _).drew
  clear h hr hd hc hn ho hep hsp hs2
  go_enter Tryz.func29, Tryz.ntmps29
  go_wp2_with fail
  go_region_held3 (fun w' => w'.cell? ⟨B.ss, 7, none⟩ = some (.int .u64 (t.sup.epoch : Int)) ∧ w'.cell? ⟨B.ss, 16, none⟩ = some (.int .i64 t.pool.high))
    (with_reducible (first | exact HKS.out _ (Below.refl _ _).drew | exact HKS.out _ ((Below.refl _ _).alloc (Nat.le_refl _) _).drew | exact HKS.out _ ((Below.refl _ _).alloc (Nat.le_refl _) _) | exact HKS.out _ ((Below.refl _ _).drew.alloc (Nat.le_refl _) _)))
    (first | fail)
  obtain ⟨W1, hW1⟩ : ∃ W1, (w.alloc (.cells #[.int .i64 4, .slice none 0 0, .slice none 0 0, .slice none 0 0, .slice none 0 0, .int .i64 0, .int .u64 (ep : Int), .int .i64 root, .int .i64 depth, .int .i64 count, .int .i64 t.pool.high] 37)).drew = W1 := ⟨_, rfl⟩
  rw [hW1] at AB BB ⊢
  have ABH := Lib.hid AB
  have B1 := Lib.hid BB
  have LP := Lib.hid (load_page (o := 0) AB sp {} rfl)
  have cC := Page.check_any sp {} W1 HSP.out.1 (HSP.out.2.rows _ _)
  clear hW1 AB BB hwe HKS

  generalize hpv : pgV sp {} = pv at *
  go_wp2_with (first | ((with_reducible refine Disk.wpList_load_eq rfl 37 (.tmp 9) rfl _ ?_ LP.out ?_); (next => rfl)))
  refine cC.mono ?_
  rintro e w2 ⟨x, rfl, hx, b2⟩
  have S2 := Lib.hid (H.out.below (B1.out.trans (b2.mono B1.out.size)))
  have M2 := Lib.hid (mod_below (B := B) (B1.out.trans (b2.mono B1.out.size)))
  rcases hx with ⟨rfl, hF⟩ | ⟨rfl, hF⟩
  · subst hpv
    have HF := Lib.hid hF
    have hlo : ∀ x ∈ B.all, x < w.heap.size := H.out.lt
    have hg : w.heap.size ∉ B.all := fun e => Nat.lt_irrefl _ (hlo _ e)
    have HLO := Lib.hid hlo
    have c12 := S2.out.commit.1
    have ST := Lib.hid (show DropRel B d t sp w.heap.size w2 a 0 w2 from ⟨⟨a, S2.out⟩, Mod.refl _ _, ABH.out.below b2 ABH.out.1, S2.out.own⟩)
    obtain ⟨m, hm⟩ : ∃ m, t.own.length = m := ⟨_, rfl⟩
    rw [hm] at c12
    have HM := Lib.hid hm
    have HNG := Lib.hid hg
    clear hF cC b2 LP ABH hlo hg hm
    go_wp2_with fail
    go_loopw [44] (fun i wr => ∃ k : Nat, i = .int .i64 (k : Int) ∧ k ≤ m ∧ Hid (DropRel B d t sp w.heap.size w2 a k wr)) (fun i _ => m - (intOf i).toNat)
    case atStart => exact ⟨0, rfl, Nat.zero_le _, ST⟩
    case round =>
      obtain ⟨k, rfl, hk, R⟩ := hrel
      clear ST c12
      by_cases hlt : k < m
      · have hkl : k < t.own.length := by have := HM.out; omega
        obtain ⟨b, off, e1, hbl, hc⟩ := R.out.row.row (by intro e; rw [e] at hkl; simp at hkl)
        have hcell := hc k hkl
        obtain ⟨a1, s1⟩ := R.out.sto
        have cD := drop_any s1 t.own[k] (HO.out _ (List.getElem_mem hkl))
        have hwr : IntKind.i64.wrap ((k : Int) + 1) = (k : Int) + 1 := IntWalk.i64_in _ (by have := HN.out; omega)
        have HR := Lib.hid (show ∀ w', Has w' B d (dropT (dropAll t (t.own.take k)) t.own[k]).1 → Mod B.all wr w' → DropRel B d t sp w.heap.size w2 a (k + 1) w' from fun w' h1 h2 => R.out.more hkl HNG.out h1 h2 S2.out.ao)
        generalize t.own[k] = y at *
        generalize a.o = AO at *
        obtain rfl := e1
        clear hc s1
        go_wp2_with fail
        refine cD.mono ?_
        rintro e w3 ⟨rfl, h3, m3⟩
        have NEW := Lib.hid (HR.out _ h3 m3)
        clear h3 m3 cD HR
        go_wp2_with fail
        go_roundw
        case rel => exact ⟨k + 1, by go_num, by omega, NEW⟩
        case measure => simp [intOf]; omega
      · obtain ⟨a1, s1⟩ := R.out.sto
        have hkm : t.own.take k = t.own := List.take_of_length_le (by have := HM.out; omega)
        rw [hkm] at s1
        have S3 := Lib.hid s1
        have HKM := Lib.hid hkm
        have cb0 : wr.heap.size ∉ B.all := fun e => Nat.lt_irrefl _ (s1.lt _ e)
        have LP := Lib.hid (load_page (o := 0) R.out.box sp {} rfl)
        obtain ⟨cb, hcb⟩ : ∃ cb, wr.heap.size = cb := ⟨_, rfl⟩
        have b4 := Pool.below_box wr (.cells (draC B sp {} (.slice none 0 0)) 110)
        have A4 := at_new wr (draC B sp {} (.slice none 0 0)) 110
        obtain ⟨W4, hW4⟩ : ∃ W4, wr.alloc (.cells (draC B sp {} (.slice none 0 0)) 110) = W4 := ⟨_, rfl⟩
        rw [hW4, hcb] at A4
        rw [hW4] at b4
        have b5 := b4.trans ((Pool.below_box W4 (.cells #[encF (59, cb), encF (60, cb), encF (61, B.sb), encF (62, cb), encF (61, B.sb)] 83)).drew.mono b4.size)
        have r5 := row5 W4 cb B.sb
        have A5 := A4.below ((Pool.below_box W4 (.cells #[encF (59, cb), encF (60, cb), encF (61, B.sb), encF (62, cb), encF (61, B.sb)] 83)).drew) A4.1
        obtain ⟨W5, hW5⟩ : ∃ W5, (W4.alloc (.cells #[encF (59, cb), encF (60, cb), encF (61, B.sb), encF (62, cb), encF (61, B.sb)] 83)).drew = W5 := ⟨_, rfl⟩
        rw [hW5] at b5 r5 A5
        have h4s : cb < W4.heap.size := A4.1
        have hA : Off (cb :: B.all) (some ⟨W4.heap.size, 0, none⟩) := fun x e hx => by
          cases e
          rcases List.mem_cons.1 hx with e | e
          · simp only at e; omega
          · have := s1.lt _ e; have := b4.size; simp only at *; omega
        have co : CoAt wr cb B d (dropAll t t.own) sp {} (some ⟨W4.heap.size, 0, none⟩) (stepsOf cb B.sb) 0 W5 := ⟨d, dropAll t t.own, a1, sp, .slice none 0 0, [], {
          reach := .start
          dr := ⟨s1.below b5, A5, fun x hx => by rw [← hcb]; exact s1.lt x hx, OwnG.nil _ _ _ _, SepB.new s1 (Nat.le_of_eq hcb)⟩
          row := r5, fr := Fr.of_mod (mod_below b5), ok := HSP.out.1, bare := HSP.out.2, i64 := fun x hx => (by cases hx), len := by simp, zero := fun _ => rfl }⟩
        have cS := steps_any (c := 5) hA co
        have KD := Lib.hid (show ∀ w', Below W4.heap.size W4 w' → w'.cell? ⟨B.ss, 0, none⟩ = some (ptr B.sb) from fun w' hb => (s1.below (b4.trans (hb.mono b4.size))).cells.1)
        have K4 := Lib.hid (KD.out W4.drew (Below.refl _ _).drew)
        have K5 := Lib.hid (show W5.cell? ⟨B.ss, 0, none⟩ = some (ptr B.sb) from (s1.below b5).cells.1)
        have MW := Lib.hid (M2.out.trans R.out.mod)
        have hcbw : wr.heap.size ≤ cb := Nat.le_of_eq hcb
        clear b4 A4 r5 A5 hA co s1 R hk hkm b5
        rw [← hW5] at cS K5
        have hmf : ∀ (fn : Fn) (first cap : Array Value) (w : World), (Instr.makeFunc fn first cap).run Tryz.prog w = .ok (.func fn first cap) w := fun _ _ _ _ => rfl
        go_wp2_with (first | ((with_reducible refine Disk.wpList_load_eq rfl 37 (.tmp 9) rfl _ ?_ LP.out ?_); (next => rfl)))
        have K5' := K5
        clear K5 hW5 hW4 LP hlt
        refine wp_region_held (S := fun w' => w'.cell? ⟨B.ss, 0, none⟩ = some (ptr B.sb)) (by kernel_rfl) ?_
        change wpAnyH _ _ _ _ _ _ _ _ W4.drew
        have hSR := K4.out
        refine wpAnyH_take (i := 0) (v := ?_) rfl (by kernel_rfl) (by kernel_rfl) (by kernel_rfl) (fun _ _ _ h => h) (Or.inl ⟨by rfl, ?_⟩) hSR ?_
        rotate_left
        · (intro w' hSw; (try dsimp only at hSw); go_simp; (try with_reducible rfl))
        simp only [Act.put]
        refine wpAnyH_take (i := 1) (v := ?_) rfl (by kernel_rfl) (by kernel_rfl) (by kernel_rfl) (fun _ _ _ h => h) (Or.inl ⟨by rfl, ?_⟩) hSR ?_
        rotate_left
        · (intro w' hSw; (try dsimp only at hSw); go_simp; (try with_reducible rfl))
        simp only [Act.put]
        refine wpAnyH_take (i := 2) (v := ?_) rfl (by kernel_rfl) (by kernel_rfl) (by kernel_rfl) (fun _ _ _ h => h) (Or.inl ⟨by rfl, ?_⟩) hSR ?_
        rotate_left
        · (intro w' hSw; (try dsimp only at hSw); go_simp; (try with_reducible rfl))
        simp only [Act.put]
        refine wpAnyH_take (i := 3) (v := ?_) rfl (by kernel_rfl) (by kernel_rfl) (by kernel_rfl) (fun _ _ _ h => h) (Or.inl ⟨by rfl, ?_⟩) hSR ?_
        rotate_left
        · (intro w' hSw; (try dsimp only at hSw); go_simp; (try with_reducible rfl))
        simp only [Act.put]
        refine wpAnyH_take (i := 4) (v := ?_) rfl (by kernel_rfl) (by kernel_rfl) (by kernel_rfl) (fun _ _ _ h => h) (Or.inl ⟨by rfl, ?_⟩) hSR ?_
        rotate_left
        · (intro w' hSw; (try dsimp only at hSw); go_simp; (try with_reducible rfl))
        simp only [Act.put]
        refine wpAnyH_take (i := 5) (v := ?_) rfl (by kernel_rfl) (by kernel_rfl) (by kernel_rfl) (fun _ _ _ h => h) (Or.inl ⟨by rfl, ?_⟩) hSR ?_
        rotate_left
        · (intro w' hSw; (try dsimp only at hSw); go_simp; (try with_reducible rfl))
        simp only [Act.put]
        refine wpAnyH_take (i := 6) (v := ?_) rfl (by kernel_rfl) (by kernel_rfl) (by kernel_rfl) (fun _ _ _ h => h) (Or.inl ⟨by rfl, ?_⟩) hSR ?_
        rotate_left
        · (intro w' hSw; (try dsimp only at hSw); go_simp; (try with_reducible rfl))
        simp only [Act.put]
        refine wpAnyH_take (i := 7) (v := ?_) rfl (by kernel_rfl) (by kernel_rfl) (by kernel_rfl) (fun _ _ _ h => h) (Or.inl ⟨by rfl, ?_⟩) hSR ?_
        rotate_left
        · (intro w' hSw; (try dsimp only at hSw); go_simp; (try with_reducible rfl))
        simp only [Act.put]
        refine wpAnyH_take (i := 8) (v := ?_) rfl (by kernel_rfl) (by kernel_rfl) (by kernel_rfl) (fun _ _ _ h => h) (Or.inl ⟨by rfl, ?_⟩) hSR ?_
        rotate_left
        · (intro w' hSw; (try dsimp only at hSw); go_simp; (try with_reducible rfl))
        simp only [Act.put]
        refine wpAnyH_take (i := 9) (v := ?_) rfl (by kernel_rfl) (by kernel_rfl) (by kernel_rfl) (fun _ _ _ h => h) (Or.inl ⟨by rfl, ?_⟩) hSR ?_
        rotate_left
        · (intro w' hSw; (try dsimp only at hSw); go_simp; (try with_reducible rfl))
        simp only [Act.put]
        refine wpAnyH_take (i := 10) (v := ?_) rfl (by kernel_rfl) (by kernel_rfl) (by kernel_rfl) (fun _ _ _ h => h) (Or.inl ⟨by rfl, ?_⟩) hSR ?_
        rotate_left
        · (intro w' hSw; (try dsimp only at hSw); go_simp; (try with_reducible rfl))
        simp only [Act.put]
        refine wpAnyH_take (i := 11) (v := ?_) rfl (by kernel_rfl) (by kernel_rfl) (by kernel_rfl) (fun _ _ _ h => h) (Or.inl ⟨by rfl, ?_⟩) hSR ?_
        rotate_left
        · (intro w' hSw; (try dsimp only at hSw); go_simp; (try with_reducible rfl))
        simp only [Act.put]
        refine wpAnyH_take (i := 12) (v := ?_) rfl (by kernel_rfl) (by kernel_rfl) (by kernel_rfl) (fun _ _ _ h => h) (Or.inl ⟨by rfl, ?_⟩) hSR ?_
        rotate_left
        · (intro w' hSw; (try dsimp only at hSw); go_simp; (try with_reducible rfl))
        simp only [Act.put]
        refine wpAnyH_take (i := 13) (v := ?_) rfl (by kernel_rfl) (by kernel_rfl) (by kernel_rfl) (fun _ _ _ h => h) (Or.inl ⟨by rfl, ?_⟩) hSR ?_
        rotate_left
        · (intro w' hSw; (try dsimp only at hSw); go_simp; (try with_reducible rfl))
        simp only [Act.put]
        refine wpAnyH_take (i := 14) (v := ?_) rfl (by kernel_rfl) (by kernel_rfl) (by kernel_rfl) (fun _ _ _ h => h) (Or.inl ⟨by rfl, ?_⟩) hSR ?_
        rotate_left
        · (intro w' hSw; (try dsimp only at hSw); go_simp; (try with_reducible rfl))
        simp only [Act.put]
        refine wpAnyH_take (i := 15) (v := ?_) rfl (by kernel_rfl) (by kernel_rfl) (by kernel_rfl) (fun _ _ _ h => h) (Or.inl ⟨by rfl, ?_⟩) hSR ?_
        rotate_left
        · (intro w' hSw; (try dsimp only at hSw); go_simp; (try with_reducible rfl))
        simp only [Act.put]
        refine wpAnyH_ready (rs := [16]) (by kernel_rfl) (by simp) (AllReadyH.cons rfl (fun K hK => ?_) AllReadyH.nil)
        go_simp
        refine hK.out _ _ K5'.out (fun hSR => ?_)
        clear hK K
        refine wpAnyH_ready (rs := [17]) (by kernel_rfl) (by simp) (AllReadyH.cons rfl (fun K hK => ?_) AllReadyH.nil)
        go_simp
        refine cS.mono ?_
        rintro e w6 ⟨x, rfl, hz, hnz⟩
        have HZ := Lib.hid hz
        have HNZ := Lib.hid hnz
        have K6 := Lib.hid (show w6.cell? ⟨B.ss, 0, none⟩ = some (ptr B.sb) from by
          by_cases e : x = 0
          · obtain ⟨_, _, _, _, _, _, g⟩ := HZ.out e
            exact g.dr.sto.cells.1
          · obtain ⟨_, _, _, ⟨_, g⟩, _⟩ := HNZ.out e
            exact g.cells.1)
        clear hz hnz
        refine hK.out _ _ K6.out (fun hSR => ?_)
        clear hK K
        refine wpAnyH_take (i := 18) (v := ?_) rfl (by kernel_rfl) (by kernel_rfl) (by kernel_rfl) (fun _ _ _ h => h) (Or.inl ⟨by rfl, ?_⟩) hSR ?_
        rotate_left
        · (intro w' hSw; (try dsimp only at hSw); go_simp; (try with_reducible rfl))
        simp only [Act.put]
        refine wpAnyH_done (by kernel_rfl) ?_ _
        clear hSR
        by_cases h0 : x = 0
        · have d1 : (x != 0) = false := by simp [h0]
          obtain ⟨d', t2, a2, p2, v2, own2, g⟩ := HZ.out h0
          obtain ⟨A2, c2, rfl, hN2⟩ := own_shape g.dr.own
          have KS := Lib.hid (show ∀ w', At w' cb (draC B p2 {} (.slice A2 own2.length c2)) → (w'.cell? ⟨B.ss, 16, none⟩ = some (.int .i64 t2.pool.high) ∧ w'.cell? ⟨B.ss, 17, none⟩ = some (.slice a2.p.A1 t2.pool.free.length a2.p.c1) ∧ w'.cell? ⟨B.ss, 18, none⟩ = some (.slice a2.p.A2 t2.pool.limbo.length a2.p.c2)) → w'.cell? ⟨cb, 1, none⟩ = some (.int .i64 p2.kind) ∧ w'.cell? ⟨cb, 2, none⟩ = some (.slice none p2.pairs.length 0) ∧ w'.cell? ⟨cb, 3, none⟩ = some (.slice none p2.keys.length 0) ∧ w'.cell? ⟨cb, 4, none⟩ = some (.slice none p2.kids.length 0) ∧ w'.cell? ⟨cb, 5, none⟩ = some (.slice none p2.pages.length 0) ∧ w'.cell? ⟨cb, 6, none⟩ = some (.int .i64 p2.next) ∧ w'.cell? ⟨cb, 7, none⟩ = some (.int .u64 (p2.epoch : Int)) ∧ w'.cell? ⟨cb, 8, none⟩ = some (.int .i64 p2.root) ∧ w'.cell? ⟨cb, 9, none⟩ = some (.int .i64 p2.depth) ∧ w'.cell? ⟨cb, 10, none⟩ = some (.int .i64 p2.count) ∧ w'.cell? ⟨cb, 11, none⟩ = some (.int .i64 p2.high) ∧ w'.cell? ⟨cb, 12, none⟩ = some (.slice A2 own2.length c2) ∧ w'.cell? ⟨B.ss, 16, none⟩ = some (.int .i64 t2.pool.high) ∧ w'.cell? ⟨B.ss, 17, none⟩ = some (.slice a2.p.A1 t2.pool.free.length a2.p.c1) ∧ w'.cell? ⟨B.ss, 18, none⟩ = some (.slice a2.p.A2 t2.pool.limbo.length a2.p.c2) from fun w' h1 h2 => ⟨h1.2.2 1 _ rfl, h1.2.2 2 _ rfl, h1.2.2 3 _ rfl, h1.2.2 4 _ rfl, h1.2.2 5 _ rfl, h1.2.2 6 _ rfl, h1.2.2 7 _ rfl, h1.2.2 8 _ rfl, h1.2.2 9 _ rfl, h1.2.2 10 _ rfl, h1.2.2 11 _ rfl, h1.2.2 12 _ rfl, h2.1, h2.2.1, h2.2.2⟩)
          have K7 := Lib.hid (KS.out w6.drew (g.dr.box.below (Below.refl _ _).drew g.dr.box.1) (three (g.dr.sto.below (Below.refl _ _).drew)))
          have cT := Pool.turn_full t2.pool a2.p w6.drew (g.dr.sto.below (Below.refl _ _).drew).pool g.dr.sto.few.1 g.dr.sto.few.2
          unfold poV poC at cT
          have G := Lib.hid g
          have HN2 := Lib.hid hN2
          have EQ := Lib.hid (show numV 0 = numV x from by rw [h0])
          clear h0 g hN2 K6 K5' K4 KD cS HZ HNZ
          go_wp2_with fail
          refine wp_region_held (S := fun w' => w'.cell? ⟨cb, 1, none⟩ = some (.int .i64 p2.kind) ∧ w'.cell? ⟨cb, 2, none⟩ = some (.slice none p2.pairs.length 0) ∧ w'.cell? ⟨cb, 3, none⟩ = some (.slice none p2.keys.length 0) ∧ w'.cell? ⟨cb, 4, none⟩ = some (.slice none p2.kids.length 0) ∧ w'.cell? ⟨cb, 5, none⟩ = some (.slice none p2.pages.length 0) ∧ w'.cell? ⟨cb, 6, none⟩ = some (.int .i64 p2.next) ∧ w'.cell? ⟨cb, 7, none⟩ = some (.int .u64 (p2.epoch : Int)) ∧ w'.cell? ⟨cb, 8, none⟩ = some (.int .i64 p2.root) ∧ w'.cell? ⟨cb, 9, none⟩ = some (.int .i64 p2.depth) ∧ w'.cell? ⟨cb, 10, none⟩ = some (.int .i64 p2.count) ∧ w'.cell? ⟨cb, 11, none⟩ = some (.int .i64 p2.high) ∧ w'.cell? ⟨cb, 12, none⟩ = some (.slice A2 own2.length c2) ∧ w'.cell? ⟨B.ss, 16, none⟩ = some (.int .i64 t2.pool.high) ∧ w'.cell? ⟨B.ss, 17, none⟩ = some (.slice a2.p.A1 t2.pool.free.length a2.p.c1) ∧ w'.cell? ⟨B.ss, 18, none⟩ = some (.slice a2.p.A2 t2.pool.limbo.length a2.p.c2)) (by kernel_rfl) ?_
          change wpAnyH _ _ _ _ _ _ _ _ w6.drew
          have hSR := K7.out
          refine wpAnyH_take (i := 0) (v := ?_) rfl (by kernel_rfl) (by kernel_rfl) (by kernel_rfl) (fun _ _ _ h => h) (Or.inl ⟨by rfl, ?_⟩) hSR ?_
          rotate_left
          · (intro w' hSw; (try dsimp only at hSw); go_simp; (try with_reducible rfl))
          simp only [Act.put]
          refine wpAnyH_take (i := 1) (v := ?_) rfl (by kernel_rfl) (by kernel_rfl) (by kernel_rfl) (fun _ _ _ h => h) (Or.inl ⟨by rfl, ?_⟩) hSR ?_
          rotate_left
          · (intro w' hSw; (try dsimp only at hSw); go_simp; (try with_reducible rfl))
          simp only [Act.put]
          refine wpAnyH_take (i := 2) (v := ?_) rfl (by kernel_rfl) (by kernel_rfl) (by kernel_rfl) (fun _ _ _ h => h) (Or.inl ⟨by rfl, ?_⟩) hSR ?_
          rotate_left
          · (intro w' hSw; (try dsimp only at hSw); go_simp; (try with_reducible rfl))
          simp only [Act.put]
          refine wpAnyH_take (i := 3) (v := ?_) rfl (by kernel_rfl) (by kernel_rfl) (by kernel_rfl) (fun _ _ _ h => h) (Or.inl ⟨by rfl, ?_⟩) hSR ?_
          rotate_left
          · (intro w' hSw; (try dsimp only at hSw); go_simp; (try with_reducible rfl))
          simp only [Act.put]
          refine wpAnyH_take (i := 4) (v := ?_) rfl (by kernel_rfl) (by kernel_rfl) (by kernel_rfl) (fun _ _ _ h => h) (Or.inl ⟨by rfl, ?_⟩) hSR ?_
          rotate_left
          · (intro w' hSw; (try dsimp only at hSw); go_simp; (try with_reducible rfl))
          simp only [Act.put]
          refine wpAnyH_take (i := 5) (v := ?_) rfl (by kernel_rfl) (by kernel_rfl) (by kernel_rfl) (fun _ _ _ h => h) (Or.inl ⟨by rfl, ?_⟩) hSR ?_
          rotate_left
          · (intro w' hSw; (try dsimp only at hSw); go_simp; (try with_reducible rfl))
          simp only [Act.put]
          refine wpAnyH_take (i := 6) (v := ?_) rfl (by kernel_rfl) (by kernel_rfl) (by kernel_rfl) (fun _ _ _ h => h) (Or.inl ⟨by rfl, ?_⟩) hSR ?_
          rotate_left
          · (intro w' hSw; (try dsimp only at hSw); go_simp; (try with_reducible rfl))
          simp only [Act.put]
          refine wpAnyH_take (i := 7) (v := ?_) rfl (by kernel_rfl) (by kernel_rfl) (by kernel_rfl) (fun _ _ _ h => h) (Or.inl ⟨by rfl, ?_⟩) hSR ?_
          rotate_left
          · (intro w' hSw; (try dsimp only at hSw); go_simp; (try with_reducible rfl))
          simp only [Act.put]
          refine wpAnyH_take (i := 8) (v := ?_) rfl (by kernel_rfl) (by kernel_rfl) (by kernel_rfl) (fun _ _ _ h => h) (Or.inl ⟨by rfl, ?_⟩) hSR ?_
          rotate_left
          · (intro w' hSw; (try dsimp only at hSw); go_simp; (try with_reducible rfl))
          simp only [Act.put]
          refine wpAnyH_take (i := 9) (v := ?_) rfl (by kernel_rfl) (by kernel_rfl) (by kernel_rfl) (fun _ _ _ h => h) (Or.inl ⟨by rfl, ?_⟩) hSR ?_
          rotate_left
          · (intro w' hSw; (try dsimp only at hSw); go_simp; (try with_reducible rfl))
          simp only [Act.put]
          refine wpAnyH_take (i := 10) (v := ?_) rfl (by kernel_rfl) (by kernel_rfl) (by kernel_rfl) (fun _ _ _ h => h) (Or.inl ⟨by rfl, ?_⟩) hSR ?_
          rotate_left
          · (intro w' hSw; (try dsimp only at hSw); go_simp; (try with_reducible rfl))
          simp only [Act.put]
          refine wpAnyH_take (i := 11) (v := ?_) rfl (by kernel_rfl) (by kernel_rfl) (by kernel_rfl) (fun _ _ _ h => h) (Or.inl ⟨by rfl, ?_⟩) hSR ?_
          rotate_left
          · (intro w' hSw; (try dsimp only at hSw); go_simp; (try with_reducible rfl))
          simp only [Act.put]
          refine wpAnyH_take (i := 12) (v := ?_) rfl (by kernel_rfl) (by kernel_rfl) (by kernel_rfl) (fun _ _ _ h => h) (Or.inl ⟨by rfl, ?_⟩) hSR ?_
          rotate_left
          · (intro w' hSw; (try dsimp only at hSw); go_simp; (try with_reducible rfl))
          simp only [Act.put]
          refine wpAnyH_ready (rs := [13]) (by kernel_rfl) (by simp) (AllReadyH.cons rfl (fun K hK => ?_) AllReadyH.nil)
          go_simp
          refine cT.mono ?_
          rintro e w8 ⟨c, rfl, hp, hb, hlo, hnone⟩
          have B8 := Lib.hid ((Below.refl w6.heap.size w6).drew.trans (hb.mono (Nat.le_refl _)))
          have S8 := Lib.hid (G.out.dr.sto.below B8.out)
          have A8 := Lib.hid (G.out.dr.box.below B8.out G.out.dr.box.1)
          have K8 := Lib.hid (KS.out w8 A8.out (three S8.out))
          have HC := Lib.hid (show OffP B.all c from ⟨G.out.dr.sto.off (n := w6.heap.size) (Nat.le_refl _) (fun y e => by have h1 : w6.heap.size + 2 ≤ y.block := hlo y e; omega), fun y e => by rw [hnone] at e; cases e⟩)
          have R := Lib.hid (store_at (o := 1) (c := comC p2 own2 (turnP t2.pool) { a2 with s := {}, o := A2, oc := c2, b := c }) S8.out.box (by simp) size_commit (by simp [Value.oneCell']))
          have hcbn : cb ≠ B.ss := fun e => by have := G.out.dr.low B.ss (by simp [Blk.all]); omega
          have M9 := Lib.hid ((mod_puts (comC p2 own2 (turnP t2.pool) { a2 with s := {}, o := A2, oc := c2, b := c }).toList 1 w8 B.ss))
          have S9 := Lib.hid (S8.out.withBox (t' := { t2 with sup := p2, own := own2, base := turnP t2.pool }) (a' := { a2 with s := {}, o := A2, oc := c2, b := c }) M9.out (at_over S8.out.box (by simp) rfl) rfl (HN2.out.below B8.out) hp S8.out.pool (fun y e hy => by
            obtain ⟨A0, n0, c0, e0, _, hA0⟩ := Pool.own_nums G.out.dr.own
            cases e0
            have h1 := hA0 y e
            have h2 := G.out.dr.low _ hy
            omega) HC.out S8.out.ap G.out.ok G.out.bare (turn_ok S8.out.pk) S8.out.pk)
          have K9 := Lib.hid (KS.out _ (at_mod A8.out M9.out (by simpa using hcbn)) ⟨S9.out.cells.2.1, S9.out.cells.2.2.1, S9.out.cells.2.2.2.1⟩)
          have cB := begin_any S9.out
          have M68 := Lib.hid (show Mod B.all w6 (w8.setCells B.ss 1 (comC p2 own2 (turnP t2.pool) { a2 with s := {}, o := A2, oc := c2, b := c }).toList) from (mod_below B8.out).trans (Mod.mono M9.out (fun y hy => by rw [List.mem_singleton] at hy; rw [hy]; simp [Blk.all])))
          have FIN := Lib.hid (show ∀ w', Has w' B d' (abortT { t2 with sup := p2, own := own2, base := turnP t2.pool }) → Mod B.all (w8.setCells B.ss 1 (comC p2 own2 (turnP t2.pool) { a2 with s := {}, o := A2, oc := c2, b := c }).toList) w' → CommitR d t root depth count d' (newT t2 p2 own2) 0 ∧ Has w' B d' (newT t2 p2 own2) ∧ Mod B.all w w' from fun w' h1 h2 => ⟨.inr ⟨by rw [ESP.out]; exact HF.out, .inr ⟨rfl, t2, p2, own2, by rw [ESP.out]; exact G.out.reach, rfl⟩⟩, h1, MW.out.trans ((mod_drop G.out.fr hcbw).trans (M68.out.trans h2))⟩)
          obtain ⟨W9, hW9⟩ : ∃ W9, w8.setCells B.ss 1 (comC p2 own2 (turnP t2.pool) { a2 with s := {}, o := A2, oc := c2, b := c }).toList = W9 := ⟨_, rfl⟩
          rw [hW9] at R K9 cB FIN
          clear hW9 M68 S9 M9 hcbn HC A8 S8 B8 HN2 G KS cT hp hb hlo hnone K7
          clear hSR
          refine hK.out _ _ K8.out (fun hSR => ?_)
          clear hK K
          refine wpAnyH_take (i := 14) (v := ?_) rfl (by kernel_rfl) (by kernel_rfl) (by kernel_rfl) (fun _ _ _ h => h) (Or.inl ⟨by rfl, ?_⟩) hSR ?_
          rotate_left
          · (intro w' hSw; (try dsimp only at hSw); go_simp; (try with_reducible rfl))
          simp only [Act.put]
          refine wpAnyH_take (i := 15) (v := ?_) rfl (by kernel_rfl) (by kernel_rfl) (by kernel_rfl) (fun _ _ _ h => h) (Or.inl ⟨by rfl, ?_⟩) hSR ?_
          rotate_left
          · (intro w' hSw; (try dsimp only at hSw); go_simp; (try with_reducible rfl))
          simp only [Act.put]
          refine wpAnyH_take (i := 16) (v := ?_) rfl (by kernel_rfl) (by kernel_rfl) (by kernel_rfl) (fun _ _ _ h => h) (Or.inl ⟨by rfl, ?_⟩) hSR ?_
          rotate_left
          · (intro w' hSw; (try dsimp only at hSw); go_simp; (try with_reducible rfl))
          simp only [Act.put]
          refine wpAnyH_ready (rs := [17]) (by kernel_rfl) (by simp) (AllReadyH.cons rfl (fun K hK => ?_) AllReadyH.nil)
          refine step_store_eq (by rfl) 78 (.tmp 95) (.tmp 93) (by rfl) (by rfl) (by rfl) R.out ?_
          refine hK.out _ _ K9.out (fun hSR => ?_)
          clear hK K
          simp only [Act.put]
          refine wpAnyH_done (by kernel_rfl) ?_ _
          clear hSR R K8 K9
          go_wp2_with fail
          refine cB.mono ?_
          rintro e w10 ⟨rfl, h10, m10⟩
          have FF := Lib.hid (FIN.out w10 h10 m10)
          clear h10 m10 cB FIN
          go_wp2_with fail
          go_ret
          exact ⟨d', newT t2 p2 own2, 0, rfl, FF.out⟩
        · have d1 : (x != 0) = true := by simp [h0]
          obtain ⟨d', t', hh, ⟨a6, s6⟩, f6⟩ := HNZ.out h0
          have cE := ended_any s6 x
          have FIN := Lib.hid (show ∀ w', Has w' B d' (endT t' x) → Mod B.all w6 w' → CommitR d t root depth count d' (endT t' x) x ∧ Has w' B d' (endT t' x) ∧ Mod B.all w w' from fun w' h1 h2 => ⟨.inr ⟨by rw [ESP.out]; exact HF.out, .inl ⟨t', h0, by rw [ESP.out]; exact hh, rfl⟩⟩, h1, MW.out.trans ((mod_drop f6 hcbw).trans h2)⟩)
          clear h0 hh s6 f6 K6 K5' K4 KD cS HZ HNZ
          go_wp2_with fail
          refine cE.mono ?_
          rintro e w7 ⟨rfl, h7, m7⟩
          have FF := Lib.hid (FIN.out w7 h7 m7)
          clear h7 m7 cE FIN
          go_wp2_with fail
          go_ret
          exact ⟨d', endT t' x, x, rfl, FF.out⟩
  · have FIN := Lib.hid (show CommitR d t root depth count d t 50 ∧ Has w2 B d t ∧ Mod B.all w w2 from ⟨.inl ⟨by rw [ESP.out]; exact hF, rfl, rfl, rfl⟩, ⟨_, S2.out⟩, M2.out⟩)
    clear hF cC
    go_wp2_with fail
    go_ret
    exact ⟨d, t, 50, rfl, FIN.out⟩
end Go.Proofs.YthnodkhcenmnfaaGreat.Store
namespace Go.Proofs.YthnodkhcenmnfaaGreat.Store
open Go.RowKit Gen
open Disk (St Dev Mod ptr)
open Page (Pg Lay PgOk PgRows pgC pgV Enc IsDec BytesAt)
open Pool (Po NAt PoAt La poC poV numV At takeP giveP backP Fresh PoolOk May)

/-- A store that is begun behind a commit. -/
def openT (sup : Pg) (own : List Int) (base : Po) : T := { sup := sup, own := own, base := base, pool := base, fresh := fun _ => false }
/-- Whole commits are read. -/
theorem load_com {w : World} {b : Nat} {sup : Pg} {own : List Int} {base : Po} {a : Lys} (h : At w b (comC sup own base a)) : (Instr.loadAt 78 (.pointer (some ⟨b, 0, none⟩))).run Tryz.prog w = .ok (.agg (comC sup own base a)) w :=
  load_at h Tryz.underlying78 rfl size_commit rfl
set_option maxRecDepth 100000 in
set_option maxHeartbeats 4000000 in
theorem begun_walk (w : World) (sb : Nat) (sup : Pg) (own : List Int) (base : Po) (a : Lys) :
    Calls Tryz.prog 32 #[ptr sb, .agg (comC sup own base a)] w (fun e w' => e = .returned (ptr (w.heap.size + 2)) ∧
      w' = ((w.alloc (.cells (comC sup own base a) 78)).alloc (.map #[] 0)).alloc (.cells (stoC (openT sup own base) { ss := w.heap.size + 2, sb := sb, bl := 0, bc := 0, bf := w.heap.size + 1 } { a with p := a.b }) 81)) := by
  have hmm := @run_makeMap Tryz.prog
  go_enter Tryz.func32, Tryz.ntmps32
  go_wp2_with fail
  go_ret
  exact ⟨rfl, rfl⟩
theorem begun_any {w : World} {sb bl bc : Nat} {d : St} {sup : Pg} {own : List Int} {base : Po} {a : Lys} (hd : Dev w sb bl bc d) (ho : NAt w a.o own.length a.oc own) (hb : PoAt w base a.b) (hok : PgOk sup) (hbr : Bare sup) (hk : PoolOk base d.n)
    (ao : Off [sb, bl, bc] a.o) (ab : OffP [sb, bl, bc] a.b) (lo : ∀ x, a.o = some x → x.block < w.heap.size) (l1 : ∀ x, a.b.A1 = some x → x.block < w.heap.size) (l2 : ∀ x, a.b.A2 = some x → x.block < w.heap.size) :
    Calls Tryz.prog 32 #[ptr sb, .agg (comC sup own base a)] w (fun e w' => ∃ B : Blk, e = .returned (ptr B.ss) ∧ B.sb = sb ∧ B.bl = bl ∧ B.bc = bc ∧ w.heap.size ≤ B.ss ∧ w.heap.size ≤ B.bf ∧ Sto w' B d (openT sup own base) { a with p := a.b } ∧ Below w.heap.size w w') := by
  refine (begun_walk w sb sup own base a).mono ?_
  rintro e w' ⟨rfl, rfl⟩
  refine ⟨{ ss := w.heap.size + 2, sb := sb, bl := bl, bc := bc, bf := w.heap.size + 1 }, rfl, rfl, rfl, rfl, by simp, by simp, ?_, ?_⟩
  · have s1 : (w.alloc (.cells (comC sup own base a) 78)).heap.size = w.heap.size + 1 := World.size_alloc _ _
    have s2 : ((w.alloc (.cells (comC sup own base a) 78)).alloc (.map #[] 0)).heap.size = w.heap.size + 2 := by rw [World.size_alloc, s1]
    have b2 : Below w.heap.size w ((w.alloc (.cells (comC sup own base a) 78)).alloc (.map #[] 0)) := ((Below.refl _ _).alloc (Nat.le_refl _) _).alloc (by simp) _
    have f2 := FMap.made (w.alloc (.cells (comC sup own base a) 78)) d.n
    rw [s1] at f2
    generalize (w.alloc (.cells (comC sup own base a) 78)).alloc (.map #[] 0) = W2 at *
    have b3 := b2.trans ((Pool.below_box W2 (.cells (stoC (openT sup own base) { ss := w.heap.size + 2, sb := sb, bl := bl, bc := bc, bf := w.heap.size + 1 } { a with p := a.b }) 81)).mono b2.size)
    have A3 := at_new W2 (stoC (openT sup own base) { ss := w.heap.size + 2, sb := sb, bl := bl, bc := bc, bf := w.heap.size + 1 } { a with p := a.b }) 81
    rw [s2] at A3
    have k1 := hd.lt
    have k2 := hd.last.lt
    have k3 := hd.cache.lt
    have off : ∀ A : Option Addr, Off [sb, bl, bc] A → (∀ x, A = some x → x.block < w.heap.size) → Off (Blk.all { ss := w.heap.size + 2, sb := sb, bl := bl, bc := bc, bf := w.heap.size + 1 }) A := fun A h1 h2 x e hx => by
      have h3 := h1 x e
      have h4 := h2 x e
      simp only [Blk.all, List.mem_cons, List.not_mem_nil, or_false, not_or] at hx h3
      omega
    have f3 := f2.of_block ((Pool.below_box W2 (.cells (stoC (openT sup own base) { ss := w.heap.size + 2, sb := sb, bl := bl, bc := bc, bf := w.heap.size + 1 } { a with p := a.b }) 81)).block _ (by rw [s2]; omega))
    exact { box := A3, dev := hd.below b3, fr := f3, n1 := (by simp; omega), n2 := (by simp; omega), own := ho.below b3, base := hb.below b3, pool := hb.below b3, ao := off _ ao lo, ab := ⟨off _ ab.1 l1, off _ ab.2 l2⟩, ap := ⟨off _ ab.1 l1, off _ ab.2 l2⟩, ok := hok, bare := hbr, bk := hk, pk := hk }
  · exact (((Below.refl _ _).alloc (Nat.le_refl _) _).alloc (by simp) _).alloc (by simp; omega) _
end Go.Proofs.YthnodkhcenmnfaaGreat.Store
namespace Go.Proofs.YthnodkhcenmnfaaGreat.Store
open Go.RowKit Gen
open Disk (St Dev Mod ptr)
open Page (Pg Lay PgOk PgRows pgC pgV Enc IsDec BytesAt)
open Pool (Po NAt PoAt La poC poV numV At takeP giveP backP Fresh PoolOk)

/-- A store that has no commit yet. -/
def noneT : T := openT { kind := 0 } [] { high := 2 }
theorem none_ok : PgOk { kind := 0 } := ⟨⟨by show (_ : Int) ≤ 0; omega, by show (0 : Int) ≤ _; omega⟩, Nat.zero_le _, Nat.zero_le _, Nat.zero_le _, Nat.zero_le _, ⟨by show (_ : Int) ≤ 0; omega, by show (0 : Int) ≤ _; omega⟩, by decide, ⟨by show (_ : Int) ≤ 0; omega, by show (0 : Int) ≤ _; omega⟩, ⟨by show (_ : Int) ≤ 0; omega, by show (0 : Int) ≤ _; omega⟩, ⟨by show (_ : Int) ≤ 0; omega, by show (0 : Int) ≤ _; omega⟩, ⟨by show (_ : Int) ≤ 0; omega, by show (0 : Int) ≤ _; omega⟩⟩
theorem two_ok {N : Int} (h : 2 ≤ N) : PoolOk { high := 2 } N := ⟨by show (2 : Int) ≤ 2; omega, h, List.Pairwise.nil, List.Pairwise.nil, fun x hx => (by cases hx), fun x hx => (by cases hx), fun x hx => (by cases hx)⟩
/-- What Format does. -/
def FormatR (sb bl bc : Nat) (d : St) (w : World) (e : Ending) (w' : World) : Prop := ∃ d' t' x, CommitR d noneT 0 0 0 d' t' x ∧ Mod [sb, bl, bc] w w' ∧
  ((x ≠ 0 ∧ e = .returned (.tuple #[.pointer none, numV x])) ∨ (x = 0 ∧ ∃ B : Blk, e = .returned (.tuple #[ptr B.ss, numV 0]) ∧ B.sb = sb ∧ B.bl = bl ∧ B.bc = bc ∧ w.heap.size ≤ B.ss ∧ w.heap.size ≤ B.bf ∧ Has w' B d' t'))
set_option maxRecDepth 100000 in
set_option maxHeartbeats 8000000 in
theorem format_any {w : World} {sb bl bc : Nat} {d : St} (h : Dev w sb bl bc d) (hn : 2 ≤ d.n) : Calls Tryz.prog 11 #[ptr sb] w (FormatR sb bl bc d w) := by
  have cB := begun_any (sup := { kind := 0 }) (own := []) (base := { high := 2 }) (a := {}) h (NAt.none _) ⟨NAt.none _, NAt.none _⟩ none_ok ⟨rfl, rfl, rfl, rfl⟩ (two_ok (by omega)) (Off.none _) ⟨Off.none _, Off.none _⟩ (fun x e => by cases e) (fun x e => by cases e) (fun x e => by cases e)
  clear h hn
  go_enter Tryz.func11, Tryz.ntmps11
  go_wp2_with fail
  refine cB.mono ?_
  rintro e w1 ⟨B, rfl, h1, h2, h3, h4, h5, h6, h7⟩
  have hz : I64 0 := ⟨by omega, by omega⟩
  have cC := commit_any h6 0 0 0 hz hz hz (by show 0 ≤ 100000; omega) (fun x hx => by cases hx)
  have FIN := Lib.hid (show ∀ w' d' t' x, CommitR d noneT 0 0 0 d' t' x → Has w' B d' t' → Mod B.all w1 w' → ((x ≠ 0 → FormatR sb bl bc d w (.returned (.tuple #[.pointer none, numV x])) w') ∧ (x = 0 → FormatR sb bl bc d w (.returned (.tuple #[ptr B.ss, numV 0])) w')) from fun w' d' t' x g1 g2 g3 => by
    have m : Mod [sb, bl, bc] w w' := ⟨g3.os.trans h7.os, g3.tape.trans h7.tape, g3.output.trans h7.output, Nat.le_trans h7.size g3.size, fun k hk hn => (g3.block k (Nat.lt_of_lt_of_le hk h7.size) (fun e => by
      simp only [Blk.all, List.mem_cons, List.not_mem_nil, or_false, h1, h2, h3] at e hn
      omega)).trans (h7.block k hk)⟩
    exact ⟨fun hx => ⟨d', t', x, g1, m, .inl ⟨hx, rfl⟩⟩, fun hx => ⟨d', t', x, g1, m, .inr ⟨hx, B, rfl, h1, h2, h3, h4, h5, g2⟩⟩⟩)
  clear h1 h2 h3 h4 h5 h6 h7 cB
  go_wp2_with fail
  refine cC.mono ?_
  rintro e w2 ⟨d', t', x, rfl, g1, g2, g3⟩
  have F := Lib.hid (FIN.out w2 d' t' x g1 g2 g3)
  clear g1 g2 g3 cC FIN
  by_cases hx : x = 0
  · have d1 : (x != 0) = false := by simp [hx]
    have FF := Lib.hid (F.out.2 hx)
    clear hx F
    go_wp2_with fail
    go_ret2
    exact FF.out
  · have d1 : (x != 0) = true := by simp [hx]
    have FF := Lib.hid (F.out.1 hx)
    clear hx F
    go_wp2_with fail
    go_ret2
    exact FF.out
end Go.Proofs.YthnodkhcenmnfaaGreat.Store
namespace Go.Proofs.YthnodkhcenmnfaaGreat.Store
open Go.RowKit Gen
open Disk (St Dev Mod ptr)
open Page (Pg Lay PgOk PgRows pgC pgV Enc IsDec BytesAt strV)
open Pool (Po NAt PoAt La poC poV numV At)

/-- A leaf of one key. -/
def leafP (k : Disk.Bs) : Pg := { kind := 1, pairs := [(k, [49])] }
def leafL (n : Nat) : Lay := { A1 := some ⟨n, 0, none⟩, c1 := 1 }
set_option maxRecDepth 100000 in
set_option maxHeartbeats 4000000 in
theorem leaf_any (k : Disk.Bs) (w : World) : Calls Tryz.prog 27 #[strV k] w (fun e w' => e = .returned (pgV (leafP k) (leafL (w.heap.size + 1))) ∧ PgRows w' (leafP k) (leafL (w.heap.size + 1)) ∧ Below w.heap.size w w') := by
  have b1 := Pool.below_box w (.cells pgZ 37)
  have A1 := at_new w pgZ 37
  have s1 : (w.alloc (.cells pgZ 37)).heap.size = w.heap.size + 1 := World.size_alloc _ _
  have b2 := Pool.below_box (w.alloc (.cells pgZ 37)) (.cells #[strV k, strV [49]] 66)
  have A2 := at_new (w.alloc (.cells pgZ 37)) #[strV k, strV [49]] 66
  rw [s1] at A2
  have A3 := A1.below b2 A1.1
  have B2 := b1.trans (b2.mono b1.size)
  have R := Lib.hid (store_page (o := 0) A3 (leafP k) (leafL (w.heap.size + 1)) (by simp))
  have A4 := at_over (vs := (pgC (leafP k) (leafL (w.heap.size + 1))).toList) (C' := pgC (leafP k) (leafL (w.heap.size + 1))) (o := 0) A3 (by simp) rfl
  have L := Lib.hid (var_page (o := 0) A4 (leafP k) (leafL (w.heap.size + 1)) rfl)
  have B4 := Lib.hid (B2.grown (grown_puts (pgC (leafP k) (leafL (w.heap.size + 1))).toList 0 _ w.heap.size) B2.size (fun k hk => by cases hk; exact Nat.le_refl _))
  have A5 := at_mod (S := [w.heap.size]) A2 ((Mod.refl [w.heap.size] _).grown (grown_puts (pgC (leafP k) (leafL (w.heap.size + 1))).toList 0 _ w.heap.size) (fun k hk => .inl (by cases hk; simp))) (by simp)
  have RW := Lib.hid (show PgRows (((w.alloc (.cells pgZ 37)).alloc (.cells #[strV k, strV [49]] 66)).setCells w.heap.size 0 (pgC (leafP k) (leafL (w.heap.size + 1))).toList) (leafP k) (leafL (w.heap.size + 1)) from
    ⟨fun _ => ⟨w.heap.size + 1, 0, rfl, A5.1, fun j hj => by
      obtain rfl : j = 0 := by simp [leafP] at hj; omega
      exact ⟨A5.2.2 0 _ rfl, A5.2.2 1 _ rfl⟩⟩, fun h => absurd rfl h, fun h => absurd rfl h, fun h => absurd rfl h⟩)
  clear b1 A1 b2 A2 A3 B2 A4 A5
  obtain ⟨W1, hW1⟩ : ∃ W1, w.alloc (.cells pgZ 37) = W1 := ⟨_, rfl⟩
  rw [hW1] at R L B4 RW s1
  obtain ⟨W2, hW2⟩ : ∃ W2, W1.alloc (.cells #[strV k, strV [49]] 66) = W2 := ⟨_, rfl⟩
  rw [hW2] at R L B4 RW
  generalize W2.setCells w.heap.size 0 (pgC (leafP k) (leafL (w.heap.size + 1))).toList = W9 at *
  have e49 : strV [49] = .string { data := #[49] } := rfl
  rw [e49] at hW2
  unfold pgZ at hW1
  go_enter Tryz.func27, Tryz.ntmps27
  go_wp2_with (first | ((with_reducible refine Disk.wpList_store_eq rfl 37 (.tmp 2) (.tmp 6) rfl _ _ ?_ ?_ R.out ?_); (next => rfl); (next => rfl)))
  refine bodyPost_ret (results_c rfl rfl L.out) rfl ?_
  exact ⟨rfl, RW.out, B4.out⟩
end Go.Proofs.YthnodkhcenmnfaaGreat.Store
namespace Go.Proofs.YthnodkhcenmnfaaGreat.Store
open Go.RowKit Gen
open Disk (St Dev Mod ptr)
open Page (Pg Lay PgOk PgRows pgC pgV Enc IsDec BytesAt strV)
open Pool (Po NAt PoAt La poC poV numV At takeP giveP backP Fresh PoolOk OwnI chunks layAll May)

theorem takes_nil {N : Int} {t t2 : T} {own : List Int} {x : Int} (h : Takes N t [] t2 own x) (hm : many t.pool = 0) : t2 = t ∧ own = [] ∧ x = 0 := by
  cases h with
  | done _ => exact ⟨rfl, rfl, rfl⟩
  | fail h _ => rw [hm] at h; exact absurd h (by simp)
  | step h _ _ => rw [hm] at h; exact absurd h (by simp)
theorem writes_nil {ls : List (List Int)} {d d' : St} {x : Int} (h : Writes [] ls d 0 d' x) : d' = d ∧ x = 0 := by
  cases h with
  | done _ => exact ⟨rfl, rfl⟩
  | fail h _ _ => exact absurd h (by simp)
  | step h _ _ => exact absurd h (by simp)
theorem calm_write {d : St} (h : Calm d) {n : Int} (h0 : 0 ≤ n) (h1 : n < d.n) {l : Disk.Bs} (hl : l.length = 1024) : d.writeE n l = 0 := by
  have hh : d.has n = true := by unfold St.has; simp; omega
  have hb : d.bad n l.length = false := by unfold St.bad; rw [hh, hl]; rfl
  unfold St.writeE
  rw [h.1, hb, h.act.2]
  rfl
theorem enc_super {s : Int} (hs : s = 0 ∨ s = 1) {p : Pg} (hf : Page.Fine p) (hk : p.kind = 4) : ∃ l, Enc s p l := ⟨_, hf, .inl ⟨hk, hs, rfl⟩⟩
theorem enc_other {s : Int} (hs : Page.Place s) {p : Pg} (hf : Page.Fine p) (hk : p.kind ≠ 4) : ∃ l, Enc s p l := ⟨_, hf, .inr ⟨hk, hs, rfl⟩⟩
/-- A page that may be is written to a calm device. -/
theorem writeR_calm {d d' : St} {n : Int} {p : Pg} {x : Int} (h : WriteR d n p d' x) (hc : Calm d) (h0 : 0 ≤ n) (h1 : n < d.n) (he : ∃ l, Enc n p l) : x = 0 := by
  rcases h with ⟨l, hl, rfl, rfl⟩ | ⟨hno, -, -⟩
  · exact calm_write hc h0 h1 (Page.enc_len hl)
  · obtain ⟨l, hl⟩ := he
    exact absurd hl (hno l)
theorem fine_super {p : Pg} (hk : p.kind = 4) (h : Page.SuperOk p) (hb : Bare p) : Page.Fine p := (Page.fine4 hk).2 ⟨h, by rw [hb.pairs]; rfl, by rw [hb.keys]; rfl, by rw [hb.kids]; rfl, by rw [hb.pages]; rfl⟩
theorem fine_leaf {k : Disk.Bs} (h0 : 1 ≤ k.length) (h1 : k.length ≤ 48) : Page.Fine (leafP k) := by
  refine (Page.fine1 rfl).2 ⟨⟨by simp [leafP], fun x hx => ?_, fun s hs => ?_, fun j hj => ?_⟩, rfl, rfl, rfl, rfl, rfl, rfl, rfl, rfl, rfl⟩
  · simp only [leafP, List.mem_singleton] at hx; subst hx; show 1 ≤ 100; omega
  · simp only [leafP, List.map_cons, List.map_nil, List.mem_singleton] at hs; subst hs; exact ⟨h0, h1⟩
  · simp [leafP] at hj
/-- A commit without lists, of a calm device. -/
theorem commit_few {d d' : St} {t t' : T} {root depth count x : Int} (h : CommitR d t root depth count d' t' x) (hc : Calm d) (hn : 2 ≤ d.n) (ho : t.own = []) (hm : many t.pool = 0) (hf : Page.SuperOk (superP t root depth count)) :
    x = 0 ∧ t' = newT t (leadP (superP t root depth count) t []) [] := by
  have hsp := fine_super (p := superP t root depth count) rfl hf (superP_bare _ _ _ _)
  have hd : dropAll t t.own = t := by rw [ho]; rfl
  have hle : ∃ l, Enc (((superP t root depth count).epoch % 2 : Nat) : Int) (leadP (superP t root depth count) t []) l := enc_super (by omega) (fine_super (p := leadP (superP t root depth count) t []) rfl ⟨hf.root, .inl rfl, hf.high, hf.depth, hf.dz, hf.count, hf.cz⟩ ⟨rfl, rfl, rfl, rfl⟩) rfl
  rcases h with ⟨hno, -⟩ | ⟨-, ⟨t2, hx, hh, rfl⟩ | ⟨rfl, t2, p, own, r, rfl⟩⟩
  · exact absurd hsp hno
  · exfalso
    rw [hd] at hh
    cases hh with
    | take ht h => exact h (takes_nil ht hm).2.2
    | list r hw h =>
      cases r with
      | take ht =>
        obtain ⟨-, rfl, -⟩ := takes_nil ht hm
        exact h (writes_nil hw).2
    | sync r h =>
      cases r with
      | list r hw =>
        cases r with
        | take ht =>
          obtain ⟨-, rfl, -⟩ := takes_nil ht hm
          obtain ⟨rfl, -⟩ := writes_nil hw
          exact h (sync_calm hc).2
    | lead r hw h =>
      cases r with
      | sync r hs =>
        cases r with
        | list r hw0 =>
          cases r with
          | take ht =>
            obtain ⟨rfl, rfl, -⟩ := takes_nil ht hm
            obtain ⟨rfl, -⟩ := writes_nil hw0
            exact h (writeR_calm hw (sync_calm hc).1 (by omega) (by rw [sync_n]; omega) hle)
    | last r h =>
      cases r with
      | lead r hw =>
        cases r with
        | sync r hs =>
          cases r with
          | list r hw0 =>
            cases r with
            | take ht =>
              obtain ⟨rfl, rfl, -⟩ := takes_nil ht hm
              obtain ⟨rfl, -⟩ := writes_nil hw0
              exact h (sync_calm (hw.writ.calm (sync_calm hc).1)).2
  · refine ⟨rfl, ?_⟩
    rw [hd] at r
    cases r with
    | last r hs2 =>
      cases r with
      | lead r hw =>
        cases r with
        | sync r hs =>
          cases r with
          | list r hw0 =>
            cases r with
            | take ht =>
              obtain ⟨rfl, rfl, -⟩ := takes_nil ht hm
              rfl
theorem fresh_calm (n : Nat) : Calm (St.fresh n) := ⟨rfl, rfl⟩
theorem none_pre {n : Nat} (h0 : 2 ≤ n) (h1 : n ≤ 4096) : Pre (St.fresh n) noneT :=
  ⟨⟨rfl, Int.le_refl _, fun x hx => hx.2.2, fun x hx => by cases hx⟩, two_ok (by show (2 : Int) ≤ (n : Int); omega), two_ok (by show (2 : Int) ≤ (n : Int); omega), h1, fun x hx => absurd rfl hx, Elder.zeros (by decide), fun x hx => by cases hx⟩
theorem none_dec {n : Nat} {s : Int} (hs : s = 0 ∨ s = 1) (q : Pg) : ¬ IsDec s ((St.fresh n).get s) q := fun h => by
  have h8 := (Page.enc_twin h.2 hs).2.2.1
  exact absurd h8 (by show ¬ Disk.zeros[8]? = some 4; decide)
/-- A page is laid on a calm device. -/
theorem lay_calm {d d' : St} {t t' t2 : T} {old m n e : Int} {p : Pg} (h : LayR d t old p d' t' n e) (hp : placeT t d.n old = (t2, m, 0)) (hc : Calm d) (hf : Page.Fine p) (hk : p.kind ≠ 4) (h0 : 2 ≤ m) (h1 : m < d.n) (h2 : d.n ≤ 4096) :
    n = m ∧ e = 0 ∧ t' = t2 ∧ Calm d' ∧ d'.n = d.n ∧ ∃ l, Enc m p l ∧ d'.get m = l := by
  have e2 : ∃ l, Enc 2 p l := enc_other ⟨by omega, by omega⟩ hf hk
  have em : ∃ l, Enc m p l := enc_other ⟨h0, by omega⟩ hf hk
  rcases h with ⟨hno, -⟩ | ⟨-, ⟨hx, -⟩ | ⟨-, x, hw, hx⟩⟩
  · obtain ⟨l, hl⟩ := e2
    exact absurd hl (hno l)
  · rw [hp] at hx; exact absurd rfl hx
  · rw [hp] at hw hx
    obtain rfl := writeR_calm hw hc (by show 0 ≤ m; omega) h1 em
    have g := hw.writ
    obtain ⟨l, hl, hC⟩ := g.done rfl
    rcases hx with ⟨-, rfl, rfl, rfl⟩ | ⟨hx, -⟩
    · exact ⟨rfl, rfl, rfl, g.calm hc, g.n, l, hl, by rw [St.get, hC]; rfl⟩
    · exact absurd rfl hx
/-- Behind Format. -/
theorem format_ok {n : Nat} (h0 : 2 ≤ n) (h1 : n ≤ 4096) {d' : St} {t' : T} {x : Int} (h : CommitR (St.fresh n) noneT 0 0 0 d' t' x) : x = 0 ∧ t' = newT noneT (leadP (superP noneT 0 0 0) noneT []) [] ∧ Safe d' t' ∧ Calm d' ∧ d'.n = n := by
  obtain ⟨rfl, rfl⟩ := commit_few h (fresh_calm n) h0 rfl rfl ⟨.inl rfl, .inl rfl, ⟨by show (2 : Int) ≤ 2; omega, by show (2 : Int) ≤ 4096; omega⟩, ⟨by show (0 : Int) ≤ 0; omega, by show (0 : Int) ≤ 20; omega⟩, ⟨fun _ => rfl, fun _ => rfl⟩, ⟨by show (0 : Int) ≤ 0; omega, by show (0 : Int) ≤ 2147483647; omega⟩, ⟨fun _ => rfl, fun _ => rfl⟩⟩
  rcases commit_ends (none_pre h0 h1) (by show 0 + 1 < _; omega) h with ⟨hx, -⟩ | ⟨hx, -⟩ | ⟨-, m⟩
  · exact absurd rfl hx
  · exact absurd rfl hx
  · exact ⟨rfl, rfl, m.safe, m.calm (fresh_calm n), m.n⟩
end Go.Proofs.YthnodkhcenmnfaaGreat.Store
