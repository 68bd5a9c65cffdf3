/-
  Texts of one family, one behind the other: SNewest3, SOpen1, SOn, TSmall, TCmp, TSearch, TParted.
-/
import Derived.Test.YtboaamaneeodfaaGreatKS6
import Derived.Test.YtboaamaneeodfaaGreatKP8
import Derived.Test.YtboaamaneeodfaaGreatKS5
import Derived.Test.YtboaamaneeodfaaGreatKQ3
import Derived.Test.YtboaamaneeodfaaGreatKS2
import Derived.Laws.Externs
import Derived.Lib.Bytealg
import Derived.Deep.RegionHeld3
namespace Go.Proofs.YtboaamaneeodfaaGreat.Store
open Go.RowKit Gen
open Disk (St Dev Mod ptr)
open Page (Pg Lay PgOk PgRows pgC pgV Enc IsDec BytesAt)
open Pool (Po NAt PoAt La poC poV numV At takeP giveP backP Fresh PoolOk)

theorem dec_bare {s : Int} {u : Disk.Bs} {p : Pg} (h : IsDec s u p) (hs : s = 0 ∨ s = 1) : Bare p ∧ p.kind = 4 := by
  have k4 := (Page.enc_twin h.2 hs).2.1
  have hf := (Page.fine4 k4).1 h.2.1
  exact ⟨⟨List.eq_nil_of_length_eq_zero hf.2.1, List.eq_nil_of_length_eq_zero hf.2.2.1, List.eq_nil_of_length_eq_zero hf.2.2.2.1, List.eq_nil_of_length_eq_zero hf.2.2.2.2⟩, k4⟩
/-- What newest tells. -/
def NewestR (d : St) (w : World) (e : Ending) (w' : World) : Prop := Below w.heap.size w w' ∧
  ((∃ p y s, (s = 0 ∨ s = 1) ∧ e = .returned (.tuple #[pgV p y, numV 0]) ∧ PgOk p ∧ Bare p ∧ IsDec s (d.readB s) p ∧ ∀ s' q, (s' = 0 ∨ s' = 1) → IsDec s' (d.readB s') q → q.epoch ≤ p.epoch) ∨
   (e = .returned (.tuple #[zeroPg, numV 70]) ∧ ∀ s q, (s = 0 ∨ s = 1) → ¬ IsDec s (d.readB s) q))
/-- What has been found in some sectors. -/
structure Found (d : St) (k : Nat) (l : List (Pg × Lay)) : Prop where
  len : l.length ≤ k
  all : ∀ x ∈ l, PgOk x.1 ∧ Bare x.1 ∧ ∃ s : Nat, s < k ∧ IsDec (s : Int) (d.readB (s : Int)) x.1
  has : ∀ (s : Nat) q, s < k → IsDec (s : Int) (d.readB (s : Int)) q → ∃ x ∈ l, x.1 = q
theorem Found.skip {d : St} {k : Nat} {l : List (Pg × Lay)} (h : Found d k l) (hn : ∀ q, ¬ IsDec (k : Int) (d.readB (k : Int)) q) : Found d (k + 1) l :=
  ⟨by have := h.len; omega, fun x hx => by
    obtain ⟨a, b, s, c, e⟩ := h.all x hx
    exact ⟨a, b, s, by omega, e⟩, fun s q hs hq => by
    rcases Nat.lt_or_ge s k with g | g
    · exact h.has s q g hq
    · obtain rfl : s = k := by omega
      exact absurd hq (hn q)⟩
theorem Found.more {d : St} {k : Nat} {l : List (Pg × Lay)} {p : Pg} {y : Lay} (h : Found d k l) (hk : k ≤ 1) (hok : PgOk p) (hd : IsDec (k : Int) (d.readB (k : Int)) p) : Found d (k + 1) (l ++ [(p, y)]) :=
  ⟨by have := h.len; simp; omega, fun x hx => by
    rcases List.mem_append.1 hx with hx | hx
    · obtain ⟨a, b, s, c, e⟩ := h.all x hx
      exact ⟨a, b, s, by omega, e⟩
    · rw [List.mem_singleton] at hx
      rw [hx]
      exact ⟨hok, (dec_bare hd (by omega)).1, k, by omega, hd⟩, fun s q hs hq => by
    rcases Nat.lt_or_ge s k with g | g
    · obtain ⟨x, hx, e⟩ := h.has s q g hq
      exact ⟨x, List.mem_append_left _ hx, e⟩
    · obtain rfl : s = k := by omega
      exact ⟨_, List.mem_append_right _ (List.mem_singleton.2 rfl), Page.dec_fun hd hq⟩⟩
theorem newest_of {d : St} {l : List (Pg × Lay)} (h : Found d 2 l) {p : Pg} {y : Lay} (hm : (p, y) ∈ l) (hmax : ∀ x ∈ l, x.1.epoch ≤ p.epoch) : PgOk p ∧ Bare p ∧ ∃ s : Int, (s = 0 ∨ s = 1) ∧ IsDec s (d.readB s) p ∧ ∀ s' q, (s' = 0 ∨ s' = 1) → IsDec s' (d.readB s') q → q.epoch ≤ p.epoch := by
  obtain ⟨h1, h2, s, h3, h4⟩ := h.all _ hm
  refine ⟨h1, h2, (s : Int), by omega, h4, fun s' q hs hq => ?_⟩
  obtain ⟨n, rfl, hn⟩ : ∃ n : Nat, s' = (n : Int) ∧ n < 2 := by
    rcases hs with rfl | rfl
    · exact ⟨0, rfl, by omega⟩
    · exact ⟨1, rfl, by omega⟩
  obtain ⟨x, hx, e⟩ := h.has n q hn hq
  rw [← e]
  exact hmax x hx
structure NeRel (W0 : World) (d : St) (k : Nat) (v : Value) (l : List (Pg × Lay)) (wr : World) : Prop where
  below : Below W0.heap.size W0 wr
  own : OwnPg wr W0.heap.size v l
  found : Found d k l
set_option maxRecDepth 100000 in
set_option maxHeartbeats 8000000 in
theorem newest_any {w : World} {sb bl bc : Nat} {d : St} (h : Dev w sb bl bc d) (h0 : d.readE 0 = 0) (h1 : d.readE 1 = 0) : Calls Tryz.prog 43 #[ptr sb] w (NewestR d w) := by
  have HE := Lib.hid (show ∀ k : Nat, k < 2 → d.readE (k : Int) = 0 from fun k hk => by
    rcases (show k = 0 ∨ k = 1 by omega) with rfl | rfl
    · exact h0
    · exact h1)
  have B1 := Lib.hid (Pool.below_box w (.cells pgZ 82))
  have A1 := Lib.hid (at_new w pgZ 82)
  have H := Lib.hid (h.below B1.out)
  obtain ⟨W0, hW0⟩ : ∃ W0, w.alloc (.cells pgZ 82) = W0 := ⟨_, rfl⟩
  rw [hW0] at H B1 A1
  have ST := Lib.hid (show NeRel W0 d 0 (.slice none 0 0) [] W0 from ⟨Below.refl _ _, OwnPg.nil _ _, ⟨Nat.le_refl _, fun x hx => (by cases hx), fun s q hs => absurd hs (Nat.not_lt_zero s)⟩⟩)
  clear h h0 h1
  unfold pgZ at hW0
  go_enter Tryz.func43, Tryz.ntmps43
  go_wp2_with fail
  clear hW0
  go_loopw [4, 8] (fun v i wr => ∃ (k : Nat) (l : List (Pg × Lay)) (A : Option Addr) (c : Nat), v = .slice A l.length c ∧ i = .int .i64 (k : Int) ∧ k ≤ 2 ∧ Hid (NeRel W0 d k (.slice A l.length c) l wr)) (fun _ i _ => 2 - (intOf i).toNat)
  case atStart => exact ⟨0, [], none, 0, rfl, rfl, by omega, ST⟩
  case round =>
    obtain ⟨k, l, A, c, rfl, rfl, hk, R⟩ := hrel
    clear ST
    by_cases hlt : k < 2
    · have cR := read_any (H.out.below R.out.below) (k : Int)
      have hwr : IntKind.i64.wrap ((k : Int) + 1) = (k : Int) + 1 := IntWalk.i64_in _ (by omega)
      go_wp2_with fail
      refine cR.mono ?_
      rintro e w2 ⟨b2, ⟨hne, rfl⟩ | ⟨_, ⟨p, y, rfl, hrow, hok, hdec, hnew⟩ | ⟨rfl, hno⟩⟩⟩
      · exact absurd (HE.out k hlt) hne
      · have BB := Lib.hid (R.out.below.trans (b2.mono R.out.below.size))
        have b3 := Pool.below_box w2 (.cells (pgC p y) 82)
        have P := Lib.hid (put_page w2 p y)
        have L := Lib.hid (load_page (o := 0) (at_new w2 (pgC p y) 82) p y rfl)
        have O3 := R.out.own.below (lo := 0) (b2.trans (b3.mono b2.size)) rfl
        have B3 := Lib.hid (BB.out.trans (b3.mono BB.out.size))
        obtain ⟨v', W', hrun, ho', hg', hv'⟩ := append_page (w2.alloc (.cells (pgC p y) 82)) W0.heap.size _ l O3 p y (by have := R.out.found.len; omega) B3.out.size
        have B4 := Lib.hid (B3.out.grown hg' B3.out.size (fun g hg => hv' g hg))
        obtain ⟨A', c', rfl, -⟩ := ho'.row
        have NEW := Lib.hid (show NeRel W0 d (k + 1) (.slice A' (l ++ [(p, y)]).length c') (l ++ [(p, y)]) W' from ⟨B4.out, ho', R.out.found.more (by omega) hok hdec⟩)
        clear hrow hok hdec hnew b2 b3 O3 ho' hg' hv' B3 B4 BB cR
        obtain ⟨W3, hW3⟩ : ∃ W3, w2.alloc (.cells (pgC p y) 82) = W3 := ⟨_, rfl⟩
        rw [hW3] at P L hrun
        clear hW3
        have el : (l ++ [(p, y)]).length = l.length + 1 := by simp
        rw [el] at hrun NEW
        unfold pgC at hrun
        have RUN := Lib.hid hrun
        clear hrun
        go_wp2_with (first | ((with_reducible refine Disk.wpList_store_eq rfl 82 (.tmp 6) (.tmp 15) rfl _ _ ?_ ?_ P.out ?_); (next => rfl); (next => rfl)) | ((with_reducible refine Disk.wpList_load_eq rfl 82 (.tmp 6) rfl _ ?_ L.out ?_); (next => rfl)) | ((with_reducible refine wpList_append_eq rfl (.tmp 23) (.tmp 25) 130 rfl ?_ ?_ RUN.out ?_); (next => rfl); (next => rfl)))
        go_roundw
        case rel => exact ⟨k + 1, l ++ [(p, y)], A', c', by rw [el], by go_num, by omega, by rw [el]; exact NEW⟩
        case measure => simp [intOf]; omega
      · have NEW := Lib.hid (show NeRel W0 d (k + 1) (.slice A l.length c) l (w2.alloc (.cells (pgC { kind := 0 } {}) 82)) from ⟨(R.out.below.trans (b2.mono R.out.below.size)).alloc (by have := R.out.below.size; have := b2.size; omega) _, (R.out.own.below (lo := 0) b2 rfl).below (lo := 0) (Pool.below_box w2 _) rfl, R.out.found.skip hno⟩)
        have P := Lib.hid (put_page w2 { kind := 0 } {})
        obtain ⟨W3, hW3⟩ : ∃ W3, w2.alloc (.cells (pgC { kind := 0 } {}) 82) = W3 := ⟨_, rfl⟩
        rw [hW3] at P NEW
        clear hW3 b2 hno cR
        go_wp2_with (first | ((with_reducible refine Disk.wpList_store_eq rfl 82 (.tmp 6) (.tmp 15) rfl _ _ ?_ ?_ P.out ?_); (next => rfl); (next => rfl)))
        go_roundw
        case rel => exact ⟨k + 1, l, A, c, rfl, by go_num, by omega, NEW⟩
        case measure => simp [intOf]; omega
    · have hk2 : k = 2 := by omega
      subst hk2
      have BW := Lib.hid (B1.out.trans (R.out.below.mono B1.out.size))
      have AZ := Lib.hid (A1.out.below R.out.below A1.out.1)
      obtain ⟨A0, c0, e0, hrow⟩ := R.out.own.row
      cases e0
      match l, hrow, R with
      | [], _, R =>
        rw [show ([] : List (Pg × Lay)).length = 0 from rfl]
        have AZ1 := Lib.hid AZ.out
        have BW1 := Lib.hid BW.out
        have R2 := Lib.hid (store_page (o := 0) AZ1.out { kind := 0 } {} (by simp))
        have A4 := at_over (vs := (pgC { kind := 0 } {}).toList) (C' := pgC { kind := 0 } {}) (o := 0) AZ1.out (by simp) rfl
        have L3 := Lib.hid (var_page (o := 0) A4 { kind := 0 } {} rfl)
        have B4 := Lib.hid (BW1.out.grown (grown_puts (pgC { kind := 0 } {}).toList 0 _ w.heap.size) BW1.out.size (fun k hk => by cases hk; exact Nat.le_refl _))
        clear A4 AZ AZ1
        generalize World.setCells _ w.heap.size 0 (pgC { kind := 0 } {}).toList = W9 at *
        go_wp2_with (first | ((with_reducible refine Disk.wpList_store_eq rfl 82 (.tmp 2) (.tmp 31) rfl _ _ ?_ ?_ R2.out ?_); (next => rfl); (next => rfl)))
        (try simp only [Exit.inBlock, Exit.then])
        refine bodyPost_ret (results_ct rfl rfl L3.out) rfl ?_
        refine ⟨B4.out, ?_⟩
        exact .inr ⟨rfl, fun s q hs hq => by
          obtain ⟨s', hs'⟩ : ∃ s' : Nat, (s' : Int) = s ∧ s' < 2 := by
            rcases hs with rfl | rfl
            · exact ⟨0, rfl, by omega⟩
            · exact ⟨1, rfl, by omega⟩
          obtain ⟨rfl, hs2⟩ := hs'
          obtain ⟨x, hx, _⟩ := R.out.found.has s' q hs2 hq
          cases hx⟩
      | [x], hrow, R =>
        rw [show ([x] : List (Pg × Lay)).length = 1 from rfl]
        obtain ⟨b, rfl, hbl, hc⟩ := hrow (by simp)
        have hc0 := hc 0 (by simp)
        obtain ⟨p, y⟩ := x
        rw [show 0 * 11 = 0 from rfl] at hc0
        have cM := max_one (c := c) (w := wr) (p := p) (y := y) hbl hc0
        have FD := Lib.hid (newest_of R.out.found (p := p) (y := y) (List.mem_singleton.2 rfl) (fun x hx => by rw [List.mem_singleton] at hx; rw [hx]; exact Nat.le_refl _))
        clear hc hc0 hrow R
        go_wp2_with fail
        refine cM.mono ?_
        rintro e w4 ⟨rfl, b4⟩
        have AZ1 := Lib.hid (AZ.out.below b4 AZ.out.1)
        have BW1 := Lib.hid (BW.out.trans (b4.mono BW.out.size))
        clear cM b4
        have R2 := Lib.hid (store_page (o := 0) AZ1.out p y (by simp))
        have A4 := at_over (vs := (pgC p y).toList) (C' := pgC p y) (o := 0) AZ1.out (by simp) rfl
        have L3 := Lib.hid (var_page (o := 0) A4 p y rfl)
        have B4 := Lib.hid (BW1.out.grown (grown_puts (pgC p y).toList 0 _ w.heap.size) BW1.out.size (fun k hk => by cases hk; exact Nat.le_refl _))
        clear A4 AZ AZ1
        generalize World.setCells _ w.heap.size 0 (pgC p y).toList = W9 at *
        obtain ⟨pv, hpv⟩ : ∃ pv, pgV p y = pv := ⟨_, rfl⟩
        rw [hpv] at R2 L3 ⊢
        have PV := Lib.hid hpv
        clear hpv
        go_wp2_with (first | ((with_reducible refine Disk.wpList_store_eq rfl 82 (.tmp 2) (.tmp 33) rfl _ _ ?_ ?_ R2.out ?_); (next => rfl); (next => rfl)))
        (try simp only [Exit.inBlock, Exit.then])
        refine bodyPost_ret (results_ct rfl rfl L3.out) rfl ?_
        refine ⟨B4.out, ?_⟩
        obtain ⟨f1, f2, s, f3, f4, f5⟩ := FD.out
        exact .inl ⟨p, y, s, f3, by rw [PV.out]; rfl, f1, f2, f4, f5⟩
      | [x, x2], hrow, R =>
        rw [show ([x, x2] : List (Pg × Lay)).length = 2 from rfl]
        obtain ⟨b, rfl, hbl, hc⟩ := hrow (by simp)
        have hc0 := hc 0 (by simp)
        have hc1 := hc 1 (by simp)
        obtain ⟨p, y⟩ := x
        obtain ⟨q, z⟩ := x2
        rw [show 0 * 11 = 0 from rfl] at hc0
        rw [show 1 * 11 = 11 from rfl] at hc1
        have cM := max_two (c := c) (w := wr) (p := p) (y := y) (q := q) (z := z) hbl hc0 hc1
        have HR := Lib.hid R.out.found
        clear hc hc0 hc1 hrow R
        go_wp2_with fail
        refine cM.mono ?_
        rintro e w4 ⟨⟨rfl, hle⟩ | ⟨rfl, hle⟩, b4⟩
        · clear cM
          have FD := Lib.hid (newest_of HR.out (p := p) (y := y) (List.mem_cons_self ..) (fun x hx => by
            rcases List.mem_cons.1 hx with rfl | hx
            · exact Nat.le_refl _
            · rw [List.mem_singleton] at hx; rw [hx]; exact hle))
          have AZ1 := Lib.hid (AZ.out.below b4 AZ.out.1)
          have BW1 := Lib.hid (BW.out.trans (b4.mono BW.out.size))
          clear b4 hle HR
          have R2 := Lib.hid (store_page (o := 0) AZ1.out p y (by simp))
          have A4 := at_over (vs := (pgC p y).toList) (C' := pgC p y) (o := 0) AZ1.out (by simp) rfl
          have L3 := Lib.hid (var_page (o := 0) A4 p y rfl)
          have B4 := Lib.hid (BW1.out.grown (grown_puts (pgC p y).toList 0 _ w.heap.size) BW1.out.size (fun k hk => by cases hk; exact Nat.le_refl _))
          clear A4 AZ AZ1
          generalize World.setCells _ w.heap.size 0 (pgC p y).toList = W9 at *
          obtain ⟨pv, hpv⟩ : ∃ pv, pgV p y = pv := ⟨_, rfl⟩
          rw [hpv] at R2 L3 ⊢
          have PV := Lib.hid hpv
          clear hpv
          go_wp2_with (first | ((with_reducible refine Disk.wpList_store_eq rfl 82 (.tmp 2) (.tmp 33) rfl _ _ ?_ ?_ R2.out ?_); (next => rfl); (next => rfl)))
          (try simp only [Exit.inBlock, Exit.then])
          refine bodyPost_ret (results_ct rfl rfl L3.out) rfl ?_
          refine ⟨B4.out, ?_⟩
          obtain ⟨f1, f2, s, f3, f4, f5⟩ := FD.out
          exact .inl ⟨p, y, s, f3, by rw [PV.out]; rfl, f1, f2, f4, f5⟩
        · clear cM
          have FD := Lib.hid (newest_of HR.out (p := q) (y := z) (List.mem_cons_of_mem _ (List.mem_singleton.2 rfl)) (fun x hx => by
            rcases List.mem_cons.1 hx with rfl | hx
            · exact Nat.le_of_lt hle
            · rw [List.mem_singleton] at hx; rw [hx]; exact Nat.le_refl _))
          have AZ1 := Lib.hid (AZ.out.below b4 AZ.out.1)
          have BW1 := Lib.hid (BW.out.trans (b4.mono BW.out.size))
          clear b4 hle HR
          have R2 := Lib.hid (store_page (o := 0) AZ1.out q z (by simp))
          have A4 := at_over (vs := (pgC q z).toList) (C' := pgC q z) (o := 0) AZ1.out (by simp) rfl
          have L3 := Lib.hid (var_page (o := 0) A4 q z rfl)
          have B4 := Lib.hid (BW1.out.grown (grown_puts (pgC q z).toList 0 _ w.heap.size) BW1.out.size (fun k hk => by cases hk; exact Nat.le_refl _))
          clear A4 AZ AZ1
          generalize World.setCells _ w.heap.size 0 (pgC q z).toList = W9 at *
          obtain ⟨pv, hpv⟩ : ∃ pv, pgV q z = pv := ⟨_, rfl⟩
          rw [hpv] at R2 L3 ⊢
          have PV := Lib.hid hpv
          clear hpv
          go_wp2_with (first | ((with_reducible refine Disk.wpList_store_eq rfl 82 (.tmp 2) (.tmp 33) rfl _ _ ?_ ?_ R2.out ?_); (next => rfl); (next => rfl)))
          (try simp only [Exit.inBlock, Exit.then])
          refine bodyPost_ret (results_ct rfl rfl L3.out) rfl ?_
          refine ⟨B4.out, ?_⟩
          obtain ⟨f1, f2, s, f3, f4, f5⟩ := FD.out
          exact .inl ⟨q, z, s, f3, by rw [PV.out]; rfl, f1, f2, f4, f5⟩
      | x :: y :: z :: r, _, R => exact absurd R.out.found.len (by simp)
end Go.Proofs.YtboaamaneeodfaaGreat.Store
namespace Go.Proofs.YtboaamaneeodfaaGreat.Store
open Go.RowKit Gen
open Disk (St Dev Mod ptr)
open Page (Pg Lay PgOk PgRows pgC pgV Enc IsDec BytesAt)
open Pool (Po NAt PoAt La poC poV numV At takeP giveP backP Fresh PoolOk May Tells)

theorem on_read {d : St} (ho : d.off = false) {x : Int} (h0 : 0 ≤ x) (h1 : x < d.n) : d.readE x = 0 ∧ d.readB x = d.get x := by
  have hh : d.has x = true := by unfold St.has; simp; omega
  unfold St.readE St.readB
  rw [ho, hh]
  exact ⟨rfl, rfl⟩
theorem Holds.is {N : Nat} {g : Int → Disk.Bs} {sup : Pg} {own : List Int} {base : Po} (h : Holds N g sup own base) {s : Int} (hs : s = 0 ∨ s = 1) {p : Pg} (hp : IsDec s (g s) p) (hmax : ∀ s' q, (s' = 0 ∨ s' = 1) → IsDec s' (g s') q → q.epoch ≤ p.epoch) : p = sup := by
  have h1 := hmax _ sup (side_or _) h.here
  by_cases e : s = side sup.epoch
  · rw [e] at hp
    exact Page.dec_fun hp h.here
  · have e2 : s = side (sup.epoch + 1) := by
      unfold side at *
      omega
    rw [e2] at hp
    have := h.there p hp
    omega
theorem own_few {own : List Int} {N : Nat} (hn : own.Nodup) (h : ∀ x ∈ own, 0 ≤ x ∧ x < (N : Int)) : own.length ≤ N := by
  have := Disk.few N (own.map Int.toNat) ?_ ?_
  · simpa using this
  · rw [List.Nodup, List.pairwise_map]
    refine List.Pairwise.imp_of_mem (fun {p q} hp hq hne => ?_) hn
    intro e
    have h1 := h p hp
    have h2 := h q hq
    exact hne (by omega)
  · intro k hk
    obtain ⟨x, hx, rfl⟩ := List.mem_map.1 hk
    have := h x hx
    omega
theorem pool_most {p : Po} {N M : Int} (h : PoolOk p N) (hm : N ≤ M) : PoolOk p M := { h with top := Int.le_trans h.top hm }
abbrev comZ : Array Value := #[.int .i64 0, .slice none 0 0, .slice none 0 0, .slice none 0 0, .slice none 0 0, .int .i64 0, .int .u64 0, .int .i64 0, .int .i64 0, .int .i64 0, .int .i64 0, .slice none 0 0, .int .i64 0, .slice none 0 0, .slice none 0 0]
theorem put_com (W : World) (sup : Pg) (own : List Int) (base : Po) (a : Lys) : (Instr.storeAt 84 (.pointer (some ⟨W.heap.size, 0, none⟩)) (.agg (comC sup own base a))).run Tryz.prog (W.alloc (.cells comZ 84)) = .ok () (W.alloc (.cells (comC sup own base a) 84)) :=
  run_storeAt_new W 84 comZ (comC sup own base a) size_commit rfl (com_one sup own base a)
theorem live_may {p : Po} (hl : p.limbo = []) {x : Int} (h : Live p x) : (giveP p x).2 = 0 := by
  unfold giveP
  rw [if_pos ⟨⟨h.1, h.2.1⟩, h.2.2, by rw [hl]; simp⟩]
theorem allOf_eq (xs : List Pool.Part) : Pool.allOf xs = (xs.map (·.2.2)).flatten := by
  rw [Pool.allOf, List.flatMap_def]
theorem chain_ne {g : Int → Disk.Bs} {n : Int} {own : List Int} {ls : List (List Int)} (h : Chain g n own ls) : ls.length = own.length := by
  induction h with
  | done => rfl
  | step _ _ _ _ ih => simp [ih]
/-- What Open makes of it. -/
def OpenR (sb bl bc : Nat) (d : St) (sup : Pg) (own : List Int) (base : Po) (w : World) (e : Ending) (w' : World) : Prop := ∃ (B : Blk) (a : Lys), e = .returned (.tuple #[ptr B.ss, numV 0]) ∧ B.sb = sb ∧ B.bl = bl ∧ B.bc = bc ∧ w.heap.size ≤ B.ss ∧ w.heap.size ≤ B.bf ∧ Sto w' B d (openT sup own base) a ∧ Below w.heap.size w w'
set_option maxRecDepth 100000 in
set_option maxHeartbeats 8000000 in
theorem open_none {w : World} {sb bl bc : Nat} {d : St} (h : Dev w sb bl bc d) (h0 : d.readE 0 = 0) (h1 : d.readE 1 = 0) (hno : ∀ s q, (s = 0 ∨ s = 1) → ¬ IsDec s (d.readB s) q) : Calls Tryz.prog 22 #[ptr sb] w (fun e w' => e = .returned (.tuple #[.pointer none, numV 70]) ∧ Below w.heap.size w w') := by
  have cN := newest_any h h0 h1
  have HNO := Lib.hid hno
  clear h h0 h1 hno
  go_enter Tryz.func22, Tryz.ntmps22
  go_wp2_with fail
  refine cN.mono ?_
  rintro e w1 ⟨b1, ⟨p, y, s, hs, rfl, h1, h2, h3, h4⟩ | ⟨rfl, -⟩⟩
  · exact absurd h3 (HNO.out s p hs)
  · have P := Lib.hid (put_page w1 { kind := 0 } {})
    have B1 := Lib.hid (b1.trans ((Pool.below_box w1 (.cells (pgC { kind := 0 } {}) 82)).mono b1.size))
    obtain ⟨W2, hW2⟩ : ∃ W2, w1.alloc (.cells (pgC { kind := 0 } {}) 82) = W2 := ⟨_, rfl⟩
    rw [hW2] at P B1
    clear hW2 b1 cN
    go_wp2_with (first | ((with_reducible refine Disk.wpList_store_eq rfl 82 (.tmp 4) (.tmp 16) rfl _ _ ?_ ?_ P.out ?_); (next => rfl); (next => rfl)))
    go_ret2
    exact ⟨rfl, B1.out⟩
def OpenB (sb bl bc : Nat) (d : St) (sup : Pg) (own : List Int) (base : Po) (w0 _w : World) (e : Ending) (w' : World) : Prop := ∃ (B : Blk) (a : Lys), e = .returned (ptr B.ss) ∧ B.sb = sb ∧ B.bl = bl ∧ B.bc = bc ∧ w0.heap.size ≤ B.ss ∧ w0.heap.size ≤ B.bf ∧ Sto w' B d (openT sup own base) a ∧ Below w0.heap.size w0 w'
theorem begun_open {w0 w : World} {sb bl bc : Nat} {d : St} {sup : Pg} {own : List Int} {base : Po} {a : Lys} (hd : Dev w sb bl bc d) (ho : NAt w a.o own.length a.oc own) (hb : PoAt w base a.b) (hok : PgOk sup) (hbr : Bare sup) (hk : PoolOk base d.n) (b0 : Below w0.heap.size w0 w)
    (ao : Off [sb, bl, bc] a.o) (ab : OffP [sb, bl, bc] a.b) (lo : ∀ x, a.o = some x → x.block < w.heap.size) (l1 : ∀ x, a.b.A1 = some x → x.block < w.heap.size) (l2 : ∀ x, a.b.A2 = some x → x.block < w.heap.size) :
    Calls Tryz.prog 49 #[ptr sb, .agg (comC sup own base a)] w (OpenB sb bl bc d sup own base w0 w) :=
  (begun_any hd ho hb hok hbr hk ao ab lo l1 l2).mono (fun _ _ ⟨B, h1, h2, h3, h4, h5, h6, h7, h8⟩ => ⟨B, _, h1, h2, h3, h4, Nat.le_trans b0.size h5, Nat.le_trans b0.size h6, h7, b0.trans (h8.mono b0.size)⟩)
set_option maxRecDepth 100000 in
set_option maxHeartbeats 8000000 in
theorem open_any {w : World} {sb bl bc : Nat} {d : St} (h : Dev w sb bl bc d) {sup : Pg} {own : List Int} {base : Po} (hH : Holds d.n d.get sup own base) (ho : d.off = false) : Calls Tryz.prog 22 #[ptr sb] w (OpenR sb bl bc d sup own base w) := by
  have hnn : 2 ≤ d.n := by have h1 := hH.ok.low; have h2 := hH.ok.top; omega
  have hn4 := h.nle
  have r01 : ∀ s : Int, (s = 0 ∨ s = 1) → d.readE s = 0 ∧ d.readB s = d.get s := fun s hs => on_read ho (by omega) (by omega)
  have rl : ∀ x ∈ own, d.readE x = 0 ∧ d.readB x = d.get x := fun x hx => by
    have h1 := hH.live x hx
    have h2 := hH.ok.top
    exact on_read ho (by have := h1.1; omega) (by have := h1.2.1; omega)
  obtain ⟨ls, hch, hfl⟩ := hH.lists
  have hch2 : Chain d.readB sup.next own ls := hch.congr (fun x hx => (rl x hx).2)
  have hlen : own.length ≤ 100000 := by
    have h1 := own_few (N := d.n) hH.nodup (fun x hx => ⟨by have := (hH.live x hx).1; omega, by have := (hH.live x hx).2.1; have := hH.ok.top; omega⟩)
    omega
  have cN := newest_any h (r01 0 (.inl rfl)).1 (r01 1 (.inr rfl)).1
  have H := Lib.hid h
  have HH := Lib.hid hH
  have HC := Lib.hid hch2
  have HR := Lib.hid r01
  have HE := Lib.hid (fun x hx => (rl x hx).1)
  have HL := Lib.hid hlen
  have HF := Lib.hid hfl
  have HLN := Lib.hid (chain_ne hch)
  have hd4 : d.n ≤ 4096 := hn4
  have HN4 := Lib.hid hd4
  clear h hH ho hnn hn4 r01 rl hch hch2 hlen hfl hd4
  go_enter Tryz.func22, Tryz.ntmps22
  go_wp2_with fail
  refine cN.mono ?_
  rintro e w1 ⟨b1, ⟨p, y, s, hs, rfl, hok, hbr, hdec, hmax⟩ | ⟨rfl, hno⟩⟩
  rotate_left
  · exact absurd (by rw [(HR.out _ (side_or sup.epoch)).2]; exact HH.out.here) (hno _ sup (side_or _))
  obtain rfl : p = sup := HH.out.is hs (by rw [← (HR.out s hs).2]; exact hdec) (fun s' q hs' hq => hmax s' q hs' (by rw [(HR.out s' hs').2]; exact hq))
  have P := Lib.hid (put_page w1 p y)
  have b2 := Pool.below_box w1 (.cells (pgC p y) 82)
  have A2 := at_new w1 (pgC p y) 82
  have B2 := Lib.hid (b1.trans (b2.mono b1.size))
  have HK := Lib.hid (show PgOk p ∧ Bare p from ⟨hok, hbr⟩)
  obtain ⟨W2, hW2⟩ : ∃ W2, w1.alloc (.cells (pgC p y) 82) = W2 := ⟨_, rfl⟩
  rw [hW2] at P A2 B2
  have c5 := A2.2.2 5 _ rfl
  have hb4 : w.heap.size ≤ W2.heap.size := B2.out.size
  have cC := chain_any (H.out.below B2.out) HC.out HH.out.nodup HE.out HL.out
  have A2H := Lib.hid A2
  clear hW2 b1 b2 A2 cN hs hok hbr hdec hmax
  go_wp2_with (first | ((with_reducible refine Disk.wpList_store_eq rfl 82 (.tmp 4) (.tmp 16) rfl _ _ ?_ ?_ P.out ?_); (next => rfl); (next => rfl)))
  refine cC.mono ?_
  rintro e w3 ⟨A1, c1, Al, cl, xs, rfl, hxs, hrows, b3⟩
  have A3 := A2H.out.below b3 A2H.out.1
  have c10 := A3.2.2 10 _ rfl
  have c10d : w3.drew.cell? ⟨w1.heap.size, 10, none⟩ = some (.int .i64 p.high) := c10
  have B3 := Lib.hid (B2.out.trans (b3.mono B2.out.size))
  have d1 : decide ((d.n : Int) < p.high) = false := decide_eq_false (by have h1 := HH.out.ok.top; have h2 := HH.out.high; omega)
  have cS := Disk.sectors_dev w3.drew sb bl bc d ((H.out.below B3.out).below (Below.refl _ _).drew)
  obtain ⟨A0, c0, e0, -, -, -, hrow⟩ := OwnG.row hrows.own2
  cases e0
  have hall : Pool.allOf xs = base.free := by rw [allOf_eq, hxs]; exact HF.out
  have hfl : base.free.length ≤ 100000 := by have := ok_len HH.out.ok (by have := HN4.out; omega); omega
  have hbase : base = { high := p.high, free := base.free } := by
    have h1 := HH.out.high
    have h2 := HH.out.limbo
    rcases base with ⟨bh, bf, bl⟩
    simp only at h1 h2
    rw [h1, h2]
  have hxl : xs.length ≤ 100000 := by have h1 := HLN.out; have h2 := HL.out; rw [← h1, ← hxs, List.length_map] at h2; exact h2
  have cO := Pool.of_w p.high Al xs.length cl xs w3.drew rfl hxl (hrow.below (Below.refl _ _).drew) (hrows.parts.below (Below.refl _ _).drew) (by rw [hall]; exact hfl)
  have hof : Pool.ofP p.high (Pool.allOf xs) = (base, 0) := by
    rw [hall, Pool.ofP, ← hbase, if_pos (pool_most HH.out.ok (by have := HN4.out; omega))]
  rw [hof] at cO
  have K0 := Lib.hid c10d
  have ROWS := Lib.hid hrows
  have A3H := Lib.hid A3
  clear c10 c10d hxs hrows b3 A2H hrow hall hfl hbase hxl hof A3 c5 cC B2
  go_wp2_with fail
  go_region_held3 (fun w' => w'.cell? ⟨w1.heap.size, 10, none⟩ = some (.int .i64 p.high))
    (with_reducible (first | exact K0.out))
    (first | (go_at_call 45; (with_reducible refine cS.mono ?_); rintro e w4 ⟨rfl, rfl⟩))
  have k10 := K0.out
  go_wp2_with fail
  refine cO.mono ?_
  rintro e w5 ⟨c, rfl, hp, hb5, hf, hub, hnone⟩
  have b5 : Below w3.heap.size w3 w5 := (Below.refl _ _).drew.trans (hb5.mono (Nat.le_refl _))
  have b6 := Pool.below_box w5 (.cells (poC base c) 73)
  have P2 := Lib.hid (put_pool w5 base c)
  have LP2 := Lib.hid (load_pool (o := 0) (at_new w5 (poC base c) 73) base c rfl)
  have A5 := A3H.out.below b5 A3H.out.1
  have LP1 := Lib.hid (load_page (o := 0) (A5.below b6 A5.1) p y rfl)
  have s6 : (w5.alloc (.cells (poC base c) 73)).heap.size = w5.heap.size + 1 := World.size_alloc _ _
  have B6 := Lib.hid (B3.out.trans ((b5.trans (b6.mono b5.size)).mono B3.out.size))
  have R6 := (ROWS.out.below b5).below b6
  have Q6 := hp.below b6
  obtain ⟨W6, hW6⟩ : ∃ W6, w5.alloc (.cells (poC base c) 73) = W6 := ⟨_, rfl⟩
  rw [hW6] at P2 LP1 LP2 B6 R6 Q6 s6
  have PC := Lib.hid (put_com W6 p own base { s := y, o := A1, oc := c1, b := c, p := c })
  have b7 := Pool.below_box W6 (.cells (comC p own base { s := y, o := A1, oc := c1, b := c, p := c }) 84)
  have LC := Lib.hid (load_com (at_new W6 (comC p own base { s := y, o := A1, oc := c1, b := c, p := c }) 84))
  have AC := Lib.hid (at_new W6 (comC p own base { s := y, o := A1, oc := c1, b := c, p := c }) 84)
  have R7 := R6.below b7
  have Q7 := Q6.below b7
  have B7 := Lib.hid (B6.out.trans (b7.mono B6.out.size))
  have s7 : (W6.alloc (.cells (comC p own base { s := y, o := A1, oc := c1, b := c, p := c }) 84)).heap.size = W6.heap.size + 1 := World.size_alloc _ _
  obtain ⟨W7, hW7⟩ : ∃ W7, W6.alloc (.cells (comC p own base { s := y, o := A1, oc := c1, b := c, p := c }) 84) = W7 := ⟨_, rfl⟩
  rw [hW7] at PC LC R7 Q7 B7 s7 AC
  obtain ⟨A0, n0, c0, e0, hN7, hlo⟩ := Pool.own_nums R7.own1
  cases e0
  have hfl : base.free.length ≤ 100000 ∧ base.limbo.length ≤ 100000 := by have := ok_len HH.out.ok (by have := HN4.out; omega); omega
  have cF := containsFunc_first 48 (.agg (comC p own base { s := y, o := A1, oc := c1, b := c, p := c })) (fun x => (giveP base x).2 != 0) (fun args w => enters_of Tryz.func48 (by kernel_rfl) rfl args w) A1 own.length c1 own W7 hN7 (fun W x hW => (refuses_any (Q7.below hW) hfl.1 hfl.2 x).mono (fun _ _ ⟨g1, g2⟩ => ⟨g1, hW.trans (g2.mono hW.size)⟩))
  have hdl : ∀ x ∈ [sb, bl, bc], x < w.heap.size := fun x hx => by
    have h1 := H.out
    simp only [List.mem_cons, List.not_mem_nil, or_false] at hx
    rcases hx with rfl | rfl | rfl
    · exact h1.lt
    · exact h1.last.lt
    · exact h1.cache.lt
  have HBG := Lib.hid (show ∀ w', Below W7.heap.size W7 w' → Calls Tryz.prog 49 #[ptr sb, .agg (comC p own base { s := y, o := A1, oc := c1, b := c, p := c })] w' (OpenB sb bl bc d p own base w w') from fun w' hb => begun_open (H.out.below (B7.out.trans (hb.mono B7.out.size))) (hN7.below hb) (Q7.below hb) HK.out.1 HK.out.2 HH.out.ok (B7.out.trans (hb.mono B7.out.size))
    (fun x e hx => by have h1 := hlo x e; have h2 := hdl _ hx; omega)
    ⟨fun x e hx => by have h1 := hf.1 x e; have h2 := hdl _ hx; have h3 := B3.out.size; have h4 : w3.drew.heap.size = w3.heap.size := rfl; omega, fun x e hx => by rw [hnone] at e; cases e⟩
    (fun x e => by have h1 := R7.lt1 x.block (by have e' : A1 = some x := e; rw [e']; rfl); have h2 := hb.size; omega) (fun x e => by have h1 := hub x e; have h2 := hb.size; have h3 := b7.size; omega) (fun x e => by rw [hnone] at e; cases e))
  clear hp hb5 hf hub b5 b6 A5 R6 Q6 hW6 b7 R7 Q7 hW7 s6 s7 hN7 hlo hfl hdl cO cS ROWS A3H
  have NO := Lib.hid (show ¬ ∃ x ∈ own, ((giveP base x).2 != 0) = true from fun ⟨x, hx, e⟩ => by rw [live_may HH.out.limbo (HH.out.live x hx)] at e; cases e)
  have hmf : ∀ (fn : Fn) (first cap : Array Value) (w : World), (Instr.makeFunc fn first cap).run Tryz.prog w = .ok (.func fn first cap) w := fun _ _ _ _ => rfl
  have q0 := AC.out.2.2 0 _ rfl
  have q1 := AC.out.2.2 1 _ rfl
  have q2 := AC.out.2.2 2 _ rfl
  have q3 := AC.out.2.2 3 _ rfl
  have q4 := AC.out.2.2 4 _ rfl
  have q5 := AC.out.2.2 5 _ rfl
  have q6 := AC.out.2.2 6 _ rfl
  have q7 := AC.out.2.2 7 _ rfl
  have q8 := AC.out.2.2 8 _ rfl
  have q9 := AC.out.2.2 9 _ rfl
  have q10 := AC.out.2.2 10 _ rfl
  have q11 := AC.out.2.2 11 _ rfl
  have q12 := AC.out.2.2 12 _ rfl
  have q13 := AC.out.2.2 13 _ rfl
  have q14 := AC.out.2.2 14 _ rfl
  clear hnone hb4
  go_wp2_with (first | ((with_reducible refine Disk.wpList_store_eq rfl 73 (.tmp 9) (.tmp 43) rfl _ _ ?_ ?_ P2.out ?_); (next => rfl); (next => rfl)) | ((with_reducible refine Disk.wpList_load_eq rfl 82 (.tmp 4) rfl _ ?_ LP1.out ?_); (next => rfl)) | ((with_reducible refine Disk.wpList_load_eq rfl 73 (.tmp 9) rfl _ ?_ LP2.out ?_); (next => rfl)) | ((with_reducible refine Disk.wpList_store_eq rfl 84 (.tmp 10) (.tmp 48) rfl _ _ ?_ ?_ PC.out ?_); (next => rfl); (next => rfl)) | ((with_reducible refine Disk.wpList_load_eq rfl 84 (.tmp 10) rfl _ ?_ LC.out ?_); (next => rfl)))
  refine cF.mono ?_
  rintro e w8 ⟨r, rfl, hr, hb8⟩
  obtain rfl : r = false := by
    rcases r with _ | _
    · rfl
    · exact absurd (hr.1 rfl) NO.out
  have LC8 := Lib.hid (show (Instr.loadAt 84 (.pointer (some ⟨W6.heap.size, 0, none⟩))).run Tryz.prog w8 = .ok (.agg (comC p own base { s := y, o := A1, oc := c1, b := c, p := c })) w8 from load_com (AC.out.below hb8 AC.out.1))
  have cB := HBG.out w8 hb8
  clear q0 q1 q2 q3 q4 q5 q6 q7 q8 q9 q10 q11 q12 q13 q14
  clear hr hb8 cF HBG LC PC LP1 LP2 P2
  go_wp2_with (first | ((with_reducible refine Disk.wpList_load_eq rfl 84 (.tmp 10) rfl _ ?_ LC8.out ?_); (next => rfl)))
  refine cB.mono ?_
  rintro e w9 ⟨B, a9, rfl, g1, g2, g3, g4, g5, g6, g7⟩
  have FIN := Lib.hid (show OpenR sb bl bc d p own base w (.returned (.tuple #[ptr B.ss, numV 0])) w9 from ⟨B, a9, rfl, g1, g2, g3, g4, g5, g6, g7⟩)
  clear g1 g2 g3 g4 g5 g6 g7 cB
  go_wp2_with fail
  go_ret2
  exact FIN.out
end Go.Proofs.YtboaamaneeodfaaGreat.Store
namespace Go.Proofs.YtboaamaneeodfaaGreat.Store
open Go.RowKit Gen
open Disk (St Dev Mod ptr)
open Page (Pg Lay PgOk PgRows pgC pgV Enc IsDec BytesAt strV)
open Pool (Po NAt PoAt La poC poV numV At takeP giveP backP Fresh PoolOk OwnI chunks layAll May)

/-- A store in hand, all of which was made since a world. -/
structure SOn (w0 w : World) (B : Blk) (d : St) (t : T) : Prop where
  has : Has w B d t
  below : Below w0.heap.size w0 w
  new : ∀ x ∈ B.all, w0.heap.size ≤ x
theorem SOn.mod {w0 w w' : World} {B : Blk} {d d' : St} {t t' : T} (h : SOn w0 w B d t) (hs : Has w' B d' t') (m : Mod B.all w w') : SOn w0 w' B d' t' :=
  ⟨hs, h.below.trans (m.below h.below.size h.new), h.new⟩
theorem SOn.quiet {w0 w w' : World} {B : Blk} {d : St} {t : T} (h : SOn w0 w B d t) (b : Below w.heap.size w w') : SOn w0 w' B d t :=
  h.mod (h.has.elim fun a s => ⟨a, s.below b⟩) (mod_below b)
end Go.Proofs.YtboaamaneeodfaaGreat.Store
namespace Go.Proofs.YtboaamaneeodfaaGreat.Tree
open Go.RowKit Gen
open Disk (St Dev Mod ptr)
open Page (Pg Lay PgOk PgRows pgC pgV Enc IsDec BytesAt strV)
open Pool (Po NAt PoAt La poC poV numV At takeP giveP backP Fresh PoolOk OwnI chunks layAll May)
open Store

/-- How much a page holds, may hold, and has to hold. -/
def fillP (p : Pg) : Nat := if p.kind = 1 then p.pairs.length else p.keys.length
def mostP (p : Pg) : Nat := if p.kind = 1 then 6 else 12
def leastP (p : Pg) : Nat := if p.kind = 1 then 3 else 6
set_option maxRecDepth 100000 in
theorem fill_any (p : Pg) (a : Lay) (w : World) : Calls Tryz.prog 140 #[pgV p a] w (fun e w' => e = .returned (.int .i64 (fillP p : Nat)) ∧ Below w.heap.size w w') := by
  have B1 := Lib.hid (Pool.below_box w (.cells (pgC p a) 82))
  unfold pgC at B1
  unfold pgV pgC
  by_cases hk : p.kind = 1
  · have d : (p.kind == 1) = true := by simp [hk]
    rw [show fillP p = p.pairs.length from if_pos hk]
    clear hk
    go_enter Tryz.func140, Tryz.ntmps140
    go_wp2_with fail
    go_ret
    exact ⟨rfl, B1.out⟩
  · have d : (p.kind == 1) = false := by simp [hk]
    rw [show fillP p = p.keys.length from if_neg hk]
    clear hk
    go_enter Tryz.func140, Tryz.ntmps140
    go_wp2_with fail
    go_ret
    exact ⟨rfl, B1.out⟩
set_option maxRecDepth 100000 in
theorem most_any (p : Pg) (a : Lay) (w : World) : Calls Tryz.prog 163 #[pgV p a] w (fun e w' => e = .returned (.int .i64 (mostP p : Nat)) ∧ Below w.heap.size w w') := by
  have B1 := Lib.hid (Pool.below_box w (.cells (pgC p a) 82))
  unfold pgC at B1
  unfold pgV pgC
  by_cases hk : p.kind = 1
  · have d : (p.kind == 1) = true := by simp [hk]
    rw [show mostP p = 6 from if_pos hk]
    clear hk
    go_enter Tryz.func163, Tryz.ntmps163
    go_wp2_with fail
    go_ret
    exact ⟨rfl, B1.out⟩
  · have d : (p.kind == 1) = false := by simp [hk]
    rw [show mostP p = 12 from if_neg hk]
    clear hk
    go_enter Tryz.func163, Tryz.ntmps163
    go_wp2_with fail
    go_ret
    exact ⟨rfl, B1.out⟩
theorem least_half (p : Pg) : ((mostP p : Nat) : Int).tdiv 2 = (leastP p : Nat) := by
  unfold mostP leastP
  split <;> rfl
set_option maxRecDepth 100000 in
theorem least_any (p : Pg) (a : Lay) (w : World) : Calls Tryz.prog 141 #[pgV p a] w (fun e w' => e = .returned (.int .i64 (leastP p : Nat)) ∧ Below w.heap.size w w') := by
  have b1 := Pool.below_box w (.cells (pgC p a) 82)
  have L := Lib.hid (load_page (o := 0) (at_new w (pgC p a) 82) p a rfl)
  obtain ⟨W1, hW1⟩ : ∃ W1, w.alloc (.cells (pgC p a) 82) = W1 := ⟨_, rfl⟩
  rw [hW1] at b1 L
  have cM := most_any p a W1
  have B1 := Lib.hid b1
  obtain ⟨m, hm⟩ : ∃ m, ((mostP p : Nat) : Int) = m := ⟨_, rfl⟩
  have hh : IntKind.i64.wrap (m.tdiv 2) = (leastP p : Nat) := by rw [← hm, least_half]; exact IntWalk.i64_in _ (by unfold leastP; split <;> omega)
  have hh2 : m / 2 = (leastP p : Nat) := by rw [← hm]; unfold mostP leastP; split <;> rfl
  rw [hm] at cM
  generalize hC : pgC p a = C at *
  clear b1 hm
  go_enter Tryz.func141, Tryz.ntmps141
  go_wp2_with (first | ((with_reducible refine Disk.wpList_box_eq rfl 82 (.tmp 0) rfl C ?_ ?_); (next => rfl)) | ((with_reducible refine Disk.wpList_load_eq rfl 82 (.tmp 1) rfl _ ?_ L.out ?_); (next => rfl)))
  refine cM.mono ?_
  rintro e w2 ⟨rfl, b2⟩
  have B2 := Lib.hid (B1.out.trans (b2.mono B1.out.size))
  clear b2 cM L
  go_wp2_with fail
  go_ret
  exact ⟨rfl, B2.out⟩
/-- A tree in memory: its cells. -/
abbrev trC (ss : Nat) (r dp c : Int) : Array Value := #[ptr ss, .int .i64 r, .int .i64 dp, .int .i64 c]
theorem root_any {w : World} {tb ss : Nat} {r dp c : Int} (h : At w tb (trC ss r dp c)) : Calls Tryz.prog 31 #[ptr tb] w (fun e w' => e = .returned (.int .i64 r) ∧ w = w') := by
  have c1 : w.cell? ⟨tb, 1, none⟩ = some (.int .i64 r) := h.2.2 1 _ rfl
  clear h
  go_enter Tryz.func31, Tryz.ntmps31
  go_wp2_with fail
  go_ret
  exact ⟨rfl, rfl⟩
theorem depth_any {w : World} {tb ss : Nat} {r dp c : Int} (h : At w tb (trC ss r dp c)) : Calls Tryz.prog 32 #[ptr tb] w (fun e w' => e = .returned (.int .i64 dp) ∧ w = w') := by
  have c1 : w.cell? ⟨tb, 2, none⟩ = some (.int .i64 dp) := h.2.2 2 _ rfl
  clear h
  go_enter Tryz.func32, Tryz.ntmps32
  go_wp2_with fail
  go_ret
  exact ⟨rfl, rfl⟩
theorem count_any {w : World} {tb ss : Nat} {r dp c : Int} (h : At w tb (trC ss r dp c)) : Calls Tryz.prog 15 #[ptr tb] w (fun e w' => e = .returned (.int .i64 c) ∧ w = w') := by
  have c1 : w.cell? ⟨tb, 3, none⟩ = some (.int .i64 c) := h.2.2 3 _ rfl
  clear h
  go_enter Tryz.func15, Tryz.ntmps15
  go_wp2_with fail
  go_ret
  exact ⟨rfl, rfl⟩
theorem store_any {w : World} {tb ss : Nat} {r dp c : Int} (h : At w tb (trC ss r dp c)) : Calls Tryz.prog 19 #[ptr tb] w (fun e w' => e = .returned (ptr ss) ∧ w = w') := by
  have c1 : w.cell? ⟨tb, 0, none⟩ = some (ptr ss) := h.2.2 0 _ rfl
  clear h
  go_enter Tryz.func19, Tryz.ntmps19
  go_wp2_with fail
  go_ret
  exact ⟨rfl, rfl⟩
theorem root_nil (w : World) : Calls Tryz.prog 31 #[.pointer none] w (fun e w' => e = .returned (.int .i64 0) ∧ w = w') := by
  go_enter Tryz.func31, Tryz.ntmps31
  go_wp2_with fail
  go_ret
  exact ⟨rfl, rfl⟩
theorem depth_nil (w : World) : Calls Tryz.prog 32 #[.pointer none] w (fun e w' => e = .returned (.int .i64 0) ∧ w = w') := by
  go_enter Tryz.func32, Tryz.ntmps32
  go_wp2_with fail
  go_ret
  exact ⟨rfl, rfl⟩
theorem count_nil (w : World) : Calls Tryz.prog 15 #[.pointer none] w (fun e w' => e = .returned (.int .i64 0) ∧ w = w') := by
  go_enter Tryz.func15, Tryz.ntmps15
  go_wp2_with fail
  go_ret
  exact ⟨rfl, rfl⟩
theorem store_nil (w : World) : Calls Tryz.prog 19 #[.pointer none] w (fun e w' => e = .returned (.pointer none) ∧ w = w') := by
  go_enter Tryz.func19, Tryz.ntmps19
  go_wp2_with fail
  go_ret
  exact ⟨rfl, rfl⟩
theorem of_nil (w : World) : Calls Tryz.prog 23 #[.pointer none] w (fun e w' => e = .returned (.tuple #[.pointer none, .int .i64 1]) ∧ w = w') := by
  go_enter Tryz.func23, Tryz.ntmps23
  go_wp2_with fail
  go_ret2
  exact ⟨rfl, rfl⟩
end Go.Proofs.YtboaamaneeodfaaGreat.Tree
namespace Go.Proofs.YtboaamaneeodfaaGreat.Tree
open Go.RowKit Gen
open Disk (St Dev Mod ptr)
open Page (Pg Lay PgOk PgRows pgC pgV Enc IsDec BytesAt strV strB PRow less)
open Pool (Po NAt PoAt La poC poV numV At takeP giveP backP Fresh PoolOk OwnI chunks layAll May)
open Store

theorem cmp_less : ∀ (a b : Disk.Bs), Lib.compareBytes a b < 0 ↔ less a b = true
  | [], [] => by simp [Lib.compareBytes, less, Op.bytesLess]
  | [], _ :: _ => by simp [Lib.compareBytes, less, Op.bytesLess]
  | _ :: _, [] => by simp [Lib.compareBytes, less, Op.bytesLess]
  | x :: a, y :: b => by
    have ih := cmp_less a b
    unfold less at ih ⊢
    unfold Lib.compareBytes
    simp only [Op.bytesLess, Bool.or_eq_true, Bool.and_eq_true, decide_eq_true_eq, beq_iff_eq]
    by_cases h1 : x < y
    · rw [if_pos h1]; simp [h1]
    · rw [if_neg h1]
      by_cases h2 : y < x
      · rw [if_pos h2]
        refine ⟨fun h => absurd h (by decide), fun h => ?_⟩
        rcases h with h | ⟨h, _⟩
        · exact absurd h h1
        · subst h; exact absurd h2 h1
      · rw [if_neg h2, ih]
        have e : x = y := by
          rw [UInt8.lt_iff_toNat_lt] at h1 h2
          exact UInt8.toNat_inj.1 (by omega)
        exact ⟨fun h => .inr ⟨e, h⟩, fun h => h.elim (fun h => absurd h h1) (fun h => h.2)⟩
theorem cmp_same : ∀ (a b : Disk.Bs), Lib.compareBytes a b = 0 ↔ a = b
  | [], [] => by simp [Lib.compareBytes]
  | [], _ :: _ => by simp [Lib.compareBytes]
  | _ :: _, [] => by simp [Lib.compareBytes]
  | x :: a, y :: b => by
    have ih := cmp_same a b
    unfold Lib.compareBytes
    by_cases h1 : x < y
    · rw [if_pos h1]
      exact ⟨fun h => absurd h (by decide), fun h => by injection h with h; subst h; exact absurd h1 (by simp)⟩
    · rw [if_neg h1]
      by_cases h2 : y < x
      · rw [if_pos h2]
        exact ⟨fun h => absurd h (by decide), fun h => by injection h with h; subst h; exact absurd h2 (by simp)⟩
      · rw [if_neg h2, ih]
        have e : x = y := by
          rw [UInt8.lt_iff_toNat_lt] at h1 h2
          exact UInt8.toNat_inj.1 (by omega)
        exact ⟨fun h => by rw [e, h], fun h => by injection h⟩
theorem cmp_bound : ∀ (a b : Disk.Bs), -1 ≤ Lib.compareBytes a b ∧ Lib.compareBytes a b ≤ 1
  | [], [] => by simp [Lib.compareBytes]
  | [], _ :: _ => by simp [Lib.compareBytes]
  | _ :: _, [] => by simp [Lib.compareBytes]
  | x :: a, y :: b => by
    have ih := cmp_bound a b
    unfold Lib.compareBytes
    split
    · decide
    · split
      · decide
      · exact ih
set_option maxRecDepth 100000 in
theorem cmpstr_run (a b : ByteArray) (w : World) : (callFunc 148 #[.string a, .string b]).run Tryz.prog w = .ok (.value (.int .i64 (Lib.compareBytes a.data.toList b.data.toList))) w := by
  rw [run_callFunc_extern Tryz.func148 (by kernel_rfl) (by kernel_rfl) (by kernel_rfl) (e := Extern.BytealgCompare.compare) (by kernel_rfl), Lib.run_compareString]
  rfl
set_option maxRecDepth 100000 in
theorem compareString_any (a b : ByteArray) (w : World) : Calls Tryz.prog 119 #[.string a, .string b] w (fun e w' => e = .returned (.int .i64 (Lib.compareBytes a.data.toList b.data.toList)) ∧ w = w') := by
  have h := cmpstr_run a b w
  go_enter Tryz.func119, Tryz.ntmps119
  go_wp2_with fail
  go_ret
  exact ⟨rfl, rfl⟩
set_option maxRecDepth 100000 in
theorem compare_any (a b : ByteArray) (w : World) : Calls Tryz.prog 87 #[.string a, .string b] w (fun e w' => e = .returned (.int .i64 (Lib.compareBytes a.data.toList b.data.toList)) ∧ w = w') := by
  have h := compareString_any a b w
  go_enter Tryz.func87, Tryz.ntmps87
  go_wp2_with fail
  refine h.mono ?_
  rintro e w' ⟨rfl, rfl⟩
  go_wp2_with fail
  go_ret
  exact ⟨rfl, rfl⟩
set_option maxRecDepth 100000 in
theorem keycmp_any (p : Disk.Bs × Disk.Bs) (key : Disk.Bs) (w : World) : Calls Tryz.prog 86 #[.agg #[strV p.1, strV p.2], strV key] w (fun e w' => e = .returned (.int .i64 (Lib.compareBytes p.1 key)) ∧ Below w.heap.size w w') := by
  have B1 := Lib.hid ((Below.refl w.heap.size w).alloc (Nat.le_refl _) (.cells #[strV p.1, strV p.2] 36))
  have cC := compare_any (strB p.1) (strB key) (w.alloc (.cells #[strV p.1, strV p.2] 36))
  have e1 : (strB p.1).data.toList = p.1 := rfl
  have e2 : (strB key).data.toList = key := rfl
  rw [e1, e2] at cC
  generalize Lib.compareBytes p.1 key = r at *
  unfold strV at *
  generalize strB p.1 = X at *
  generalize strB p.2 = Y at *
  generalize strB key = Z at *
  clear e1 e2
  go_enter Tryz.func86, Tryz.ntmps86
  go_wp2_with fail
  refine cC.mono ?_
  rintro e w' ⟨rfl, rfl⟩
  go_wp2_with fail
  go_ret
  exact ⟨rfl, B1.out⟩
end Go.Proofs.YtboaamaneeodfaaGreat.Tree
namespace Go.Proofs.YtboaamaneeodfaaGreat.Tree
open Go.RowKit Gen
open Disk (St Dev Mod ptr)
open Page (Pg Lay PgOk PgRows pgC pgV Enc IsDec BytesAt strV strB PRow less)
open Pool (Po NAt PoAt La poC poV numV At takeP giveP backP Fresh PoolOk OwnI chunks layAll May)
open Store

abbrev keyF : Value := .func (.func 86) #[] #[]
set_option maxRecDepth 100000 in
set_option maxHeartbeats 2000000 in
theorem search_any {A : Option Addr} {n c : Nat} {l : List (Disk.Bs × Disk.Bs)} (key : Disk.Bs) (w : World) (hl : l.length = n) (hn : n ≤ 4611686018427387903) (hR : PRow w A l) (pos : Nat) (hpn : pos ≤ n) (hp : ∀ t (h : t < l.length), less l[t].1 key = true ↔ t < pos) (has : Bool) (hh : has = true ↔ ∃ h : pos < l.length, l[pos].1 = key) :
    Calls Tryz.prog 85 #[.slice A n c, strV key, keyF] w (fun e w' => e = .returned (.tuple #[.int .i64 (pos : Nat), .bool has]) ∧ Below w.heap.size w w') := by
  have HL := Lib.hid hl
  have HR := Lib.hid hR
  have HP := Lib.hid hp
  have HH := Lib.hid hh
  clear hl hR hp hh
  obtain ⟨kv, hkv⟩ : ∃ kv, strV key = kv := ⟨_, rfl⟩
  rw [hkv]
  have KV := Lib.hid hkv
  clear hkv
  go_enter Tryz.func85, Tryz.ntmps85
  go_wp2_with fail
  go_loopw [9, 10] (fun i j wr => ∃ lo hi : Nat, i = .int .i64 (lo : Int) ∧ j = .int .i64 (hi : Int) ∧ lo ≤ pos ∧ pos ≤ hi ∧ hi ≤ n ∧ Hid (Below w.heap.size w wr)) (fun i j _ => (intOf j - intOf i).toNat)
  case atStart => exact ⟨0, n, rfl, rfl, Nat.zero_le _, hpn, Nat.le_refl _, Lib.hid (Below.refl _ _)⟩
  case round =>
    obtain ⟨lo, hi, rfl, rfl, h1, h2, h3, BW⟩ := hrel
    by_cases hlt : lo < hi
    · have hw1 : IntKind.i64.wrap ((lo : Int) + (hi : Int)) = (lo : Int) + (hi : Int) := IntWalk.i64_in _ (by omega)
      have hw2 : IntKind.u64.wrap ((lo : Int) + (hi : Int)) = (lo : Int) + (hi : Int) := IntWalk.u64_in _ (by omega)
      obtain ⟨m, hm⟩ : ∃ m : Nat, ((lo : Int) + (hi : Int)) / 2 = (m : Int) := ⟨(lo + hi) / 2, by omega⟩
      have hmn : (m : Int) < (n : Int) := by omega
      have hm0 : lo ≤ m ∧ m < hi := by omega
      have hml : m < l.length := by rw [HL.out]; omega
      have hw3 : IntKind.i64.wrap ((m : Int) + 1) = ((m + 1 : Nat) : Int) := by rw [IntWalk.i64_in _ (by omega)]; omega
      obtain ⟨b, off, rfl, hbl, hcl⟩ := HR.out (by intro e; rw [e] at hml; simp at hml)
      obtain ⟨g1, g2⟩ := hcl m hml
      have q1 : wr.cell? ⟨b, off + m * 2, none⟩ = some (strV l[m].1) := (BW.out.cell (p := ⟨b, off + m * 2, none⟩) hbl).trans g1
      have q2 : wr.cell? ⟨b, off + m * 2 + 1, none⟩ = some (strV l[m].2) := (BW.out.cell (p := ⟨b, off + m * 2 + 1, none⟩) hbl).trans g2
      have cK := keycmp_any l[m] key wr
      have LS := Lib.hid (HP.out m hml)
      rw [KV.out] at cK
      have bnd := cmp_bound l[m].1 key
      have cl := cmp_less l[m].1 key
      obtain ⟨r, hr⟩ : ∃ r, Lib.compareBytes l[m].1 key = r := ⟨_, rfl⟩
      rw [hr] at cK cl bnd
      have CL := Lib.hid (show r < 0 ↔ m < pos from cl.trans LS.out)
      obtain ⟨X, hX⟩ : ∃ X, strV l[m].1 = X := ⟨_, rfl⟩
      obtain ⟨Y, hY⟩ : ∃ Y, strV l[m].2 = Y := ⟨_, rfl⟩
      rw [hX] at q1 cK
      rw [hY] at q2 cK
      clear g1 g2 hcl hX hY hr cl LS
      go_wp2_with fail
      refine cK.mono ?_
      rintro e w2 ⟨rfl, b2⟩
      have BW2 := Lib.hid (BW.out.trans (b2.mono BW.out.size))
      clear b2 cK q1 q2 BW hw1 hw2
      by_cases hneg : r < 0
      · have hmp := CL.out.1 hneg
        clear CL
        go_wp2_with fail
        go_roundw
        case rel => exact ⟨m + 1, hi, rfl, rfl, by omega, by omega, by omega, BW2⟩
        case measure => simp [intOf]; omega
      · have hmp : ¬ m < pos := fun e => hneg (CL.out.2 e)
        clear CL
        go_wp2_with fail
        go_roundw
        case rel => exact ⟨lo, m, rfl, rfl, by omega, by omega, by omega, BW2⟩
        case measure => simp [intOf]; omega
    obtain rfl : lo = pos := by omega
    obtain rfl : hi = lo := by omega
    by_cases hlast : hi < n
    rotate_left
    · have hf : has = false := by
        rcases has with _ | _
        · rfl
        · obtain ⟨h, -⟩ := HH.out.1 rfl
          rw [HL.out] at h; omega
      subst hf
      clear HP HH
      go_wp2_with fail
      go_ret2
      exact ⟨rfl, BW.out⟩
    have hml : hi < l.length := by rw [HL.out]; omega
    obtain ⟨b, off, rfl, hbl, hcl⟩ := HR.out (by intro e; rw [e] at hml; simp at hml)
    obtain ⟨g1, g2⟩ := hcl hi hml
    have q1 : wr.cell? ⟨b, off + hi * 2, none⟩ = some (strV l[hi].1) := (BW.out.cell (p := ⟨b, off + hi * 2, none⟩) hbl).trans g1
    have q2 : wr.cell? ⟨b, off + hi * 2 + 1, none⟩ = some (strV l[hi].2) := (BW.out.cell (p := ⟨b, off + hi * 2 + 1, none⟩) hbl).trans g2
    have cK := keycmp_any l[hi] key wr
    rw [KV.out] at cK
    have hrr : (Lib.compareBytes l[hi].1 key == 0) = has := by
      have h1 := cmp_same l[hi].1 key
      have h2 := HH.out
      rcases has with _ | _
      · exact beq_eq_false_iff_ne.2 (fun e => by cases h2.2 ⟨hml, h1.1 e⟩)
      · obtain ⟨_, e⟩ := h2.1 rfl
        exact beq_iff_eq.2 (h1.2 e)
    obtain ⟨r, hr⟩ : ∃ r, Lib.compareBytes l[hi].1 key = r := ⟨_, rfl⟩
    rw [hr] at cK hrr
    obtain ⟨X, hX⟩ : ∃ X, strV l[hi].1 = X := ⟨_, rfl⟩
    obtain ⟨Y, hY⟩ : ∃ Y, strV l[hi].2 = Y := ⟨_, rfl⟩
    rw [hX] at q1 cK
    rw [hY] at q2 cK
    clear g1 g2 hcl hX hY hr HP HH
    go_wp2_with fail
    refine cK.mono ?_
    rintro e w2 ⟨rfl, b2⟩
    have BW2 := Lib.hid (BW.out.trans (b2.mono BW.out.size))
    clear b2 cK q1 q2 BW
    go_wp2_with fail
    go_ret2
    exact ⟨rfl, BW2.out⟩
end Go.Proofs.YtboaamaneeodfaaGreat.Tree
namespace Go.Proofs.YtboaamaneeodfaaGreat.Tree
open Go.RowKit Gen
open Disk (St Dev Mod ptr)
open Page (Pg Lay PgOk PgRows pgC pgV Enc IsDec BytesAt strV strB PRow less)
open Pool (Po NAt PoAt La poC poV numV At takeP giveP backP Fresh PoolOk OwnI chunks layAll May)
open Store

theorem elem_pairs : Tryz.prog.underlying 27 = some (.slice (Tryz.prog.elem 27)) := by kernel_rfl
theorem size_pair (w : World) : (sizeOf (Tryz.prog.elem 27)).run Tryz.prog w = .ok 2 w := by kernel_rfl
/-- Where a row goes on. -/
def sub (s : Nat) (A : Option Addr) (c k : Nat) : Option Addr := if c = k then A else A.map (·.add (k * s))
theorem addz (a : Addr) : a.add 0 = a := by
  obtain ⟨b, o, s⟩ := a
  cases s <;> simp [Addr.add]
theorem pairs_head (A : Option Addr) (n c k : Nat) (h : k ≤ c) (W : World) : (Instr.slice 27 (.slice A n c) none (some (.int .i64 (k : Int))) none).run Tryz.prog W = .ok (.slice A k c) W := by
  rw [run_slice_h W 27 A n c elem_pairs .i64 (k : Int) (by omega) (by omega), size_pair]
  unfold sliced
  rcases A with _ | a
  · simp [Result.andThen]
  · simp [Result.andThen, addz]
theorem pairs_mid (A : Option Addr) (n c k m : Nat) (h : k ≤ m) (h2 : m ≤ c) (W : World) : (Instr.slice 27 (.slice A n c) (some (.int .i64 (k : Int))) (some (.int .i64 (m : Int))) none).run Tryz.prog W = .ok (.slice (sub 2 A c k) (m - k) (c - k)) W := by
  rw [run_slice_lh W 27 A n c elem_pairs .i64 .i64 (k : Int) (m : Int) (by omega) (by omega) (by omega), size_pair]
  unfold sliced sub
  simp [Result.andThen]
theorem pairs_tail (A : Option Addr) (n c k : Nat) (h : k ≤ n) (W : World) : (Instr.slice 27 (.slice A n c) (some (.int .i64 (k : Int))) none none).run Tryz.prog W = .ok (.slice (sub 2 A c k) (n - k) (c - k)) W := by
  rw [run_slice_l W 27 A n c elem_pairs .i64 (k : Int) (by omega) (by omega), size_pair]
  unfold sliced sub
  simp [Result.andThen]
theorem prow_take {w : World} {A : Option Addr} {l : List (Disk.Bs × Disk.Bs)} (h : PRow w A l) (k : Nat) : PRow w A (l.take k) := fun hne => by
  obtain ⟨b, off, e, hb, hc⟩ := h (by intro e; rw [e] at hne; simp at hne)
  refine ⟨b, off, e, hb, fun j hj => ?_⟩
  have hj' : j < l.length := by rw [List.length_take] at hj; omega
  rw [List.getElem_take]
  exact hc j hj'
theorem prow_drop {w : World} {A : Option Addr} {l : List (Disk.Bs × Disk.Bs)} (h : PRow w A l) {c : Nat} (hc : l.length ≤ c) (k : Nat) : PRow w (sub 2 A c k) (l.drop k) := fun hne => by
  have hk : k < l.length := by
    rcases Nat.lt_or_ge k l.length with h | h
    · exact h
    · rw [List.drop_eq_nil_of_le h] at hne; exact absurd rfl hne
  obtain ⟨b, off, rfl, hb, hcl⟩ := h (by intro e; rw [e] at hk; simp at hk)
  refine ⟨b, off + k * 2, ?_, hb, fun j hj => ?_⟩
  · unfold sub
    rw [if_neg (by omega)]
    simp [Addr.add]
  · have hj' : k + j < l.length := by rw [List.length_drop] at hj; omega
    rw [List.getElem_drop]
    have := hcl (k + j) hj'
    rw [show off + k * 2 + j * 2 = off + (k + j) * 2 by omega]
    exact this
set_option maxRecDepth 100000 in
set_option maxHeartbeats 2000000 in
theorem parted_any {A : Option Addr} {n c : Nat} {l : List (Disk.Bs × Disk.Bs)} (key : Disk.Bs) (w : World) (hl : l.length = n) (hn : n ≤ 4611686018427387903) (hnc : n ≤ c) (hR : PRow w A l) (pos : Nat) (hpn : pos ≤ n) (hp : ∀ t (h : t < l.length), less l[t].1 key = true ↔ t < pos) (has : Bool) (hh : has = true ↔ ∃ h : pos < l.length, l[pos].1 = key) (nx : Nat) (hnx : nx = if has = true then pos + 1 else pos) :
    Calls Tryz.prog 53 #[.slice A n c, strV key] w (fun e w' => e = .returned (.tuple #[.slice A pos c, .slice (sub 2 A c pos) (nx - pos) (c - pos), .slice (sub 2 A c nx) (n - nx) (c - nx)]) ∧ Below w.heap.size w w') := by
  have cS := search_any (c := c) key w hl hn hR pos hpn hp has hh
  have hx : nx ≤ n ∧ pos ≤ nx ∧ nx ≤ pos + 1 := by
    rcases has with _ | _
    · simp at hnx; omega
    · simp at hnx
      obtain ⟨h, -⟩ := hh.1 rfl
      rw [hl] at h; omega
  have s1 := fun W => pairs_head A n c pos (by omega) W
  have s2 := fun W => pairs_mid A n c pos nx (by omega) (by omega) W
  have s3 := fun W => pairs_tail A n c nx (by omega) W
  have hw : IntKind.i64.wrap ((pos : Int) + 1) = (pos : Int) + 1 := IntWalk.i64_in _ (by omega)
  obtain ⟨kv, hkv⟩ : ∃ kv, strV key = kv := ⟨_, rfl⟩
  rw [hkv] at cS ⊢
  clear hp hh hR hl hkv hx hnc hn hpn
  go_enter Tryz.func53, Tryz.ntmps53
  go_wp2_with fail
  refine cS.mono ?_
  rintro e w2 ⟨rfl, b2⟩
  have B2 := Lib.hid b2
  clear b2 cS
  rcases has with _ | _
  · obtain rfl : nx = pos := by simpa using hnx
    clear hnx hw
    go_wp2_with fail
    go_region_held3 (fun _ => True) (trivial) (fail)
    go_wp2_with fail
    (try simp only [Exit.inBlock, Exit.then])
    refine bodyPost_ret (results_t3 rfl) rfl ?_
    exact ⟨by simp, B2.out.trans ((Below.refl _ _).drew.mono B2.out.size)⟩
  · have hw2 : IntKind.i64.wrap ((pos : Int) + 1) = (nx : Int) := by rw [hw, hnx]; simp
    clear hnx hw
    go_wp2_with fail
    go_region_held3 (fun _ => True) (trivial) (fail)
    go_wp2_with fail
    (try simp only [Exit.inBlock, Exit.then])
    refine bodyPost_ret (results_t3 rfl) rfl ?_
    exact ⟨rfl, B2.out.trans ((Below.refl _ _).drew.mono B2.out.size)⟩
end Go.Proofs.YtboaamaneeodfaaGreat.Tree
