/-
  Texts of one family, one behind the other: SNewest3, SOpen1, SAwake, SAwake2, SRow.
-/
import Derived.Test.YthnodkhcenmnfaaGreatKS6
import Derived.Test.YthnodkhcenmnfaaGreatKP9
import Derived.Test.YthnodkhcenmnfaaGreatKS5
import Derived.Test.YthnodkhcenmnfaaGreatKQ3
import Derived.Test.YthnodkhcenmnfaaGreatKS2
namespace Go.Proofs.YthnodkhcenmnfaaGreat.Store
open Go.RowKit Gen
open Disk (St Dev Mod ptr)
open Page (Pg Lay PgOk PgRows pgC pgV Enc IsDec BytesAt)
open Pool (Po NAt PoAt La poC poV numV At takeP giveP backP Fresh PoolOk)

theorem dec_bare {s : Int} {u : Disk.Bs} {p : Pg} (h : IsDec s u p) (hs : s = 0 ∨ s = 1) : Bare p ∧ p.kind = 4 := by
  have k4 := (Page.enc_twin h.2 hs).2.1
  have hf := (Page.fine4 k4).1 h.2.1
  exact ⟨⟨List.eq_nil_of_length_eq_zero hf.2.1, List.eq_nil_of_length_eq_zero hf.2.2.1, List.eq_nil_of_length_eq_zero hf.2.2.2.1, List.eq_nil_of_length_eq_zero hf.2.2.2.2⟩, k4⟩
/-- What newest tells. -/
def NewestR (d : St) (w : World) (e : Ending) (w' : World) : Prop := Below w.heap.size w w' ∧
  ((∃ p y s, (s = 0 ∨ s = 1) ∧ e = .returned (.tuple #[pgV p y, numV 0]) ∧ PgOk p ∧ Bare p ∧ IsDec s (d.readB s) p ∧ ∀ s' q, (s' = 0 ∨ s' = 1) → IsDec s' (d.readB s') q → q.epoch ≤ p.epoch) ∨
   (e = .returned (.tuple #[zeroPg, numV 70]) ∧ ∀ s q, (s = 0 ∨ s = 1) → ¬ IsDec s (d.readB s) q))
/-- What has been found in some sectors. -/
structure Found (d : St) (k : Nat) (l : List (Pg × Lay)) : Prop where
  len : l.length ≤ k
  all : ∀ x ∈ l, PgOk x.1 ∧ Bare x.1 ∧ ∃ s : Nat, s < k ∧ IsDec (s : Int) (d.readB (s : Int)) x.1
  has : ∀ (s : Nat) q, s < k → IsDec (s : Int) (d.readB (s : Int)) q → ∃ x ∈ l, x.1 = q
theorem Found.skip {d : St} {k : Nat} {l : List (Pg × Lay)} (h : Found d k l) (hn : ∀ q, ¬ IsDec (k : Int) (d.readB (k : Int)) q) : Found d (k + 1) l :=
  ⟨by have := h.len; omega, fun x hx => by
    obtain ⟨a, b, s, c, e⟩ := h.all x hx
    exact ⟨a, b, s, by omega, e⟩, fun s q hs hq => by
    rcases Nat.lt_or_ge s k with g | g
    · exact h.has s q g hq
    · obtain rfl : s = k := by omega
      exact absurd hq (hn q)⟩
theorem Found.more {d : St} {k : Nat} {l : List (Pg × Lay)} {p : Pg} {y : Lay} (h : Found d k l) (hk : k ≤ 1) (hok : PgOk p) (hd : IsDec (k : Int) (d.readB (k : Int)) p) : Found d (k + 1) (l ++ [(p, y)]) :=
  ⟨by have := h.len; simp; omega, fun x hx => by
    rcases List.mem_append.1 hx with hx | hx
    · obtain ⟨a, b, s, c, e⟩ := h.all x hx
      exact ⟨a, b, s, by omega, e⟩
    · rw [List.mem_singleton] at hx
      rw [hx]
      exact ⟨hok, (dec_bare hd (by omega)).1, k, by omega, hd⟩, fun s q hs hq => by
    rcases Nat.lt_or_ge s k with g | g
    · obtain ⟨x, hx, e⟩ := h.has s q g hq
      exact ⟨x, List.mem_append_left _ hx, e⟩
    · obtain rfl : s = k := by omega
      exact ⟨_, List.mem_append_right _ (List.mem_singleton.2 rfl), Page.dec_fun hd hq⟩⟩
theorem newest_of {d : St} {l : List (Pg × Lay)} (h : Found d 2 l) {p : Pg} {y : Lay} (hm : (p, y) ∈ l) (hmax : ∀ x ∈ l, x.1.epoch ≤ p.epoch) : PgOk p ∧ Bare p ∧ ∃ s : Int, (s = 0 ∨ s = 1) ∧ IsDec s (d.readB s) p ∧ ∀ s' q, (s' = 0 ∨ s' = 1) → IsDec s' (d.readB s') q → q.epoch ≤ p.epoch := by
  obtain ⟨h1, h2, s, h3, h4⟩ := h.all _ hm
  refine ⟨h1, h2, (s : Int), by omega, h4, fun s' q hs hq => ?_⟩
  obtain ⟨n, rfl, hn⟩ : ∃ n : Nat, s' = (n : Int) ∧ n < 2 := by
    rcases hs with rfl | rfl
    · exact ⟨0, rfl, by omega⟩
    · exact ⟨1, rfl, by omega⟩
  obtain ⟨x, hx, e⟩ := h.has n q hn hq
  rw [← e]
  exact hmax x hx
structure NeRel (W0 : World) (d : St) (k : Nat) (v : Value) (l : List (Pg × Lay)) (wr : World) : Prop where
  below : Below W0.heap.size W0 wr
  own : OwnPg wr W0.heap.size v l
  found : Found d k l
set_option maxRecDepth 100000 in
set_option maxHeartbeats 8000000 in
theorem newest_any {w : World} {sb bl bc : Nat} {d : St} (h : Dev w sb bl bc d) (h0 : d.readE 0 = 0) (h1 : d.readE 1 = 0) : Calls Tryz.prog 49 #[ptr sb] w (NewestR d w) := by
  have HE := Lib.hid (show ∀ k : Nat, k < 2 → d.readE (k : Int) = 0 from fun k hk => by
    rcases (show k = 0 ∨ k = 1 by omega) with rfl | rfl
    · exact h0
    · exact h1)
  have B1 := Lib.hid (Pool.below_box w (.cells pgZ 37))
  have A1 := Lib.hid (at_new w pgZ 37)
  have H := Lib.hid (h.below B1.out)
  obtain ⟨W0, hW0⟩ : ∃ W0, w.alloc (.cells pgZ 37) = W0 := ⟨_, rfl⟩
  rw [hW0] at H B1 A1
  have ST := Lib.hid (show NeRel W0 d 0 (.slice none 0 0) [] W0 from ⟨Below.refl _ _, OwnPg.nil _ _, ⟨Nat.le_refl _, fun x hx => (by cases hx), fun s q hs => absurd hs (Nat.not_lt_zero s)⟩⟩)
  clear h h0 h1
  unfold pgZ at hW0
  go_enter Tryz.func49, Tryz.ntmps49
  go_wp2_with fail
  clear hW0
  go_loopw [4, 8] (fun v i wr => ∃ (k : Nat) (l : List (Pg × Lay)) (A : Option Addr) (c : Nat), v = .slice A l.length c ∧ i = .int .i64 (k : Int) ∧ k ≤ 2 ∧ Hid (NeRel W0 d k (.slice A l.length c) l wr)) (fun _ i _ => 2 - (intOf i).toNat)
  case atStart => exact ⟨0, [], none, 0, rfl, rfl, by omega, ST⟩
  case round =>
    obtain ⟨k, l, A, c, rfl, rfl, hk, R⟩ := hrel
    clear ST
    by_cases hlt : k < 2
    · have cR := read_any (H.out.below R.out.below) (k : Int)
      have hwr : IntKind.i64.wrap ((k : Int) + 1) = (k : Int) + 1 := IntWalk.i64_in _ (by omega)
      go_wp2_with fail
      refine cR.mono ?_
      rintro e w2 ⟨b2, ⟨hne, rfl⟩ | ⟨_, ⟨p, y, rfl, hrow, hok, hdec, hnew⟩ | ⟨rfl, hno⟩⟩⟩
      · exact absurd (HE.out k hlt) hne
      · have BB := Lib.hid (R.out.below.trans (b2.mono R.out.below.size))
        have b3 := Pool.below_box w2 (.cells (pgC p y) 37)
        have P := Lib.hid (put_page w2 p y)
        have L := Lib.hid (load_page (o := 0) (at_new w2 (pgC p y) 37) p y rfl)
        have O3 := R.out.own.below (lo := 0) (b2.trans (b3.mono b2.size)) rfl
        have B3 := Lib.hid (BB.out.trans (b3.mono BB.out.size))
        obtain ⟨v', W', hrun, ho', hg', hv'⟩ := append_page (w2.alloc (.cells (pgC p y) 37)) W0.heap.size _ l O3 p y (by have := R.out.found.len; omega) B3.out.size
        have B4 := Lib.hid (B3.out.grown hg' B3.out.size (fun g hg => hv' g hg))
        obtain ⟨A', c', rfl, -⟩ := ho'.row
        have NEW := Lib.hid (show NeRel W0 d (k + 1) (.slice A' (l ++ [(p, y)]).length c') (l ++ [(p, y)]) W' from ⟨B4.out, ho', R.out.found.more (by omega) hok hdec⟩)
        clear hrow hok hdec hnew b2 b3 O3 ho' hg' hv' B3 B4 BB cR
        obtain ⟨W3, hW3⟩ : ∃ W3, w2.alloc (.cells (pgC p y) 37) = W3 := ⟨_, rfl⟩
        rw [hW3] at P L hrun
        clear hW3
        have el : (l ++ [(p, y)]).length = l.length + 1 := by simp
        rw [el] at hrun NEW
        unfold pgC at hrun
        have RUN := Lib.hid hrun
        clear hrun
        go_wp2_with (first | ((with_reducible refine Disk.wpList_store_eq rfl 37 (.tmp 6) (.tmp 15) rfl _ _ ?_ ?_ P.out ?_); (next => rfl); (next => rfl)) | ((with_reducible refine Disk.wpList_load_eq rfl 37 (.tmp 6) rfl _ ?_ L.out ?_); (next => rfl)) | ((with_reducible refine wpList_append_eq rfl (.tmp 23) (.tmp 25) 123 rfl ?_ ?_ RUN.out ?_); (next => rfl); (next => rfl)))
        go_roundw
        case rel => exact ⟨k + 1, l ++ [(p, y)], A', c', by rw [el], by go_num, by omega, by rw [el]; exact NEW⟩
        case measure => simp [intOf]; omega
      · have NEW := Lib.hid (show NeRel W0 d (k + 1) (.slice A l.length c) l (w2.alloc (.cells (pgC { kind := 0 } {}) 37)) from ⟨(R.out.below.trans (b2.mono R.out.below.size)).alloc (by have := R.out.below.size; have := b2.size; omega) _, (R.out.own.below (lo := 0) b2 rfl).below (lo := 0) (Pool.below_box w2 _) rfl, R.out.found.skip hno⟩)
        have P := Lib.hid (put_page w2 { kind := 0 } {})
        obtain ⟨W3, hW3⟩ : ∃ W3, w2.alloc (.cells (pgC { kind := 0 } {}) 37) = W3 := ⟨_, rfl⟩
        rw [hW3] at P NEW
        clear hW3 b2 hno cR
        go_wp2_with (first | ((with_reducible refine Disk.wpList_store_eq rfl 37 (.tmp 6) (.tmp 15) rfl _ _ ?_ ?_ P.out ?_); (next => rfl); (next => rfl)))
        go_roundw
        case rel => exact ⟨k + 1, l, A, c, rfl, by go_num, by omega, NEW⟩
        case measure => simp [intOf]; omega
    · have hk2 : k = 2 := by omega
      subst hk2
      have BW := Lib.hid (B1.out.trans (R.out.below.mono B1.out.size))
      have AZ := Lib.hid (A1.out.below R.out.below A1.out.1)
      obtain ⟨A0, c0, e0, hrow⟩ := R.out.own.row
      cases e0
      match l, hrow, R with
      | [], _, R =>
        rw [show ([] : List (Pg × Lay)).length = 0 from rfl]
        have AZ1 := Lib.hid AZ.out
        have BW1 := Lib.hid BW.out
        have R2 := Lib.hid (store_page (o := 0) AZ1.out { kind := 0 } {} (by simp))
        have A4 := at_over (vs := (pgC { kind := 0 } {}).toList) (C' := pgC { kind := 0 } {}) (o := 0) AZ1.out (by simp) rfl
        have L3 := Lib.hid (var_page (o := 0) A4 { kind := 0 } {} rfl)
        have B4 := Lib.hid (BW1.out.grown (grown_puts (pgC { kind := 0 } {}).toList 0 _ w.heap.size) BW1.out.size (fun k hk => by cases hk; exact Nat.le_refl _))
        clear A4 AZ AZ1
        generalize World.setCells _ w.heap.size 0 (pgC { kind := 0 } {}).toList = W9 at *
        go_wp2_with (first | ((with_reducible refine Disk.wpList_store_eq rfl 37 (.tmp 2) (.tmp 31) rfl _ _ ?_ ?_ R2.out ?_); (next => rfl); (next => rfl)))
        (try simp only [Exit.inBlock, Exit.then])
        refine bodyPost_ret (results_ct rfl rfl L3.out) rfl ?_
        refine ⟨B4.out, ?_⟩
        exact .inr ⟨rfl, fun s q hs hq => by
          obtain ⟨s', hs'⟩ : ∃ s' : Nat, (s' : Int) = s ∧ s' < 2 := by
            rcases hs with rfl | rfl
            · exact ⟨0, rfl, by omega⟩
            · exact ⟨1, rfl, by omega⟩
          obtain ⟨rfl, hs2⟩ := hs'
          obtain ⟨x, hx, _⟩ := R.out.found.has s' q hs2 hq
          cases hx⟩
      | [x], hrow, R =>
        rw [show ([x] : List (Pg × Lay)).length = 1 from rfl]
        obtain ⟨b, rfl, hbl, hc⟩ := hrow (by simp)
        have hc0 := hc 0 (by simp)
        obtain ⟨p, y⟩ := x
        rw [show 0 * 11 = 0 from rfl] at hc0
        have cM := max_one (c := c) (w := wr) (p := p) (y := y) hbl hc0
        have FD := Lib.hid (newest_of R.out.found (p := p) (y := y) (List.mem_singleton.2 rfl) (fun x hx => by rw [List.mem_singleton] at hx; rw [hx]; exact Nat.le_refl _))
        clear hc hc0 hrow R
        go_wp2_with fail
        refine cM.mono ?_
        rintro e w4 ⟨rfl, b4⟩
        have AZ1 := Lib.hid (AZ.out.below b4 AZ.out.1)
        have BW1 := Lib.hid (BW.out.trans (b4.mono BW.out.size))
        clear cM b4
        have R2 := Lib.hid (store_page (o := 0) AZ1.out p y (by simp))
        have A4 := at_over (vs := (pgC p y).toList) (C' := pgC p y) (o := 0) AZ1.out (by simp) rfl
        have L3 := Lib.hid (var_page (o := 0) A4 p y rfl)
        have B4 := Lib.hid (BW1.out.grown (grown_puts (pgC p y).toList 0 _ w.heap.size) BW1.out.size (fun k hk => by cases hk; exact Nat.le_refl _))
        clear A4 AZ AZ1
        generalize World.setCells _ w.heap.size 0 (pgC p y).toList = W9 at *
        obtain ⟨pv, hpv⟩ : ∃ pv, pgV p y = pv := ⟨_, rfl⟩
        rw [hpv] at R2 L3 ⊢
        have PV := Lib.hid hpv
        clear hpv
        go_wp2_with (first | ((with_reducible refine Disk.wpList_store_eq rfl 37 (.tmp 2) (.tmp 33) rfl _ _ ?_ ?_ R2.out ?_); (next => rfl); (next => rfl)))
        (try simp only [Exit.inBlock, Exit.then])
        refine bodyPost_ret (results_ct rfl rfl L3.out) rfl ?_
        refine ⟨B4.out, ?_⟩
        obtain ⟨f1, f2, s, f3, f4, f5⟩ := FD.out
        exact .inl ⟨p, y, s, f3, by rw [PV.out]; rfl, f1, f2, f4, f5⟩
      | [x, x2], hrow, R =>
        rw [show ([x, x2] : List (Pg × Lay)).length = 2 from rfl]
        obtain ⟨b, rfl, hbl, hc⟩ := hrow (by simp)
        have hc0 := hc 0 (by simp)
        have hc1 := hc 1 (by simp)
        obtain ⟨p, y⟩ := x
        obtain ⟨q, z⟩ := x2
        rw [show 0 * 11 = 0 from rfl] at hc0
        rw [show 1 * 11 = 11 from rfl] at hc1
        have cM := max_two (c := c) (w := wr) (p := p) (y := y) (q := q) (z := z) hbl hc0 hc1
        have HR := Lib.hid R.out.found
        clear hc hc0 hc1 hrow R
        go_wp2_with fail
        refine cM.mono ?_
        rintro e w4 ⟨⟨rfl, hle⟩ | ⟨rfl, hle⟩, b4⟩
        · clear cM
          have FD := Lib.hid (newest_of HR.out (p := p) (y := y) (List.mem_cons_self ..) (fun x hx => by
            rcases List.mem_cons.1 hx with rfl | hx
            · exact Nat.le_refl _
            · rw [List.mem_singleton] at hx; rw [hx]; exact hle))
          have AZ1 := Lib.hid (AZ.out.below b4 AZ.out.1)
          have BW1 := Lib.hid (BW.out.trans (b4.mono BW.out.size))
          clear b4 hle HR
          have R2 := Lib.hid (store_page (o := 0) AZ1.out p y (by simp))
          have A4 := at_over (vs := (pgC p y).toList) (C' := pgC p y) (o := 0) AZ1.out (by simp) rfl
          have L3 := Lib.hid (var_page (o := 0) A4 p y rfl)
          have B4 := Lib.hid (BW1.out.grown (grown_puts (pgC p y).toList 0 _ w.heap.size) BW1.out.size (fun k hk => by cases hk; exact Nat.le_refl _))
          clear A4 AZ AZ1
          generalize World.setCells _ w.heap.size 0 (pgC p y).toList = W9 at *
          obtain ⟨pv, hpv⟩ : ∃ pv, pgV p y = pv := ⟨_, rfl⟩
          rw [hpv] at R2 L3 ⊢
          have PV := Lib.hid hpv
          clear hpv
          go_wp2_with (first | ((with_reducible refine Disk.wpList_store_eq rfl 37 (.tmp 2) (.tmp 33) rfl _ _ ?_ ?_ R2.out ?_); (next => rfl); (next => rfl)))
          (try simp only [Exit.inBlock, Exit.then])
          refine bodyPost_ret (results_ct rfl rfl L3.out) rfl ?_
          refine ⟨B4.out, ?_⟩
          obtain ⟨f1, f2, s, f3, f4, f5⟩ := FD.out
          exact .inl ⟨p, y, s, f3, by rw [PV.out]; rfl, f1, f2, f4, f5⟩
        · clear cM
          have FD := Lib.hid (newest_of HR.out (p := q) (y := z) (List.mem_cons_of_mem _ (List.mem_singleton.2 rfl)) (fun x hx => by
            rcases List.mem_cons.1 hx with rfl | hx
            · exact Nat.le_of_lt hle
            · rw [List.mem_singleton] at hx; rw [hx]; exact Nat.le_refl _))
          have AZ1 := Lib.hid (AZ.out.below b4 AZ.out.1)
          have BW1 := Lib.hid (BW.out.trans (b4.mono BW.out.size))
          clear b4 hle HR
          have R2 := Lib.hid (store_page (o := 0) AZ1.out q z (by simp))
          have A4 := at_over (vs := (pgC q z).toList) (C' := pgC q z) (o := 0) AZ1.out (by simp) rfl
          have L3 := Lib.hid (var_page (o := 0) A4 q z rfl)
          have B4 := Lib.hid (BW1.out.grown (grown_puts (pgC q z).toList 0 _ w.heap.size) BW1.out.size (fun k hk => by cases hk; exact Nat.le_refl _))
          clear A4 AZ AZ1
          generalize World.setCells _ w.heap.size 0 (pgC q z).toList = W9 at *
          obtain ⟨pv, hpv⟩ : ∃ pv, pgV q z = pv := ⟨_, rfl⟩
          rw [hpv] at R2 L3 ⊢
          have PV := Lib.hid hpv
          clear hpv
          go_wp2_with (first | ((with_reducible refine Disk.wpList_store_eq rfl 37 (.tmp 2) (.tmp 33) rfl _ _ ?_ ?_ R2.out ?_); (next => rfl); (next => rfl)))
          (try simp only [Exit.inBlock, Exit.then])
          refine bodyPost_ret (results_ct rfl rfl L3.out) rfl ?_
          refine ⟨B4.out, ?_⟩
          obtain ⟨f1, f2, s, f3, f4, f5⟩ := FD.out
          exact .inl ⟨q, z, s, f3, by rw [PV.out]; rfl, f1, f2, f4, f5⟩
      | x :: y :: z :: r, _, R => exact absurd R.out.found.len (by simp)
end Go.Proofs.YthnodkhcenmnfaaGreat.Store
namespace Go.Proofs.YthnodkhcenmnfaaGreat.Store
open Go.RowKit Gen
open Disk (St Dev Mod ptr)
open Page (Pg Lay PgOk PgRows pgC pgV Enc IsDec BytesAt)
open Pool (Po NAt PoAt La poC poV numV At takeP giveP backP Fresh PoolOk May Tells)

theorem on_read {d : St} (ho : d.off = false) {x : Int} (h0 : 0 ≤ x) (h1 : x < d.n) : d.readE x = 0 ∧ d.readB x = d.get x := by
  have hh : d.has x = true := by unfold St.has; simp; omega
  unfold St.readE St.readB
  rw [ho, hh]
  exact ⟨rfl, rfl⟩
theorem Holds.is {N : Nat} {g : Int → Disk.Bs} {sup : Pg} {own : List Int} {base : Po} (h : Holds N g sup own base) {s : Int} (hs : s = 0 ∨ s = 1) {p : Pg} (hp : IsDec s (g s) p) (hmax : ∀ s' q, (s' = 0 ∨ s' = 1) → IsDec s' (g s') q → q.epoch ≤ p.epoch) : p = sup := by
  have h1 := hmax _ sup (side_or _) h.here
  by_cases e : s = side sup.epoch
  · rw [e] at hp
    exact Page.dec_fun hp h.here
  · have e2 : s = side (sup.epoch + 1) := by
      unfold side at *
      omega
    rw [e2] at hp
    have := h.there p hp
    omega
theorem own_few {own : List Int} {N : Nat} (hn : own.Nodup) (h : ∀ x ∈ own, 0 ≤ x ∧ x < (N : Int)) : own.length ≤ N := by
  have := Disk.few N (own.map Int.toNat) ?_ ?_
  · simpa using this
  · rw [List.Nodup, List.pairwise_map]
    refine List.Pairwise.imp_of_mem (fun {p q} hp hq hne => ?_) hn
    intro e
    have h1 := h p hp
    have h2 := h q hq
    exact hne (by omega)
  · intro k hk
    obtain ⟨x, hx, rfl⟩ := List.mem_map.1 hk
    have := h x hx
    omega
theorem pool_most {p : Po} {N M : Int} (h : PoolOk p N) (hm : N ≤ M) : PoolOk p M := { h with top := Int.le_trans h.top hm }
abbrev comZ : Array Value := #[.int .i64 0, .slice none 0 0, .slice none 0 0, .slice none 0 0, .slice none 0 0, .int .i64 0, .int .u64 0, .int .i64 0, .int .i64 0, .int .i64 0, .int .i64 0, .slice none 0 0, .int .i64 0, .slice none 0 0, .slice none 0 0]
theorem put_com (W : World) (sup : Pg) (own : List Int) (base : Po) (a : Lys) : (Instr.storeAt 78 (.pointer (some ⟨W.heap.size, 0, none⟩)) (.agg (comC sup own base a))).run Tryz.prog (W.alloc (.cells comZ 78)) = .ok () (W.alloc (.cells (comC sup own base a) 78)) :=
  run_storeAt_new W 78 comZ (comC sup own base a) size_commit rfl (com_one sup own base a)
theorem live_may {p : Po} (hl : p.limbo = []) {x : Int} (h : Live p x) : (giveP p x).2 = 0 := by
  unfold giveP
  rw [if_pos ⟨⟨h.1, h.2.1⟩, h.2.2, by rw [hl]; simp⟩]
theorem allOf_eq (xs : List Pool.Part) : Pool.allOf xs = (xs.map (·.2.2)).flatten := by
  rw [Pool.allOf, List.flatMap_def]
theorem chain_ne {g : Int → Disk.Bs} {n : Int} {own : List Int} {ls : List (List Int)} (h : Chain g n own ls) : ls.length = own.length := by
  induction h with
  | done => rfl
  | step _ _ _ _ ih => simp [ih]
/-- What Open makes of it. -/
def OpenR (sb bl bc : Nat) (d : St) (sup : Pg) (own : List Int) (base : Po) (w : World) (e : Ending) (w' : World) : Prop := ∃ (B : Blk) (a : Lys), e = .returned (.tuple #[ptr B.ss, numV 0]) ∧ B.sb = sb ∧ B.bl = bl ∧ B.bc = bc ∧ w.heap.size ≤ B.ss ∧ w.heap.size ≤ B.bf ∧ Sto w' B d (openT sup own base) a ∧ Below w.heap.size w w'
set_option maxRecDepth 100000 in
set_option maxHeartbeats 8000000 in
theorem open_none {w : World} {sb bl bc : Nat} {d : St} (h : Dev w sb bl bc d) (h0 : d.readE 0 = 0) (h1 : d.readE 1 = 0) (hno : ∀ s q, (s = 0 ∨ s = 1) → ¬ IsDec s (d.readB s) q) : Calls Tryz.prog 23 #[ptr sb] w (fun e w' => e = .returned (.tuple #[.pointer none, numV 70]) ∧ Below w.heap.size w w') := by
  have cN := newest_any h h0 h1
  have HNO := Lib.hid hno
  clear h h0 h1 hno
  go_enter Tryz.func23, Tryz.ntmps23
  go_wp2_with fail
  refine cN.mono ?_
  rintro e w1 ⟨b1, ⟨p, y, s, hs, rfl, h1, h2, h3, h4⟩ | ⟨rfl, -⟩⟩
  · exact absurd h3 (HNO.out s p hs)
  · have P := Lib.hid (put_page w1 { kind := 0 } {})
    have B1 := Lib.hid (b1.trans ((Pool.below_box w1 (.cells (pgC { kind := 0 } {}) 37)).mono b1.size))
    obtain ⟨W2, hW2⟩ : ∃ W2, w1.alloc (.cells (pgC { kind := 0 } {}) 37) = W2 := ⟨_, rfl⟩
    rw [hW2] at P B1
    clear hW2 b1 cN
    go_wp2_with (first | ((with_reducible refine Disk.wpList_store_eq rfl 37 (.tmp 4) (.tmp 16) rfl _ _ ?_ ?_ P.out ?_); (next => rfl); (next => rfl)))
    go_ret2
    exact ⟨rfl, B1.out⟩
def OpenB (sb bl bc : Nat) (d : St) (sup : Pg) (own : List Int) (base : Po) (w0 _w : World) (e : Ending) (w' : World) : Prop := ∃ (B : Blk) (a : Lys), e = .returned (ptr B.ss) ∧ B.sb = sb ∧ B.bl = bl ∧ B.bc = bc ∧ w0.heap.size ≤ B.ss ∧ w0.heap.size ≤ B.bf ∧ Sto w' B d (openT sup own base) a ∧ Below w0.heap.size w0 w'
theorem begun_open {w0 w : World} {sb bl bc : Nat} {d : St} {sup : Pg} {own : List Int} {base : Po} {a : Lys} (hd : Dev w sb bl bc d) (ho : NAt w a.o own.length a.oc own) (hb : PoAt w base a.b) (hok : PgOk sup) (hbr : Bare sup) (hk : PoolOk base d.n) (b0 : Below w0.heap.size w0 w)
    (ao : Off [sb, bl, bc] a.o) (ab : OffP [sb, bl, bc] a.b) (lo : ∀ x, a.o = some x → x.block < w.heap.size) (l1 : ∀ x, a.b.A1 = some x → x.block < w.heap.size) (l2 : ∀ x, a.b.A2 = some x → x.block < w.heap.size) :
    Calls Tryz.prog 32 #[ptr sb, .agg (comC sup own base a)] w (OpenB sb bl bc d sup own base w0 w) :=
  (begun_any hd ho hb hok hbr hk ao ab lo l1 l2).mono (fun _ _ ⟨B, h1, h2, h3, h4, h5, h6, h7, h8⟩ => ⟨B, _, h1, h2, h3, h4, Nat.le_trans b0.size h5, Nat.le_trans b0.size h6, h7, b0.trans (h8.mono b0.size)⟩)
set_option maxRecDepth 100000 in
set_option maxHeartbeats 8000000 in
theorem open_any {w : World} {sb bl bc : Nat} {d : St} (h : Dev w sb bl bc d) {sup : Pg} {own : List Int} {base : Po} (hH : Holds d.n d.get sup own base) (ho : d.off = false) : Calls Tryz.prog 23 #[ptr sb] w (OpenR sb bl bc d sup own base w) := by
  have hnn : 2 ≤ d.n := by have h1 := hH.ok.low; have h2 := hH.ok.top; omega
  have hn4 := h.nle
  have r01 : ∀ s : Int, (s = 0 ∨ s = 1) → d.readE s = 0 ∧ d.readB s = d.get s := fun s hs => on_read ho (by omega) (by omega)
  have rl : ∀ x ∈ own, d.readE x = 0 ∧ d.readB x = d.get x := fun x hx => by
    have h1 := hH.live x hx
    have h2 := hH.ok.top
    exact on_read ho (by have := h1.1; omega) (by have := h1.2.1; omega)
  obtain ⟨ls, hch, hfl⟩ := hH.lists
  have hch2 : Chain d.readB sup.next own ls := hch.congr (fun x hx => (rl x hx).2)
  have hlen : own.length ≤ 100000 := by
    have h1 := own_few (N := d.n) hH.nodup (fun x hx => ⟨by have := (hH.live x hx).1; omega, by have := (hH.live x hx).2.1; have := hH.ok.top; omega⟩)
    omega
  have cN := newest_any h (r01 0 (.inl rfl)).1 (r01 1 (.inr rfl)).1
  have H := Lib.hid h
  have HH := Lib.hid hH
  have HC := Lib.hid hch2
  have HR := Lib.hid r01
  have HE := Lib.hid (fun x hx => (rl x hx).1)
  have HL := Lib.hid hlen
  have HF := Lib.hid hfl
  have HLN := Lib.hid (chain_ne hch)
  have hd4 : d.n ≤ 4096 := hn4
  have HN4 := Lib.hid hd4
  clear h hH ho hnn hn4 r01 rl hch hch2 hlen hfl hd4
  go_enter Tryz.func23, Tryz.ntmps23
  go_wp2_with fail
  refine cN.mono ?_
  rintro e w1 ⟨b1, ⟨p, y, s, hs, rfl, hok, hbr, hdec, hmax⟩ | ⟨rfl, hno⟩⟩
  rotate_left
  · exact absurd (by rw [(HR.out _ (side_or sup.epoch)).2]; exact HH.out.here) (hno _ sup (side_or _))
  obtain rfl : p = sup := HH.out.is hs (by rw [← (HR.out s hs).2]; exact hdec) (fun s' q hs' hq => hmax s' q hs' (by rw [(HR.out s' hs').2]; exact hq))
  have P := Lib.hid (put_page w1 p y)
  have b2 := Pool.below_box w1 (.cells (pgC p y) 37)
  have A2 := at_new w1 (pgC p y) 37
  have B2 := Lib.hid (b1.trans (b2.mono b1.size))
  have HK := Lib.hid (show PgOk p ∧ Bare p from ⟨hok, hbr⟩)
  obtain ⟨W2, hW2⟩ : ∃ W2, w1.alloc (.cells (pgC p y) 37) = W2 := ⟨_, rfl⟩
  rw [hW2] at P A2 B2
  have c5 := A2.2.2 5 _ rfl
  have hb4 : w.heap.size ≤ W2.heap.size := B2.out.size
  have cC := chain_any (H.out.below B2.out) HC.out HH.out.nodup HE.out HL.out
  have A2H := Lib.hid A2
  clear hW2 b1 b2 A2 cN hs hok hbr hdec hmax
  go_wp2_with (first | ((with_reducible refine Disk.wpList_store_eq rfl 37 (.tmp 4) (.tmp 16) rfl _ _ ?_ ?_ P.out ?_); (next => rfl); (next => rfl)))
  refine cC.mono ?_
  rintro e w3 ⟨A1, c1, Al, cl, xs, rfl, hxs, hrows, b3⟩
  have A3 := A2H.out.below b3 A2H.out.1
  have c10 := A3.2.2 10 _ rfl
  have c10d : w3.drew.cell? ⟨w1.heap.size, 10, none⟩ = some (.int .i64 p.high) := c10
  have B3 := Lib.hid (B2.out.trans (b3.mono B2.out.size))
  have d1 : decide ((d.n : Int) < p.high) = false := decide_eq_false (by have h1 := HH.out.ok.top; have h2 := HH.out.high; omega)
  have cS := Disk.sectors_dev w3.drew sb bl bc d ((H.out.below B3.out).below (Below.refl _ _).drew)
  obtain ⟨A0, c0, e0, -, -, -, hrow⟩ := OwnG.row hrows.own2
  cases e0
  have hall : Pool.allOf xs = base.free := by rw [allOf_eq, hxs]; exact HF.out
  have hfl : base.free.length ≤ 100000 := by have := ok_len HH.out.ok (by have := HN4.out; omega); omega
  have hbase : base = { high := p.high, free := base.free } := by
    have h1 := HH.out.high
    have h2 := HH.out.limbo
    rcases base with ⟨bh, bf, bl⟩
    simp only at h1 h2
    rw [h1, h2]
  have hxl : xs.length ≤ 100000 := by have h1 := HLN.out; have h2 := HL.out; rw [← h1, ← hxs, List.length_map] at h2; exact h2
  have cO := Pool.of_w p.high Al xs.length cl xs w3.drew rfl hxl (hrow.below (Below.refl _ _).drew) (hrows.parts.below (Below.refl _ _).drew) (by rw [hall]; exact hfl)
  have hof : Pool.ofP p.high (Pool.allOf xs) = (base, 0) := by
    rw [hall, Pool.ofP, ← hbase, if_pos (pool_most HH.out.ok (by have := HN4.out; omega))]
  rw [hof] at cO
  have K0 := Lib.hid c10d
  have ROWS := Lib.hid hrows
  have A3H := Lib.hid A3
  clear c10 c10d hxs hrows b3 A2H hrow hall hfl hbase hxl hof A3 c5 cC B2
  go_wp2_with fail
  go_region_held3 (fun w' => w'.cell? ⟨w1.heap.size, 10, none⟩ = some (.int .i64 p.high))
    (with_reducible (first | exact K0.out))
    (first | (go_at_call 51; (with_reducible refine cS.mono ?_); rintro e w4 ⟨rfl, rfl⟩))
  have k10 := K0.out
  go_wp2_with fail
  refine cO.mono ?_
  rintro e w5 ⟨c, rfl, hp, hb5, hf, hub, hnone⟩
  have b5 : Below w3.heap.size w3 w5 := (Below.refl _ _).drew.trans (hb5.mono (Nat.le_refl _))
  have b6 := Pool.below_box w5 (.cells (poC base c) 40)
  have P2 := Lib.hid (put_pool w5 base c)
  have LP2 := Lib.hid (load_pool (o := 0) (at_new w5 (poC base c) 40) base c rfl)
  have A5 := A3H.out.below b5 A3H.out.1
  have LP1 := Lib.hid (load_page (o := 0) (A5.below b6 A5.1) p y rfl)
  have s6 : (w5.alloc (.cells (poC base c) 40)).heap.size = w5.heap.size + 1 := World.size_alloc _ _
  have B6 := Lib.hid (B3.out.trans ((b5.trans (b6.mono b5.size)).mono B3.out.size))
  have R6 := (ROWS.out.below b5).below b6
  have Q6 := hp.below b6
  obtain ⟨W6, hW6⟩ : ∃ W6, w5.alloc (.cells (poC base c) 40) = W6 := ⟨_, rfl⟩
  rw [hW6] at P2 LP1 LP2 B6 R6 Q6 s6
  have PC := Lib.hid (put_com W6 p own base { s := y, o := A1, oc := c1, b := c, p := c })
  have b7 := Pool.below_box W6 (.cells (comC p own base { s := y, o := A1, oc := c1, b := c, p := c }) 78)
  have LC := Lib.hid (load_com (at_new W6 (comC p own base { s := y, o := A1, oc := c1, b := c, p := c }) 78))
  have AC := Lib.hid (at_new W6 (comC p own base { s := y, o := A1, oc := c1, b := c, p := c }) 78)
  have R7 := R6.below b7
  have Q7 := Q6.below b7
  have B7 := Lib.hid (B6.out.trans (b7.mono B6.out.size))
  have s7 : (W6.alloc (.cells (comC p own base { s := y, o := A1, oc := c1, b := c, p := c }) 78)).heap.size = W6.heap.size + 1 := World.size_alloc _ _
  obtain ⟨W7, hW7⟩ : ∃ W7, W6.alloc (.cells (comC p own base { s := y, o := A1, oc := c1, b := c, p := c }) 78) = W7 := ⟨_, rfl⟩
  rw [hW7] at PC LC R7 Q7 B7 s7 AC
  obtain ⟨A0, n0, c0, e0, hN7, hlo⟩ := Pool.own_nums R7.own1
  cases e0
  have hfl : base.free.length ≤ 100000 ∧ base.limbo.length ≤ 100000 := by have := ok_len HH.out.ok (by have := HN4.out; omega); omega
  have cF := containsFunc_first 54 (.agg (comC p own base { s := y, o := A1, oc := c1, b := c, p := c })) (fun x => (giveP base x).2 != 0) (fun args w => enters_of Tryz.func54 (by kernel_rfl) rfl args w) A1 own.length c1 own W7 hN7 (fun W x hW => (refuses_any (Q7.below hW) hfl.1 hfl.2 x).mono (fun _ _ ⟨g1, g2⟩ => ⟨g1, hW.trans (g2.mono hW.size)⟩))
  have hdl : ∀ x ∈ [sb, bl, bc], x < w.heap.size := fun x hx => by
    have h1 := H.out
    simp only [List.mem_cons, List.not_mem_nil, or_false] at hx
    rcases hx with rfl | rfl | rfl
    · exact h1.lt
    · exact h1.last.lt
    · exact h1.cache.lt
  have HBG := Lib.hid (show ∀ w', Below W7.heap.size W7 w' → Calls Tryz.prog 32 #[ptr sb, .agg (comC p own base { s := y, o := A1, oc := c1, b := c, p := c })] w' (OpenB sb bl bc d p own base w w') from fun w' hb => begun_open (H.out.below (B7.out.trans (hb.mono B7.out.size))) (hN7.below hb) (Q7.below hb) HK.out.1 HK.out.2 HH.out.ok (B7.out.trans (hb.mono B7.out.size))
    (fun x e hx => by have h1 := hlo x e; have h2 := hdl _ hx; omega)
    ⟨fun x e hx => by have h1 := hf.1 x e; have h2 := hdl _ hx; have h3 := B3.out.size; have h4 : w3.drew.heap.size = w3.heap.size := rfl; omega, fun x e hx => by rw [hnone] at e; cases e⟩
    (fun x e => by have h1 := R7.lt1 x.block (by have e' : A1 = some x := e; rw [e']; rfl); have h2 := hb.size; omega) (fun x e => by have h1 := hub x e; have h2 := hb.size; have h3 := b7.size; omega) (fun x e => by rw [hnone] at e; cases e))
  clear hp hb5 hf hub b5 b6 A5 R6 Q6 hW6 b7 R7 Q7 hW7 s6 s7 hN7 hlo hfl hdl cO cS ROWS A3H
  have NO := Lib.hid (show ¬ ∃ x ∈ own, ((giveP base x).2 != 0) = true from fun ⟨x, hx, e⟩ => by rw [live_may HH.out.limbo (HH.out.live x hx)] at e; cases e)
  have hmf : ∀ (fn : Fn) (first cap : Array Value) (w : World), (Instr.makeFunc fn first cap).run Tryz.prog w = .ok (.func fn first cap) w := fun _ _ _ _ => rfl
  have q0 := AC.out.2.2 0 _ rfl
  have q1 := AC.out.2.2 1 _ rfl
  have q2 := AC.out.2.2 2 _ rfl
  have q3 := AC.out.2.2 3 _ rfl
  have q4 := AC.out.2.2 4 _ rfl
  have q5 := AC.out.2.2 5 _ rfl
  have q6 := AC.out.2.2 6 _ rfl
  have q7 := AC.out.2.2 7 _ rfl
  have q8 := AC.out.2.2 8 _ rfl
  have q9 := AC.out.2.2 9 _ rfl
  have q10 := AC.out.2.2 10 _ rfl
  have q11 := AC.out.2.2 11 _ rfl
  have q12 := AC.out.2.2 12 _ rfl
  have q13 := AC.out.2.2 13 _ rfl
  have q14 := AC.out.2.2 14 _ rfl
  clear hnone hb4
  go_wp2_with (first | ((with_reducible refine Disk.wpList_store_eq rfl 40 (.tmp 9) (.tmp 43) rfl _ _ ?_ ?_ P2.out ?_); (next => rfl); (next => rfl)) | ((with_reducible refine Disk.wpList_load_eq rfl 37 (.tmp 4) rfl _ ?_ LP1.out ?_); (next => rfl)) | ((with_reducible refine Disk.wpList_load_eq rfl 40 (.tmp 9) rfl _ ?_ LP2.out ?_); (next => rfl)) | ((with_reducible refine Disk.wpList_store_eq rfl 78 (.tmp 10) (.tmp 48) rfl _ _ ?_ ?_ PC.out ?_); (next => rfl); (next => rfl)) | ((with_reducible refine Disk.wpList_load_eq rfl 78 (.tmp 10) rfl _ ?_ LC.out ?_); (next => rfl)))
  refine cF.mono ?_
  rintro e w8 ⟨r, rfl, hr, hb8⟩
  obtain rfl : r = false := by
    rcases r with _ | _
    · rfl
    · exact absurd (hr.1 rfl) NO.out
  have LC8 := Lib.hid (show (Instr.loadAt 78 (.pointer (some ⟨W6.heap.size, 0, none⟩))).run Tryz.prog w8 = .ok (.agg (comC p own base { s := y, o := A1, oc := c1, b := c, p := c })) w8 from load_com (AC.out.below hb8 AC.out.1))
  have cB := HBG.out w8 hb8
  clear q0 q1 q2 q3 q4 q5 q6 q7 q8 q9 q10 q11 q12 q13 q14
  clear hr hb8 cF HBG LC PC LP1 LP2 P2
  go_wp2_with (first | ((with_reducible refine Disk.wpList_load_eq rfl 78 (.tmp 10) rfl _ ?_ LC8.out ?_); (next => rfl)))
  refine cB.mono ?_
  rintro e w9 ⟨B, a9, rfl, g1, g2, g3, g4, g5, g6, g7⟩
  have FIN := Lib.hid (show OpenR sb bl bc d p own base w (.returned (.tuple #[ptr B.ss, numV 0])) w9 from ⟨B, a9, rfl, g1, g2, g3, g4, g5, g6, g7⟩)
  clear g1 g2 g3 g4 g5 g6 g7 cB
  go_wp2_with fail
  go_ret2
  exact FIN.out
end Go.Proofs.YthnodkhcenmnfaaGreat.Store
namespace Go.Proofs.YthnodkhcenmnfaaGreat.Store
open Go.RowKit Gen
open Disk (St Dev Mod ptr)
open Page (Pg Lay PgOk PgRows pgC pgV Enc IsDec BytesAt strV)
open Pool (Po NAt PoAt La poC poV numV At takeP giveP backP Fresh PoolOk OwnI chunks layAll May)

/-- A store in hand, all of which was made since a world. -/
structure SOn (w0 w : World) (B : Blk) (d : St) (t : T) : Prop where
  has : Has w B d t
  below : Below w0.heap.size w0 w
  new : ∀ x ∈ B.all, w0.heap.size ≤ x
theorem SOn.mod {w0 w w' : World} {B : Blk} {d d' : St} {t t' : T} (h : SOn w0 w B d t) (hs : Has w' B d' t') (m : Mod B.all w w') : SOn w0 w' B d' t' :=
  ⟨hs, h.below.trans (m.below h.below.size h.new), h.new⟩
theorem SOn.quiet {w0 w w' : World} {B : Blk} {d : St} {t : T} (h : SOn w0 w B d t) (b : Below w.heap.size w w') : SOn w0 w' B d t :=
  h.mod (h.has.elim fun a s => ⟨a, s.below b⟩) (mod_below b)
theorem leafP_ok {k : Disk.Bs} : PgOk (leafP k) := ⟨⟨by show (_ : Int) ≤ 1; omega, by show (1 : Int) ≤ _; omega⟩, by show 1 ≤ 9223372036854775807; omega, Nat.zero_le _, Nat.zero_le _, Nat.zero_le _, none_ok.next, by show 0 < 18446744073709551616; omega, none_ok.root, none_ok.depth, none_ok.count, none_ok.high⟩
/-- A leaf is laid. -/
theorem lay_leaf {w0 w w' : World} {B : Blk} {d : St} {t : T} (h : SOn w0 w B d t) {k : Disk.Bs} (hr : PgRows w' (leafP k) (leafL (w.heap.size + 1))) (b : Below w.heap.size w w') (old : Int) (ho : I64 old) :
    Calls Tryz.prog 19 #[ptr B.ss, .int .i64 old, pgV (leafP k) (leafL (w.heap.size + 1))] w' (Laid B (LayR d t old (leafP k)) w') := by
  obtain ⟨a, s⟩ := h.has
  refine lay_any (s.below b) old ho _ _ leafP_ok hr ⟨fun _ x e hx => ?_, fun g => absurd rfl g, fun g => absurd rfl g, fun g => absurd rfl g⟩
  cases e
  have := s.lt _ hx
  simp only at this
  omega
/-- Plain: what the head's calls make. -/
abbrev p1 : Pg := leadP (superP noneT 0 0 0) noneT []
abbrev T1 : T := newT noneT p1 []
abbrev T2 : T := { sup := p1, own := [], base := { high := 2 }, pool := { high := 3 }, fresh := fup (fun _ => false) 2 true }
theorem place1 {N : Int} (h : 2 < N) : placeT T1 N 0 = (T2, 2, 0) := by
  have e : takeP T1.pool N = ({ high := 3 }, 2, 0) := by
    show (if N ≤ 2 then _ else _) = _
    rw [if_neg (by omega)]; rfl
  have e2 : takeT T1 N = ({ T1 with pool := { high := 3 } }, 2, 0) := by rw [takeT, e]; rfl
  rw [placeT, e2]
  rfl
abbrev p3 : Pg := leadP (superP T2 2 1 1) T2 []
abbrev T3 : T := newT T2 p3 []
abbrev T4 : T := { sup := p3, own := [], base := { high := 3 }, pool := { high := 4, limbo := [2] }, fresh := fup (fun _ => false) 3 true }
theorem place3 {N : Int} (h : 3 < N) : placeT T3 N 2 = (T4, 3, 0) := by
  have e : takeP T3.pool N = ({ high := 4 }, 3, 0) := by
    show (if N ≤ 3 then _ else _) = _
    rw [if_neg (by omega)]; rfl
  have e2 : takeT T3 N = ({ T3 with pool := { high := 4 } }, 3, 0) := by rw [takeT, e]; rfl
  have e3 : giveP { high := 4 } 2 = ({ high := 4, limbo := [2] }, 0) := by
    rw [giveP, if_pos ⟨⟨by omega, by show (2 : Int) < 4; omega⟩, by simp, by simp⟩]; rfl
  have e4 : giveT { T3 with pool := { high := 4 } } 2 = ({ T3 with pool := { high := 4, limbo := [2] } }, 0) := by rw [giveT, e3]; rfl
  rw [placeT, e2]
  show (if (T3.fresh 2 = true) then _ else if (0 : Int) = 0 then (if (2 : Int) = 0 then _ else if (giveT { T3 with pool := { high := 4 } } 2).2 = 0 then _ else _) else _) = _
  rw [e4, if_neg (by decide), if_pos rfl, if_neg (by decide), if_pos rfl]
  rfl
end Go.Proofs.YthnodkhcenmnfaaGreat.Store
namespace Go.Proofs.YthnodkhcenmnfaaGreat.Store
open Go.RowKit Gen
open Disk (St Dev Mod ptr)
open Page (Pg Lay PgOk PgRows pgC pgV Enc IsDec BytesAt strV)
open Pool (Po NAt PoAt La poC poV numV At takeP giveP backP Fresh PoolOk OwnI chunks layAll May)

theorem field_epoch (p : Pg) (y : Lay) (W : World) : (Instr.field 37 (pgV p y) 6).run Tryz.prog W = .ok (.int .u64 (p.epoch : Int)) W := by kernel_rfl
theorem field_root (p : Pg) (y : Lay) (W : World) : (Instr.field 37 (pgV p y) 7).run Tryz.prog W = .ok (.int .i64 p.root) W := by kernel_rfl
theorem field_high (p : Po) (y : La) (W : World) : (Instr.field 40 (poV p y) 0).run Tryz.prog W = .ok (.int .i64 p.high) W := by kernel_rfl
theorem field_limbo (p : Po) (y : La) (W : World) : (Instr.field 40 (poV p y) 2).run Tryz.prog W = .ok (.slice y.A2 p.limbo.length y.c2) W := by kernel_rfl
theorem eq_ptr (b : Nat) (W : World) : (binOp .eql 24 (ptr b) (ptr b)).run Tryz.prog W = .ok (.bool true) W := by
  have hu : Tryz.prog.underlying 24 = some (.pointer 75) := by kernel_rfl
  have e : ∀ d, (Op.equalIn (d + 1) 24 (ptr b) (ptr b)).run Tryz.prog W = .ok true W := fun d => by
    simp only [Op.equalIn, Sem.run_bind, run_underlying hu, Result.andThen_ok]
    simp [sameAddr]
  have e2 : (Op.equalIn Op.maxDepth 24 (ptr b) (ptr b)).run Tryz.prog W = .ok true W := e 9999
  simp only [binOp, Op.equal, Sem.run_bind, e2, Result.andThen_ok]
  rfl
theorem hz : I64 0 := ⟨by omega, by omega⟩
theorem h1' : I64 1 := ⟨by omega, by omega⟩
theorem h2' : I64 2 := ⟨by omega, by omega⟩
theorem super2 : Page.SuperOk (superP T2 2 1 1) := ⟨.inr ⟨by show (2 : Int) ≤ 2; omega, by show (2 : Int) ≤ 4095; omega⟩, .inl rfl, ⟨by show (2 : Int) ≤ 3; omega, by show (3 : Int) ≤ 4096; omega⟩, ⟨by show (0 : Int) ≤ 1; omega, by show (1 : Int) ≤ 20; omega⟩, ⟨fun e => absurd e (by decide), fun e => absurd e (by decide)⟩, ⟨by show (0 : Int) ≤ 1; omega, by show (1 : Int) ≤ 2147483647; omega⟩, ⟨fun e => absurd e (by decide), fun e => absurd e (by decide)⟩⟩
set_option maxRecDepth 100000 in
set_option maxHeartbeats 8000000 in
theorem awake_any (w : World) : Calls Tryz.prog 9 #[] w (fun e w' => e = .returned (.bool true) ∧ Below w.heap.size w w') := by
  have cN : Calls Tryz.prog 10 #[.int .i64 16] w _ := Disk.new_dev 16 w (by omega) (by omega)
  have fE := field_epoch
  have fR := field_root
  have fH := field_high
  have fL := field_limbo
  have fP := eq_ptr (w.heap.size + 2)
  go_enter Tryz.func9, Tryz.ntmps9
  go_wp2_with fail
  refine cN.mono ?_
  rintro e w1 ⟨rfl, hd1, b1⟩
  have rd : ∀ s : Int, (s = 0 ∨ s = 1) → (St.fresh 16).readE s = 0 ∧ (St.fresh 16).readB s = (St.fresh 16).get s := fun s hs => on_read rfl (by omega) (by show s < 16; omega)
  have cO := open_none hd1 (rd 0 (.inl rfl)).1 (rd 1 (.inr rfl)).1 (fun s q hs => by rw [(rd s hs).2]; exact none_dec hs q)
  have H1 := Lib.hid hd1
  have B1 := Lib.hid b1
  clear hd1 b1 cN rd
  go_wp2_with fail
  refine cO.mono ?_
  rintro e w2 ⟨rfl, b2⟩
  have cF := format_any (H1.out.below b2) (by show 2 ≤ 16; omega)
  have B2 := Lib.hid (B1.out.trans (b2.mono B1.out.size))
  clear b2 cO H1
  go_wp2_with fail
  refine cF.mono ?_
  rintro e w3 ⟨d1, t1, x, hc, m3, hx⟩
  obtain ⟨rfl, rfl, sf1, cm1, n1⟩ := format_ok (n := 16) (by omega) (by omega) hc
  rcases hx with ⟨hx, -⟩ | ⟨-, B, rfl, g1, g2, g3, g4, g5, hs⟩
  · exact absurd rfl hx
  have S3 := Lib.hid (show SOn w w3 B d1 T1 from ⟨hs, B2.out.trans (m3.below B2.out.size (fun k hk => by simp at hk; omega)), fun k hk => by
    have := B2.out.size
    simp only [Blk.all, List.mem_cons, List.not_mem_nil, or_false] at hk
    omega⟩)
  have GB := Lib.hid (show B.sb = w.heap.size + 2 from g1)
  have SF1 := Lib.hid sf1
  have CM1 := Lib.hid cm1
  have N1 := Lib.hid n1
  obtain ⟨t1, ht1⟩ : ∃ t, T1 = t := ⟨_, rfl⟩
  have E1 : ((t1.sup.epoch : Nat) : Int) = 1 := by rw [← ht1]; rfl
  have ht1' : newT noneT p1 [] = t1 := ht1
  rw [ht1'] at SF1
  rw [ht1] at S3
  have HT1 := Lib.hid ht1
  clear hc m3 sf1 cm1 n1 g1 g2 g3 g4 g5 hs cF B1 B2 ht1 ht1'
  obtain ⟨a3, s3⟩ := S3.out.has
  have cS := super_any s3
  clear s3
  go_wp2_with fail
  refine cS.mono ?_
  rintro e w4 ⟨rfl, b4⟩
  have S4 := Lib.hid (S3.out.quiet b4)
  have cL : Calls Tryz.prog 27 #[.string { data := #[97] }] w4 _ := leaf_any [97] w4
  clear b4 cS S3
  go_wp2_with fail
  refine cL.mono ?_
  rintro e w5 ⟨rfl, hr, b5⟩
  have cY := lay_leaf S4.out hr b5 0 hz
  have S5 := Lib.hid (S4.out.quiet b5)
  clear hr b5 cL
  go_wp2_with fail
  refine cY.mono ?_
  rintro e w6 ⟨d2, t2, n, x, rfl, hl, hs6, m6⟩
  have hst := (Pre.refl SF1.out.pre).lay SF1.out.pre hl
  have hpl : placeT t1 d1.n 0 = (T2, 2, 0) := by rw [← HT1.out, N1.out]; exact place1 (by omega)
  obtain ⟨rfl, rfl, rfl, cm2, n2, la, hla, hga⟩ := lay_calm hl hpl CM1.out (fine_leaf (by decide) (by decide)) (by show (1 : Int) ≠ 4; omega) (by omega) (by rw [N1.out]; omega) (by rw [N1.out]; omega)
  have S6 := Lib.hid (S5.out.mod hs6 m6)
  have P2 := Lib.hid (hst.pre SF1.out.pre)
  have CM2 := Lib.hid cm2
  have N2 := Lib.hid (n2.trans N1.out)
  have LA := Lib.hid (show Enc 2 (leafP [97]) la ∧ d2.get 2 = la from ⟨hla, hga⟩)
  clear hl hs6 m6 hst hpl cm2 n2 hla hga S4 cY S5 SF1 HT1 CM1 N1
  obtain ⟨a6, s6⟩ := S6.out.has
  have cC := commit_any s6 2 1 1 h2' h1' h1' (by show 0 ≤ 100000; omega) (fun x hx => by cases hx)
  clear s6
  go_wp2_with fail
  refine cC.mono ?_
  rintro e w7 ⟨d3, t3, x, rfl, hc, hs7, m7⟩
  obtain ⟨rfl, ht3⟩ := commit_few hc CM2.out (by rw [N2.out]; omega) rfl rfl super2
  rcases commit_ends P2.out (by show 1 + 1 < _; omega) hc with ⟨hx, -⟩ | ⟨hx, -⟩ | ⟨-, md⟩
  · exact absurd rfl hx
  · exact absurd rfl hx
  have S7 := Lib.hid (S6.out.mod hs7 m7)
  have SF3 := Lib.hid md.safe
  have CM3 := Lib.hid (md.calm CM2.out)
  have N3 := Lib.hid (md.n.trans N2.out)
  have LA3 := Lib.hid (show Disk.St.get d2 2 = dur d3 2 from (md.fresh 2 rfl).symm)
  have E3 := Lib.hid (show t3.sup.epoch = 2 ∧ t3.sup.root = 2 from ⟨md.epoch, md.root⟩)
  have HT3 := Lib.hid (show t3 = T3 from ht3)
  clear hc ht3 md hs7 m7 cC S6 P2
  have cL : Calls Tryz.prog 27 #[.string { data := #[98] }] w7 _ := leaf_any [98] w7
  go_wp2_with fail
  refine cL.mono ?_
  rintro e w8 ⟨rfl, hr, b8⟩
  have cY := lay_leaf S7.out hr b8 2 h2'
  have S8 := Lib.hid (S7.out.quiet b8)
  clear hr b8 cL S7
  go_wp2_with fail
  refine cY.mono ?_
  rintro e w9 ⟨d4, t4, n, x, rfl, hl, hs9, m9⟩
  have hst := (Pre.refl SF3.out.pre).lay SF3.out.pre hl
  have hpl : placeT t3 d3.n 2 = (T4, 3, 0) := by rw [HT3.out, N3.out]; exact place3 (by omega)
  obtain ⟨rfl, rfl, ht4, cm4, n4, -⟩ := lay_calm hl hpl CM3.out (fine_leaf (by decide) (by decide)) (by show (1 : Int) ≠ 4; omega) (by omega) (by rw [N3.out]; omega) (by rw [N3.out]; omega)
  have SF4 := hst.safe SF3.out
  have S9 := Lib.hid (S8.out.mod hs9 m9)
  have live2 : Live t3.base 2 := by rw [HT3.out]; exact ⟨by omega, by show (2 : Int) < 3; omega, by show (2 : Int) ∉ layAll [] []; decide⟩
  have G4 := Lib.hid (show d4.get 2 = la from by
    rw [SF4.get (.inr (.inr (by rw [hst.part.base]; exact live2))), hst.L 2 (.inr (.inr live2)), ← LA3.out]
    exact LA.out.2)
  have OFF := Lib.hid cm4.1
  have N4 := Lib.hid (n4.trans N3.out)
  have VW := Lib.hid (SF4.view)
  have E4 := Lib.hid (show t4.sup.epoch = 2 ∧ t4.sup.root = 2 from by rw [hst.part.sup]; exact E3.out)
  have PL := Lib.hid (show t4.pool.limbo = [2] ∧ t4.pool.high = 4 from by rw [ht4]; exact ⟨rfl, rfl⟩)
  clear hl hs9 m9 hst hpl ht4 cm4 n4 SF4 live2 S8 cY SF3 HT3 CM3 N3 LA3 E3
  obtain ⟨a9, s9⟩ := S9.out.has
  have cP := page_any s9 2
  have rd := on_read OFF.out (x := 2) (by omega) (by rw [N4.out]; omega)
  clear s9
  go_wp2_with fail
  refine cP.mono ?_
  rintro e w10 ⟨b10, ⟨hne, -⟩ | ⟨-, ⟨p, y, rfl, hrow, hok, hdec, hk, hnew⟩ | ⟨rfl, hno⟩⟩⟩
  · exact absurd rd.1 hne
  rotate_left
  · exact absurd (hno _ (by rw [rd.2, G4.out]; exact Page.dec_of_enc LA.out.1 (by show 0 < _; omega))) (by show ¬ (1 : Int) = 4; omega)
  obtain rfl : p = leafP [97] := Page.dec_fun hdec (by rw [rd.2, G4.out]; exact Page.dec_of_enc LA.out.1 (by show 0 < _; omega))
  have S10 := Lib.hid (S9.out.quiet b10)
  have P10 := Lib.hid (put_page w10 (leafP [97]) y)
  have A10 := at_new w10 (pgC (leafP [97]) y) 37
  have S11 := Lib.hid (S10.out.quiet (Pool.below_box w10 (.cells (pgC (leafP [97]) y) 37)))
  have R11 := hrow.r1.below (Pool.below_box w10 (.cells (pgC (leafP [97]) y) 37))
  obtain ⟨W11, hW11⟩ : ∃ W, w10.alloc (.cells (pgC (leafP [97]) y) 37) = W := ⟨_, rfl⟩
  rw [hW11] at P10 A10 S11 R11
  have A11 := Lib.hid A10
  have R11' := Lib.hid R11
  clear b10 hrow hok hdec hk hnew S9 S10 cP rd hW11 A10 R11 G4 LA
  obtain ⟨a11, s11⟩ := S11.out.has
  have cO : Calls Tryz.prog 23 #[ptr (w.heap.size + 2)] W11 (OpenR B.sb B.bl B.bc d4 t4.sup t4.own t4.base W11) := by
    rw [← GB.out]
    exact open_any s11.dev VW.out OFF.out
  clear s11
  go_wp2_with (first | ((with_reducible refine Disk.wpList_store_eq rfl 37 (.tmp 13) (.tmp 57) rfl _ _ ?_ ?_ P10.out ?_); (next => rfl); (next => rfl)))
  refine cO.mono ?_
  rintro e w12 ⟨B2, a12, rfl, -, -, -, -, -, s12, b12⟩
  have S12 := Lib.hid (S11.out.quiet b12)
  have SO := Lib.hid s12
  have A12 := Lib.hid (A11.out.below b12 A11.out.1)
  have R12 := Lib.hid (R11'.out.below b12)
  clear b12 s12 cO S11 A11 R11' P10
  obtain ⟨ar, s12⟩ := S12.out.has
  have cQ := pool_any s12
  have c1 := A12.out.2.2 1 _ rfl
  have EL : ((t4.pool.limbo.length : Nat) : Int) = 1 := by rw [PL.out.1]; rfl
  clear s12
  go_wp2_with fail
  refine cQ.mono ?_
  rintro e w13 ⟨c, rfl, -, b13, -⟩
  have S13 := Lib.hid (S12.out.quiet b13)
  have O13 := Lib.hid (SO.out.below b13)
  have A13 := Lib.hid (A12.out.below b13 A12.out.1)
  obtain ⟨b, off, ey, hbl, hcr⟩ := (R12.out.below b13) (by simp [leafP])
  have q1 : w13.cell? ⟨w10.heap.size, 1, none⟩ = some (.slice y.A1 1 y.c1) := A13.out.2.2 1 _ rfl
  have q0 := (hcr 0 (by simp [leafP])).1
  have q0' : w13.cell? ⟨b, off, none⟩ = some (.string { data := #[97] }) := by rw [show off + 0 * 2 = off by omega] at q0; exact q0
  have cS : Calls Tryz.prog 14 #[ptr B2.ss] w13 (fun e w' => e = .returned (pgV t4.sup a12.s) ∧ Below w13.heap.size w13 w') := super_any (t := openT t4.sup t4.own t4.base) O13.out
  rw [ey] at q1
  have E2e : ((t4.sup.epoch : Nat) : Int) = 2 := by rw [E4.out.1]; rfl
  have E2r := E4.out.2
  clear b13 cQ c1 S12 SO A12 R12 q0 hcr ey
  go_wp2_with fail
  refine cS.mono ?_
  rintro e w14 ⟨rfl, b14⟩
  have S14 := Lib.hid (S13.out.quiet b14)
  have O14 := Lib.hid (O13.out.below b14)
  have cS2 : Calls Tryz.prog 14 #[ptr B2.ss] w14 (fun e w' => e = .returned (pgV t4.sup a12.s) ∧ Below w14.heap.size w14 w') := super_any (t := openT t4.sup t4.own t4.base) O14.out
  clear b14 cS q1 q0' S13 O13 A13 EL
  go_wp2_with fail
  refine cS2.mono ?_
  rintro e w15 ⟨rfl, b15⟩
  have S15 := Lib.hid (S14.out.quiet b15)
  obtain ⟨a15, s15⟩ := S15.out.has
  have cD : Calls Tryz.prog 31 #[ptr B.ss] w15 (fun e w' => e = .returned (ptr (w.heap.size + 2)) ∧ w15 = w') := by
    rw [← GB.out]
    exact device_any s15
  have cP2 := pool_any s15
  have eH := PL.out.2
  clear b15 cS2 S14 O14 s15
  go_wp2_with fail
  refine cD.mono ?_
  rintro e w16 ⟨rfl, rfl⟩
  go_wp2_with fail
  refine cP2.mono ?_
  rintro e w17 ⟨c2, rfl, -, b17, -⟩
  have S17 := Lib.hid (S15.out.below.trans (b17.mono S15.out.below.size))
  clear b17 cP2 cD S15
  go_wp2_with fail
  go_ret
  exact ⟨rfl, S17.out⟩
end Go.Proofs.YthnodkhcenmnfaaGreat.Store
namespace Go.Proofs.YthnodkhcenmnfaaGreat.Store
open Go.RowKit Gen
open Disk (St Dev Mod ptr)
open Page (Pg Lay PgOk PgRows pgC pgV Enc IsDec BytesAt strV)
open Pool (Po NAt PoAt La poC poV numV At takeP giveP backP Fresh PoolOk OwnI chunks layAll May)

theorem own : ownKnob Tryz.prog.godebug = none := by kernel_rfl
theorem names_walk (W : World) : Calls Tryz.prog 3 #[] W fun e W' => e = .returned (.bool true) ∧ Below W.heap.size W W' := by
  have cA := awake_any W
  go_enter Tryz.func3, Tryz.ntmps3
  go_wp2_with fail
  refine cA.mono ?_
  rintro e w1 ⟨rfl, b1⟩
  go_wp2_with fail
  go_ret
  exact ⟨rfl, b1⟩
theorem field_kind (p : Pg) (y : Lay) (W : World) : (Instr.field 37 (pgV p y) 0).run Tryz.prog W = .ok (.int .i64 p.kind) W := by kernel_rfl
set_option maxRecDepth 100000 in
set_option maxHeartbeats 8000000 in
theorem nil_walk (n : Int) (p : Pg) (y : Lay) (W : World) : Calls Tryz.prog 7 #[.int .i64 n, pgV p y] W fun e W' => e = .returned (.bool true) ∧ Below W.heap.size W W' := by
  have b0 := Pool.below_box W (.cells (pgC p y) 37)
  have A0 := at_new W (pgC p y) 37
  obtain ⟨W0, hW0⟩ : ∃ W0, W.alloc (.cells (pgC p y) 37) = W0 := ⟨_, rfl⟩
  rw [hW0] at b0 A0
  have cA := awake_any W0
  have A0H := Lib.hid A0
  have B0 := Lib.hid b0
  have fK := field_kind
  clear A0 b0
  generalize hC : pgC p y = C at *
  go_enter Tryz.func7, Tryz.ntmps7
  go_wp2_with (first | ((with_reducible refine Disk.wpList_box_eq rfl 37 (.tmp 1) rfl C ?_ ?_); (next => rfl)))
  refine cA.mono ?_
  rintro e w1 ⟨rfl, b1⟩
  have B1 := Lib.hid (B0.out.trans (b1.mono B0.out.size))
  have cP := page_nil n w1
  have A1H := Lib.hid (A0H.out.below b1 A0H.out.1)
  subst hC
  clear b1 cA B0 A0H
  go_wp2_with fail
  refine cP.mono ?_
  rintro e w2 ⟨rfl, b2⟩
  have b2' := b2.trans ((Pool.below_box w2 (.cells (pgC { kind := 0 } {}) 37)).mono b2.size)
  have B2 := Lib.hid (B1.out.trans (b2'.mono B1.out.size))
  have A2H := Lib.hid (A1H.out.below b2' A1H.out.1)
  have P2 := Lib.hid (put_page w2 { kind := 0 } {})
  have AZ := at_new w2 (pgC { kind := 0 } {}) 37
  obtain ⟨W3, hW3⟩ : ∃ W3, w2.alloc (.cells (pgC { kind := 0 } {}) 37) = W3 := ⟨_, rfl⟩
  rw [hW3] at B2 A2H P2 AZ
  have AZ3 := Lib.hid AZ
  have L3 := Lib.hid (load_page (o := 0) A2H.out p y rfl)
  have cY := lay_nil n p y W3
  clear b2 b2' hW3 cP B1 A1H AZ
  go_wp2_with (first | ((with_reducible refine Disk.wpList_store_eq rfl 37 (.tmp 7) (.tmp 23) rfl _ _ ?_ ?_ P2.out ?_); (next => rfl); (next => rfl)) | ((with_reducible refine Disk.wpList_load_eq rfl 37 (.tmp 3) rfl _ ?_ L3.out ?_); (next => rfl)))
  refine cY.mono ?_
  rintro e w4 ⟨rfl, b4⟩
  have B4 := Lib.hid (B2.out.trans (b4.mono B2.out.size))
  have AZ4 := Lib.hid (AZ3.out.below b4 AZ3.out.1)
  have cB := abort_nil w4
  clear b4 cY B2 AZ3 L3 P2 A2H
  go_wp2_with fail
  refine cB.mono ?_
  rintro e w5 ⟨rfl, rfl⟩
  have cO := open_nil w4
  have cF := format_nil w4
  have cQ := pool_nil w4
  clear cB
  go_wp2_with fail
  refine cO.mono ?_
  rintro e w5 ⟨rfl, rfl⟩
  go_wp2_with fail
  refine cF.mono ?_
  rintro e w5 ⟨rfl, rfl⟩
  clear cO cF
  go_wp2_with fail
  refine cQ.mono ?_
  rintro e w6 ⟨rfl, b6⟩
  have b6' := b6.trans ((Pool.below_box w6 (.cells (poC { high := 0 } {}) 40)).mono b6.size)
  have B6 := Lib.hid (B4.out.trans (b6'.mono B4.out.size))
  have AZ6 := Lib.hid (AZ4.out.below b6' AZ4.out.1)
  have P6 := Lib.hid (put_pool w6 { high := 0 } {})
  have AP := at_new w6 (poC { high := 0 } {}) 40
  obtain ⟨W7, hW7⟩ : ∃ W7, w6.alloc (.cells (poC { high := 0 } {}) 40) = W7 := ⟨_, rfl⟩
  rw [hW7] at B6 AZ6 P6 AP
  have AP7 := Lib.hid AP
  have q0 : W7.cell? ⟨w2.heap.size, 0, none⟩ = some (.int .i64 0) := AZ6.out.2.2 0 _ rfl
  have r0 : W7.cell? ⟨w6.heap.size, 0, none⟩ = some (.int .i64 0) := AP7.out.2.2 0 _ rfl
  have cD := drop_nil n W7
  have cC := commit_nil n n n W7
  have cS := super_nil W7
  clear b6 b6' hW7 cQ AP B4 AZ4
  go_wp2_with (first | ((with_reducible refine Disk.wpList_store_eq rfl 40 (.tmp 15) (.tmp 43) rfl _ _ ?_ ?_ P6.out ?_); (next => rfl); (next => rfl)))
  refine cD.mono ?_
  rintro e w8 ⟨rfl, rfl⟩
  go_wp2_with fail
  refine cC.mono ?_
  rintro e w8 ⟨rfl, rfl⟩
  go_wp2_with fail
  refine cS.mono ?_
  rintro e w8 ⟨rfl, b8⟩
  have B8 := Lib.hid (B6.out.trans (b8.mono B6.out.size))
  have r8 : w8.cell? ⟨w6.heap.size, 0, none⟩ = some (.int .i64 0) := (AP7.out.below b8 AP7.out.1).2.2 0 _ rfl
  have cL := lists_nil w8
  have cV := device_nil w8
  clear b8 cD cC cS B6 AZ6 P6 q0 r0 AP7
  go_wp2_with fail
  refine cL.mono ?_
  rintro e w9 ⟨rfl, rfl⟩
  go_wp2_with fail
  refine cV.mono ?_
  rintro e w9 ⟨rfl, rfl⟩
  go_wp2_with fail
  go_ret
  exact ⟨rfl, B8.out⟩
end Go.Proofs.YthnodkhcenmnfaaGreat.Store
