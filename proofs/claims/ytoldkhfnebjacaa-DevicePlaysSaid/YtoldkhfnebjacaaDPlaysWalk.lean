/-
  The walk of DevicePlays.
-/
import Derived.Test.YtoldkhfnebjacaaDRefNew
namespace Go.Proofs.Ytoldkhfnebjacaa.Disk
open Go.RowKit Go.Maps Gen

/-- A device and the document's one. -/
structure Duo (w0 w : World) (sb bl bc rb lb cb ib : Nat) (s r : St) : Prop where
  dev : On w0 w sb bl bc s
  ref : RefOn w0 w rb lb cb ib r
  dj : ∀ k ∈ [rb, lb, cb, ib], k ∉ [sb, bl, bc]
section
variable {w0 w w' : World} {sb bl bc rb lb cb ib : Nat} {s r s' r' : St}
theorem Duo.dj2 (h : Duo w0 w sb bl bc rb lb cb ib s r) : ∀ k ∈ [sb, bl, bc], k ∉ [rb, lb, cb, ib] := fun k hk hr => h.dj k hr hk
theorem Duo.onDev (h : Duo w0 w sb bl bc rb lb cb ib s r) (o : On w0 w' sb bl bc s') (m : Mod [sb, bl, bc] w w') : Duo w0 w' sb bl bc rb lb cb ib s' r :=
  ⟨o, ⟨h.ref.ref.kept m h.dj (fun _ _ hR hne a e => h.dev.dev.apart hR hne a e), o.below, h.ref.b1, h.ref.b2, h.ref.b3, h.ref.b4⟩, h.dj⟩
theorem Duo.onRef (h : Duo w0 w sb bl bc rb lb cb ib s r) (q : Ref w' rb lb cb ib r') (m : Mod [rb, lb, cb, ib] w w') : Duo w0 w' sb bl bc rb lb cb ib s r' :=
  ⟨h.dev.aside m (fun k hk => by simp at hk; have := h.ref.b1; have := h.ref.b2; have := h.ref.b3; have := h.ref.b4; omega) (h.dj2 _ (by simp)) (h.dj2 _ (by simp)) (h.dj2 _ (by simp)), h.ref.step q m, h.dj⟩
theorem Duo.grow (h : Duo w0 w sb bl bc rb lb cb ib s r) (b : Below w.heap.size w w') : Duo w0 w' sb bl bc rb lb cb ib s r := ⟨h.dev.grow b, h.ref.grow b, h.dj⟩
theorem Duo.new (h : Duo w0 w sb bl bc rb lb cb ib s r) {g : Nat} (hg : w.heap.size ≤ g) : g ∉ [sb, bl, bc] ∧ g ∉ [rb, lb, cb, ib] := ⟨by have := h.dev.new hg; simpa using this, h.ref.new hg⟩
theorem Duo.begin {w1 w2 : World} (h : On w0 w1 sb bl bc s) (r : RefOn w1 w2 rb lb cb ib r') : Duo w0 w2 sb bl bc rb lb cb ib s r' := by
  have b := r.below
  have g1 := h.dev.lt
  have g2 := h.dev.last.lt
  have g3 := h.dev.cache.lt
  have g4 := h.below.size
  have k1 := r.b1
  have k2 := r.b2
  have k3 := r.b3
  have k4 := r.b4
  refine ⟨h.grow b, ⟨r.ref, h.below.trans (b.mono h.below.size), by omega, by omega, by omega, by omega⟩, fun k hk => ?_⟩
  simp at hk ⊢
  omega
end
/-- A call's six cells in a block of its own. -/
def CBlk (w : World) (g : Nat) (kd nn cut : Int) (y : UInt8) (A1 : Option Addr) (n1 c1 : Nat) (A2 : Option Addr) (n2 c2 : Nat) : Prop :=
  g < w.heap.size ∧ w.cell? ⟨g, 0, none⟩ = some (.int .i64 kd) ∧ w.cell? ⟨g, 1, none⟩ = some (.int .i64 nn) ∧ w.cell? ⟨g, 2, none⟩ = some (.slice A1 n1 c1) ∧ w.cell? ⟨g, 3, none⟩ = some (.slice A2 n2 c2) ∧ w.cell? ⟨g, 4, none⟩ = some (.int .i64 cut) ∧ w.cell? ⟨g, 5, none⟩ = some (byteV y)
section
variable {w w' : World} {g : Nat} {kd nn cut : Int} {y : UInt8} {A1 A2 : Option Addr} {n1 c1 n2 c2 : Nat}
theorem CBlk.mod {S : List Nat} (h : CBlk w g kd nn cut y A1 n1 c1 A2 n2 c2) (m : Mod S w w') (hg : g ∉ S) : CBlk w' g kd nn cut y A1 n1 c1 A2 n2 c2 := by
  obtain ⟨h0, h1, h2, h3, h4, h5, h6⟩ := h
  have e := fun j => m.cell (p := ⟨g, j, none⟩) h0 hg
  exact ⟨Nat.lt_of_lt_of_le h0 m.size, (e 0).trans h1, (e 1).trans h2, (e 2).trans h3, (e 3).trans h4, (e 4).trans h5, (e 5).trans h6⟩
theorem CBlk.below (h : CBlk w g kd nn cut y A1 n1 c1 A2 n2 c2) (b : Below w.heap.size w w') : CBlk w' g kd nn cut y A1 n1 c1 A2 n2 c2 := h.mod (Mod.of_below [] b) (by simp)
theorem CBlk.made (w : World) (kd nn cut : Int) (y : UInt8) (A1 : Option Addr) (n1 c1 : Nat) (A2 : Option Addr) (n2 c2 : Nat) : CBlk (w.alloc (.cells #[.int .i64 kd, .int .i64 nn, .slice A1 n1 c1, .slice A2 n2 c2, .int .i64 cut, byteV y] 35)) w.heap.size kd nn cut y A1 n1 c1 A2 n2 c2 := by
  have hc := fun j => cell_of_row _ _ j _ _ _ (heap_alloc_last w (.cells #[.int .i64 kd, .int .i64 nn, .slice A1 n1 c1, .slice A2 n2 c2, .int .i64 cut, byteV y] 35))
  exact ⟨by simp, hc 0, hc 1, hc 2, hc 3, hc 4, hc 5⟩
end
/-- What Did leaves. -/
def DidPost (w0 : World) (sb bl bc rb lb cb ib N : Nat) (e : Ending) (w' : World) : Prop := e = .returned (.bool true) ∧ ∃ s, s.n = N ∧ Duo w0 w' sb bl bc rb lb cb ib s s
section
variable (w0 w : World) (sb bl bc rb lb cb ib N : Nat) (s : St) (nn cut : Int) (y : UInt8) (A1 : Option Addr) (n1 c1 : Nat) (A2 : Option Addr) (n2 c2 : Nat)
set_option maxRecDepth 100000 in
set_option maxHeartbeats 4000000 in
theorem did_read (h : Duo w0 w sb bl bc rb lb cb ib s s) (hN : s.n = N) : Calls Try.prog 14 #[ptr sb, ptr rb, .agg #[.int .i64 1, .int .i64 nn, .slice A1 n1 c1, .slice A2 n2 c2, .int .i64 cut, byteV y]] w (DidPost w0 sb bl bc rb lb cb ib N) := by
  have cb0 := CBlk.made w 1 nn cut y A1 n1 c1 A2 n2 c2
  have D0 := Lib.hid (h.grow ((Below.refl _ _).alloc (Nat.le_refl _) (.cells #[.int .i64 1, .int .i64 nn, .slice A1 n1 c1, .slice A2 n2 c2, .int .i64 cut, byteV y] 35)))
  have HN := Lib.hid hN
  have CB := Lib.hid cb0
  clear h hN cb0
  go_enter Try.func14, Try.ntmps14
  go_wp2_with fail
  refine (D0.out.dev.read nn).mono ?_
  rintro e w1 ⟨A, rfl, hr, _, _, o1, b1⟩
  have D1 := Lib.hid (D0.out.grow b1)
  have HR := Lib.hid hr
  obtain ⟨_, f0, f1, _⟩ := CB.out.below b1
  clear o1 b1 hr D0
  go_wp2_with fail
  refine (rread_ref _ rb lb cb ib s nn D1.out.ref.ref).mono ?_
  rintro e w2 ⟨A', c', rfl, hr2, rfl⟩
  have u1 := conv_run (s.readB nn).length rfl HR.out
  have u2 := conv_run c' rfl hr2
  have HR2 := Lib.hid hr2
  clear hr2
  generalize strB (s.readB nn) = S at *
  go_wp2_with fail
  go_ret
  exact ⟨rfl, s, HN.out, D1.out⟩
set_option maxRecDepth 100000 in
set_option maxHeartbeats 4000000 in
theorem did_sync (h : Duo w0 w sb bl bc rb lb cb ib s s) (hN : s.n = N) : Calls Try.prog 14 #[ptr sb, ptr rb, .agg #[.int .i64 3, .int .i64 nn, .slice A1 n1 c1, .slice A2 n2 c2, .int .i64 cut, byteV y]] w (DidPost w0 sb bl bc rb lb cb ib N) := by
  have D0 := Lib.hid (h.grow ((Below.refl _ _).alloc (Nat.le_refl _) (.cells #[.int .i64 3, .int .i64 nn, .slice A1 n1 c1, .slice A2 n2 c2, .int .i64 cut, byteV y] 35)))
  have HN := Lib.hid hN
  clear h hN
  go_enter Try.func14, Try.ntmps14
  go_wp2_with fail
  refine D0.out.dev.sync.mono ?_
  rintro e w1 ⟨rfl, o1, m1⟩
  have D1 := Lib.hid (D0.out.onDev o1 m1)
  have FF := Lib.hid (And.intro D0.out.dev.dev.f0 D0.out.dev.dev.f1)
  clear o1 m1 D0
  go_wp2_with fail
  refine (rsync_ref _ rb lb cb ib s D1.out.ref.ref FF.out.1 FF.out.2).mono ?_
  rintro e w2 ⟨rfl, q2, m2⟩
  have D2 := Lib.hid (D1.out.onRef q2 m2)
  have HS := Lib.hid ((sync_n s).trans HN.out)
  clear q2 m2 D1
  generalize s.syncE = E at *
  go_wp2_with fail
  go_ret
  exact ⟨rfl, _, HS.out, D2.out⟩
set_option maxRecDepth 100000 in
set_option maxHeartbeats 4000000 in
theorem did_fuse (h : Duo w0 w sb bl bc rb lb cb ib s s) (hN : s.n = N) (k1 : nn ≤ 9223372036854775807) : Calls Try.prog 14 #[ptr sb, ptr rb, .agg #[.int .i64 4, .int .i64 nn, .slice A1 n1 c1, .slice A2 n2 c2, .int .i64 cut, byteV y]] w (DidPost w0 sb bl bc rb lb cb ib N) := by
  have cb0 := CBlk.made w 4 nn cut y A1 n1 c1 A2 n2 c2
  have D0 := Lib.hid (h.grow ((Below.refl _ _).alloc (Nat.le_refl _) (.cells #[.int .i64 4, .int .i64 nn, .slice A1 n1 c1, .slice A2 n2 c2, .int .i64 cut, byteV y] 35)))
  have GG := Lib.hid (h.new (Nat.le_refl _))
  have HN := Lib.hid hN
  have CB := Lib.hid cb0
  clear h hN cb0
  go_enter Try.func14, Try.ntmps14
  go_wp2_with fail
  refine (D0.out.dev.fuse nn k1).mono ?_
  rintro e w1 ⟨rfl, o1, m1⟩
  have D1 := Lib.hid (D0.out.onDev o1 m1)
  obtain ⟨_, f0, f1, _⟩ := CB.out.mod m1 GG.out.1
  clear o1 m1 D0
  go_wp2_with fail
  refine (rfuse_ref _ rb lb cb ib s nn D1.out.ref.ref).mono ?_
  rintro e w2 ⟨rfl, q2, m2⟩
  have D2 := Lib.hid (D1.out.onRef q2 m2)
  clear q2 m2 D1 f0 f1
  go_wp2_with fail
  go_ret
  exact ⟨rfl, s.setFuse nn, HN.out, D2.out⟩
set_option maxRecDepth 100000 in
set_option maxHeartbeats 4000000 in
theorem did_restart (h : Duo w0 w sb bl bc rb lb cb ib s s) (hN : s.n = N) (ks : List Int) (hks : ks.length = n2) (hn : n2 ≤ 9223372036854775807) (hR : IRow w0 A2 ks) (hkb : ∀ x ∈ ks, -9223372036854775808 ≤ x ∧ x ≤ 9223372036854775807) (ht0 : -9223372036854775808 ≤ nn) (ht1 : nn ≤ 9223372036854775807) :
    Calls Try.prog 14 #[ptr sb, ptr rb, .agg #[.int .i64 5, .int .i64 nn, .slice A1 n1 c1, .slice A2 n2 c2, .int .i64 cut, byteV y]] w (DidPost w0 sb bl bc rb lb cb ib N) := by
  have cb0 := CBlk.made w 5 nn cut y A1 n1 c1 A2 n2 c2
  have D0 := Lib.hid (h.grow ((Below.refl _ _).alloc (Nat.le_refl _) (.cells #[.int .i64 5, .int .i64 nn, .slice A1 n1 c1, .slice A2 n2 c2, .int .i64 cut, byteV y] 35)))
  have GG := Lib.hid (h.new (Nat.le_refl _))
  have HN := Lib.hid hN
  have CB := Lib.hid cb0
  have HKS := Lib.hid hks
  have HR := Lib.hid hR
  have HKB := Lib.hid hkb
  clear h hN cb0 hks hR hkb
  go_enter Try.func14, Try.ntmps14
  go_wp2_with fail
  refine (D0.out.dev.restartW A2 n2 c2 nn cut ks HKS.out hn HR.out HKB.out ht0 ht1).mono ?_
  rintro e w1 ⟨rfl, o1, m1⟩
  have D1 := Lib.hid (D0.out.onDev o1 m1)
  obtain ⟨_, f0, f1, f2, f3, f4, f5⟩ := CB.out.mod m1 GG.out.1
  clear o1 m1 D0
  go_wp2_with fail
  refine (rrestart_ref w0 _ rb lb cb ib s D1.out.ref A2 n2 c2 nn cut ks HKS.out hn HR.out).mono ?_
  rintro e w2 ⟨rfl, q2, m2⟩
  have D2 := Lib.hid (D1.out.onRef q2 m2)
  have HS := Lib.hid ((restart_n s ks nn cut).trans HN.out)
  clear q2 m2 D1 f0 f1 f2 f3 f4 f5
  go_wp2_with fail
  go_ret
  exact ⟨rfl, _, HS.out, D2.out⟩
set_option maxRecDepth 100000 in
set_option maxHeartbeats 4000000 in
theorem did_other (kd : Int) (h : Duo w0 w sb bl bc rb lb cb ib s s) (hN : s.n = N) (e1 : kd ≠ 1) (e2 : kd ≠ 2) (e3 : kd ≠ 3) (e4 : kd ≠ 4) (e5 : kd ≠ 5) (e6 : kd ≠ 6) :
    Calls Try.prog 14 #[ptr sb, ptr rb, .agg #[.int .i64 kd, .int .i64 nn, .slice A1 n1 c1, .slice A2 n2 c2, .int .i64 cut, byteV y]] w (DidPost w0 sb bl bc rb lb cb ib N) := by
  have D0 := Lib.hid (h.grow ((Below.refl _ _).alloc (Nat.le_refl _) (.cells #[.int .i64 kd, .int .i64 nn, .slice A1 n1 c1, .slice A2 n2 c2, .int .i64 cut, byteV y] 35)))
  have HN := Lib.hid hN
  have b1 : (kd == 1) = false := by simpa using e1
  have b2 : (kd == 2) = false := by simpa using e2
  have b3 : (kd == 3) = false := by simpa using e3
  have b4 : (kd == 4) = false := by simpa using e4
  have b5 : (kd == 5) = false := by simpa using e5
  have b6 : (kd == 6) = false := by simpa using e6
  clear h hN e1 e2 e3 e4 e5 e6
  go_enter Try.func14, Try.ntmps14
  go_wp2_with fail
  go_ret
  exact ⟨rfl, s, HN.out, D0.out⟩
set_option maxRecDepth 100000 in
set_option maxHeartbeats 4000000 in
theorem did_write (h : Duo w0 w sb bl bc rb lb cb ib s s) (hN : s.n = N) (bs : Bs) (hbs : bs.length = n1) (hA0 : A1 = none → c1 = 0) (hR : BRow w0 A1 bs) :
    Calls Try.prog 14 #[ptr sb, ptr rb, .agg #[.int .i64 2, .int .i64 nn, .slice A1 n1 c1, .slice A2 n2 c2, .int .i64 cut, byteV y]] w (DidPost w0 sb bl bc rb lb cb ib N) := by
  have cb0 := CBlk.made w 2 nn cut y A1 n1 c1 A2 n2 c2
  have d0 := h.grow ((Below.refl _ _).alloc (Nat.le_refl _) (.cells #[.int .i64 2, .int .i64 nn, .slice A1 n1 c1, .slice A2 n2 c2, .int .i64 cut, byteV y] 35))
  have D0 := Lib.hid (d0.grow ((Below.refl _ _).drew))
  have GG := Lib.hid (h.new (Nat.le_refl _))
  have HN := Lib.hid hN
  have CB := Lib.hid (cb0.below ((Below.refl _ _).drew))
  have HBS := Lib.hid hbs
  have HA0 := Lib.hid hA0
  have HR := Lib.hid hR
  have K0 := Lib.hid (And.intro CB.out.2.2.1 CB.out.2.2.2.1)
  have FF := Lib.hid (And.intro h.dev.dev.f0 h.dev.dev.f1)
  clear h hN cb0 d0 hbs hA0 hR
  go_enter Try.func14, Try.ntmps14
  go_wp2_with fail
  go_region_held3 (fun w' => w'.cell? ⟨w.heap.size, 1, none⟩ = some (.int .i64 nn) ∧ w'.cell? ⟨w.heap.size, 2, none⟩ = some (.slice A1 n1 c1))
    (first | exact K0.out | exact K1.out | exact K2.out)
    (first
      | (go_at_call 19; (with_reducible refine (D0.out.dev.write0 nn A1 n1 c1 bs HBS.out HR.out).mono ?_); rintro e w1 ⟨rfl, o1, m1⟩; have D1 := Lib.hid (D0.out.onDev o1 m1); have CB1 := Lib.hid (CB.out.mod m1 GG.out.1); have K1 := Lib.hid (And.intro CB1.out.2.2.1 CB1.out.2.2.2.1); clear o1 m1)
      | (go_at_call 29; (with_reducible refine (rwrite_ref _ rb lb cb ib s nn A1 n1 c1 bs HBS.out HA0.out (RowG.below HR.out D1.out.ref.below) D1.out.ref.ref FF.out.1 FF.out.2).mono ?_); rintro e w2 ⟨rfl, q2, m2⟩; have D2 := Lib.hid (D1.out.onRef q2 m2); have CB2 := Lib.hid (CB1.out.mod m2 GG.out.2); have K2 := Lib.hid (And.intro CB2.out.2.2.1 CB2.out.2.2.2.1); clear q2 m2))
  have HS := Lib.hid ((write_n s nn bs).trans HN.out)
  clear K0 K1 K2
  go_wp2_with fail
  go_ret
  exact ⟨rfl, _, HS.out, D2.out⟩
set_option maxRecDepth 100000 in
set_option maxHeartbeats 4000000 in
theorem did_spoil (h : Duo w0 w sb bl bc rb lb cb ib s s) (hN : s.n = N) :
    Calls Try.prog 14 #[ptr sb, ptr rb, .agg #[.int .i64 6, .int .i64 nn, .slice A1 n1 c1, .slice A2 n2 c2, .int .i64 cut, byteV y]] w (DidPost w0 sb bl bc rb lb cb ib N) := by
  have cb0 := CBlk.made w 6 nn cut y A1 n1 c1 A2 n2 c2
  have d0 := h.grow ((Below.refl _ _).alloc (Nat.le_refl _) (.cells #[.int .i64 6, .int .i64 nn, .slice A1 n1 c1, .slice A2 n2 c2, .int .i64 cut, byteV y] 35))
  have D0 := Lib.hid (d0.grow ((Below.refl _ _).drew))
  have GG := Lib.hid (h.new (Nat.le_refl _))
  have HN := Lib.hid hN
  have CB := Lib.hid (cb0.below ((Below.refl _ _).drew))
  have K0 := Lib.hid (And.intro CB.out.2.2.1 CB.out.2.2.2.2.2)
  clear h hN cb0 d0
  go_enter Try.func14, Try.ntmps14
  go_wp2_with fail
  go_region_held3 (fun w' => w'.cell? ⟨w.heap.size, 1, none⟩ = some (.int .i64 nn) ∧ w'.cell? ⟨w.heap.size, 4, none⟩ = some (.int .i64 cut) ∧ w'.cell? ⟨w.heap.size, 5, none⟩ = some (byteV y))
    (first | exact K0.out | exact K1.out | exact K2.out)
    (first
      | (go_at_call 26; (with_reducible refine (D0.out.dev.spoil nn cut y).mono ?_); rintro e w1 ⟨rfl, o1, m1⟩; have D1 := Lib.hid (D0.out.onDev o1 m1); have CB1 := Lib.hid (CB.out.mod m1 GG.out.1); have K1 := Lib.hid (And.intro CB1.out.2.2.1 CB1.out.2.2.2.2.2); clear o1 m1)
      | (go_at_call 33; (with_reducible refine (rspoil_ref _ rb lb cb ib s nn cut y D1.out.ref.ref).mono ?_); rintro e w2 ⟨rfl, q2, m2⟩; have D2 := Lib.hid (D1.out.onRef q2 m2); have CB2 := Lib.hid (CB1.out.mod m2 GG.out.2); have K2 := Lib.hid (And.intro CB2.out.2.2.1 CB2.out.2.2.2.2.2); clear q2 m2))
  have HS := Lib.hid ((spoil_n s nn cut y).trans HN.out)
  clear K0 K1 K2
  go_wp2_with fail
  go_ret
  exact ⟨rfl, _, HS.out, D2.out⟩
theorem did_any (kd : Int) (h : Duo w0 w sb bl bc rb lb cb ib s s) (hN : s.n = N) (bs : Bs) (ks : List Int) (hbs : bs.length = n1) (hks : ks.length = n2) (hrow : CallRows w0 ⟨kd, nn, bs, ks, cut, y⟩ A1 c1 A2) (hok : CallOk ⟨kd, nn, bs, ks, cut, y⟩) :
    Calls Try.prog 14 #[ptr sb, ptr rb, .agg #[.int .i64 kd, .int .i64 nn, .slice A1 n1 c1, .slice A2 n2 c2, .int .i64 cut, byteV y]] w (DidPost w0 sb bl bc rb lb cb ib N) := by
  by_cases e1 : kd = 1
  · subst e1; exact did_read w0 w sb bl bc rb lb cb ib N s nn cut y A1 n1 c1 A2 n2 c2 h hN
  by_cases e2 : kd = 2
  · subst e2; exact did_write w0 w sb bl bc rb lb cb ib N s nn cut y A1 n1 c1 A2 n2 c2 h hN bs hbs hrow.nb hrow.rb
  by_cases e3 : kd = 3
  · subst e3; exact did_sync w0 w sb bl bc rb lb cb ib N s nn cut y A1 n1 c1 A2 n2 c2 h hN
  by_cases e4 : kd = 4
  · subst e4; exact did_fuse w0 w sb bl bc rb lb cb ib N s nn cut y A1 n1 c1 A2 n2 c2 h hN hok.n1
  by_cases e5 : kd = 5
  · subst e5; exact did_restart w0 w sb bl bc rb lb cb ib N s nn cut y A1 n1 c1 A2 n2 c2 h hN ks hks (by rw [← hks]; exact hok.kl) hrow.rk hok.ks hok.n0 hok.n1
  by_cases e6 : kd = 6
  · subst e6; exact did_spoil w0 w sb bl bc rb lb cb ib N s nn cut y A1 n1 c1 A2 n2 c2 h hN
  · exact did_other w0 w sb bl bc rb lb cb ib N s nn cut y A1 n1 c1 A2 n2 c2 kd h hN e1 e2 e3 e4 e5 e6
end
set_option maxRecDepth 100000 in
set_option maxHeartbeats 4000000 in
theorem shows_on (w0 w : World) (sb bl bc rb lb cb ib : Nat) (s : St) (h : Duo w0 w sb bl bc rb lb cb ib s s) : Calls Try.prog 15 #[ptr sb, ptr rb] w fun e w' => e = .returned (.bool true) ∧ Duo w0 w' sb bl bc rb lb cb ib s s := by
  have D0 := Lib.hid h
  have NZ := Lib.hid h.dev.dev.nz
  have HL1 := Lib.hid (show s.lasts.length ≤ 4096 from Nat.le_trans (listOf_le _ _) h.dev.dev.nle)
  have HL2 := Lib.hid (show s.caches.length ≤ 4096 from Nat.le_trans (listOf_le _ _) h.dev.dev.nle)
  clear h
  go_enter Try.func15, Try.ntmps15
  go_wp2_with fail
  refine D0.out.dev.lasting.mono ?_
  rintro e w1 ⟨v1, rfl, k1, _, b1⟩
  have D1 := Lib.hid (D0.out.grow b1)
  have K1 := Lib.hid k1
  clear k1 b1 D0
  go_wp2_with fail
  refine (rlasting_ref _ rb lb cb ib _ s rfl D1.out.ref.ref NZ.out).mono ?_
  rintro e w2 ⟨v2, rfl, k2, b2⟩
  have D2 := Lib.hid (D1.out.grow b2)
  have K1' := Lib.hid (K1.out.below b2)
  have K2 := Lib.hid k2
  clear k2 b2 D1 K1
  go_wp2_with fail
  refine (same_any v1 v2 _ _ HL1.out _ K1'.out K2.out).mono ?_
  rintro e w3 ⟨rfl, d3⟩
  rw [decide_eq_true rfl]
  have D3 := Lib.hid (D2.out.grow (d3.below _))
  clear d3 D2 K1' K2
  go_wp2_with fail
  refine D3.out.dev.cached.mono ?_
  rintro e w4 ⟨v4, rfl, k4, _, b4⟩
  have D4 := Lib.hid (D3.out.grow b4)
  have K4 := Lib.hid k4
  clear k4 b4 D3
  go_wp2_with fail
  refine (rcached_ref _ rb lb cb ib _ s rfl D4.out.ref.ref).mono ?_
  rintro e w5 ⟨v5, rfl, k5, b5⟩
  have D5 := Lib.hid (D4.out.grow b5)
  have K4' := Lib.hid (K4.out.below b5)
  have K5 := Lib.hid k5
  clear k5 b5 D4 K4
  go_wp2_with fail
  refine (same_any v4 v5 _ _ HL2.out _ K4'.out K5.out).mono ?_
  rintro e w6 ⟨rfl, d6⟩
  rw [decide_eq_true rfl]
  have D6 := Lib.hid ((D5.out.grow (d6.below _)).grow ((Below.refl _ _).drew))
  have KS : Hid (w6.drew.cell? ⟨rb, 3, none⟩ = some (.bool s.off) ∧ w6.drew.cell? ⟨rb, 0, none⟩ = some (hdr lb s.n)) := Lib.hid (by
    obtain ⟨left, c0, _, _, c3, _, _, _⟩ := D6.out.ref.ref.cells
    exact ⟨c3, c0⟩)
  have cO := Lib.hid (off_dev _ sb bl bc s D6.out.dev.dev)
  have cS := Lib.hid (sectors_dev _ sb bl bc s D6.out.dev.dev)
  clear d6 D5 K4' K5
  generalize s.off = B at *
  generalize s.n = N at *
  go_wp2_with fail
  go_region_held3 (fun w' => w'.cell? ⟨rb, 3, none⟩ = some (.bool B) ∧ w'.cell? ⟨rb, 0, none⟩ = some (hdr lb N)) (exact KS.out)
    (first
      | (go_at_call 25; (with_reducible refine cO.out.mono ?_); rintro e w7 ⟨rfl, rfl⟩)
      | (go_at_call 27; (with_reducible refine cS.out.mono ?_); rintro e w7 ⟨rfl, rfl⟩))
  go_wp2_with fail
  go_ret
  exact ⟨rfl, D6.out⟩
end Go.Proofs.Ytoldkhfnebjacaa.Disk
