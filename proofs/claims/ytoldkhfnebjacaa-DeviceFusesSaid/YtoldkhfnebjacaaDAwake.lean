/-
  A device that a call has made, through its calls; the calls at the head of all statements of stage 4.
-/
import Derived.Test.YtoldkhfnebjacaaDTold
import Derived.Lib.SlBytesConst
namespace Go.Proofs.Ytoldkhfnebjacaa.Disk
open Go.RowKit Go.Maps Gen

/-- A device that was made since w0; nothing that lay there before has changed. -/
structure On (w0 w : World) (sb bl bc : Nat) (s : St) : Prop where
  dev : Dev w sb bl bc s
  below : Below w0.heap.size w0 w
  b1 : w0.heap.size ≤ sb
  b2 : w0.heap.size ≤ bl
  b3 : w0.heap.size ≤ bc
theorem On.step {w0 w w' : World} {sb bl bc : Nat} {s s' : St} (h : On w0 w sb bl bc s) (d : Dev w' sb bl bc s') (m : Mod [sb, bl, bc] w w') : On w0 w' sb bl bc s' :=
  ⟨d, h.below.trans (m.below h.below.size (fun k hk => by simp at hk; have := h.b1; have := h.b2; have := h.b3; omega)), h.b1, h.b2, h.b3⟩
theorem On.grow {w0 w w' : World} {sb bl bc : Nat} {s : St} (h : On w0 w sb bl bc s) (b : Below w.heap.size w w') : On w0 w' sb bl bc s := ⟨h.dev.below b, h.below.trans (b.mono h.below.size), h.b1, h.b2, h.b3⟩
theorem On.alloc {w0 w : World} {sb bl bc : Nat} {s : St} (h : On w0 w sb bl bc s) (o : Obj) : On w0 (w.alloc o) sb bl bc s := h.grow ((Below.refl _ _).alloc (Nat.le_refl _) o)
theorem On.new {w0 w : World} {sb bl bc : Nat} {s : St} (h : On w0 w sb bl bc s) {k : Nat} (hk : w.heap.size ≤ k) : k ≠ sb ∧ k ≠ bl ∧ k ≠ bc := by
  have h1 := h.dev.lt
  have h2 := h.dev.last.lt
  have h3 := h.dev.cache.lt
  omega
theorem On.old {w0 w : World} {sb bl bc : Nat} {s : St} (h : On w0 w sb bl bc s) {k : Nat} (hk : k < w0.heap.size) : k ≠ sb ∧ k ≠ bl ∧ k ≠ bc := by
  have h1 := h.b1
  have h2 := h.b2
  have h3 := h.b3
  omega
theorem On.made {w0 w w' : World} {n : Nat} (hb : Below w0.heap.size w0 w) (d : Dev w' (w.heap.size + 2) w.heap.size (w.heap.size + 1) (St.fresh n)) (b : Below w.heap.size w w') : On w0 w' (w.heap.size + 2) w.heap.size (w.heap.size + 1) (St.fresh n) :=
  ⟨d, hb.trans (b.mono hb.size), by have := hb.size; omega, hb.size, by have := hb.size; omega⟩
theorem lit_row (w : World) (C : Array Value) (t : TypeId) (fr : Nat × Nat) (l : List UInt8) (h : ∀ k (hk : k < l.length), C[k]? = some (byteV l[k])) : BRow (w.alloc (.cells C t fr)) (some ⟨w.heap.size, 0, none⟩) l := fun _ =>
  ⟨w.heap.size, 0, rfl, by rw [World.size_alloc]; omega, fun k hk => by rw [Nat.zero_add, World.cell?_alloc_mark]; exact h k hk⟩
theorem row_ab (w : World) (t : TypeId) (fr : Nat × Nat) : BRow (w.alloc (.cells #[.int .u8 97, .int .u8 98] t fr)) (some ⟨w.heap.size, 0, none⟩) [97, 98] :=
  lit_row _ _ _ _ _ fun k hk => match k, hk with
    | 0, _ => rfl | 1, _ => rfl
    | n + 2, h => by simp at h; omega
theorem row_xyz (w : World) (t : TypeId) (fr : Nat × Nat) : BRow (w.alloc (.cells #[.int .u8 120, .int .u8 121, .int .u8 122] t fr)) (some ⟨w.heap.size, 0, none⟩) [120, 121, 122] :=
  lit_row _ _ _ _ _ fun k hk => match k, hk with
    | 0, _ => rfl | 1, _ => rfl | 2, _ => rfl
    | n + 3, h => by simp at h; omega
theorem row_a (w : World) (t : TypeId) (fr : Nat × Nat) : BRow (w.alloc (.cells #[.int .u8 97] t fr)) (some ⟨w.heap.size, 0, none⟩) [97] :=
  lit_row _ _ _ _ _ fun k hk => match k, hk with
    | 0, _ => rfl
    | n + 1, h => by simp at h
def aw1 : St := (St.fresh 8).write 1 [97, 98]
def aw2 : St := aw1.sync
def aw3 : St := aw2.write 1 [120, 121, 122]
def aw4 : St := aw3.restart [] 1 1
def aw5 : St := aw4.setFuse 1
def aw6 : St := aw5.write 0 [97]
def aw7 : St := aw6.sync
theorem awE1 : (St.fresh 8).writeE 1 [97, 98] = 0 := by decide +kernel
theorem awE2 : aw1.syncE = 0 := by decide +kernel
theorem awE3 : aw2.writeE 1 [120, 121, 122] = 0 := by decide +kernel
theorem awE4 : aw4.readE 1 = 0 := by decide +kernel
theorem awE5 : aw4.readE 9 = 41 := by decide +kernel
theorem awE6 : aw5.writeE 0 [97] = 0 := by decide +kernel
theorem awE7 : aw6.syncE = 40 := by decide +kernel
theorem awB : (aw4.readB 1).length = 1024 ∧ (aw4.readB 1)[0]? = some 120 ∧ (aw4.readB 1)[1]? = some 98 ∧ (aw4.readB 1)[2]? = some 0 := by decide +kernel
theorem awL : aw7.lasts.length = 1 ∧ aw7.caches.length = 1 ∧ aw7.off = true ∧ aw7.n = 8 := by decide +kernel
theorem On.write {w0 w : World} {sb bl bc : Nat} {s : St} (h : On w0 w sb bl bc s) (n : Int) (A : Option Addr) (k c : Nat) (l : Bs) (hl : l.length = k) (hR : BRow w A l) (hA : l ≠ [] → ∀ a, A = some a → a.block ≠ sb ∧ a.block ≠ bl ∧ a.block ≠ bc) :
    Calls Try.prog 19 #[ptr sb, .int .i64 n, .slice A k c] w fun e w' => e = .returned (.int .i64 (s.writeE n l)) ∧ On w0 w' sb bl bc (s.write n l) ∧ Mod [sb, bl, bc] w w' :=
  (write_dev w sb bl bc s n A k c l hl hR hA h.dev).mono fun _ _ ⟨e, d, m⟩ => ⟨e, h.step d m, m⟩
theorem On.sync {w0 w : World} {sb bl bc : Nat} {s : St} (h : On w0 w sb bl bc s) : Calls Try.prog 23 #[ptr sb] w fun e w' => e = .returned (.int .i64 s.syncE) ∧ On w0 w' sb bl bc s.sync ∧ Mod [sb, bl, bc] w w' :=
  (sync_dev w sb bl bc s h.dev).mono fun _ _ ⟨e, d, m⟩ => ⟨e, h.step d m, m⟩
theorem On.fuse {w0 w : World} {sb bl bc : Nat} {s : St} (h : On w0 w sb bl bc s) (k : Int) (k1 : k ≤ 9223372036854775807) : Calls Try.prog 24 #[ptr sb, .int .i64 k] w fun e w' => e = .returned (.tuple #[]) ∧ On w0 w' sb bl bc (s.setFuse k) ∧ Mod [sb, bl, bc] w w' :=
  (fuse_dev w sb bl bc s k h.dev k1).mono fun _ _ ⟨e, d, m⟩ => ⟨e, h.step d m, m⟩
theorem On.restart {w0 w : World} {sb bl bc : Nat} {s : St} (h : On w0 w sb bl bc s) (A : Option Addr) (n c : Nat) (t cut : Int) (ks : List Int) (hks : ks.length = n) (hn : n ≤ 9223372036854775807) (hR : IRow w A ks) (hA : ks ≠ [] → ∀ a, A = some a → a.block ≠ sb ∧ a.block ≠ bl ∧ a.block ≠ bc)
    (hkb : ∀ x ∈ ks, -9223372036854775808 ≤ x ∧ x ≤ 9223372036854775807) (ht0 : -9223372036854775808 ≤ t) (ht1 : t ≤ 9223372036854775807) :
    Calls Try.prog 17 #[ptr sb, .slice A n c, .int .i64 t, .int .i64 cut] w fun e w' => e = .returned (.tuple #[]) ∧ On w0 w' sb bl bc (s.restart ks t cut) ∧ Mod [sb, bl, bc] w w' :=
  (restart_dev w sb bl bc s A n c t cut ks hks hn hR hA hkb ht0 ht1 h.dev).mono fun _ _ ⟨e, d, m⟩ => ⟨e, h.step d m, m⟩
theorem On.restart0 {w0 w : World} {sb bl bc : Nat} {s : St} (h : On w0 w sb bl bc s) (t cut : Int) (ht0 : -9223372036854775808 ≤ t) (ht1 : t ≤ 9223372036854775807) :
    Calls Try.prog 17 #[ptr sb, .slice none 0 0, .int .i64 t, .int .i64 cut] w fun e w' => e = .returned (.tuple #[]) ∧ On w0 w' sb bl bc (s.restart [] t cut) ∧ Mod [sb, bl, bc] w w' :=
  h.restart none 0 0 t cut [] rfl (by omega) (fun h => absurd rfl h) (fun _ _ h => by cases h) (fun _ h => by cases h) ht0 ht1
theorem On.read {w0 w : World} {sb bl bc : Nat} {s : St} (h : On w0 w sb bl bc s) (n : Int) : Calls Try.prog 22 #[ptr sb, .int .i64 n] w fun e w' =>
    ∃ A, e = .returned (.tuple #[.slice A (s.readB n).length (s.readB n).length, .int .i64 (s.readE n)]) ∧ BRow w' A (s.readB n) ∧ (A = none → s.readB n = []) ∧ (∀ a, A = some a → a.block ≠ sb ∧ a.block ≠ bl ∧ a.block ≠ bc) ∧ On w0 w' sb bl bc s ∧ Below w.heap.size w w' :=
  (read_dev w sb bl bc s n h.dev).mono fun _ _ ⟨A, e, r, n, a, b⟩ => ⟨A, e, r, n, fun x hx => h.new (a x hx), h.grow b, b⟩
theorem On.lasting {w0 w : World} {sb bl bc : Nat} {s : St} (h : On w0 w sb bl bc s) : Calls Try.prog 18 #[ptr sb] w fun e w' => ∃ v, e = .returned v ∧ Kepts w' v s.lasts ∧ On w0 w' sb bl bc s ∧ Below w.heap.size w w' :=
  (lasting_dev w sb bl bc s h.dev).mono fun _ _ ⟨v, e, k, b⟩ => ⟨v, e, k, h.grow b, b⟩
theorem On.cached {w0 w : World} {sb bl bc : Nat} {s : St} (h : On w0 w sb bl bc s) : Calls Try.prog 20 #[ptr sb] w fun e w' => ∃ v, e = .returned v ∧ Kepts w' v s.caches ∧ On w0 w' sb bl bc s ∧ Below w.heap.size w w' :=
  (cached_dev w sb bl bc s h.dev).mono fun _ _ ⟨v, e, k, b⟩ => ⟨v, e, k, h.grow b, b⟩
theorem Kepts.shape {w : World} {v : Value} {l : List (Int × Bs)} {n : Nat} (h : Kepts w v l) (hn : l.length = n) : ∃ A c, v = .slice A n c := by
  obtain ⟨A, c, e, _⟩ := h
  exact ⟨A, c, by rw [e, hn]⟩
theorem row3 {w : World} {A : Option Addr} {l : Bs} (h : BRow w A l) {x y z : UInt8} (h0 : l[0]? = some x) (h1 : l[1]? = some y) (h2 : l[2]? = some z) : ∃ b off, A = some ⟨b, off, none⟩ ∧ b < w.heap.size ∧ w.cell? ⟨b, off, none⟩ = some (byteV x) ∧ w.cell? ⟨b, off + 1, none⟩ = some (byteV y) ∧ w.cell? ⟨b, off + 2, none⟩ = some (byteV z) := by
  obtain ⟨k0, e0⟩ := List.getElem?_eq_some_iff.1 h0
  obtain ⟨k1, e1⟩ := List.getElem?_eq_some_iff.1 h1
  obtain ⟨k2, e2⟩ := List.getElem?_eq_some_iff.1 h2
  obtain ⟨b, off, e, hlt, hc⟩ := h (fun e => by rw [e] at k0; simp at k0)
  exact ⟨b, off, e, hlt, by have := hc 0 k0; rw [e0] at this; simpa using this, by have := hc 1 k1; rw [e1] at this; exact this, by have := hc 2 k2; rw [e2] at this; exact this⟩
/-- .. of bytes that came in. -/
theorem On.write0 {w0 w : World} {sb bl bc : Nat} {s : St} (h : On w0 w sb bl bc s) (n : Int) (A : Option Addr) (k c : Nat) (l : Bs) (hl : l.length = k) (hR : BRow w0 A l) :
    Calls Try.prog 19 #[ptr sb, .int .i64 n, .slice A k c] w fun e w' => e = .returned (.int .i64 (s.writeE n l)) ∧ On w0 w' sb bl bc (s.write n l) ∧ Mod [sb, bl, bc] w w' :=
  h.write n A k c l hl (RowG.below hR h.below) (fun hne a ha => by
    obtain ⟨b, off, e, hb, _⟩ := hR hne
    rw [ha] at e
    cases e
    exact h.old hb)
/-- A new device. -/
theorem new_on {w0 w : World} (hb : Below w0.heap.size w0 w) (n : Nat) (h0 : 2 ≤ n) (h1 : n ≤ 4096) : Calls Try.prog 11 #[.int .i64 (n : Int)] w fun e w' =>
    ∃ sb bl bc, e = .returned (.tuple #[ptr sb, .int .i64 0]) ∧ On w0 w' sb bl bc (St.fresh n) ∧ Below w.heap.size w w' ∧ w.heap.size ≤ sb ∧ w.heap.size ≤ bl ∧ w.heap.size ≤ bc :=
  (new_dev n w h0 h1).mono fun _ _ ⟨e, d, b⟩ => ⟨_, _, _, e, On.made hb d b, b, by omega, Nat.le_refl _, by omega⟩
theorem mod_cells {S : List Nat} {w w' : World} {b off : Nat} {x y z : Value} (m : Mod S w w') (hb : b < w.heap.size) (hS : b ∉ S) (h : w.cell? ⟨b, off, none⟩ = some x ∧ w.cell? ⟨b, off + 1, none⟩ = some y ∧ w.cell? ⟨b, off + 2, none⟩ = some z) :
    w'.cell? ⟨b, off, none⟩ = some x ∧ w'.cell? ⟨b, off + 1, none⟩ = some y ∧ w'.cell? ⟨b, off + 2, none⟩ = some z :=
  ⟨(m.cell (p := ⟨b, off, none⟩) hb hS).trans h.1, (m.cell (p := ⟨b, off + 1, none⟩) hb hS).trans h.2.1, (m.cell (p := ⟨b, off + 2, none⟩) hb hS).trans h.2.2⟩
set_option maxRecDepth 100000 in
set_option maxHeartbeats 4000000 in
theorem awake_any (w : World) : Calls Try.prog 10 #[] w fun e w' => e = .returned (.bool true) ∧ Below w.heap.size w w' := by
  have kc := fun (w : World) (C : Array Value) (n c : Nat) => Lib.run_convert_bytes_const (P := Try.prog) w 32 5 C n c Try.underlying32 Try.underlying5
  go_enter Try.func10, Try.ntmps10
  go_wp2_with fail
  refine (new_on (Below.refl _ w) 8 (by omega) (by omega)).mono ?_
  rintro e w1 ⟨sb, bl, bc, rfl, o1, _⟩
  have O1 := Lib.hid o1
  clear o1
  go_wp2_with fail
  refine ((O1.out.alloc _).write 1 _ 2 2 [97, 98] rfl (row_ab w1 _ _) (fun _ a ha => by cases ha; exact O1.out.new (Nat.le_refl _))).mono ?_
  rintro e w2 ⟨rfl, o2, _⟩
  rw [awE1]
  have O2 : Hid (On w w2 sb bl bc aw1) := Lib.hid o2
  clear o2 O1
  go_wp2_with fail
  refine O2.out.sync.mono ?_
  rintro e w3 ⟨rfl, o3, _⟩
  rw [awE2]
  have O3 : Hid (On w w3 sb bl bc aw2) := Lib.hid o3
  clear o3 O2
  go_wp2_with fail
  refine ((O3.out.alloc _).write 1 _ 3 3 [120, 121, 122] rfl (row_xyz w3 _ _) (fun _ a ha => by cases ha; exact O3.out.new (Nat.le_refl _))).mono ?_
  rintro e w4 ⟨rfl, o4, _⟩
  rw [awE3]
  have O4 : Hid (On w w4 sb bl bc aw3) := Lib.hid o4
  clear o4 O3
  go_wp2_with fail
  refine (O4.out.restart0 1 1 (by omega) (by omega)).mono ?_
  rintro e w5 ⟨rfl, o5, _⟩
  have O5 : Hid (On w w5 sb bl bc aw4) := Lib.hid o5
  clear o5 O4
  go_wp2_with fail
  refine (O5.out.read 1).mono ?_
  rintro e w6 ⟨A, rfl, hr, _, hA, o6, _⟩
  rw [awE4, awB.1]
  obtain ⟨b, off, rfl, hb, hcells⟩ := row3 hr awB.2.1 awB.2.2.1 awB.2.2.2
  have hS := hA _ rfl
  have HS := Lib.hid (show b ∉ [sb, bl, bc] by simpa using hS)
  have HC := Lib.hid hcells
  have O6 : Hid (On w w6 sb bl bc aw4) := Lib.hid o6
  clear o6 O5 hr hA hcells hS
  go_wp2_with fail
  refine (O6.out.read 9).mono ?_
  rintro e w7 ⟨A', rfl, _, _, _, o7, bb7⟩
  rw [awE5]
  have HC7 := Lib.hid (mod_cells (Mod.of_below [sb, bl, bc] bb7) hb HS.out HC.out)
  have hb7 : b < w7.heap.size := Nat.lt_of_lt_of_le hb bb7.size
  have O7 : Hid (On w w7 sb bl bc aw4) := Lib.hid o7
  clear o7 O6 HC hb bb7
  go_wp2_with fail
  refine (O7.out.fuse 1 (by omega)).mono ?_
  rintro e w8 ⟨rfl, o8, m8⟩
  have HC8 := Lib.hid (mod_cells m8 hb7 HS.out HC7.out)
  have hb8 : b < w8.heap.size := Nat.lt_of_lt_of_le hb7 m8.size
  have O8 : Hid (On w w8 sb bl bc aw5) := Lib.hid o8
  clear o8 O7 HC7 hb7 m8
  go_wp2_with fail
  refine ((O8.out.alloc _).write 0 _ 1 1 [97] rfl (row_a w8 _ _) (fun _ a ha => by cases ha; exact O8.out.new (Nat.le_refl _))).mono ?_
  rintro e w9 ⟨rfl, o9, m9⟩
  rw [awE6]
  have m9' := ((Mod.refl [sb, bl, bc] w8).alloc _).trans m9
  have HC9 := Lib.hid (mod_cells m9' hb8 HS.out HC8.out)
  have hb9 : b < w9.heap.size := Nat.lt_of_lt_of_le hb8 m9'.size
  have O9 : Hid (On w w9 sb bl bc aw6) := Lib.hid o9
  clear o9 O8 HC8 hb8 m9 m9'
  go_wp2_with fail
  refine O9.out.sync.mono ?_
  rintro e w10 ⟨rfl, o10, m10⟩
  rw [awE7]
  have HC10 := Lib.hid (mod_cells m10 hb9 HS.out HC9.out)
  have hb10 : b < w10.heap.size := Nat.lt_of_lt_of_le hb9 m10.size
  have O10 : Hid (On w w10 sb bl bc aw7) := Lib.hid o10
  clear o10 O9 HC9 hb9 m10
  go_wp2_with fail
  refine O10.out.lasting.mono ?_
  rintro e w11 ⟨v, rfl, k11, o11, bb11⟩
  obtain ⟨A1, c1, rfl⟩ := k11.shape awL.1
  have HC11 := Lib.hid (mod_cells (Mod.of_below [sb, bl, bc] bb11) hb10 HS.out HC10.out)
  have hb11 : b < w11.heap.size := Nat.lt_of_lt_of_le hb10 bb11.size
  have O11 : Hid (On w w11 sb bl bc aw7) := Lib.hid o11
  clear o11 O10 HC10 hb10 bb11 k11
  go_wp2_with fail
  refine O11.out.cached.mono ?_
  rintro e w12 ⟨v, rfl, k12, o12, bb12⟩
  obtain ⟨A2, c2, rfl⟩ := k12.shape awL.2.1
  obtain ⟨x0, x1, x2⟩ := mod_cells (Mod.of_below [sb, bl, bc] bb12) hb11 HS.out HC11.out
  have O12 : Hid (On w w12 sb bl bc aw7) := Lib.hid o12
  clear o12 O11 HC11 hb11 bb12 k12 HS
  go_wp2_with (first
    | (go_at_call 25; refine (off_dev _ sb bl bc _ O12.out.dev).mono ?_; rintro e w' ⟨rfl, rfl⟩; rw [awL.2.2.1])
    | (go_at_call 27; refine (sectors_dev _ sb bl bc _ O12.out.dev).mono ?_; rintro e w' ⟨rfl, rfl⟩; rw [awL.2.2.2]))
  go_ret
  exact ⟨rfl, O12.out.below⟩
end Go.Proofs.Ytoldkhfnebjacaa.Disk
