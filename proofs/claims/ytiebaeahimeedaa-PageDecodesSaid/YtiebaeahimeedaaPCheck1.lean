/-
  Contracts of what page's Check asks.
-/
import Derived.Test.YtiebaeahimeedaaPAll
import Derived.Laws.Cover1
import Derived.Laws.Strings
namespace Go.Proofs.Ytiebaeahimeedaa.Page
open Go.RowKit Gen

def Lt (a b : Bs) : Prop := less a b = true
set_option maxRecDepth 100000 in
theorem risingStrs_any (A : Option Addr) (n c : Nat) (l : List Bs) (w : World) (hl : l.length = n) (hn : n ≤ 9223372036854775807) (hR : SRow w A l) :
    Calls Try.prog 59 #[.slice A n c] w (TellsD (Rises Lt l) w) := by
  have HR := Lib.hid hR
  have HL := Lib.hid hl
  clear hR hl
  go_enter Try.func59, Try.ntmps59
  go_wp2_with fail
  go_loopw [3] (fun i wr => ∃ k : Nat, i = .int .i64 ((k : Int) + 1) ∧ (k ≤ n) ∧ Hid (∀ j (h : j + 1 < l.length), j < k → Lt l[j] l[j + 1]) ∧ Drew w wr) (fun i _ => n + 1 - (intOf i).toNat)
  case atStart => exact ⟨0, rfl, Nat.zero_le _, Lib.hid (fun j h hj => absurd hj (Nat.not_lt_zero j)), Drew.refl _⟩
  case round =>
    obtain ⟨k, rfl, hk, hQ, hD⟩ := hrel
    have HD := Lib.hid hD
    clear hD
    by_cases hlt : k + 1 < n
    · have hkl : k + 1 < l.length := by have := HL.out; omega
      obtain ⟨b, off, rfl, hb, hc⟩ := HR.out (by intro e; subst e; simp at hkl)
      have hc1 := hc k (by omega)
      have hc2 := hc (k + 1) hkl
      obtain ⟨h1, h2⟩ := rises_step hkl hQ.out
      have H1 := Lib.hid h1
      have H2 := Lib.hid h2
      generalize hx : l[k] = x at hc1 H1 H2
      generalize hy : l[k + 1] = y at hc2 H1 H2
      rw [← HD.out.cell] at hc1 hc2
      have e1 : (k : Int) + 1 - 1 = (k : Int) := by omega
      have e2 : ((k : Int) + 1).toNat = k + 1 := by omega
      have t1 : (k : Int) < (n : Int) := by omega
      have t2 : (k : Int) + 1 < (n : Int) := by omega
      have t3 : (0 : Int) ≤ (k : Int) := by omega
      have t4 : (0 : Int) ≤ (k : Int) + 1 := by omega
      have e3 : IntKind.i64.wrap (k : Int) = k := by rw [IntKind.wrap_i64]; omega
      obtain ⟨X, hX⟩ : ∃ X, strB x = X := ⟨_, rfl⟩
      obtain ⟨Y, hY⟩ : ∃ Y, strB y = Y := ⟨_, rfl⟩
      have HD1 : Hid (∀ r, less x y = r → Op.bytesLess X.toList Y.toList = r) := Lib.hid (fun r h => by rw [← hX, ← hY, strB_list, strB_list]; exact h)
      have HLt : Hid (Lt x y ↔ less x y = true) := Lib.hid Iff.rfl
      rw [show strV x = .string X by rw [← hX]] at hc1
      rw [show strV y = .string Y by rw [← hY]] at hc2
      clear hx hy hc h1 h2 hQ hX hY
      by_cases hxy : less x y = true
      · have d := HD1.out _ hxy
        have HN := Lib.hid (H1.out (HLt.out.2 hxy))
        clear H1 H2 hxy HD1 HLt
        go_wp2_with fail
        go_quiet (fail)
        go_wp2_with fail
        go_roundw
        case rel => exact ⟨k + 1, by go_num, by omega, HN, HD.out.drewN _⟩
        case measure => simp [intOf]; omega
      · have hf : less x y = false := by simpa using hxy
        have d := HD1.out _ hf
        have HN := Lib.hid (H2.out (fun h => hxy (HLt.out.1 h)))
        clear H1 H2 hxy HD1 HLt hf
        go_wp2_with fail
        go_quiet (fail)
        go_wp2_with fail
        go_ret
        exact ⟨_, rfl, ⟨fun h => (by cases h), fun h => absurd h HN.out⟩, HD.out.drewN _⟩
    · have HN : Hid (Rises Lt l) := Lib.hid (fun j hj => hQ.out j hj (by have := HL.out; omega))
      clear hQ
      go_wp2_with fail
      go_ret
      exact ⟨_, rfl, ⟨fun _ => HN.out, fun _ => rfl⟩, HD.out⟩


/-- A page as a value, its fields one by one. -/
abbrev rawC (k : Int) (A1 : Option Addr) (n1 c1 : Nat) (A2 : Option Addr) (n2 c2 : Nat) (A3 : Option Addr) (n3 c3 : Nat) (A4 : Option Addr) (n4 c4 : Nat) (nx : Int) (ep : Nat) (rt dp ct hg : Int) : Array Value := #[.int .i64 k, .slice A1 n1 c1, .slice A2 n2 c2, .slice A3 n3 c3, .slice A4 n4 c4, .int .i64 nx, .int .u64 (ep : Int), .int .i64 rt, .int .i64 dp, .int .i64 ct, .int .i64 hg]
set_option maxRecDepth 100000 in
theorem bare_raw (k : Int) (A1 : Option Addr) (n1 c1 : Nat) (A2 : Option Addr) (n2 c2 : Nat) (A3 : Option Addr) (n3 c3 : Nat) (A4 : Option Addr) (n4 c4 : Nat) (nx : Int) (ep : Nat) (rt dp ct hg : Int) (w : World) :
    Calls Try.prog 34 #[.agg (rawC k A1 n1 c1 A2 n2 c2 A3 n3 c3 A4 n4 c4 nx ep rt dp ct hg)] w (Tells (n1 = 0 ∧ n2 = 0 ∧ n3 = 0 ∧ n4 = 0 ∧ nx = 0 ∧ ep = 0 ∧ rt = 0 ∧ dp = 0 ∧ ct = 0 ∧ hg = 0) w) := by
  unfold rawC
  by_cases h0 : n1 = 0
  rotate_left
  · have d0 : ((n1 : Int) == 0) = false := by simp; omega
    have HH := Lib.hid h0
    clear h0
    go_enter Try.func34, Try.ntmps34
    go_wp2_with fail
    go_ret
    exact ⟨_, rfl, ⟨fun h => (by cases h), fun h => absurd h.1 HH.out⟩, (Below.refl _ _).alloc (Nat.le_refl _) _⟩
  subst h0
  by_cases h1 : n2 = 0
  rotate_left
  · have d1 : ((n2 : Int) == 0) = false := by simp; omega
    have HH := Lib.hid h1
    clear h1
    go_enter Try.func34, Try.ntmps34
    go_wp2_with fail
    go_ret
    exact ⟨_, rfl, ⟨fun h => (by cases h), fun h => absurd h.2.1 HH.out⟩, (Below.refl _ _).alloc (Nat.le_refl _) _⟩
  subst h1
  by_cases h2 : n3 = 0
  rotate_left
  · have d2 : ((n3 : Int) == 0) = false := by simp; omega
    have HH := Lib.hid h2
    clear h2
    go_enter Try.func34, Try.ntmps34
    go_wp2_with fail
    go_ret
    exact ⟨_, rfl, ⟨fun h => (by cases h), fun h => absurd h.2.2.1 HH.out⟩, (Below.refl _ _).alloc (Nat.le_refl _) _⟩
  subst h2
  by_cases h3 : n4 = 0
  rotate_left
  · have d3 : ((n4 : Int) == 0) = false := by simp; omega
    have HH := Lib.hid h3
    clear h3
    go_enter Try.func34, Try.ntmps34
    go_wp2_with fail
    go_ret
    exact ⟨_, rfl, ⟨fun h => (by cases h), fun h => absurd h.2.2.2.1 HH.out⟩, (Below.refl _ _).alloc (Nat.le_refl _) _⟩
  subst h3
  by_cases h4 : nx = 0
  rotate_left
  · have d4 : ((nx : Int) == 0) = false := by simp; omega
    have HH := Lib.hid h4
    clear h4
    go_enter Try.func34, Try.ntmps34
    go_wp2_with fail
    go_ret
    exact ⟨_, rfl, ⟨fun h => (by cases h), fun h => absurd h.2.2.2.2.1 HH.out⟩, (Below.refl _ _).alloc (Nat.le_refl _) _⟩
  subst h4
  by_cases h5 : ep = 0
  rotate_left
  · have d5 : ((ep : Int) == 0) = false := by simp; omega
    have HH := Lib.hid h5
    clear h5
    go_enter Try.func34, Try.ntmps34
    go_wp2_with fail
    go_ret
    exact ⟨_, rfl, ⟨fun h => (by cases h), fun h => absurd h.2.2.2.2.2.1 HH.out⟩, (Below.refl _ _).alloc (Nat.le_refl _) _⟩
  subst h5
  by_cases h6 : rt = 0
  rotate_left
  · have d6 : ((rt : Int) == 0) = false := by simp; omega
    have HH := Lib.hid h6
    clear h6
    go_enter Try.func34, Try.ntmps34
    go_wp2_with fail
    go_ret
    exact ⟨_, rfl, ⟨fun h => (by cases h), fun h => absurd h.2.2.2.2.2.2.1 HH.out⟩, (Below.refl _ _).alloc (Nat.le_refl _) _⟩
  subst h6
  by_cases h7 : dp = 0
  rotate_left
  · have d7 : ((dp : Int) == 0) = false := by simp; omega
    have HH := Lib.hid h7
    clear h7
    go_enter Try.func34, Try.ntmps34
    go_wp2_with fail
    go_ret
    exact ⟨_, rfl, ⟨fun h => (by cases h), fun h => absurd h.2.2.2.2.2.2.2.1 HH.out⟩, (Below.refl _ _).alloc (Nat.le_refl _) _⟩
  subst h7
  by_cases h8 : ct = 0
  rotate_left
  · have d8 : ((ct : Int) == 0) = false := by simp; omega
    have HH := Lib.hid h8
    clear h8
    go_enter Try.func34, Try.ntmps34
    go_wp2_with fail
    go_ret
    exact ⟨_, rfl, ⟨fun h => (by cases h), fun h => absurd h.2.2.2.2.2.2.2.2.1 HH.out⟩, (Below.refl _ _).alloc (Nat.le_refl _) _⟩
  subst h8
  by_cases h9 : hg = 0
  rotate_left
  · have d9 : ((hg : Int) == 0) = false := by simp; omega
    have HH := Lib.hid h9
    clear h9
    go_enter Try.func34, Try.ntmps34
    go_wp2_with fail
    go_ret
    exact ⟨_, rfl, ⟨fun h => (by cases h), fun h => absurd h.2.2.2.2.2.2.2.2.2 HH.out⟩, (Below.refl _ _).alloc (Nat.le_refl _) _⟩
  subst h9
  go_enter Try.func34, Try.ntmps34
  go_wp2_with fail
  go_ret
  exact ⟨_, rfl, by simp, (Below.refl _ _).alloc (Nat.le_refl _) _⟩


structure SuperOk (p : Pg) : Prop where
  root : p.root = 0 ∨ Place p.root
  next : p.next = 0 ∨ Place p.next
  high : 2 ≤ p.high ∧ p.high ≤ 4096
  depth : 0 ≤ p.depth ∧ p.depth ≤ 20
  dz : p.depth = 0 ↔ p.root = 0
  count : 0 ≤ p.count ∧ p.count ≤ 2147483647
  cz : p.count = 0 ↔ p.root = 0
theorem beq_iff0 {a b : Int} {r : Bool} (h : ((a == 0) == (b == 0)) = r) : r = true ↔ (a = 0 ↔ b = 0) := by
  subst h
  rw [beq_iff_eq, Bool.eq_iff_iff, beq_iff_eq, beq_iff_eq]
set_option maxRecDepth 100000 in
theorem super_any (p : Pg) (a : Lay) (w : World) : Calls Try.prog 33 #[pgV p a] w (Tells (SuperOk p) w) := by
  have cR := isPlaceOrNone_any p.root
  have cN := isPlaceOrNone_any p.next
  have cH := within_any p.high 2 4096
  have cD := within_any p.depth 0 20
  have cC := within_any p.count 0 2147483647
  have B1 : Below w.heap.size w (w.alloc (.cells (pgC p a) 28)) := (Below.refl _ _).alloc (Nat.le_refl _) _
  obtain ⟨zr, hzr⟩ : ∃ z, (p.root == 0) = z := ⟨_, rfl⟩
  obtain ⟨zd, hzd⟩ : ∃ z, (p.depth == 0) = z := ⟨_, rfl⟩
  obtain ⟨zc, hzc⟩ : ∃ z, (p.count == 0) = z := ⟨_, rfl⟩
  obtain ⟨b1, hb1⟩ : ∃ z, (zd == zr) = z := ⟨_, rfl⟩
  obtain ⟨b2, hb2⟩ : ∃ z, (zc == zr) = z := ⟨_, rfl⟩
  have I1 := Lib.hid (beq_iff0 (a := p.depth) (b := p.root) (r := b1) (by rw [hzd, hzr, hb1]))
  have I2 := Lib.hid (beq_iff0 (a := p.count) (b := p.root) (r := b2) (by rw [hzc, hzr, hb2]))
  unfold pgV pgC
  go_enter Try.func33, Try.ntmps33
  go_wp2_with fail
  refine (cR _).mono ?_
  rintro e w' ⟨r1, rfl, h1, rfl⟩
  rcases r1 with _ | _
  · have H := Lib.hid h1
    clear h1 cR cN cH cD cC
    go_wp2_with fail
    go_ret
    exact ⟨_, rfl, ⟨fun h => (by cases h), fun h => (by cases (H.out.2 h.root))⟩, B1⟩
  have H1 := Lib.hid (h1.1 rfl)
  clear h1 cR
  go_wp2_with fail
  refine (cN _).mono ?_
  rintro e w' ⟨r1, rfl, h1, rfl⟩
  rcases r1 with _ | _
  · have H := Lib.hid h1
    clear h1 cN cH cD cC
    go_wp2_with fail
    go_ret
    exact ⟨_, rfl, ⟨fun h => (by cases h), fun h => (by cases (H.out.2 h.next))⟩, B1⟩
  have H2 := Lib.hid (h1.1 rfl)
  clear h1 cN
  go_wp2_with fail
  refine (cH _).mono ?_
  rintro e w' ⟨r1, rfl, h1, rfl⟩
  rcases r1 with _ | _
  · have H := Lib.hid h1
    clear h1 cH cD cC
    go_wp2_with fail
    go_ret
    exact ⟨_, rfl, ⟨fun h => (by cases h), fun h => (by cases (H.out.2 h.high))⟩, B1⟩
  have H3 := Lib.hid (h1.1 rfl)
  clear h1 cH
  go_wp2_with fail
  refine (cD _).mono ?_
  rintro e w' ⟨r1, rfl, h1, rfl⟩
  rcases r1 with _ | _
  · have H := Lib.hid h1
    clear h1 cD cC
    go_wp2_with fail
    go_ret
    exact ⟨_, rfl, ⟨fun h => (by cases h), fun h => (by cases (H.out.2 h.depth))⟩, B1⟩
  have H4 := Lib.hid (h1.1 rfl)
  clear h1 cD
  rcases b1 with _ | _
  · clear cC
    go_wp2_with fail
    go_ret
    exact ⟨_, rfl, ⟨fun h => (by cases h), fun h => (by cases (I1.out.2 h.dz))⟩, B1⟩
  go_wp2_with fail
  refine (cC _).mono ?_
  rintro e w' ⟨r1, rfl, h1, rfl⟩
  rcases r1 with _ | _
  · have H := Lib.hid h1
    clear h1 cC
    go_wp2_with fail
    go_ret
    exact ⟨_, rfl, ⟨fun h => (by cases h), fun h => (by cases (H.out.2 h.count))⟩, B1⟩
  have H6 := Lib.hid (h1.1 rfl)
  clear h1 cC
  rcases b2 with _ | _
  · go_wp2_with fail
    go_ret
    exact ⟨_, rfl, ⟨fun h => (by cases h), fun h => (by cases (I2.out.2 h.cz))⟩, B1⟩
  go_wp2_with fail
  go_ret
  exact ⟨_, rfl, ⟨fun _ => ⟨H1.out, H2.out, H3.out, H4.out, I1.out.1 trivial, H6.out, I2.out.1 trivial⟩, fun _ => rfl⟩, B1⟩

structure FreeOk (p : Pg) : Prop where
  len : p.pages.length ≤ 200
  all : ∀ s ∈ p.pages, Place s
  rises : Rises (· < ·) p.pages
  next : p.next = 0 ∨ Place p.next
set_option maxRecDepth 100000 in
theorem free_any (p : Pg) (a : Lay) (w : World) (hok : PgOk p) (hR : IRow w a.A4 p.pages) : Calls Try.prog 32 #[pgV p a] w (Tells (FreeOk p) w) := by
  have B1 : Below w.heap.size w (w.alloc (.cells (pgC p a) 28)) := (Below.refl _ _).alloc (Nat.le_refl _) _
  have cA := allPlaces_any a.A4 p.pages.length a.c4 p.pages _ rfl hok.pages (RowG.below hR B1)
  have cI := risingInts_any a.A4 p.pages.length a.c4 p.pages _ rfl hok.pages (RowG.below hR B1)
  have cN := isPlaceOrNone_any p.next
  have HB1 := Lib.hid B1
  clear hR hok B1
  by_cases hl : p.pages.length ≤ 200
  rotate_left
  · have d : decide ((p.pages.length : Int) ≤ 200) = false := by simp; omega
    have H := Lib.hid hl
    clear hl cA cI cN
    unfold pgV pgC
    go_enter Try.func32, Try.ntmps32
    go_wp2_with fail
    go_ret
    exact ⟨_, rfl, ⟨fun h => (by cases h), fun h => absurd h.len H.out⟩, HB1.out⟩
  have d : decide ((p.pages.length : Int) ≤ 200) = true := by simp; omega
  have HL := Lib.hid hl
  clear hl
  unfold pgV pgC
  unfold pgC at cA cI HB1
  go_enter Try.func32, Try.ntmps32
  go_wp2_with fail
  refine cA.mono ?_
  rintro e w' ⟨r1, rfl, h1, rfl⟩
  rcases r1 with _ | _
  · have H := Lib.hid h1
    clear h1 cA cI cN
    go_wp2_with fail
    go_ret
    exact ⟨_, rfl, ⟨fun h => (by cases h), fun h => (by cases (H.out.2 h.all))⟩, HB1.out⟩
  have H1 := Lib.hid (h1.1 rfl)
  clear h1 cA
  go_wp2_with fail
  refine cI.mono ?_
  rintro e w' ⟨r1, rfl, h1, hD⟩
  have B2 := Lib.hid (HB1.out.trans ((hD.below _).mono (Nat.le_refl _)))
  obtain ⟨nq, rfl⟩ := hD
  rcases r1 with _ | _
  · have H := Lib.hid h1
    clear h1 cI cN
    go_wp2_with fail
    go_ret
    exact ⟨_, rfl, ⟨fun h => (by cases h), fun h => (by cases (H.out.2 h.rises))⟩, B2.out⟩
  have H2 := Lib.hid (h1.1 rfl)
  clear h1 cI
  go_wp2_with fail
  refine (cN _).mono ?_
  rintro e w' ⟨r1, rfl, h1, rfl⟩
  go_wp2_with fail
  go_ret
  exact ⟨_, rfl, ⟨fun h => ⟨HL.out, H1.out, H2.out, h1.1 h⟩, fun h => h1.2 h.next⟩, B2.out⟩

structure BranchOk (p : Pg) : Prop where
  len : 1 ≤ p.keys.length ∧ p.keys.length ≤ 12
  kids : p.kids.length = p.keys.length + 1
  all : ∀ s ∈ p.keys, KeyOk s
  rises : Rises Lt p.keys
  places : ∀ s ∈ p.kids, Place s
set_option maxRecDepth 100000 in
theorem branch_any (p : Pg) (a : Lay) (w : World) (hok : PgOk p) (hR : SRow w a.A2 p.keys) (hK : IRow w a.A3 p.kids) : Calls Try.prog 31 #[pgV p a] w (Tells (BranchOk p) w) := by
  have B1 : Below w.heap.size w (w.alloc (.cells (pgC p a) 28)) := (Below.refl _ _).alloc (Nat.le_refl _) _
  have cL := within_any p.keys.length 1 12
  have cA := allKeys_any a.A2 p.keys.length a.c2 p.keys _ rfl hok.keys (RowG.below hR B1)
  have cI := risingStrs_any a.A2 p.keys.length a.c2 p.keys _ rfl hok.keys (RowG.below hR B1)
  have HK := Lib.hid (fun n => allPlaces_any a.A3 p.kids.length a.c3 p.kids ((w.alloc (.cells (pgC p a) 28)).drewN n) rfl hok.kids (RowG.below (RowG.below hK B1) ((Drew.drewN (Drew.refl _) n).below _)))
  have HB1 := Lib.hid B1
  have k1 := hok.kids
  have k2 := hok.keys
  clear hR hok B1 hK
  unfold pgV pgC
  unfold pgC at cA cI HB1 HK
  go_enter Try.func31, Try.ntmps31
  go_wp2_with fail
  refine (cL _).mono ?_
  rintro e w' ⟨r1, rfl, h1, rfl⟩
  rcases r1 with _ | _
  · have H := Lib.hid h1
    clear h1 cL cA cI
    go_wp2_with fail
    go_ret
    exact ⟨_, rfl, ⟨fun h => (by cases h), fun h => (by have h2 := h.len; cases (H.out.2 (by omega)))⟩, HB1.out⟩
  have H1 := Lib.hid (h1.1 rfl)
  have k3 : p.keys.length ≤ 12 := by have := H1.out; omega
  clear h1 cL
  by_cases hl : p.kids.length = p.keys.length + 1
  rotate_left
  · have d : ((p.kids.length : Int) == (p.keys.length : Int) + 1) = false := by simp; omega
    have H := Lib.hid hl
    clear hl cA cI
    go_wp2_with fail
    go_ret
    exact ⟨_, rfl, ⟨fun h => (by cases h), fun h => absurd h.kids H.out⟩, HB1.out⟩
  have d : ((p.kids.length : Int) == (p.keys.length : Int) + 1) = true := by simp; omega
  have HL := Lib.hid hl
  clear hl
  go_wp2_with fail
  refine cA.mono ?_
  rintro e w' ⟨r1, rfl, h1, rfl⟩
  rcases r1 with _ | _
  · have H := Lib.hid h1
    clear h1 cA cI
    go_wp2_with fail
    go_ret
    exact ⟨_, rfl, ⟨fun h => (by cases h), fun h => (by cases (H.out.2 h.all))⟩, HB1.out⟩
  have H2 := Lib.hid (h1.1 rfl)
  clear h1 cA
  go_wp2_with fail
  refine cI.mono ?_
  rintro e w' ⟨r1, rfl, h1, hD⟩
  have B2 := Lib.hid (HB1.out.trans ((hD.below _).mono (Nat.le_refl _)))
  obtain ⟨nq, rfl⟩ := hD
  rcases r1 with _ | _
  · have H := Lib.hid h1
    clear h1 cI
    go_wp2_with fail
    go_ret
    exact ⟨_, rfl, ⟨fun h => (by cases h), fun h => (by cases (H.out.2 h.rises))⟩, B2.out⟩
  have H3 := Lib.hid (h1.1 rfl)
  clear h1 cI
  go_wp2_with fail
  refine (HK.out _).mono ?_
  rintro e w' ⟨r1, rfl, h1, rfl⟩
  go_wp2_with fail
  go_ret
  exact ⟨_, rfl, ⟨fun h => ⟨by have := H1.out; omega, HL.out, H2.out, H3.out, h1.1 h⟩, fun h => h1.2 h.places⟩, B2.out⟩
end Go.Proofs.Ytiebaeahimeedaa.Page
