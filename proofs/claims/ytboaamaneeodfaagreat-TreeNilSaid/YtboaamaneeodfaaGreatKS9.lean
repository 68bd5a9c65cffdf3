/-
  Texts of one family, one behind the other: TBegin, TSide, TWay0, TWay, TEnd, TWay2, TBox, TKeep, TLower.
-/
import Derived.Test.YtboaamaneeodfaaGreatKS7
import Derived.Deep.RegionHeld3
import Derived.Test.YtboaamaneeodfaaGreatKS8
import Derived.Lib.Walk
import Derived.Tactics
import Derived.Tactics2
import Derived.Defers
import Derived.Laws.Pointers
import Derived.Test.YtboaamaneeodfaaGreatKS4
namespace Go.Proofs.YtboaamaneeodfaaGreat.Tree
open Go.RowKit Gen
open Disk (St Dev Mod ptr)
open Page (Pg Lay PgOk PgRows pgC pgV Enc IsDec BytesAt strV)
open Pool (Po NAt PoAt La poC poV numV At takeP giveP backP Fresh PoolOk OwnI chunks layAll May)
open Store

theorem at_set {w : World} {b : Nat} {C : Array Value} (h : At w b C) (i : Nat) (v : Value) : At (w.setCell ⟨b, i, none⟩ v) b (C.setIfInBounds i v) := by
  refine ⟨by simpa using h.1, fun j => by rw [World.frozen?_setCell]; exact h.2.1 j, fun j u hu => ?_⟩
  by_cases e : j = i
  · subst e
    have hlt : j < C.size := by
      rcases Nat.lt_or_ge j C.size with h' | h'
      · exact h'
      · rw [Array.getElem?_eq_none (by simpa using h')] at hu; cases hu
    rw [Array.getElem?_setIfInBounds, if_pos rfl, if_pos hlt] at hu
    cases hu
    exact World.cell?_setCell_same _ _ _ (h.2.2 j C[j] (Array.getElem?_eq_getElem hlt))
  · rw [Array.getElem?_setIfInBounds, if_neg (fun e' => e e'.symm)] at hu
    rw [World.cell?_setCell_other _ _ _ _ (by intro h; injection h with _ h _; exact e h.symm)]
    exact h.2.2 j u hu
set_option maxRecDepth 100000 in
set_option maxHeartbeats 4000000 in
theorem begin_any {w : World} {B : Blk} {d : St} {t : T} {a : Lys} (h : Sto w B d t a) {tb : Nat} {r dp c : Int} (hT : At w tb (trC B.ss r dp c)) :
    Calls Tryz.prog 50 #[ptr tb] w (fun e w' => e = .returned none' ∧ At w' tb (trC B.ss t.sup.root t.sup.depth t.sup.count) ∧ Mod [tb] w w') := by
  have c0 : w.cell? ⟨tb, 0, none⟩ = some (ptr B.ss) := hT.2.2 0 _ rfl
  have cS := super_any h
  have HT := Lib.hid hT
  clear hT h
  go_enter Tryz.func50, Tryz.ntmps50
  go_wp2_with fail
  refine cS.mono ?_
  rintro e w1 ⟨rfl, b1⟩
  have P1 := Lib.hid (put_page w1 t.sup a.s)
  have b2 := Pool.below_box w1 (.cells (pgC t.sup a.s) 82)
  have A2 := at_new w1 (pgC t.sup a.s) 82
  have T1 := HT.out.below b1 HT.out.1
  have T2 := T1.below b2 T1.1
  have B2 := Lib.hid (b1.trans (b2.mono b1.size))
  have NE := Lib.hid (show tb < w1.heap.size from T1.1)
  obtain ⟨W2, hW2⟩ : ∃ W2, w1.alloc (.cells (pgC t.sup a.s) 82) = W2 := ⟨_, rfl⟩
  rw [hW2] at P1 A2 T2 B2
  have hne : ¬ (tb = w1.heap.size) := by have := NE.out; omega
  have g7 : W2.cell? ⟨w1.heap.size, 7, none⟩ = some (.int .i64 t.sup.root) := A2.2.2 7 _ rfl
  have g8 : W2.cell? ⟨w1.heap.size, 8, none⟩ = some (.int .i64 t.sup.depth) := A2.2.2 8 _ rfl
  have g9 : W2.cell? ⟨w1.heap.size, 9, none⟩ = some (.int .i64 t.sup.count) := A2.2.2 9 _ rfl
  have f0 : ∀ j, W2.frozen? ⟨tb, j, none⟩ = false := T2.2.1
  have t1 : W2.cell? ⟨tb, 1, none⟩ = some (.int .i64 r) := T2.2.2 1 _ rfl
  have t2 : W2.cell? ⟨tb, 2, none⟩ = some (.int .i64 dp) := T2.2.2 2 _ rfl
  have t3 : W2.cell? ⟨tb, 3, none⟩ = some (.int .i64 c) := T2.2.2 3 _ rfl
  have HT2 := Lib.hid T2
  obtain ⟨pv, hpv⟩ : ∃ pv, pgV t.sup a.s = pv := ⟨_, rfl⟩
  rw [hpv] at P1 ⊢
  clear hpv b1 b2 A2 T1 T2 hW2 cS c0 HT
  go_wp2_with (first | ((with_reducible refine Disk.wpList_store_eq rfl 82 (.tmp 2) (.tmp 7) rfl _ _ ?_ ?_ P1.out ?_); (next => rfl); (next => rfl)))
  go_region_held3 (fun w' => w'.cell? ⟨w1.heap.size, 7, none⟩ = some (.int .i64 t.sup.root) ∧ w'.cell? ⟨w1.heap.size, 8, none⟩ = some (.int .i64 t.sup.depth) ∧ w'.cell? ⟨w1.heap.size, 9, none⟩ = some (.int .i64 t.sup.count))
    (go_keep)
    (fail)
  all_goals
    go_wp2_with fail
    (try simp only [Exit.inBlock, Exit.then])
    first | refine bodyPost_ret (results_none rfl _ _ _) rfl ?_ | refine bodyPost_end (results_none rfl _ _ _) rfl ?_
    refine ⟨rfl, ?_, ?_⟩
    · have D3 : At _ tb (trC B.ss t.sup.root t.sup.depth t.sup.count) := at_set (at_set (at_set HT2.out 1 (.int .i64 t.sup.root)) 2 (.int .i64 t.sup.depth)) 3 (.int .i64 t.sup.count)
      exact D3.below (Below.refl _ _).drew D3.1
    · exact ((((Mod.of_below [tb] B2.out).trans (mod_set _ _ _ _)).trans (mod_set _ _ _ _)).trans (mod_set _ _ _ _)).drew
/-- A tree in hand, all of which was made since a world; its store's lists keep off its cells. -/
structure TrOn (w0 w : World) (B : Blk) (tb : Nat) (d : St) (t : T) (r dp c : Int) : Prop where
  sto : SOn w0 w B d t
  box : At w tb (trC B.ss r dp c)
  out : tb ∉ B.all
  mem : tb ∈ B.xs
  new : w0.heap.size ≤ tb
theorem TrOn.quiet {w0 w w' : World} {B : Blk} {tb : Nat} {d : St} {t : T} {r dp c : Int} (h : TrOn w0 w B tb d t r dp c) (b : Below w.heap.size w w') : TrOn w0 w' B tb d t r dp c :=
  ⟨h.sto.quiet b, h.box.below b h.box.1, h.out, h.mem, h.new⟩
/-- Where a tree and its store lie. -/
abbrev tall (tb : Nat) (B : Blk) : List Nat := tb :: B.all
theorem TrOn.below {w0 w w' : World} {B : Blk} {tb : Nat} {d : St} {t : T} {r dp c : Int} (h : TrOn w0 w B tb d t r dp c) (m : Mod (tall tb B) w w') : Below w0.heap.size w0 w' :=
  h.sto.below.trans (m.below h.sto.below.size (fun k hk => by
    rcases List.mem_cons.1 hk with rfl | hk
    · exact h.new
    · exact h.sto.new k hk))
/-- The store alone has changed. -/
theorem TrOn.store {w0 w w' : World} {B : Blk} {tb : Nat} {d d' : St} {t t' : T} {r dp c : Int} (h : TrOn w0 w B tb d t r dp c) (hs : Has w' B d' t') (m : Mod B.all w w') : TrOn w0 w' B tb d' t' r dp c :=
  ⟨h.sto.mod hs m, at_mod h.box m h.out, h.out, h.mem, h.new⟩
/-- The tree's own cells alone have changed. -/
theorem TrOn.cells {w0 w w' : World} {B : Blk} {tb : Nat} {d : St} {t : T} {r dp c r' dp' c' : Int} (h : TrOn w0 w B tb d t r dp c) (hb : At w' tb (trC B.ss r' dp' c')) (m : Mod [tb] w w') : TrOn w0 w' B tb d t r' dp' c' := by
  obtain ⟨a, s⟩ := h.sto.has
  exact ⟨⟨⟨a, s.other m h.out (s.sepx h.mem)⟩, h.sto.below.trans (m.below h.sto.below.size (fun k hk => by simp only [List.mem_singleton] at hk; rw [hk]; exact h.new)), h.sto.new⟩, hb, h.out, h.mem, h.new⟩
set_option maxRecDepth 100000 in
/-- Of a store. -/
theorem of_any {w0 w : World} {B : Blk} {d : St} {t : T} (h : SOn w0 w B d t) :
    Calls Tryz.prog 23 #[ptr B.ss] w (fun e w' => e = .returned (.tuple #[ptr w.heap.size, numV 0]) ∧ TrOn w0 w' { B with xs := w.heap.size :: B.xs } w.heap.size d t t.sup.root t.sup.depth t.sup.count ∧ Below w.heap.size w w') := by
  have b1 := Pool.below_box w (.cells (trC B.ss 0 0 0) 67)
  have A1 := at_new w (trC B.ss 0 0 0) 67
  obtain ⟨a, s⟩ := h.has
  have NB := Lib.hid (show w.heap.size ∉ B.all from fun e => Nat.lt_irrefl _ (s.lt _ e))
  have SS := (s.below b1).addx (x := w.heap.size) A1.1 (SepB.new s (Nat.le_refl _))
  have S1 := Lib.hid (show TrOn w0 (w.alloc (.cells (trC B.ss 0 0 0) 67)) { B with xs := w.heap.size :: B.xs } w.heap.size d t 0 0 0 from ⟨⟨⟨a, SS⟩, h.below.trans (b1.mono h.below.size), h.new⟩, A1, NB.out, List.mem_cons_self .., h.below.size⟩)
  have B1 := Lib.hid b1
  obtain ⟨W1, hW1⟩ : ∃ W1, w.alloc (.cells (trC B.ss 0 0 0) 67) = W1 := ⟨_, rfl⟩
  rw [hW1] at A1 S1 SS B1
  have cB : Calls Tryz.prog 50 #[ptr w.heap.size] W1 (fun e w' => e = .returned none' ∧ At w' w.heap.size (trC B.ss t.sup.root t.sup.depth t.sup.count) ∧ Mod [w.heap.size] W1 w') := begin_any SS A1
  clear b1 s SS A1 h
  unfold trC at hW1
  go_enter Tryz.func23, Tryz.ntmps23
  go_wp2_with fail
  refine cB.mono ?_
  rintro e w2 ⟨rfl, hb, m⟩
  have S2 := Lib.hid (S1.out.cells hb m)
  have B2 := Lib.hid (B1.out.trans (m.below B1.out.size (fun k hk => by simp only [List.mem_singleton] at hk; omega)))
  clear hb m cB
  go_wp2_with fail
  go_ret2
  exact ⟨rfl, S2.out, B2.out⟩
end Go.Proofs.YtboaamaneeodfaaGreat.Tree
namespace Go.Proofs.YtboaamaneeodfaaGreat.Tree
open Go.RowKit Gen
open Page (strV strB less SRow strB_list strB_inj)
open Store

set_option maxRecDepth 100000 in
theorem nan1_any (X : ByteArray) (w : World) : Calls Tryz.prog 168 #[.string X] w (fun e w' => e = .returned (.bool false) ∧ w = w') := by
  go_enter Tryz.func168, Tryz.ntmps168
  go_wp2_with fail
  go_ret
  exact ⟨by simp, rfl⟩
set_option maxRecDepth 100000 in
theorem nan2_any (X : ByteArray) (w : World) : Calls Tryz.prog 150 #[.string X] w (fun e w' => e = .returned (.bool false) ∧ w = w') := by
  go_enter Tryz.func150, Tryz.ntmps150
  go_wp2_with fail
  go_ret
  exact ⟨by simp, rfl⟩
set_option maxRecDepth 100000 in
theorem less_any (x y : Disk.Bs) (w : World) : Calls Tryz.prog 149 #[strV x, strV y] w (fun e w' => e = .returned (.bool (less x y)) ∧ w = w') := by
  have hl : Op.bytesLess (strB x).toList (strB y).toList = less x y := by rw [strB_list, strB_list]; rfl
  obtain ⟨r, hr⟩ : ∃ r, less x y = r := ⟨_, rfl⟩
  rw [hr] at hl ⊢
  unfold strV
  generalize strB x = X at *
  generalize strB y = Y at *
  have c1 := nan1_any X w
  have c2 := nan1_any Y w
  clear hr
  go_enter Tryz.func149, Tryz.ntmps149
  go_wp2_with fail
  refine c1.mono ?_
  rintro e w' ⟨rfl, rfl⟩
  go_wp2_with fail
  go_ret
  exact ⟨rfl, rfl⟩
set_option maxRecDepth 100000 in
set_option maxHeartbeats 2000000 in
theorem find_any {A : Option Addr} {n c : Nat} {l : List Disk.Bs} (key : Disk.Bs) (w : World) (hl : l.length = n) (hn : n ≤ 4611686018427387903) (hR : SRow w A l) (pos : Nat) (hpn : pos ≤ n) (hp : ∀ t (h : t < l.length), less l[t] key = true ↔ t < pos) (has : Bool) (hh : has = true ↔ ∃ h : pos < l.length, l[pos] = key) :
    Calls Tryz.prog 120 #[.slice A n c, strV key] w (fun e w' => e = .returned (.tuple #[.int .i64 (pos : Nat), .bool has]) ∧ w = w') := by
  have HL := Lib.hid hl
  have HR := Lib.hid hR
  have HP := Lib.hid hp
  have HH := Lib.hid hh
  clear hl hR hp hh
  obtain ⟨Z, hZ⟩ : ∃ Z, strB key = Z := ⟨_, rfl⟩
  rw [show strV key = .string Z by rw [← hZ]]
  have KV := Lib.hid (show strV key = .string Z by rw [← hZ])
  have KB := Lib.hid hZ
  clear hZ
  go_enter Tryz.func120, Tryz.ntmps120
  go_wp2_with fail
  go_loopw [7, 8] (fun i j wr => ∃ lo hi : Nat, i = .int .i64 (lo : Int) ∧ j = .int .i64 (hi : Int) ∧ lo ≤ pos ∧ pos ≤ hi ∧ hi ≤ n ∧ w = wr) (fun i j _ => (intOf j - intOf i).toNat)
  case atStart => exact ⟨0, n, rfl, rfl, Nat.zero_le _, hpn, Nat.le_refl _, rfl⟩
  case round =>
    obtain ⟨lo, hi, rfl, rfl, h1, h2, h3, rfl⟩ := hrel
    by_cases hlt : lo < hi
    · have hw1 : IntKind.i64.wrap ((lo : Int) + (hi : Int)) = (lo : Int) + (hi : Int) := IntWalk.i64_in _ (by omega)
      have hw2 : IntKind.u64.wrap ((lo : Int) + (hi : Int)) = (lo : Int) + (hi : Int) := IntWalk.u64_in _ (by omega)
      obtain ⟨m, hm⟩ : ∃ m : Nat, ((lo : Int) + (hi : Int)) / 2 = (m : Int) := ⟨(lo + hi) / 2, by omega⟩
      have hmn : (m : Int) < (n : Int) := by omega
      have hm0 : lo ≤ m ∧ m < hi := by omega
      have hml : m < l.length := by rw [HL.out]; omega
      have hw3 : IntKind.i64.wrap ((m : Int) + 1) = ((m + 1 : Nat) : Int) := by rw [IntWalk.i64_in _ (by omega)]; omega
      obtain ⟨b, off, rfl, hbl, hcl⟩ := HR.out (by intro e; rw [e] at hml; simp at hml)
      have q1 := hcl m hml
      have cK := less_any l[m] key w
      have LS := Lib.hid (HP.out m hml)
      rw [KV.out] at cK
      obtain ⟨r, hr⟩ : ∃ r, less l[m] key = r := ⟨_, rfl⟩
      rw [hr] at cK LS
      obtain ⟨X, hX⟩ : ∃ X, strV l[m] = X := ⟨_, rfl⟩
      rw [hX] at q1 cK
      clear hcl hX hr
      go_wp2_with fail
      refine cK.mono ?_
      rintro e w2 ⟨rfl, rfl⟩
      clear cK q1 hw1 hw2
      rcases r with _ | _
      · have hmp : ¬ m < pos := fun e => by cases LS.out.2 e
        clear LS
        go_wp2_with fail
        go_roundw
        case rel => exact ⟨lo, m, rfl, rfl, by omega, by omega, by omega, trivial⟩
        case measure => simp [intOf]; omega
      · have hmp := LS.out.1 rfl
        clear LS
        go_wp2_with fail
        go_roundw
        case rel => exact ⟨m + 1, hi, rfl, rfl, by omega, by omega, by omega, trivial⟩
        case measure => simp [intOf]; omega
    obtain rfl : lo = pos := by omega
    obtain rfl : hi = lo := by omega
    by_cases hlast : hi < n
    rotate_left
    · have hf : has = false := by
        rcases has with _ | _
        · rfl
        · obtain ⟨h, -⟩ := HH.out.1 rfl
          rw [HL.out] at h; omega
      subst hf
      clear HP HH
      go_wp2_with fail
      go_ret2
      exact ⟨rfl, rfl⟩
    have hml : hi < l.length := by rw [HL.out]; omega
    obtain ⟨b, off, rfl, hbl, hcl⟩ := HR.out (by intro e; rw [e] at hml; simp at hml)
    have q1 := hcl hi hml
    obtain ⟨X, hX⟩ : ∃ X, strB l[hi] = X := ⟨_, rfl⟩
    rw [show strV l[hi] = .string X by rw [← hX]] at q1
    have cN := nan2_any X w
    have hrr : (X.toList == Z.toList) = has := by
      rw [← hX, ← KB.out, strB_list, strB_list]
      have h2 := HH.out
      rcases has with _ | _
      · exact beq_eq_false_iff_ne.2 (fun e => by cases h2.2 ⟨hml, e⟩)
      · obtain ⟨_, e⟩ := h2.1 rfl
        rw [e]; simp
    clear hcl hX HP HH
    rcases has with _ | _
    · go_wp2_with fail
      refine cN.mono ?_
      rintro e w2 ⟨rfl, rfl⟩
      clear cN
      go_wp2_with fail
      go_ret2
      exact ⟨rfl, rfl⟩
    · clear cN
      go_wp2_with fail
      go_ret2
      exact ⟨rfl, rfl⟩
set_option maxRecDepth 100000 in
theorem side_any {A : Option Addr} {n c : Nat} {l : List Disk.Bs} (key : Disk.Bs) (w : World) (hl : l.length = n) (hn : n ≤ 4611686018427387903) (hR : SRow w A l) (pos : Nat) (hpn : pos ≤ n) (hp : ∀ t (h : t < l.length), less l[t] key = true ↔ t < pos) (has : Bool) (hh : has = true ↔ ∃ h : pos < l.length, l[pos] = key) :
    Calls Tryz.prog 90 #[.slice A n c, strV key] w (fun e w' => e = .returned (.int .i64 ((if has = true then pos + 1 else pos : Nat) : Int)) ∧ w = w') := by
  have cF := find_any (c := c) key w hl hn hR pos hpn hp has hh
  have hw : IntKind.i64.wrap ((pos : Int) + 1) = (pos : Int) + 1 := IntWalk.i64_in _ (by omega)
  obtain ⟨kv, hkv⟩ : ∃ kv, strV key = kv := ⟨_, rfl⟩
  rw [hkv] at cF ⊢
  clear hkv hl hn hR hpn hp hh
  go_enter Tryz.func90, Tryz.ntmps90
  go_wp2_with fail
  refine cF.mono ?_
  rintro e w2 ⟨rfl, rfl⟩
  clear cF
  rcases has with _ | _
  · go_wp2_with fail
    go_ret
    exact ⟨rfl, rfl⟩
  · go_wp2_with fail
    go_ret
    exact ⟨by simp, rfl⟩
end Go.Proofs.YtboaamaneeodfaaGreat.Tree
namespace Go.Proofs.YtboaamaneeodfaaGreat.Tree
open Go.RowKit Gen
open Disk (St Dev Mod ptr)
open Page (Pg Lay PgOk PgRows pgC pgV Enc IsDec BytesAt strV strB PRow less info_parts')
open Pool (Po NAt PoAt La poC poV numV At takeP giveP backP Fresh PoolOk OwnI chunks layAll May)
open Store

/-- A new page's lists lie apart from what is older. -/
theorem new_apart {p : Pg} {y : Lay} {n g : Nat} (h : Page.New p y n) (hg : g < n) : Apart [g] p y :=
  ⟨fun _ x e hx => by have := h.n1 x e; rw [List.mem_singleton] at hx; omega, fun _ x e hx => by have := h.n2 x e; rw [List.mem_singleton] at hx; omega, fun _ x e hx => by have := h.n3 x e; rw [List.mem_singleton] at hx; omega, fun _ x e hx => by have := h.n4 x e; rw [List.mem_singleton] at hx; omega⟩
/-- .. and any page's from what is newer. -/
theorem old_apart {w : World} {p : Pg} {y : Lay} {g : Nat} (h : PgRows w p y) (hg : w.heap.size ≤ g) : Apart [g] p y := by
  refine ⟨fun hne x e hx => ?_, fun hne x e hx => ?_, fun hne x e hx => ?_, fun hne x e hx => ?_⟩
  · obtain ⟨b, o, e', hl, _⟩ := h.r1 hne
    rw [e] at e'; cases e'; rw [List.mem_singleton] at hx; simp only at hx; omega
  · obtain ⟨b, o, e', hl, _⟩ := h.r2 hne
    rw [e] at e'; cases e'; rw [List.mem_singleton] at hx; simp only at hx; omega
  · obtain ⟨b, o, e', hl, _⟩ := h.r3 hne
    rw [e] at e'; cases e'; rw [List.mem_singleton] at hx; simp only at hx; omega
  · obtain ⟨b, o, e', hl, _⟩ := h.r4 hne
    rw [e] at e'; cases e'; rw [List.mem_singleton] at hx; simp only at hx; omega
/-- Steps in hand. -/
structure Way (w0 wr : World) (v : Value) (l : List Stp) : Prop where
  own : OwnS wr w0.heap.size v l
  rows : ∀ s ∈ l, PgRows wr s.p s.y
  ok : ∀ s ∈ l, PgOk s.p
  new : ∀ s ∈ l, Page.New s.p s.y w0.heap.size
  off : ∀ s ∈ l, ∀ g, v.ownBlock = some g → Apart [g] s.p s.y
theorem Way.nil (w : World) : Way w w (.slice none 0 0) [] := ⟨OwnS.nil _ _, fun _ h => (by cases h), fun _ h => (by cases h), fun _ h => (by cases h), fun _ h => (by cases h)⟩
theorem Way.below {w0 w w' : World} {v : Value} {l : List Stp} (h : Way w0 w v l) (b : Below w.heap.size w w') : Way w0 w' v l :=
  ⟨h.own.below b, fun s hs => (h.rows s hs).below b, h.ok, h.new, h.off⟩
theorem grown_pg {W W' : World} {v : Value} {p : Pg} {y : Lay} (h : PgRows W p y) (g : W.grownBy W' v.ownBlock) (k : ∀ x, v.ownBlock = some x → Apart [x] p y) : PgRows W' p y := by
  cases e : v.ownBlock with
  | none =>
    rw [e] at g
    exact pg_mod h ((Mod.refl [] W).grown g (fun k e => by cases e)) ⟨fun _ x _ hx => (by cases hx), fun _ x _ hx => (by cases hx), fun _ x _ hx => (by cases hx), fun _ x _ hx => (by cases hx)⟩
  | some x =>
    rw [e] at g
    exact pg_mod h ((Mod.refl [x] W).grown g (fun k e => .inl (by cases e; simp))) (k x e)
/-- One step more. -/
theorem Way.more {w0 wr W : World} {v : Value} {l : List Stp} (h : Way w0 wr v l) (hw : w0.heap.size ≤ wr.heap.size) (b : Below wr.heap.size wr W) {s : Stp} (hr : PgRows W s.p s.y) (hok : PgOk s.p) (hn : Page.New s.p s.y wr.heap.size) (hl : l.length ≤ 1000) :
    ∃ v' W', (Builtin.append_ #[113, 113] 113 #[v, .slice (some ⟨W.heap.size, 0, none⟩) 1 1]).run Tryz.prog (W.alloc (.cells (stC s) 117)) = .ok v' W' ∧ Way w0 W' v' (l ++ [s]) ∧ W.grownBy W' v.ownBlock ∧ (∀ k, v.ownBlock = some k → w0.heap.size ≤ k ∧ k < wr.heap.size) := by
  have h1 := h.below b
  obtain ⟨v', W', hrun, ho, hg, hge, hbl⟩ := append_step W w0.heap.size v l h1.own s hl (Nat.le_trans hw b.size)
  have hlt : ∀ k, v.ownBlock = some k → k < wr.heap.size := fun k hk => (World.ownsRow.lt h.own k hk).2
  have offs : ∀ x, v.ownBlock = some x → Apart [x] s.p s.y := fun x hx => new_apart hn (hlt x hx)
  refine ⟨v', W', hrun, ⟨ho, fun x hx => ?_, fun x hx => ?_, fun x hx => ?_, fun x hx g e => ?_⟩, hg, fun k hk => ⟨hge k hk, hlt k hk⟩⟩
  · rcases List.mem_append.1 hx with hx | hx
    · exact grown_pg (h1.rows x hx) hg (h.off x hx)
    · rw [List.mem_singleton] at hx
      subst hx
      exact grown_pg hr hg offs
  · rcases List.mem_append.1 hx with hx | hx
    · exact h.ok x hx
    · rw [List.mem_singleton] at hx; subst hx; exact hok
  · rcases List.mem_append.1 hx with hx | hx
    · exact h.new x hx
    · rw [List.mem_singleton] at hx; subst hx; exact hn.mono hw
  · rcases hbl with hb | hb
    · rw [hb] at e
      rcases List.mem_append.1 hx with hx | hx
      · exact h.off x hx g e
      · rw [List.mem_singleton] at hx; subst hx; exact offs g e
    · rw [hb] at e
      cases e
      rcases List.mem_append.1 hx with hx | hx
      · exact old_apart (h1.rows x hx) (Nat.le_succ _)
      · rw [List.mem_singleton] at hx; subst hx; exact old_apart hr (Nat.le_succ _)
/-- A page of a kind lies there. -/
def PgAt (d : St) (a kd : Int) (p : Pg) : Prop := d.readE a = 0 ∧ IsDec a (d.readB a) p ∧ p.kind = kd
/-- The way down from a page, as far as it has been gone. -/
inductive Down (d : St) (key : Disk.Bs) : Int → List Stp → Int → Prop
  | nil (r : Int) : Down d key r [] r
  | snoc {r a : Int} {l : List Stp} {s : Stp} (h : Down d key r l a) (ha : s.at_ = a) (hp : PgAt d a 2 s.p) (hk : s.kid = ((sideOf s.p.keys key : Nat) : Int)) (hi : sideOf s.p.keys key < s.p.kids.length) : Down d key r (l ++ [s]) s.p.kids[sideOf s.p.keys key]
/-- What way answers for a tree of a depth. -/
def WayR (d : St) (key : Disk.Bs) (r : Int) (dp : Nat) (w : World) (e : Ending) (w' : World) : Prop := Below w.heap.size w w' ∧
  ((∃ l a p y v, Down d key r l a ∧ l.length + 1 = dp ∧ PgAt d a 1 p ∧ e = .returned (.tuple #[v, numV 0]) ∧ Way w w' v (l ++ [⟨a, p, y, 0⟩])) ∨
   (∃ l a, Down d key r l a ∧ l.length < dp ∧ (d.readE a = 0 → ∀ p, IsDec a (d.readB a) p → p.kind ≠ (if l.length + 1 = dp then 1 else 2)) ∧ e = .returned (.tuple #[.slice none 0 0, numV (tellE d a)])))
end Go.Proofs.YtboaamaneeodfaaGreat.Tree
namespace Go.Proofs.YtboaamaneeodfaaGreat.Tree
open Go.RowKit Gen
open Disk (St Dev Mod ptr)
open Page (Pg Lay PgOk PgRows pgC pgV Enc IsDec BytesAt strV strB PRow less info_parts')
open Pool (Po NAt PoAt La poC poV numV At takeP giveP backP Fresh PoolOk OwnI chunks layAll May)
open Store

theorem fine_of {d : St} {a kd : Int} {p : Pg} (h : PgAt d a kd p) : Page.Fine p := h.2.1.2.1
set_option maxRecDepth 100000 in
set_option maxHeartbeats 8000000 in
theorem way_any {w : World} {B : Blk} {d : St} {t : T} {a : Lys} (h : Sto w B d t a) {tb : Nat} {r c : Int} {m : Nat} (hm : m ≤ 40) (hT : At w tb (trC B.ss r ((m + 1 : Nat) : Int) c)) (key : Disk.Bs) :
    Calls Tryz.prog 58 #[ptr tb, strV key] w (WayR d key r (m + 1) w) := by
  have PG := Lib.hid (fun V (hV : Below w.heap.size w V) n kd (hk : kd ≠ 4) => tpage_any (h.below hV) (hT.below hV hT.1) n kd hk)
  have KT := Lib.hid (fun V (hV : Below w.heap.size w V) => show V.cell? ⟨tb, 1, none⟩ = some (.int .i64 r) ∧ V.cell? ⟨tb, 2, none⟩ = some (.int .i64 ((m + 1 : Nat) : Int)) from ⟨(hT.below hV hT.1).2.2 1 _ rfl, (hT.below hV hT.1).2.2 2 _ rfl⟩)
  clear h hT
  obtain ⟨D, hD⟩ : ∃ D : Int, ((m + 1 : Nat) : Int) = D := ⟨_, rfl⟩
  rw [hD] at KT
  have hw : IntKind.i64.wrap (D - 1) = (m : Int) := by rw [IntWalk.i64_in _ (by omega)]; omega
  have hne : (D == 0) = false := beq_eq_false_iff_ne.2 (by omega)
  obtain ⟨g1, g2⟩ := KT.out w (Below.refl _ _)
  obtain ⟨kv, hkv⟩ : ∃ kv, strV key = kv := ⟨_, rfl⟩
  rw [hkv]
  have KV := Lib.hid hkv
  clear hkv KT hD
  go_enter Tryz.func58, Tryz.ntmps58
  go_wp2_with fail
  clear g1 g2 hne
  go_loopw [6, 7, 30] (fun v x i wr => ∃ (l : List Stp) (at_ : Int), x = .int .i64 at_ ∧ i = .int .i64 (l.length : Int) ∧ l.length ≤ m ∧ Hid (Way w wr v l) ∧ Hid (Down d key r l at_) ∧ Hid (Below w.heap.size w wr)) (fun _ _ i _ => m - (intOf i).toNat)
  case atStart => exact ⟨[], r, rfl, rfl, Nat.zero_le _, Lib.hid (Way.nil w), Lib.hid (.nil r), Lib.hid (Below.refl _ _)⟩
  case round =>
    obtain ⟨l, at_, rfl, rfl, hlm, WY, DN, BW⟩ := hrel
    obtain ⟨k, hk⟩ : ∃ k, l.length = k := ⟨_, rfl⟩
    have HK := Lib.hid hk
    rw [hk] at hlm
    rw [hk]
    clear hk
    have hwr : IntKind.i64.wrap ((k : Int) + 1) = (k : Int) + 1 := IntWalk.i64_in _ (by omega)
    by_cases hlt : k < m
    · have cP := PG.out wr BW.out at_ 2 (by decide)
      go_wp2_with fail
      refine cP.mono ?_
      rintro e w1 ⟨b1, ⟨p, y, rfl, hr, hok, he, hd, hkd, hnw⟩ | ⟨rfl, hno⟩⟩
      rotate_left
      · have P1 := Lib.hid (put_page w1 { kind := 0 } {})
        have FIN := Lib.hid (BW.out.trans ((b1.trans ((Pool.below_box w1 (.cells (pgC { kind := 0 } {}) 82)).mono b1.size)).mono BW.out.size))
        obtain ⟨W2, hW2⟩ : ∃ W2, w1.alloc (.cells (pgC { kind := 0 } {}) 82) = W2 := ⟨_, rfl⟩
        rw [hW2] at FIN P1
        obtain ⟨te, hte⟩ : ∃ te, tellE d at_ = te := ⟨_, rfl⟩
        have HTE := Lib.hid hte
        have d1 : (te != 0) = true := by rw [← hte]; have := tellE_ne d at_; simp [this]
        have HNO := Lib.hid hno
        rw [hte]
        obtain ⟨pv, hpv⟩ : ∃ pv, zeroPg = pv := ⟨_, rfl⟩
        rw [show pgV { kind := 0 } {} = pv from hpv] at P1
        rw [hpv]
        clear hte hno b1 cP WY hpv
        go_wp2_with (first | ((with_reducible refine Disk.wpList_store_eq rfl 82 (.tmp 8) (.tmp 36) rfl _ _ ?_ ?_ P1.out ?_); (next => rfl); (next => rfl)))
        go_ret2
        refine ⟨FIN.out, .inr ⟨l, at_, DN.out, by rw [HK.out]; omega, ?_, by rw [HTE.out]; rfl⟩⟩
        rw [if_neg (by rw [HK.out]; omega)]
        exact HNO.out
      have hpa : PgAt d at_ 2 p := ⟨he, hd, hkd⟩
      have hbr := ((Page.fine2 hkd).1 (fine_of hpa)).1
      have P1 := Lib.hid (put_page w1 p y)
      have b2 := Pool.below_box w1 (.cells (pgC p y) 82)
      have A2 := at_new w1 (pgC p y) 82
      obtain ⟨W2, hW2⟩ : ∃ W2, w1.alloc (.cells (pgC p y) 82) = W2 := ⟨_, rfl⟩
      rw [hW2] at P1 b2 A2
      have R2 := hr.below b2
      have LB := Lib.hid (load_page (o := 0) A2 p y rfl)
      have x2 : W2.cell? ⟨w1.heap.size, 2, none⟩ = some (.slice y.A2 p.keys.length y.c2) := A2.2.2 2 _ rfl
      have hsl : sideOf p.keys key < p.kids.length := by rw [hbr.kids]; have := side_le p.keys key; omega
      have cS : Calls Tryz.prog 90 #[.slice y.A2 p.keys.length y.c2, strV key] W2 (fun e w' => e = .returned (.int .i64 ((sideOf p.keys key : Nat) : Int)) ∧ W2 = w') := side_any (c := y.c2) key W2 rfl (by have := hbr.len; omega) R2.r2 (posOf p.keys key) (pos_le _ _) (pos_iff hbr.rises key) (hasOf p.keys key) (has_iff _ _)
      rw [KV.out] at cS
      obtain ⟨v', W', hrun, WY', hg, hge⟩ := WY.out.more BW.out.size (b1.trans (b2.mono b1.size)) (s := ⟨at_, p, y, ((sideOf p.keys key : Nat) : Int)⟩) R2 hok hnw (by rw [HK.out]; omega)
      have HDN := Lib.hid (DN.out.snoc (s := ⟨at_, p, y, ((sideOf p.keys key : Nat) : Int)⟩) rfl hpa rfl hsl)
      have HWY := Lib.hid WY'
      have BW2 := BW.out.trans ((b1.trans (b2.mono b1.size)).mono BW.out.size)
      have HBW := Lib.hid (BW2.grown hg BW2.size (fun k e => (hge k e).1))
      have A' : At W' w1.heap.size (pgC p y) := Page.At.grownRow A2 hg (fun e => by have := hge _ e.symm; have := b1.size; omega)
      have x3 : W'.cell? ⟨w1.heap.size, 3, none⟩ = some (.slice y.A3 p.kids.length y.c3) := A'.2.2 3 _ rfl
      obtain ⟨b3, o3, e3, hb3, hc3⟩ := (WY'.rows ⟨at_, p, y, ((sideOf p.keys key : Nat) : Int)⟩ (by simp)).r3 (by intro e; simp only at e; rw [e] at hsl; simp at hsl)
      have z3 := hc3 (sideOf p.keys key) hsl
      simp only at z3 e3
      obtain ⟨nx, hnx⟩ : ∃ nx, p.kids[sideOf p.keys key] = nx := ⟨_, rfl⟩
      have HDN2 := Lib.hid (show Down d key r (l ++ [⟨at_, p, y, ((sideOf p.keys key : Nat) : Int)⟩]) nx from by rw [← hnx]; exact HDN.out)
      rw [hnx] at z3
      have hrun' : (Builtin.append_ #[113, 113] 113 #[u6, .slice (some ⟨W2.heap.size, 0, none⟩) 1 1]).run Tryz.prog (W2.alloc (.cells #[.int .i64 at_, .int .i64 p.kind, .slice y.A1 p.pairs.length y.c1, .slice y.A2 p.keys.length y.c2, .slice y.A3 p.kids.length y.c3, .slice y.A4 p.pages.length y.c4, .int .i64 p.next, .int .u64 (p.epoch : Int), .int .i64 p.root, .int .i64 p.depth, .int .i64 p.count, .int .i64 p.high, .int .i64 ((sideOf p.keys key : Nat) : Int)] 117)) = .ok v' W' := hrun
      obtain ⟨q, hq⟩ : ∃ q, sideOf p.keys key = q := ⟨_, rfl⟩
      rw [hq] at cS hrun' HDN2 HWY z3 hsl
      have R := Lib.hid hrun'
      rw [e3] at x3
      have hql : (q : Int) < (p.kids.length : Int) := by omega
      have HLN := Lib.hid (show (l ++ [(⟨at_, p, y, ((q : Nat) : Int)⟩ : Stp)]).length = k + 1 from by rw [List.length_append, HK.out]; rfl)
      clear hrun hrun' WY' HDN BW2 hg hge A' hc3 hb3 hnx hq hbr hpa hd he hkd hok hnw hr R2 A2 b1 b2 hW2 cP WY DN BW e3 hsl
      go_wp2_with (first | ((with_reducible refine Disk.wpList_store_eq rfl 82 (.tmp 8) (.tmp 36) rfl _ _ ?_ ?_ P1.out ?_); (next => rfl); (next => rfl)))
      refine cS.mono ?_
      rintro e w3 ⟨rfl, rfl⟩
      clear cS x2
      go_wp2_with (first | ((with_reducible refine Disk.wpList_load_eq rfl 82 (.tmp 8) rfl _ ?_ LB.out ?_); (next => rfl)) | (at_builtin; ((with_reducible refine Lib.wpList_append_run _ rfl _ _ _ _ rfl _ _ ?_ ?_ _ _ R.out ?_); (next => rfl); (next => rfl))))

      go_roundw
      case rel => exact ⟨l ++ [⟨at_, p, y, (q : Int)⟩], nx, rfl, by rw [HLN.out]; go_num, by rw [HLN.out]; omega, HWY, HDN2, HBW⟩
      case measure => simp [intOf]; omega
    obtain rfl : k = m := by omega
    have cP := PG.out wr BW.out at_ 1 (by decide)
    go_wp2_with fail
    refine cP.mono ?_
    rintro e w1 ⟨b1, ⟨p, y, rfl, hr, hok, he, hd, hkd, hnw⟩ | ⟨rfl, hno⟩⟩
    rotate_left
    · have P1 := Lib.hid (put_page w1 { kind := 0 } {})
      have FIN := Lib.hid (BW.out.trans ((b1.trans ((Pool.below_box w1 (.cells (pgC { kind := 0 } {}) 82)).mono b1.size)).mono BW.out.size))
      obtain ⟨W2, hW2⟩ : ∃ W2, w1.alloc (.cells (pgC { kind := 0 } {}) 82) = W2 := ⟨_, rfl⟩
      rw [hW2] at FIN P1
      obtain ⟨te, hte⟩ : ∃ te, tellE d at_ = te := ⟨_, rfl⟩
      have HTE := Lib.hid hte
      have d1 : (te != 0) = true := by rw [← hte]; have := tellE_ne d at_; simp [this]
      have HNO := Lib.hid hno
      rw [hte]
      obtain ⟨pv, hpv⟩ : ∃ pv, zeroPg = pv := ⟨_, rfl⟩
      rw [show pgV { kind := 0 } {} = pv from hpv] at P1
      rw [hpv]
      clear hte hno b1 cP WY hpv
      go_wp2_with (first | ((with_reducible refine Disk.wpList_store_eq rfl 82 (.tmp 11) (.tmp 62) rfl _ _ ?_ ?_ P1.out ?_); (next => rfl); (next => rfl)))
      go_ret2
      refine ⟨FIN.out, .inr ⟨l, at_, DN.out, by rw [HK.out]; omega, ?_, by rw [HTE.out]; rfl⟩⟩
      rw [if_pos (by rw [HK.out])]
      exact HNO.out
    have hpa : PgAt d at_ 1 p := ⟨he, hd, hkd⟩
    have HPA := Lib.hid hpa
    have P1 := Lib.hid (put_page w1 p y)
    have b2 := Pool.below_box w1 (.cells (pgC p y) 82)
    have A2 := at_new w1 (pgC p y) 82
    obtain ⟨W2, hW2⟩ : ∃ W2, w1.alloc (.cells (pgC p y) 82) = W2 := ⟨_, rfl⟩
    rw [hW2] at P1 b2 A2
    have R2 := hr.below b2
    have LB := Lib.hid (load_page (o := 0) A2 p y rfl)
    obtain ⟨v', W', hrun, WY', hg, hge⟩ := WY.out.more BW.out.size (b1.trans (b2.mono b1.size)) (s := ⟨at_, p, y, 0⟩) R2 hok hnw (by rw [HK.out]; omega)
    have HWY := Lib.hid WY'
    have BW2 := BW.out.trans ((b1.trans (b2.mono b1.size)).mono BW.out.size)
    have HBW := Lib.hid (BW2.grown hg BW2.size (fun k e => (hge k e).1))
    have hrun' : (Builtin.append_ #[113, 113] 113 #[u6, .slice (some ⟨W2.heap.size, 0, none⟩) 1 1]).run Tryz.prog (W2.alloc (.cells #[.int .i64 at_, .int .i64 p.kind, .slice y.A1 p.pairs.length y.c1, .slice y.A2 p.keys.length y.c2, .slice y.A3 p.kids.length y.c3, .slice y.A4 p.pages.length y.c4, .int .i64 p.next, .int .u64 (p.epoch : Int), .int .i64 p.root, .int .i64 p.depth, .int .i64 p.count, .int .i64 p.high, .int .i64 0] 117)) = .ok v' W' := hrun
    have R := Lib.hid hrun'
    clear hrun hrun' WY' BW2 hg hge hpa hd he hkd hok hnw hr R2 A2 b1 b2 hW2 cP WY BW
    go_wp2_with (first | ((with_reducible refine Disk.wpList_store_eq rfl 82 (.tmp 11) (.tmp 62) rfl _ _ ?_ ?_ P1.out ?_); (next => rfl); (next => rfl)) | ((with_reducible refine Disk.wpList_load_eq rfl 82 (.tmp 11) rfl _ ?_ LB.out ?_); (next => rfl)) | (at_builtin; ((with_reducible refine Lib.wpList_append_run _ rfl _ _ _ _ rfl _ _ ?_ ?_ _ _ R.out ?_); (next => rfl); (next => rfl))))
    go_ret2
    exact ⟨HBW.out, .inl ⟨l, at_, p, y, v', DN.out, by rw [HK.out], HPA.out, rfl, HWY.out⟩⟩
end Go.Proofs.YtboaamaneeodfaaGreat.Tree
namespace Go.Proofs.YtboaamaneeodfaaGreat.Tree
open Go.RowKit Gen
open Disk (St Dev Mod ptr)
open Page (Pg Lay PgOk PgRows pgC pgV Enc IsDec BytesAt strV)
open Pool (Po NAt PoAt La poC poV numV At takeP giveP backP Fresh PoolOk OwnI chunks layAll May)
open Store

set_option maxRecDepth 100000 in
theorem end_zero (tb eb : Nat) (u : FrameMode) (w : World) (he : w.cell? ⟨eb, 0, none⟩ = some (.int .i64 0)) :
    CallsD Tryz.prog 39 #[ptr tb, ptr eb] u w fun e u' w' => u' = u ∧ (e = .returned (.tuple #[]) ∧ w' = w) := by
  go_enter_d Tryz.func39, Tryz.ntmps39
  go_wp2_with fail
  go_end0
  exact ⟨rfl, rfl⟩
theorem cell_new (w : World) (v : Value) (t : TypeId) : (w.alloc (.cells #[v] t)).cell? ⟨w.heap.size, 0, none⟩ = some v := by
  rw [cell_of_row _ w.heap.size 0 _ _ _ (heap_alloc_last w (.cells #[v] t))]; rfl
theorem frozen_new (w : World) (v : Value) (t : TypeId) : (w.alloc (.cells #[v] t)).frozen? ⟨w.heap.size, 0, none⟩ = false := (at_new w #[v] t).2.1 0
set_option maxRecDepth 100000 in
theorem keep_nil (w : World) : Calls Tryz.prog 17 #[.pointer none] w (fun e w' => e = .returned (.int .i64 1) ∧ Below w.heap.size w w') := by
  have BB := Lib.hid ((Below.refl w.heap.size w).alloc (Nat.le_refl _) (.cells #[.int .i64 1] 39))
  have c1 := cell_new w (.int .i64 1) 39
  go_enter_defers Tryz.func17, Tryz.ntmps17
  go_wp2_with fail
  simp [bodyPostD, Leaves, results, Tryz.results17, go_sem, c1]
  exact BB.out
/-- Two boxes: a bool's and an error's. -/
theorem two_boxes {W3 : World} {b e : Nat} {u x : Value} (hb : W3.cell? ⟨b, 0, none⟩ = some u) (he : W3.cell? ⟨e, 0, none⟩ = some x) (hne : b ≠ e) (u' x' : Value) :
    ((W3.setCell ⟨b, 0, none⟩ u').setCell ⟨e, 0, none⟩ x').cell? ⟨b, 0, none⟩ = some u' ∧ ((W3.setCell ⟨b, 0, none⟩ u').setCell ⟨e, 0, none⟩ x').cell? ⟨e, 0, none⟩ = some x' :=
  ⟨(World.cell?_setCell_other _ _ _ _ (by intro h; injection h with h; exact hne h.symm)).trans (World.cell?_setCell_same _ _ _ hb), World.cell?_setCell_same _ _ _ ((World.cell?_setCell_other _ _ _ _ (by intro h; injection h with h; exact hne h)).trans he)⟩
set_option maxRecDepth 100000 in
theorem cut_nil (k : ByteArray) (w : World) : Calls Tryz.prog 26 #[.pointer none, .string k] w (fun e w' => e = .returned (.tuple #[.bool false, .int .i64 1]) ∧ Below w.heap.size w w') := by
  have B1 := (Below.refl w.heap.size w).alloc (Nat.le_refl _) (.cells #[.string k] 9)
  obtain ⟨W1, hW1⟩ : ∃ W1, w.alloc (.cells #[.string k] 9) = W1 := ⟨_, rfl⟩
  rw [hW1] at B1
  have B2 := B1.alloc B1.size (.cells #[.bool false] 4)
  have c2 := cell_new W1 (.bool false) 4
  have f2 := frozen_new W1 (.bool false) 4
  obtain ⟨W2, hW2⟩ : ∃ W2, W1.alloc (.cells #[.bool false] 4) = W2 := ⟨_, rfl⟩
  rw [hW2] at B2 c2 f2
  have hlt : W1.heap.size < W2.heap.size := World.block_lt_of_cell? W2 _ c2
  have B3 := B2.alloc B2.size (.cells #[.int .i64 0] 39)
  have c4 := cell_new W2 (.int .i64 0) 39
  have f4 := frozen_new W2 (.int .i64 0) 39
  have c3 : (W2.alloc (.cells #[.int .i64 0] 39)).cell? ⟨W1.heap.size, 0, none⟩ = some (.bool false) := (World.cell?_alloc_lt _ _ _ hlt).trans c2
  have f3 : (W2.alloc (.cells #[.int .i64 0] 39)).frozen? ⟨W1.heap.size, 0, none⟩ = false := (World.frozen?_of_block (w := W2) (a := ⟨W1.heap.size, 0, none⟩) (((Below.refl W2.heap.size W2).alloc (Nat.le_refl _) _).block _ hlt)).trans f2
  obtain ⟨W3, hW3⟩ : ∃ W3, W2.alloc (.cells #[.int .i64 0] 39) = W3 := ⟨_, rfl⟩
  rw [hW3] at B3 c4 f4 c3 f3
  obtain ⟨g1, g2⟩ := two_boxes c3 c4 (Nat.ne_of_lt hlt) (.bool false) (.int .i64 1)
  have hne : ¬ W1.heap.size = W2.heap.size := Nat.ne_of_lt hlt
  have B5 := Lib.hid ((B3.setCell (p := ⟨W1.heap.size, 0, none⟩) B1.size (.bool false)).setCell (p := ⟨W2.heap.size, 0, none⟩) B2.size (.int .i64 1))
  have c4' : (W3.setCell ⟨W1.heap.size, 0, none⟩ (.bool false)).cell? ⟨W2.heap.size, 0, none⟩ = some (.int .i64 0) := (World.cell?_setCell_other _ _ _ _ (by intro h; injection h with h; exact hne h)).trans c4
  clear B1 B2 B3 c2 f2 hlt
  go_enter_defers Tryz.func26, Tryz.ntmps26
  go_wp2_with fail
  simp [bodyPostD, Leaves, results, Tryz.results26, go_sem, g1, g2]
  exact B5.out
set_option maxRecDepth 100000 in
theorem get_nil (k : ByteArray) (w : World) : Calls Tryz.prog 29 #[.pointer none, .string k] w (fun e w' => e = .returned (.tuple #[.string ⟨#[]⟩, .bool false, .int .i64 1]) ∧ Below w.heap.size w w') := by
  have BB := Lib.hid ((Below.refl w.heap.size w).alloc (Nat.le_refl _) (.cells #[.int .i64 1] 39))
  have c1 := cell_new w (.int .i64 1) 39
  go_enter_defers Tryz.func29, Tryz.ntmps29
  go_wp2_with fail
  simp [bodyPostD, Leaves, results, Tryz.results29, go_sem, c1]
  exact BB.out
set_option maxRecDepth 100000 in
theorem set_nil (k v : ByteArray) (w : World) : Calls Tryz.prog 24 #[.pointer none, .string k, .string v] w (fun e w' => e = .returned (.int .i64 1) ∧ Below w.heap.size w w') := by
  have B1 := (Below.refl w.heap.size w).alloc (Nat.le_refl _) (.cells #[.string k] 9)
  have B2 := B1.alloc B1.size (.cells #[.string v] 9)
  obtain ⟨W2, hW2⟩ : ∃ W2, (w.alloc (.cells #[.string k] 9)).alloc (.cells #[.string v] 9) = W2 := ⟨_, rfl⟩
  rw [hW2] at B2
  have BB := Lib.hid (B2.alloc B2.size (.cells #[.int .i64 1] 39))
  have c1 := cell_new W2 (.int .i64 1) 39
  clear B1 B2
  go_enter_defers Tryz.func24, Tryz.ntmps24
  go_wp2_with fail
  simp [bodyPostD, Leaves, results, Tryz.results24, go_sem, c1]
  exact BB.out
end Go.Proofs.YtboaamaneeodfaaGreat.Tree
namespace Go.Proofs.YtboaamaneeodfaaGreat.Tree
open Go.RowKit Gen
open Disk (St Dev Mod ptr)
open Page (Pg Lay PgOk PgRows pgC pgV Enc IsDec BytesAt strV strB PRow less info_parts')
open Pool (Po NAt PoAt La poC poV numV At takeP giveP backP Fresh PoolOk OwnI chunks layAll May)
open Store

/-- An empty leaf. -/
abbrev leaf0 : Pg := { kind := 1 }
theorem leaf0_ok : PgOk leaf0 := ⟨⟨by show (_ : Int) ≤ 1; omega, by show (1 : Int) ≤ _; omega⟩, Nat.zero_le _, Nat.zero_le _, Nat.zero_le _, Nat.zero_le _, none_ok.next, by show 0 < 18446744073709551616; omega, none_ok.root, none_ok.depth, none_ok.count, none_ok.high⟩
theorem leaf0_rows (w : World) (y : Lay) : PgRows w leaf0 y := Page.rows_none w leaf0 y rfl rfl rfl rfl
set_option maxRecDepth 100000 in
theorem way_empty {w : World} {tb ss : Nat} {r c : Int} (hT : At w tb (trC ss r 0 c)) (key : Disk.Bs) :
    Calls Tryz.prog 58 #[ptr tb, strV key] w (fun e w' => ∃ v, e = .returned (.tuple #[v, numV 0]) ∧ Way w w' v [⟨0, leaf0, {}, 0⟩] ∧ Below w.heap.size w w') := by
  have g2 : w.cell? ⟨tb, 2, none⟩ = some (.int .i64 0) := hT.2.2 2 _ rfl
  have B1 := Lib.hid (Pool.below_box w (.cells (stC ⟨0, leaf0, {}, 0⟩) 117))
  have HO := Lib.hid (show OwnS (w.alloc (.cells (stC ⟨0, leaf0, {}, 0⟩) 117)) w.heap.size (.slice (some ⟨w.heap.size, 0, none⟩) 1 1) [⟨0, leaf0, {}, 0⟩] from
    ⟨rfl, .inr ⟨w.heap.size, 1, _, rfl, Nat.le_refl _, heap_alloc_last w _, Nat.le_refl _, by unfold maxLen; omega, rfl, rfl⟩⟩)
  have HW := Lib.hid (show Way w (w.alloc (.cells (stC ⟨0, leaf0, {}, 0⟩) 117)) (.slice (some ⟨w.heap.size, 0, none⟩) 1 1) [⟨0, leaf0, {}, 0⟩] from
    ⟨HO.out, fun s hs => by rw [List.mem_singleton] at hs; rw [hs]; exact leaf0_rows _ _, fun s hs => by rw [List.mem_singleton] at hs; rw [hs]; exact leaf0_ok, fun s hs => by rw [List.mem_singleton] at hs; rw [hs]; exact ⟨fun _ e => (by cases e), fun _ e => (by cases e), fun _ e => (by cases e), fun _ e => (by cases e), fun _ => rfl, Nat.le_refl _, Nat.le_refl _, Nat.le_refl _, Nat.le_refl _, fun _ => rfl, fun _ => rfl, fun _ => rfl⟩,
     fun s hs g _ => by rw [List.mem_singleton] at hs; rw [hs]; exact ⟨fun e => absurd rfl e, fun e => absurd rfl e, fun e => absurd rfl e, fun e => absurd rfl e⟩⟩)
  obtain ⟨kv, hkv⟩ : ∃ kv, strV key = kv := ⟨_, rfl⟩
  rw [hkv]
  clear hkv hT HO
  go_enter Tryz.func58, Tryz.ntmps58
  go_wp2_with fail
  go_ret2
  exact ⟨_, rfl, HW.out, B1.out⟩
set_option maxRecDepth 100000 in
theorem end_err {w0 w : World} {B : Blk} {tb : Nat} {d : St} {t : T} {r dp c : Int} (h : TrOn w0 w B tb d t r dp c) (eb : Nat) (x : Int) (he : w.cell? ⟨eb, 0, none⟩ = some (.int .i64 x)) (hx : x ≠ 0) (u : FrameMode) :
    CallsD Tryz.prog 39 #[ptr tb, ptr eb] u w fun e u' w' => u' = u ∧ (e = .returned (.tuple #[]) ∧ TrOn w0 w' B tb d (abortT t) t.sup.root t.sup.depth t.sup.count ∧ Mod (tall tb B) w w') := by
  have c0 : w.cell? ⟨tb, 0, none⟩ = some (ptr B.ss) := h.box.2.2 0 _ rfl
  obtain ⟨a, s⟩ := h.sto.has
  have cA := abort_any s
  have d1 : (x != 0) = true := by simp [hx]
  have H := Lib.hid h
  clear h s hx
  go_enter_d Tryz.func39, Tryz.ntmps39
  go_wp2_with fail
  refine cA.mono ?_
  rintro e w1 ⟨rfl, h1, m1⟩
  have H1 := Lib.hid (H.out.store h1 m1)
  have M1 := Lib.hid m1
  obtain ⟨a1, s1⟩ := h1
  have cB := begin_any s1 H1.out.box
  clear s1 m1 cA c0 he d1
  go_wp2_with fail
  refine cB.mono ?_
  rintro e w2 ⟨rfl, hb, m2⟩
  have H2 := Lib.hid (show TrOn _ _ _ _ _ _ t.sup.root t.sup.depth t.sup.count from H1.out.cells hb m2)
  have M2 := Lib.hid (show Mod (tall tb B) w w2 from (M1.out.mono (fun x hx => List.mem_cons_of_mem _ hx)).trans (m2.mono (fun x hx => by rw [List.mem_singleton] at hx; rw [hx]; exact List.mem_cons_self ..)))
  clear hb m2 cB
  go_wp2_with fail
  go_end0
  exact ⟨rfl, H2.out, M2.out⟩
end Go.Proofs.YtboaamaneeodfaaGreat.Tree
namespace Go.Proofs.YtboaamaneeodfaaGreat.Tree
open Go.RowKit Gen
open Disk (St Dev Mod ptr)
open Page (Pg Lay PgOk PgRows pgC pgV Enc IsDec BytesAt strV strB PRow less)
open Pool (Po NAt PoAt La poC poV numV At takeP giveP backP Fresh PoolOk OwnI chunks layAll May)
open Store

/-- A new block is none of a tree's. -/
theorem tall_new {w0 w : World} {B : Blk} {tb : Nat} {d : St} {t : T} {r dp c : Int} (h : TrOn w0 w B tb d t r dp c) {n : Nat} (hn : w.heap.size ≤ n) : n ∉ tall tb B := fun e => by
  obtain ⟨a, s⟩ := h.sto.has
  rcases List.mem_cons.1 e with e | e
  · have := h.box.1; omega
  · have := s.lt _ e; omega
abbrev withX (B : Blk) (x : Nat) : Blk := { B with xs := x :: B.xs }
theorem sto_unx {w : World} {B : Blk} {x : Nat} {d : St} {t : T} {a : Lys} (h : Sto w (withX B x) d t a) : Sto w B d t a := by
  have sub : ∀ y ∈ B.off, y ∈ (withX B x).off := fun y hy => by
    rcases List.mem_append.1 hy with hy | hy
    · exact List.mem_append_left _ hy
    · exact List.mem_append_right _ (List.mem_cons_of_mem _ hy)
  exact { box := h.box, dev := h.dev, fr := h.fr, n1 := h.n1, n2 := h.n2, own := h.own, base := h.base, pool := h.pool, ao := fun e => (h.ao e).mono sub, ab := h.ab.mono sub, ap := h.ap.mono sub, xl := fun y hy => h.xl y (List.mem_cons_of_mem _ hy), ok := h.ok, bare := h.bare, bk := h.bk, pk := h.pk }
/-- A box more. -/
theorem TrOn.withx {w0 w w' : World} {B : Blk} {tb : Nat} {d : St} {t : T} {r dp c : Int} (h : TrOn w0 w B tb d t r dp c) (b : Below w.heap.size w w') {x : Nat} (h1 : w.heap.size ≤ x) (h2 : x < w'.heap.size) : TrOn w0 w' (withX B x) tb d t r dp c := by
  obtain ⟨a, s⟩ := h.sto.has
  have q := h.quiet b
  exact ⟨⟨⟨a, (s.below b).addx h2 (SepB.new s h1)⟩, q.sto.below, h.sto.new⟩, q.box, h.out, List.mem_cons_of_mem _ h.mem, h.new⟩
theorem TrOn.unx {w0 w : World} {B : Blk} {tb x : Nat} {d : St} {t : T} {r dp c : Int} (h : TrOn w0 w (withX B x) tb d t r dp c) (hm : tb ∈ B.xs) : TrOn w0 w B tb d t r dp c := by
  obtain ⟨a, s⟩ := h.sto.has
  exact ⟨⟨⟨a, sto_unx s⟩, h.sto.below, h.sto.new⟩, h.box, h.out, hm, h.new⟩
/-- A box alone has changed. -/
theorem TrOn.touch {w0 w w' : World} {B : Blk} {tb : Nat} {d : St} {t : T} {r dp c : Int} (h : TrOn w0 w B tb d t r dp c) {x : Nat} (hx : x ∈ B.xs) (hn : x ∉ tall tb B) (h0 : w0.heap.size ≤ x) (m : Mod [x] w w') : TrOn w0 w' B tb d t r dp c := by
  obtain ⟨a, s⟩ := h.sto.has
  exact ⟨⟨⟨a, s.other m (fun e => hn (List.mem_cons_of_mem _ e)) (s.sepx hx)⟩, h.sto.below.trans (m.below h.sto.below.size (fun k hk => by simp only [List.mem_singleton] at hk; rw [hk]; exact h0)), h.sto.new⟩, at_mod h.box m (fun e => by rw [List.mem_singleton] at e; exact hn (by rw [← e]; exact List.mem_cons_self ..)), h.out, h.mem, h.new⟩
/-- What a tree's end leaves, whatever is told. -/
def EndW (w0 w : World) (B : Blk) (tb : Nat) (d : St) (t : T) (_r _dp _c x : Int) (w' : World) : Prop :=
  (x = 0 ∧ w' = w) ∨ (x ≠ 0 ∧ TrOn w0 w' B tb d (abortT t) t.sup.root t.sup.depth t.sup.count ∧ Mod (tall tb B) w w')
theorem end_any {w0 w : World} {B : Blk} {tb : Nat} {d : St} {t : T} {r dp c : Int} (h : TrOn w0 w B tb d t r dp c) (eb : Nat) (x : Int) (he : w.cell? ⟨eb, 0, none⟩ = some (.int .i64 x)) (u : FrameMode) :
    CallsD Tryz.prog 39 #[ptr tb, ptr eb] u w fun e u' w' => u' = u ∧ (e = .returned (.tuple #[]) ∧ EndW w0 w B tb d t r dp c x w') := by
  by_cases hx : x = 0
  · subst hx
    exact (end_zero tb eb u w he).mono (fun e u' w' ⟨h1, h2, h3⟩ => ⟨h1, h2, .inl ⟨rfl, h3⟩⟩)
  · exact (end_err h eb x he hx u).mono (fun e u' w' ⟨h1, h2, h3, h4⟩ => ⟨h1, h2, .inr ⟨hx, h3, h4⟩⟩)
theorem EndW.mod {w0 w w' : World} {B : Blk} {tb : Nat} {d : St} {t : T} {r dp c x : Int} (h : EndW w0 w B tb d t r dp c x w') : Mod (tall tb B) w w' := by
  rcases h with ⟨_, rfl⟩ | ⟨_, _, m⟩
  · exact Mod.refl _ _
  · exact m
theorem mod_cell (w : World) (b i : Nat) (v : Value) : Mod [b] w (w.setCell ⟨b, i, none⟩ v) := mod_set _ _ _ _
end Go.Proofs.YtboaamaneeodfaaGreat.Tree
namespace Go.Proofs.YtboaamaneeodfaaGreat.Tree
open Go.RowKit Gen
open Disk (St Dev Mod ptr)
open Page (Pg Lay PgOk PgRows pgC pgV Enc IsDec BytesAt strV strB PRow less)
open Pool (Po NAt PoAt La poC poV numV At takeP giveP backP Fresh PoolOk OwnI chunks layAll May)
open Store

set_option maxRecDepth 100000 in
set_option maxHeartbeats 8000000 in
theorem keep_any {w0 w : World} {B : Blk} {tb : Nat} {d : St} {t : T} {r dp c : Int} (h : TrOn w0 w B tb d t r dp c) (hr : I64 r) (hd : I64 dp) (hc : I64 c) (hn : t.own.length ≤ 100000) (ho : ∀ x ∈ t.own, I64 x) :
    Calls Tryz.prog 17 #[ptr tb] w (fun e w' => ∃ d' t' x, e = .returned (numV x) ∧ CommitR d t r dp c d' t' x ∧ Mod (tall tb B) w w' ∧ (x = 0 → TrOn w0 w' B tb d' t' r dp c) ∧ (x ≠ 0 → TrOn w0 w' B tb d' (abortT t') t'.sup.root t'.sup.depth t'.sup.count)) := by
  have b1 := (Below.refl w.heap.size w).alloc (Nat.le_refl _) (.cells #[.int .i64 0] 39)
  have E1 := Lib.hid (at_new w #[.int .i64 0] 39)
  have H1 := Lib.hid (h.withx (x := w.heap.size) b1 (Nat.le_refl _) (by simp))
  have NB := Lib.hid (tall_new h (Nat.le_refl _))
  have B1 := Lib.hid b1
  obtain ⟨W1, hW1⟩ : ∃ W1, w.alloc (.cells #[.int .i64 0] 39) = W1 := ⟨_, rfl⟩
  rw [hW1] at E1 H1 B1
  obtain ⟨eb, heb⟩ : ∃ eb, w.heap.size = eb := ⟨_, rfl⟩
  have HEB := Lib.hid heb
  rw [heb] at E1 NB H1
  have HX := Lib.hid (H1.out.quiet (Below.refl _ _).drew)
  have EX := Lib.hid (E1.out.below (Below.refl _ _).drew E1.out.1)
  have BX := Lib.hid B1.out.drew
  have MB := Lib.hid h.mem
  have N0 := Lib.hid (show w0.heap.size ≤ eb from by rw [← HEB.out]; exact h.sto.below.size)
  obtain ⟨a, s⟩ := HX.out.sto.has
  have cC := commit_any s r dp c hr hd hc hn ho
  have K0 := Lib.hid (show W1.drew.cell? ⟨tb, 0, none⟩ = some (ptr B.ss) ∧ W1.drew.cell? ⟨tb, 1, none⟩ = some (.int .i64 r) ∧ W1.drew.cell? ⟨tb, 2, none⟩ = some (.int .i64 dp) ∧ W1.drew.cell? ⟨tb, 3, none⟩ = some (.int .i64 c) from ⟨HX.out.box.2.2 0 _ rfl, HX.out.box.2.2 1 _ rfl, HX.out.box.2.2 2 _ rfl, HX.out.box.2.2 3 _ rfl⟩)
  have k0 : W1.cell? ⟨tb, 0, none⟩ = some (ptr B.ss) := H1.out.box.2.2 0 _ rfl
  have k1 : W1.cell? ⟨tb, 1, none⟩ = some (.int .i64 r) := H1.out.box.2.2 1 _ rfl
  have k2 : W1.cell? ⟨tb, 2, none⟩ = some (.int .i64 dp) := H1.out.box.2.2 2 _ rfl
  have k3 : W1.cell? ⟨tb, 3, none⟩ = some (.int .i64 c) := H1.out.box.2.2 3 _ rfl
  have hne : ¬ tb = eb := fun e => NB.out (by rw [← e]; exact List.mem_cons_self ..)
  clear b1 h s hr hd hc hn ho
  go_enter_defers Tryz.func17, Tryz.ntmps17
  go_wp2_with fail
  go_region_held3 (fun w' => w'.cell? ⟨tb, 0, none⟩ = some (ptr B.ss) ∧ w'.cell? ⟨tb, 1, none⟩ = some (.int .i64 r) ∧ w'.cell? ⟨tb, 2, none⟩ = some (.int .i64 dp) ∧ w'.cell? ⟨tb, 3, none⟩ = some (.int .i64 c))
    (with_reducible (first | exact K0.out | exact K1.out | exact K2.out))
    (first
      | (go_at_call 40; (with_reducible refine cC.mono ?_); rintro e w2 ⟨d2, t2, x, rfl, hc2, hs2, m2⟩
         have H2 := Lib.hid (HX.out.store hs2 m2)
         have M2 := Lib.hid (show Mod (tall tb B) w w2 from (Mod.of_below (tall tb B) BX.out).trans (m2.mono (fun x hx => List.mem_cons_of_mem _ hx)))
         have E2 := Lib.hid (at_mod EX.out m2 (fun e => NB.out (List.mem_cons_of_mem _ e)))
         have HC := Lib.hid hc2
         have e2 : w2.cell? ⟨eb, 0, none⟩ = some (.int .i64 0) := E2.out.2.2 0 _ rfl
         have f2 : w2.frozen? ⟨eb, 0, none⟩ = false := E2.out.2.1 0
         have K1 := Lib.hid (show w2.cell? ⟨tb, 0, none⟩ = some (ptr B.ss) ∧ w2.cell? ⟨tb, 1, none⟩ = some (.int .i64 r) ∧ w2.cell? ⟨tb, 2, none⟩ = some (.int .i64 dp) ∧ w2.cell? ⟨tb, 3, none⟩ = some (.int .i64 c) from ⟨H2.out.box.2.2 0 _ rfl, H2.out.box.2.2 1 _ rfl, H2.out.box.2.2 2 _ rfl, H2.out.box.2.2 3 _ rfl⟩)
         have H3 := Lib.hid (H2.out.touch (x := eb) (List.mem_cons_self ..) NB.out N0.out (mod_cell w2 eb 0 (.int .i64 x)))
         have E3 := Lib.hid (at_set E2.out 0 (.int .i64 x))
         have K2 := Lib.hid (show (w2.setCell ⟨eb, 0, none⟩ (.int .i64 x)).cell? ⟨tb, 0, none⟩ = some (ptr B.ss) ∧ (w2.setCell ⟨eb, 0, none⟩ (.int .i64 x)).cell? ⟨tb, 1, none⟩ = some (.int .i64 r) ∧ (w2.setCell ⟨eb, 0, none⟩ (.int .i64 x)).cell? ⟨tb, 2, none⟩ = some (.int .i64 dp) ∧ (w2.setCell ⟨eb, 0, none⟩ (.int .i64 x)).cell? ⟨tb, 3, none⟩ = some (.int .i64 c) from ⟨H3.out.box.2.2 0 _ rfl, H3.out.box.2.2 1 _ rfl, H3.out.box.2.2 2 _ rfl, H3.out.box.2.2 3 _ rfl⟩)
         clear hc2 hs2 m2))
  go_wp2_with fail
  have M3 := Lib.hid (show ∀ w', Mod (tall tb B) (w2.setCell ⟨eb, 0, none⟩ (.int .i64 x)) w' → Mod (tall tb B) w w' from fun w' m => by
    have m1 : Mod (eb :: tall tb B) w w' := ((M2.out.mono (fun y hy => List.mem_cons_of_mem _ hy)).trans ((mod_cell w2 eb 0 (.int .i64 x)).mono (fun y hy => by rw [List.mem_singleton] at hy; rw [hy]; exact List.mem_cons_self ..))).trans (m.mono (fun y hy => List.mem_cons_of_mem _ hy))
    exact mod_drop m1 (by rw [HEB.out]; exact Nat.le_refl _))
  have e3 : (w2.setCell ⟨eb, 0, none⟩ (.int .i64 x)).cell? ⟨eb, 0, none⟩ = some (.int .i64 x) := E3.out.2.2 0 _ rfl
  refine leaves_cons (f := 39) (args := #[ptr tb, ptr eb]) (by simp) (by simp [go_sem]) ?_
  refine (end_any H3.out eb x e3 _).mono ?_
  rintro e u' w5 ⟨rfl, rfl, hend⟩
  have e5 : w5.cell? ⟨eb, 0, none⟩ = some (.int .i64 x) := (at_mod E3.out hend.mod NB.out).2.2 0 _ rfl
  have FIN := Lib.hid (show Mod (tall tb B) w w5 ∧ (x = 0 → TrOn w0 w5 B tb d2 t2 r dp c) ∧ (x ≠ 0 → TrOn w0 w5 B tb d2 (abortT t2) t2.sup.root t2.sup.depth t2.sup.count) from
    ⟨M3.out _ hend.mod, fun h => by
      rcases hend with ⟨-, rfl⟩ | ⟨h', -⟩
      · exact H3.out.unx MB.out
      · exact absurd h h', fun h => by
      rcases hend with ⟨h', -⟩ | ⟨-, h', -⟩
      · exact absurd h' h
      · exact h'.unx MB.out⟩)
  clear hend
  simp [Leaves, settle, results, Tryz.results17, go_sem, e5]
  exact ⟨d2, t2, HC.out, FIN.out⟩
end Go.Proofs.YtboaamaneeodfaaGreat.Tree
namespace Go.Proofs.YtboaamaneeodfaaGreat.Tree
open Go.RowKit Gen
open Disk (St Dev Mod ptr)
open Page (Pg Lay PgOk PgRows pgC pgV Enc IsDec BytesAt strV strB PRow less)
open Pool (Po NAt PoAt La poC poV numV At takeP giveP backP Fresh PoolOk OwnI chunks layAll May)
open Store

/-- The root that is left. -/
def lowRoot (p : Pg) : Int := if p.kind = 2 then p.kids.headD 0 else 0
theorem headD_get (l : List Int) (h : 0 < l.length) : l.headD 0 = l[0] := by
  cases l with
  | nil => simp at h
  | cons => rfl
set_option maxRecDepth 100000 in
set_option maxHeartbeats 4000000 in
theorem lower_any {w0 w : World} {B : Blk} {tb : Nat} {d : St} {t : T} {r dp c : Int} (h : TrOn w0 w B tb d t r dp c) (n : Int) (hn : I64 n) (D : Int) (hD : 0 ≤ D ∧ D ≤ 1000) (p : Pg) (y : Lay) (hr : PgRows w p y) (hap : Apart (tall tb B) p y) (hk : p.kind = 2 → p.kids ≠ []) :
    Calls Tryz.prog 146 #[ptr tb, .int .i64 n, .int .i64 D, pgV p y] w (fun e w' => e = .returned (numV (dropT t n).2) ∧ Mod (tall tb B) w w' ∧ ((dropT t n).2 ≠ 0 → TrOn w0 w' B tb d (dropT t n).1 r dp c) ∧ ((dropT t n).2 = 0 → TrOn w0 w' B tb d (dropT t n).1 (lowRoot p) (D - 1) c)) := by
  have b1 := Pool.below_box w (.cells (pgC p y) 82)
  have A1 := Lib.hid (at_new w (pgC p y) 82)
  have NB := Lib.hid (tall_new h (Nat.le_refl _))
  have H1 := Lib.hid (h.quiet b1)
  have R1 := Lib.hid (hr.below b1)
  have B1 := Lib.hid b1
  have AP := Lib.hid hap
  obtain ⟨W1, hW1⟩ : ∃ W1, w.alloc (.cells (pgC p y) 82) = W1 := ⟨_, rfl⟩
  rw [hW1] at A1 H1 B1 R1
  obtain ⟨a, s⟩ := H1.out.sto.has
  have cD := drop_any s n hn
  have k0 : W1.cell? ⟨tb, 0, none⟩ = some (ptr B.ss) := H1.out.box.2.2 0 _ rfl
  have hw1 : IntKind.i64.wrap (D - 1) = D - 1 := IntWalk.i64_in _ (by omega)
  have HK := Lib.hid hk
  clear b1 h s hn hr hap hk hD
  rcases hd : dropT t n with ⟨t2, x⟩
  rw [hd] at cD
  simp only at cD ⊢
  clear hd
  generalize hC : pgC p y = C at *
  go_enter Tryz.func146, Tryz.ntmps146
  go_wp2_with (first | ((with_reducible refine Disk.wpList_box_eq rfl 82 (.tmp 3) rfl C ?_ ?_); (next => rfl)))
  refine cD.mono ?_
  rintro e w2 ⟨rfl, hs2, m2⟩
  subst hC
  have H2 := Lib.hid (H1.out.store hs2 m2)
  have M2 := Lib.hid (show Mod (tall tb B) w w2 from (Mod.of_below (tall tb B) B1.out).trans (m2.mono (fun x hx => List.mem_cons_of_mem _ hx)))
  have A2 := Lib.hid (at_mod A1.out m2 (fun e => NB.out (List.mem_cons_of_mem _ e)))
  have R2 := Lib.hid (pg_mod R1.out m2 ⟨fun e => (AP.out.o1 e).mono (fun x hx => List.mem_cons_of_mem _ hx), fun e => (AP.out.o2 e).mono (fun x hx => List.mem_cons_of_mem _ hx), fun e => (AP.out.o3 e).mono (fun x hx => List.mem_cons_of_mem _ hx), fun e => (AP.out.o4 e).mono (fun x hx => List.mem_cons_of_mem _ hx)⟩)
  clear hs2 m2 cD k0
  by_cases hx : x = 0
  · subst hx
    have c0 := A2.out.2.2 0 _ rfl
    have c3 := A2.out.2.2 4 _ rfl
    have t1 : w2.cell? ⟨tb, 1, none⟩ = some (.int .i64 r) := H2.out.box.2.2 1 _ rfl
    have t2' : w2.cell? ⟨tb, 2, none⟩ = some (.int .i64 dp) := H2.out.box.2.2 2 _ rfl
    have tf : ∀ j, w2.frozen? ⟨tb, j, none⟩ = false := H2.out.box.2.1
    have W3e : ∃ W3, (w2.setCell ⟨tb, 1, none⟩ (.int .i64 0)).setCell ⟨tb, 2, none⟩ (.int .i64 (D - 1)) = W3 := ⟨_, rfl⟩
    obtain ⟨W3, hW3⟩ := W3e
    have m3 : Mod [tb] w2 W3 := by rw [← hW3]; exact (mod_set _ _ _ _).trans (mod_set _ _ _ _)
    have D3 : At W3 tb (trC B.ss 0 (D - 1) c) := by rw [← hW3]; exact at_set (at_set H2.out.box 1 (.int .i64 0)) 2 (.int .i64 (D - 1))
    have H3 := Lib.hid (H2.out.cells D3 m3)
    have A3 := Lib.hid (at_mod A2.out m3 (fun e => by rw [List.mem_singleton] at e; exact NB.out (by rw [e]; exact List.mem_cons_self ..)))
    have R3 := Lib.hid (pg_mod R2.out m3 ⟨fun e => (AP.out.o1 e).mono (fun x hx => by rw [List.mem_singleton] at hx; rw [hx]; exact List.mem_cons_self ..), fun e => (AP.out.o2 e).mono (fun x hx => by rw [List.mem_singleton] at hx; rw [hx]; exact List.mem_cons_self ..), fun e => (AP.out.o3 e).mono (fun x hx => by rw [List.mem_singleton] at hx; rw [hx]; exact List.mem_cons_self ..), fun e => (AP.out.o4 e).mono (fun x hx => by rw [List.mem_singleton] at hx; rw [hx]; exact List.mem_cons_self ..)⟩)
    have M3 := Lib.hid (M2.out.trans (m3.mono (fun x hx => by rw [List.mem_singleton] at hx; rw [hx]; exact List.mem_cons_self ..)))
    have q0 : W3.cell? ⟨w.heap.size, 0, none⟩ = some (.int .i64 p.kind) := A3.out.2.2 0 _ rfl
    have q3 : W3.cell? ⟨w.heap.size, 3, none⟩ = some (.slice y.A3 p.kids.length y.c3) := A3.out.2.2 3 _ rfl
    have u1 : W3.cell? ⟨tb, 1, none⟩ = some (.int .i64 0) := H3.out.box.2.2 1 _ rfl
    have uf : W3.frozen? ⟨tb, 1, none⟩ = false := H3.out.box.2.1 1
    clear c0 c3 m3 D3
    by_cases hk : p.kind = 2
    · have d2 : (p.kind == 2) = true := by simp [hk]
      obtain ⟨b, off, ea, hb, hc⟩ := R3.out.r3 (HK.out hk)
      have hc0 := hc 0 (List.length_pos_iff.2 (HK.out hk))
      have HL := Lib.hid (show lowRoot p = p.kids[0]'(List.length_pos_iff.2 (HK.out hk)) from by
        unfold lowRoot; rw [if_pos hk]
        exact headD_get _ _)
      obtain ⟨z, hz⟩ : ∃ z, p.kids[0]'(List.length_pos_iff.2 (HK.out hk)) = z := ⟨_, rfl⟩
      have HZ := Lib.hid (show lowRoot p = z from HL.out.trans hz)
      rw [hz] at hc0
      have q5 : W3.cell? ⟨b, off, none⟩ = some (.int .i64 z) := hc0
      rw [ea] at q3
      have hkl : ¬ (p.kids.length ≤ 0) := by have := List.length_pos_iff.2 (HK.out hk); omega
      obtain ⟨kl, hkl'⟩ : ∃ kl, p.kids.length = kl := ⟨_, rfl⟩
      rw [hkl'] at q3 hkl
      have hkp : (0 : Int) < (kl : Int) := by omega
      have D4 : At (W3.setCell ⟨tb, 1, none⟩ (.int .i64 z)) tb (trC B.ss z (D - 1) c) := at_set H3.out.box 1 (.int .i64 z)
      have H4 := Lib.hid (H3.out.cells D4 (mod_set _ _ _ _))
      have M4 := Lib.hid (show Mod (tall tb B) w (W3.setCell ⟨tb, 1, none⟩ (.int .i64 z)) from M3.out.trans ((mod_set W3 tb 1 (.int .i64 z)).mono (fun x hx => by rw [List.mem_singleton] at hx; rw [hx]; exact List.mem_cons_self ..)))
      clear HL hc hc0 ea hb hz hk hkl' D4
      go_wp2_with fail
      go_ret
      exact ⟨rfl, M4.out, by rw [HZ.out]; exact H4.out⟩
    · have d2 : (p.kind == 2) = false := by simp [hk]
      have HL := Lib.hid (show lowRoot p = 0 from by unfold lowRoot; rw [if_neg hk])
      clear hk
      go_wp2_with fail
      go_ret
      exact ⟨rfl, M3.out, by rw [HL.out]; exact H3.out⟩
  · have d1 : (x != 0) = true := by simp [hx]
    have HX := Lib.hid hx
    clear hx
    go_wp2_with fail
    go_ret
    exact ⟨rfl, M2.out, fun _ => H2.out, fun h => absurd h HX.out⟩
end Go.Proofs.YtboaamaneeodfaaGreat.Tree
