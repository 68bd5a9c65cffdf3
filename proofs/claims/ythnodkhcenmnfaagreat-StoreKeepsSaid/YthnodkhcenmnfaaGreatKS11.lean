/-
  Texts of one family, one behind the other: SKeepsWalk.
-/
import Derived.Test.YthnodkhcenmnfaaGreatKS8
import Derived.Test.YthnodkhcenmnfaaGreatKS7
import Derived.Test.YthnodkhcenmnfaaGreatKP8
import Derived.Test.YthnodkhcenmnfaaGreatKQ4
import Derived.Deep.WholeRow
import Derived.Deep.OwnRows
import Derived.BigQuiet
namespace Go.Proofs.YthnodkhcenmnfaaGreat.Store
open Go.RowKit Gen
open Disk (St Dev Mod ptr IRow)
open Page (Pg Lay PgOk PgRows pgC pgV Enc IsDec BytesAt strV CallS callC CallIn Script)
open Pool (Po NAt PoAt La poC poV numV At takeP giveP backP Fresh PoolOk OwnI chunks layAll May)

/-- What was taken down of a store, beside it. -/
structure Noted (w : World) (B : Blk) (pb qb : Nat) (p : Pg) (y : Lay) (q : Po) (cc : La) (lA : Option Addr) (ln lc : Nat) (own : List Int) (hA : Option Addr) (hs : List Disk.Bs) : Prop where
  pbox : At w pb (pgC p y)
  qbox : At w qb (poC q cc)
  pool : PoAt w q cc
  lists : NAt w lA ln lc own
  held : RowG w strV hA hs
  n1 : pb ∉ B.all
  n2 : qb ∉ B.all
  off : OffP B.all cc
  offl : Off B.all lA
  offh : Off B.all hA
theorem held_mod {w w' : World} {M : List Nat} {A : Option Addr} {l : List Disk.Bs} (h : RowG w strV A l) (o : Off M A) (m : Mod M w w') : RowG w' strV A l := fun hne => by
  obtain ⟨b, off, e, hlt, hc⟩ := h hne
  exact ⟨b, off, e, Nat.lt_of_lt_of_le hlt m.size, fun k hk => (m.cell (p := ⟨b, off + k, none⟩) hlt (show b ∉ M from o _ e)).trans (hc k hk)⟩
theorem Noted.mod {w w' : World} {B : Blk} {pb qb : Nat} {p : Pg} {y : Lay} {q : Po} {cc : La} {lA : Option Addr} {ln lc : Nat} {own : List Int} {hA : Option Addr} {hs : List Disk.Bs} (h : Noted w B pb qb p y q cc lA ln lc own hA hs) (m : Mod B.all w w') : Noted w' B pb qb p y q cc lA ln lc own hA hs :=
  { h with pbox := at_mod h.pbox m h.n1, qbox := at_mod h.qbox m h.n2, pool := po_mod h.pool m h.off, lists := nat_mod h.lists m h.offl, held := held_mod h.held h.offh m }
/-- A page of a call that lies in a row. -/
theorem load_callPage {w : World} {b o : Nat} {x : CallS} (h : w.rangeAt b o (callC x).toList) : (Instr.loadAt 37 (.pointer (some ⟨b, o + 4, none⟩))).run Tryz.prog w = .ok (pgV x.p x.y) w := by
  have h2 : w.rangeAt b (o + 4) (pgC x.p x.y).toList := fun i v hv => by
    have hi : i < 11 := by
      rcases Nat.lt_or_ge i 11 with e | e
      · exact e
      · rw [List.getElem?_eq_none (by simpa using e)] at hv; cases hv
    have := h (4 + i) v (by
      rw [← hv]
      have e : (callC x).toList = [.int .i64 x.kind, .int .i64 x.n, .int .i64 x.m, .int .i64 x.count] ++ ((pgC x.p x.y).toList ++ (callC x).toList.drop 15) := rfl
      rw [e, List.getElem?_append_right (by simp), List.getElem?_append_left (by simpa using hi)]
      congr 1
      simp)
    rw [show o + 4 + i = o + (4 + i) by omega]
    exact this
  have := run_loadAt_mid (P := Tryz.prog) w b (o + 4) 37 (pgC x.p x.y).toList _ h2 Tryz.underlying37 rfl (by simpa using size_page)
  simpa using this
theorem held_snoc (d : St) (k : Nat) : (List.range k).map (fun j : Nat => d.get ((j : Int) + 2)) ++ [d.get ((k : Int) + 2)] = (List.range (k + 1)).map (fun j : Nat => d.get ((j : Int) + 2)) := by
  rw [List.range_succ, List.map_append]; rfl
/-- The second script's store. -/
def Then (W : World) (B : Blk) (d0 : St) (t0 : T) (wr : World) : Prop := ∃ d t, SOn W wr B d t ∧ Good 41 d t ∧ Step d0 t0 d t
theorem then_lay {W w : World} {B : Blk} {d0 : St} {t0 : T} (h0 : Safe d0 t0) (h : Then W B d0 t0 w) {x : CallS} (hx : CallIn W x) : Calls Tryz.prog 19 #[ptr B.ss, .int .i64 x.n, pgV x.p x.y] w (fun e w' => (∃ a b : Int, e = .returned (.tuple #[numV a, numV b])) ∧ Then W B d0 t0 w' ∧ Mod B.all w w') := by
  obtain ⟨d, t, s, g, st⟩ := h
  obtain ⟨a, sto⟩ := s.has
  refine (lay_any sto x.n hx.n x.p x.y hx.ok (hx.rows.below s.below) (rows_apart s hx.rows)).mono ?_
  rintro e w' ⟨d', t', n, b, rfl, hl, hs, m⟩
  exact ⟨⟨n, b, rfl⟩, ⟨d', t', s.mod hs m, g.lay hl, st.lay h0.pre hl⟩, m⟩
theorem then_drop {W w : World} {B : Blk} {d0 : St} {t0 : T} (h : Then W B d0 t0 w) (n : Int) (hn : I64 n) : Calls Tryz.prog 20 #[ptr B.ss, .int .i64 n] w (fun e w' => (∃ b : Int, e = .returned (numV b)) ∧ Then W B d0 t0 w' ∧ Mod B.all w w') := by
  obtain ⟨d, t, s, g, st⟩ := h
  obtain ⟨a, sto⟩ := s.has
  refine (drop_any sto n hn).mono ?_
  rintro e w' ⟨rfl, hs, m⟩
  exact ⟨⟨_, rfl⟩, ⟨d, _, s.mod hs m, g.drop n, st.drop n⟩, m⟩
theorem Then.quiet {W w w' : World} {B : Blk} {d0 : St} {t0 : T} (h : Then W B d0 t0 w) (b : Below w.heap.size w w') : Then W B d0 t0 w' := by
  obtain ⟨d, t, s, g, st⟩ := h
  exact ⟨d, t, s.quiet b, g, st⟩
/-- What was not known to be free is as it was. -/
theorem then_same {d0 d : St} {t0 t : T} (h0 : Safe d0 t0) (h : Safe d t) (s : Step d0 t0 d t) {x : Int} (hx : Live t0.base x) : d.get x = d0.get x := by
  rw [h.get (.inr (.inr (by rw [s.part.base]; exact hx))), h0.get (.inr (.inr hx))]
  exact s.L x (.inr (.inr hx))
set_option maxRecDepth 100000 in
set_option maxHeartbeats 8000000 in
theorem keeps_walk {A A2 : Option Addr} {n c n2 c2 : Nat} {l m : List CallS} (W : World) (hl : l.length = n) (hn : n ≤ 9223372036854775807) (hs : Script W A l) (hml : m.length = n2) (hmn : n2 ≤ 9223372036854775807) (hms : Script W A2 m) :
    Calls Tryz.prog 4 #[.slice A n c, .slice A2 n2 c2] W fun e W' => e = .returned (.bool true) ∧ Below W.heap.size W W' := by
  have cA := awake_any W
  have HL := Lib.hid hl
  have HS := Lib.hid hs
  have HML := Lib.hid hml
  have HMS := Lib.hid hms
  clear hl hs hml hms
  go_enter Tryz.func4, Tryz.ntmps4
  go_wp2_with fail
  refine cA.mono ?_
  rintro e w1 ⟨rfl, b1⟩
  have cN : Calls Tryz.prog 10 #[.int .i64 60] w1 _ := Disk.new_dev 60 w1 (by omega) (by omega)
  have B1 := Lib.hid b1
  clear b1 cA
  go_wp2_with fail
  refine cN.mono ?_
  rintro e w2 ⟨rfl, hd, b2⟩
  have cF := format_any hd (by show 2 ≤ 60; omega)
  have B2 := Lib.hid (B1.out.trans (b2.mono B1.out.size))
  clear b2 hd cN
  go_wp2_with fail
  refine cF.mono ?_
  rintro e w3 ⟨d1, t1, x, hc, m3, hx⟩
  obtain ⟨rfl, rfl, sf1, cm1, n1⟩ := format_ok (n := 60) (by omega) (by omega) hc
  rcases hx with ⟨hx, -⟩ | ⟨-, B, rfl, g1, g2, g3, g4, g5, hs⟩
  · exact absurd rfl hx
  have R3 := Lib.hid (show Run W B 1 w3 from ⟨d1, _, ⟨hs, B2.out.trans (m3.below B2.out.size (fun k hk => by have := B1.out.size; simp at hk; omega)), fun k hk => by
    have := B1.out.size
    have := B2.out.size
    simp only [Blk.all, List.mem_cons, List.not_mem_nil, or_false] at hk
    omega⟩, ⟨sf1, cm1, n1, by show (0 + 1) % 18446744073709551616 ≤ 1; omega⟩⟩)
  have G1 := Lib.hid g1
  clear hc m3 sf1 cm1 n1 g1 g2 g3 g4 g5 hs cF B2 B1
  have cW := done_walk (c := c) R3.out HL.out hn HS.out
  clear R3
  obtain ⟨db, hdb⟩ : ∃ db, w1.heap.size + 2 = db := ⟨_, rfl⟩
  rw [hdb] at G1
  rw [hdb]
  clear hdb
  go_wp2_with fail
  refine cW.mono ?_
  rintro e w4 ⟨rfl, d4, t4, s4, G4⟩
  obtain ⟨a4, st4⟩ := s4.has
  have cB := abort_any st4
  have S4 := Lib.hid s4
  have HG4 := Lib.hid G4.abort
  clear s4 G4 st4 cW HL HS
  go_wp2_with fail
  refine cB.mono ?_
  rintro e w5 ⟨rfl, h5, m5⟩
  have S5 := Lib.hid (S4.out.mod h5 m5)
  obtain ⟨a5, st5⟩ := h5
  have s5off : ∀ {c : La}, Fresh w5.heap.size c → OffP B.all c := fun h => st5.offP (Nat.le_refl _) h
  have LT := Lib.hid (show ∀ x ∈ B.all, x < w5.heap.size from st5.lt)
  have cS := super_any st5
  have RS := Lib.hid (And.intro st5.bare st5.ok)
  obtain ⟨y5, hy5⟩ : ∃ y, a5.s = y := ⟨_, rfl⟩
  rw [hy5] at cS
  clear st5 m5 cB S4 hy5
  obtain ⟨t5, ht5⟩ : ∃ t, abortT t4 = t := ⟨_, rfl⟩
  rw [ht5] at S5 HG4 cS RS
  have HT5 := Lib.hid (show t5.pool = t5.base from by rw [← ht5]; rfl)
  clear ht5
  go_wp2_with fail
  refine cS.mono ?_
  rintro e w6 ⟨rfl, b6⟩
  have PP := Lib.hid (put_page w6 t5.sup y5)
  have b7 := Pool.below_box w6 (.cells (pgC t5.sup y5) 37)
  have A7 := Lib.hid (at_new w6 (pgC t5.sup y5) 37)
  have S7 := Lib.hid (S5.out.quiet (b6.trans (b7.mono b6.size)))
  have LT6 := Lib.hid (show w5.heap.size ≤ w6.heap.size from b6.size)
  obtain ⟨W7, hW7⟩ : ∃ W7, w6.alloc (.cells (pgC t5.sup y5) 37) = W7 := ⟨_, rfl⟩
  have LT7 := Lib.hid (show w6.heap.size + 1 = W7.heap.size from by rw [← hW7]; simp)
  rw [hW7] at PP A7 S7
  obtain ⟨a7, st7⟩ := S7.out.has
  have cP := pool_any st7
  clear b6 b7 hW7 cS S5 st7
  go_wp2_with (first | ((with_reducible refine Disk.wpList_store_eq rfl 37 (.tmp 10) (.tmp 48) rfl _ _ ?_ ?_ PP.out ?_); (next => rfl); (next => rfl)))
  refine cP.mono ?_
  rintro e w8 ⟨cc, rfl, hp, b8, hfr⟩
  have QQ := Lib.hid (put_pool w8 t5.pool cc)
  have b9 := Pool.below_box w8 (.cells (poC t5.pool cc) 40)
  have Q9 := Lib.hid (at_new w8 (poC t5.pool cc) 40)
  have A9 := Lib.hid ((A7.out.below b8 A7.out.1).below b9 (A7.out.below b8 A7.out.1).1)
  have S9 := Lib.hid (S7.out.quiet (b8.trans (b9.mono b8.size)))
  have P9 := Lib.hid (hp.below b9)
  have OC := Lib.hid (s5off ⟨fun x e => Nat.le_trans (by have := LT6.out; have := LT7.out; omega) (hfr.1 x e), fun x e => Nat.le_trans (by have := LT6.out; have := LT7.out; omega) (hfr.2 x e)⟩)
  have LT8 := Lib.hid (show W7.heap.size ≤ w8.heap.size from b8.size)
  obtain ⟨W9, hW9⟩ : ∃ W9, w8.alloc (.cells (poC t5.pool cc) 40) = W9 := ⟨_, rfl⟩
  rw [hW9] at QQ Q9 A9 S9 P9
  obtain ⟨a9, st9⟩ := S9.out.has
  have cL := lists_told st9 HG4.out.few.1
  clear b8 b9 hW9 cP S7 A7 st9 hp hfr PP s5off
  go_wp2_with (first | ((with_reducible refine Disk.wpList_store_eq rfl 40 (.tmp 11) (.tmp 50) rfl _ _ ?_ ?_ QQ.out ?_); (next => rfl); (next => rfl)))
  refine cL.mono ?_
  rintro e w10 ⟨lA, ln, lc, rfl, hNL, b10, hlf⟩
  have S10 := Lib.hid (S9.out.quiet b10)
  have A10 := Lib.hid (A9.out.below b10 A9.out.1)
  have Q10 := Lib.hid (Q9.out.below b10 Q9.out.1)
  have P10 := Lib.hid (P9.out.below b10)
  have N10 := Lib.hid hNL
  have OL := Lib.hid (show Off B.all lA from fun a e hx => by
    have h1 := hlf a e
    have h2 := LT.out _ hx
    have := LT6.out; have := LT7.out; have := LT8.out
    have := b10.size
    have h3 := Q9.out.1
    have h4 : w8.heap.size < W9.heap.size := Q9.out.1
    omega)
  have HN1 := Lib.hid (show w6.heap.size ∉ B.all from fun e => by have := LT.out _ e; have := LT6.out; omega)
  have HN2 := Lib.hid (show w8.heap.size ∉ B.all from fun e => by have := LT.out _ e; have := LT6.out; have := LT7.out; have := LT8.out; omega)
  have HT60 := Lib.hid (show 2 ≤ t5.pool.high ∧ t5.pool.high ≤ 60 from by
    have h1 := HG4.out.safe.pre.pk.low
    have h2 := HG4.out.safe.pre.pk.top
    have h3 := HG4.out.n
    omega)
  obtain ⟨H, hH⟩ : ∃ H : Nat, t5.pool.high = (H : Int) := ⟨t5.pool.high.toNat, by have := HT60.out; omega⟩
  have HH60 := Lib.hid (show 2 ≤ H ∧ H ≤ 60 from by have := HT60.out; omega)
  have HPH := Lib.hid hH
  clear b10 hNL hlf cL S9 A9 Q9 P9 QQ hH
  go_wp2_with fail
  go_loopw [13, 14] (fun h i wr => ∃ k : Nat, i = .int .i64 ((k + 2 : Nat) : Int) ∧ k + 2 ≤ H ∧ Hid (OwnG wr 9 strV w10.heap.size h ((List.range k).map (fun j : Nat => d4.get ((j : Int) + 2)))) ∧ Hid (Below w10.heap.size w10 wr)) (fun _ i _ => H - (intOf i).toNat)
  case atStart => exact ⟨0, rfl, HH60.out.1, Lib.hid (OwnG.nil _ _ _ _), Lib.hid (Below.refl _ _)⟩
  case round =>
    obtain ⟨k, rfl, hk, OW, BW⟩ := hrel
    have hwr : IntKind.i64.wrap (((k + 2 : Nat) : Int) + 1) = ((k + 2 + 1 : Nat) : Int) := by rw [IntWalk.i64_in _ (by have := HH60.out; omega)]; omega
    have q0 : wr.cell? ⟨w8.heap.size, 0, none⟩ = some (.int .i64 (H : Int)) := by rw [← HPH.out]; exact (Q10.out.below BW.out Q10.out.1).2.2 0 _ rfl
    by_cases hlt : k + 2 < H
    · have rd := on_read HG4.out.calm.1 (x := ((k + 2 : Nat) : Int)) (by omega) (by have := HG4.out.n; have := HH60.out; omega)
      obtain ⟨aR, stR⟩ := (S10.out.quiet BW.out).has
      have cR := Disk.read_dev wr B.sb B.bl B.bc d4 ((k + 2 : Nat) : Int) stR.dev
      rw [rd.1, rd.2, show ptr B.sb = ptr db from by rw [G1.out]] at cR
      clear stR rd
      obtain ⟨kk, hkk⟩ : ∃ kk : Int, ((k + 2 : Nat) : Int) = kk := ⟨_, rfl⟩
      have hkH : kk < (H : Int) := by omega
      have HKK := Lib.hid hkk
      rw [hkk] at cR hwr
      rw [hkk]
      clear hkk
      go_wp2_with fail
      refine cR.mono ?_
      rintro e v1 ⟨rA, rfl, hrow, -, -, bR⟩
      have OW1 := Lib.hid (OW.out.kept bR)
      have BW1 := Lib.hid (BW.out.trans (bR.mono BW.out.size))
      have v2 := Page.conv_run (d4.get kk).length rfl hrow
      have HSN := Lib.hid (show d4.get kk = d4.get ((k : Int) + 2) from congrArg d4.get (by have := HKK.out; omega))
      obtain ⟨X, hX⟩ : ∃ X, Page.strB (d4.get kk) = X := ⟨_, rfl⟩
      rw [hX] at v2
      obtain ⟨v', W', hrun, own', gr', hge', -⟩ := Page.append_one Page.strs_elem v1 w10.heap.size u13 _ OW1.out (d4.get kk) (.string X) (by rw [← hX]) (by simp; have := HH60.out; omega) BW1.out.size
      have R := Lib.hid hrun
      have OWN := Lib.hid (show OwnG W' 9 strV w10.heap.size v' ((List.range (k + 1)).map (fun j : Nat => d4.get ((j : Int) + 2))) from by rw [HSN.out] at own'; rw [← held_snoc]; exact own')
      have BWN := Lib.hid (show Below w10.heap.size w10 W' from BW1.out.grown gr' BW1.out.size hge')
      clear hrun own' gr' hge' hX cR q0 bR OW OW1 BW BW1
      go_wp2_with (at_builtin; ((with_reducible refine wpList_append_eq rfl (.tmp 67) (.tmp 70) _ rfl ?_ ?_ R.out ?_); (next => rfl); (next => rfl)))
      go_roundw
      case rel => exact ⟨k + 1, congrArg (Value.int .i64) (by omega), by omega, OWN, BWN⟩
      case measure => have := HKK.out; simp [intOf]; omega
    have HK2 := Lib.hid (show H = k + 2 from by omega)
    obtain ⟨hA, hc, hvv, hrowH, hgeH⟩ := Page.OwnG.own_row OW.out
    rw [List.length_map, List.length_range] at hvv
    subst hvv
    clear hwr
    obtain ⟨kq, hkq⟩ : ∃ kq : Int, ((k + 2 : Nat) : Int) = kq := ⟨_, rfl⟩
    have hlq : ¬ kq < (H : Int) := by omega
    rw [hkq]
    clear hkq hlt hk
    obtain ⟨W11, rfl⟩ : ∃ W11, W11 = wr := ⟨wr, rfl⟩
    have S11 := Lib.hid (S10.out.quiet BW.out)
    have HGS := Lib.hid HG4.out.safe
    have HGN := Lib.hid HG4.out.n
    have OWL := Lib.hid HG4.out.few.1
    have NT := Lib.hid (show Noted W11 B w6.heap.size w8.heap.size t5.sup y5 t5.pool cc lA ln lc t5.own hA ((List.range k).map (fun j : Nat => d4.get ((j : Int) + 2))) from
      { pbox := A10.out.below BW.out A10.out.1, qbox := Q10.out.below BW.out Q10.out.1, pool := P10.out.below BW.out, lists := N10.out.below BW.out, held := hrowH, n1 := HN1.out, n2 := HN2.out, off := OC.out, offl := OL.out, offh := fun a e hx => by
          have h1 := hgeH a e
          have h2 := LT.out _ hx
          have := LT6.out; have := LT7.out; have := LT8.out
          have h3 := Q10.out.1
          omega })
    have ST := Lib.hid (show Then W B d4 t5 W11 from ⟨d4, t5, S11.out, HG4.out, HG4.out.safe.pre.refl⟩)
    clear hrowH hgeH OW BW S10 A10 Q10 P10 N10 OC OL HN1 HN2 LT LT6 LT7 LT8 S11 HT60
    go_wp2_with fail
    go_loopw [17] (fun i w' => ∃ k2 : Nat, i = .int .i64 (k2 : Int) ∧ k2 ≤ 40 ∧ k2 ≤ n2 ∧ Hid (Then W B d4 t5 w') ∧ Hid (Mod B.all W11 w')) (fun i _ => n2 - (intOf i).toNat)
    case atStart => exact ⟨0, rfl, by omega, by omega, ST, Lib.hid (Mod.refl _ _)⟩
    case round =>
      obtain ⟨k2, rfl, hk2, hkn2, T2, M2⟩ := hrel
      clear ST
      by_cases hlt2 : k2 < n2 ∧ k2 < 40
      · obtain ⟨hltn, hlt40⟩ := hlt2
        have hwr2 : IntKind.i64.wrap ((k2 : Int) + 1) = (k2 : Int) + 1 := IntWalk.i64_in _ (by omega)
        have hkl : k2 < m.length := by have := HML.out; omega
        obtain ⟨b, off, rfl, hbl, hcc⟩ := HMS.out.row (by intro e; rw [e] at hkl; simp at hkl)
        have HX := Lib.hid (HMS.out.all _ (List.getElem_mem hkl))
        have hcx := hcc k2 hkl
        generalize m[k2] = x at HX hcx
        obtain ⟨oo, hoo⟩ : ∃ oo, off + k2 * 21 = oo := ⟨_, rfl⟩
        rw [hoo] at hcx
        have hbW : Below W.heap.size W wr := by obtain ⟨d, t, s, _⟩ := T2.out; exact s.below
        have RG := Lib.hid (fun V (hV : Below W.heap.size W V) => range_below hcx hbl hV)
        have KX := Lib.hid (fun V (hV : Below W.heap.size W V) => show V.cell? ⟨b, oo, none⟩ = some (.int .i64 x.kind) ∧ V.cell? ⟨b, oo + 1, none⟩ = some (.int .i64 x.n) from ⟨RG.out V hV 0 _ rfl, RG.out V hV 1 _ rfl⟩)
        have KP := Lib.hid (fun V (hV : Below W.heap.size W V) => show V.cell? ⟨b, oo + 1, none⟩ = some (.int .i64 x.n) ∧ V.cell? ⟨b, oo + 4, none⟩ = some (.int .i64 x.p.kind) ∧ V.cell? ⟨b, oo + 4 + 1, none⟩ = some (.slice x.y.A1 x.p.pairs.length x.y.c1) ∧ V.cell? ⟨b, oo + 4 + 2, none⟩ = some (.slice x.y.A2 x.p.keys.length x.y.c2) ∧ V.cell? ⟨b, oo + 4 + 3, none⟩ = some (.slice x.y.A3 x.p.kids.length x.y.c3) ∧ V.cell? ⟨b, oo + 4 + 4, none⟩ = some (.slice x.y.A4 x.p.pages.length x.y.c4) ∧ V.cell? ⟨b, oo + 4 + 5, none⟩ = some (.int .i64 x.p.next) ∧ V.cell? ⟨b, oo + 4 + 6, none⟩ = some (.int .u64 (x.p.epoch : Int)) ∧ V.cell? ⟨b, oo + 4 + 7, none⟩ = some (.int .i64 x.p.root) ∧ V.cell? ⟨b, oo + 4 + 8, none⟩ = some (.int .i64 x.p.depth) ∧ V.cell? ⟨b, oo + 4 + 9, none⟩ = some (.int .i64 x.p.count) ∧ V.cell? ⟨b, oo + 4 + 10, none⟩ = some (.int .i64 x.p.high) from ⟨RG.out V hV 1 _ rfl, RG.out V hV 4 _ rfl, RG.out V hV 5 _ rfl, RG.out V hV 6 _ rfl, RG.out V hV 7 _ rfl, RG.out V hV 8 _ rfl, RG.out V hV 9 _ rfl, RG.out V hV 10 _ rfl, RG.out V hV 11 _ rfl, RG.out V hV 12 _ rfl, RG.out V hV 13 _ rfl, RG.out V hV 14 _ rfl⟩)
        have LP := Lib.hid (load_callPage (RG.out _ hbW))
        have cF := Page.few_any x.p x.y wr HX.out.ok (HX.out.rows.below hbW)
        have HB := Lib.hid hbW
        clear hcx hcc hbW RG
        go_wp2_with (first | ((with_reducible refine Disk.wpList_load_eq rfl 37 (.tmp 85) rfl _ ?_ LP.out ?_); (next => rfl)))
        refine cF.mono ?_
        rintro e w2 ⟨⟨r, rfl⟩, b2⟩
        have T3 := Lib.hid (T2.out.quiet b2)
        have M3 := Lib.hid (M2.out.trans (mod_below b2))
        have HB2 := Lib.hid (HB.out.trans (b2.mono HB.out.size))
        clear b2 cF LP HB T2 M2
        rcases r with _ | _
        · obtain ⟨c0, c1⟩ := KX.out w2 HB2.out
          go_wp2_with fail
          go_roundw
          case rel => exact ⟨k2 + 1, by go_num, by omega, by omega, T3, M3⟩
          case measure => simp [intOf]; omega
        obtain ⟨kd, hkd⟩ : ∃ kd, x.kind = kd := ⟨_, rfl⟩
        rw [hkd] at KX
        clear hkd
        obtain ⟨c0, c1⟩ := KX.out w2 HB2.out
        by_cases k1 : kd = 1
        · subst k1
          have HB3 := Lib.hid (HB2.out.trans ((Below.refl w2.heap.size w2).drew.mono HB2.out.size))
          have K0 := Lib.hid (KP.out _ HB3.out)
          have cY := then_lay HGS.out (T3.out.quiet (Below.refl w2.heap.size w2).drew) HX.out
          have M4 := Lib.hid (M3.out.trans (mod_below (Below.refl w2.heap.size w2).drew))
          clear T3 M3 HB3 hk2 hkn2
          go_wp2_with fail
          clear c0 c1
          go_region_held3 (fun w' => w'.cell? ⟨b, oo + 1, none⟩ = some (.int .i64 x.n) ∧ w'.cell? ⟨b, oo + 4, none⟩ = some (.int .i64 x.p.kind) ∧ w'.cell? ⟨b, oo + 4 + 1, none⟩ = some (.slice x.y.A1 x.p.pairs.length x.y.c1) ∧ w'.cell? ⟨b, oo + 4 + 2, none⟩ = some (.slice x.y.A2 x.p.keys.length x.y.c2) ∧ w'.cell? ⟨b, oo + 4 + 3, none⟩ = some (.slice x.y.A3 x.p.kids.length x.y.c3) ∧ w'.cell? ⟨b, oo + 4 + 4, none⟩ = some (.slice x.y.A4 x.p.pages.length x.y.c4) ∧ w'.cell? ⟨b, oo + 4 + 5, none⟩ = some (.int .i64 x.p.next) ∧ w'.cell? ⟨b, oo + 4 + 6, none⟩ = some (.int .u64 (x.p.epoch : Int)) ∧ w'.cell? ⟨b, oo + 4 + 7, none⟩ = some (.int .i64 x.p.root) ∧ w'.cell? ⟨b, oo + 4 + 8, none⟩ = some (.int .i64 x.p.depth) ∧ w'.cell? ⟨b, oo + 4 + 9, none⟩ = some (.int .i64 x.p.count) ∧ w'.cell? ⟨b, oo + 4 + 10, none⟩ = some (.int .i64 x.p.high))
            (with_reducible (first | exact K0.out | exact K1.out))
            ((go_at_call 19; (with_reducible refine cY.mono ?_); rintro e w4 ⟨⟨y1, y2, rfl⟩, t4', m4⟩
              have HB4 := Lib.hid (show Below W.heap.size W w4 from by obtain ⟨d, t, s, _⟩ := t4'; exact s.below)
              have K1 := Lib.hid (KP.out _ HB4.out)
              have T5 := Lib.hid t4'
              have M5 := Lib.hid (M4.out.trans m4)
              clear t4' m4))
          clear K0 K1 M4 KP
          obtain ⟨c0, c1⟩ := KX.out _ HB4.out
          clear KX HB4 HB2
          go_wp2_with fail
          go_roundw
          case rel => exact ⟨k2 + 1, by go_num, by omega, by omega, T5, M5⟩
          case measure => simp [intOf]; omega
        by_cases k2' : kd = 2
        · subst k2'
          have cY := then_drop T3.out x.n HX.out.n
          clear KP KX T3
          go_wp2_with fail
          refine cY.mono ?_
          rintro e w4 ⟨⟨y1, rfl⟩, t4', m4⟩
          have T5 := Lib.hid t4'
          have M5 := Lib.hid (M3.out.trans m4)
          clear t4' m4 M3 cY c0 c1
          go_wp2_with fail
          go_roundw
          case rel => exact ⟨k2 + 1, by go_num, by omega, by omega, T5, M5⟩
          case measure => simp [intOf]; omega
        have e1 : (kd == 1) = false := beq_eq_false_iff_ne.2 k1
        have e2 : (kd == 2) = false := beq_eq_false_iff_ne.2 k2'
        clear k1 k2' KP KX HB2
        go_wp2_with fail
        go_roundw
        case rel => exact ⟨k2 + 1, by go_num, by omega, by omega, T3, M3⟩
        case measure => simp [intOf]; omega
      obtain ⟨d6, t6, s6, g6, st6⟩ := T2.out
      have S6 := Lib.hid s6
      have G6 := Lib.hid g6
      have P6 := Lib.hid st6
      have N6 := Lib.hid (NT.out.mod M2.out)
      clear s6 g6 st6 T2 M2 NT HMS HML
      obtain ⟨W12, rfl⟩ : ∃ W12, W12 = wr := ⟨wr, rfl⟩
      rcases (show ¬ (k2 : Int) < (n2 : Int) ∨ ((k2 : Int) < (n2 : Int) ∧ ¬ (k2 : Int) < 40) from by omega) with hx1 | ⟨hx1, hx2⟩
      all_goals
        clear hlt2
        go_wp2_with fail
        clear hx1
        (try clear hx2)
        go_loopw [19] (fun i w' => ∃ k3 : Nat, i = .int .i64 ((k3 + 2 : Nat) : Int) ∧ k3 + 2 ≤ H ∧ Hid (Below W12.heap.size W12 w')) (fun i _ => H - (intOf i).toNat)
        case atStart => exact ⟨0, rfl, HH60.out.1, Lib.hid (Below.refl _ _)⟩
        case round =>
          obtain ⟨k3, rfl, hk3, BW⟩ := hrel
          have hwr : IntKind.i64.wrap (((k3 + 2 : Nat) : Int) + 1) = ((k3 + 2 + 1 : Nat) : Int) := by rw [IntWalk.i64_in _ (by have := HH60.out; omega)]; omega
          have q0 : wr.cell? ⟨w8.heap.size, 0, none⟩ = some (.int .i64 (H : Int)) := by rw [← HPH.out]; exact (N6.out.qbox.below BW.out N6.out.qbox.1).2.2 0 _ rfl
          by_cases hlt3 : k3 + 2 < H
          · have rd := on_read G6.out.calm.1 (x := ((k3 + 2 : Nat) : Int)) (by omega) (by have := G6.out.n; have := HH60.out; omega)
            obtain ⟨aR, stR⟩ := (S6.out.quiet BW.out).has
            have cR := Disk.read_dev wr B.sb B.bl B.bc d6 ((k3 + 2 : Nat) : Int) stR.dev
            rw [rd.1, rd.2, show ptr B.sb = ptr db from by rw [G1.out]] at cR
            clear stR rd
            obtain ⟨kk, hkk⟩ : ∃ kk : Int, ((k3 + 2 : Nat) : Int) = kk := ⟨_, rfl⟩
            have hkH : kk < (H : Int) := by omega
            have HKK := Lib.hid hkk
            have hwk : IntKind.i64.wrap (kk - 2) = (k3 : Int) := by rw [IntWalk.i64_in _ (by have := HH60.out; omega)]; omega
            rw [hkk] at cR hwr
            rw [hkk]
            clear hkk
            go_wp2_with fail
            refine cR.mono ?_
            rintro e v1 ⟨rA, rfl, hrow, -, -, bR⟩
            have BW1 := Lib.hid (BW.out.trans (bR.mono BW.out.size))
            have N1 := Lib.hid (N6.out.mod (mod_below BW1.out))
            have LQ := Lib.hid (load_pool (o := 0) N1.out.qbox t5.pool cc rfl)
            have cK := Pool.rKnown_any t5.pool cc kk v1 N1.out.pool
            have HR := Lib.hid hrow
            clear hrow bR cR q0 BW
            go_wp2_with (first | ((with_reducible refine Disk.wpList_load_eq rfl 40 (.tmp 11) rfl _ ?_ LQ.out ?_); (next => rfl)))
            refine cK.mono ?_
            rintro e v2 ⟨r, rfl, hr, b2⟩
            have BW2 := Lib.hid (BW1.out.trans (b2.mono BW1.out.size))
            have HKN := Lib.hid hr
            have HR2 := Lib.hid (RowG.below HR.out b2)
            clear hr b2 cK LQ N1 BW1 HR
            rcases r with _ | _
            · have hlv : Live t5.base kk := ⟨by have := HKK.out; omega, by rw [← HT5.out, HPH.out]; exact hkH, fun hm => by cases HKN.out.2 (.inl (by rw [HT5.out]; exact hm))⟩
              have hsame : d6.get kk = d4.get kk := then_same HGS.out G6.out.safe P6.out hlv
              have vR := Page.conv_run (d6.get kk).length rfl HR2.out
              obtain ⟨X, hX⟩ : ∃ X, Page.strB (d6.get kk) = X := ⟨_, rfl⟩
              rw [hX] at vR
              have hkn : k3 < k := by have := HK2.out; omega
              obtain ⟨hb, ho, rfl, hbl, hcl⟩ := (held_mod N6.out.held N6.out.offh (mod_below BW2.out)) (by intro e; have := congrArg List.length e; simp at this; omega)
              have q1 : v2.cell? ⟨hb, ho + k3, none⟩ = some (.string X) := by
                have := hcl k3 (by simpa using hkn)
                rw [this, List.getElem_map, List.getElem_range, show (k3 : Int) + 2 = kk by have := HKK.out; omega, ← hsame, ← hX]
              have hki : (k3 : Int) < (k : Int) := by omega
              have vR2 := Page.conv_run (d6.get kk).length rfl (RowG.below HR2.out (Below.refl v2.heap.size v2).drew)
              rw [hX] at vR2
              have K0 := Lib.hid (And.intro (show v2.drew.cell? ⟨hb, ho + k3, none⟩ = some (.string X) from q1) vR2)
              clear hcl hX hsame hlv HR2 HKN q1 vR vR2
              go_wp2_with fail
              go_region_held3 (fun w' => w'.cell? ⟨hb, ho + k3, none⟩ = some (.string X) ∧ (convert 43 9 (.slice rA (d6.get kk).length (d6.get kk).length)).run Tryz.prog w' = .ok (.string X) w')
                (with_reducible exact K0.out)
                (fail)
              go_wp2_with fail
              go_roundw
              case rel => exact ⟨k3 + 1, congrArg (Value.int .i64) (by omega), by omega, Lib.hid (BW2.out.trans ((Below.refl v2.heap.size v2).drew.mono BW2.out.size))⟩
              case measure => have := HKK.out; simp [intOf]; omega
            · clear HR2 HKN
              go_wp2_with fail
              go_quiet (fail)
              go_wp2_with fail
              go_roundw
              case rel => exact ⟨k3 + 1, congrArg (Value.int .i64) (by omega), by omega, Lib.hid (BW2.out.trans ((Pool.Drew.drewN (Pool.Drew.refl _) _).below _))⟩
              case measure => have := HKK.out; simp [intOf]; omega
          clear hwr
          obtain ⟨kz, hkz⟩ : ∃ kz : Int, ((k3 + 2 : Nat) : Int) = kz := ⟨_, rfl⟩
          have hlz : ¬ kz < (H : Int) := by omega
          rw [hkz]
          clear hkz hlt3 hk3
          have S13 := Lib.hid (S6.out.quiet BW.out)
          have N13 := Lib.hid (N6.out.mod (mod_below BW.out))
          have cRs := S13.out.restart none 0 0 (-1) 0 [] rfl (by omega) (fun h => absurd rfl h) (fun x h => by cases h) ⟨by omega, by omega⟩
          rw [show ptr B.sb = ptr db from by rw [G1.out]] at cRs
          go_wp2_with fail
          refine cRs.mono ?_
          rintro e w14 ⟨rfl, s14, m14⟩
          have N14 := Lib.hid (N13.out.mod m14)
          have HO : Holds (d6.restart [] (-1) 0).n (d6.restart [] (-1) 0).get t5.sup t5.own t5.base := (P6.out.restart HGS.out [] (-1) 0).congr (fun x _ => restart_get d6 [] (-1) 0 x)
          obtain ⟨a14, st14⟩ := s14.has
          have cO := open_any st14.dev HO (restart_off d6 [] (-1) 0)
          rw [show ptr B.sb = ptr db from by rw [G1.out]] at cO
          have FIN14 := Lib.hid s14.below
          have HFW := Lib.hid HGS.out.holds.nodup
          clear s14 m14 cRs st14 N13 S13 S6 N6 BW q0 HO
          go_wp2_with fail
          refine cO.mono ?_
          rintro e w15 ⟨B2, a15, rfl, -, -, -, -, -, st15, b15⟩
          have N15 := Lib.hid (N14.out.mod (mod_below b15))
          have FIN15 := Lib.hid (FIN14.out.trans (b15.mono FIN14.out.size))
          have ST15 := Lib.hid st15
          have KC := Lib.hid (Page.pg_keep w15 t5.sup y5 N15.out.pbox)
          have CSU := Lib.hid (fun V (hV : Below w15.heap.size w15 V) => show Calls Tryz.prog 14 #[ptr B2.ss] V (fun e w' => e = .returned (pgV t5.sup a15.s) ∧ Below V.heap.size V w') from super_any (t := openT t5.sup t5.own t5.base) (ST15.out.below hV))
          have CSA := Lib.hid (fun V => Page.same_any t5.sup t5.sup a15.s y5 V ST15.out.ok (ST15.out.bare.rows V a15.s) (RS.out.1.rows V y5))
          have HBD := Lib.hid (Below.refl w15.heap.size w15).drew
          have K0 := Lib.hid (KC.out _ HBD.out)
          clear st15 b15 cO N14 FIN14
          go_wp2_with fail
          go_region_held3 (fun w' => w'.cell? ⟨w6.heap.size, 0, none⟩ = some (.int .i64 t5.sup.kind) ∧ w'.cell? ⟨w6.heap.size, 1, none⟩ = some (.slice y5.A1 t5.sup.pairs.length y5.c1) ∧ w'.cell? ⟨w6.heap.size, 2, none⟩ = some (.slice y5.A2 t5.sup.keys.length y5.c2) ∧ w'.cell? ⟨w6.heap.size, 3, none⟩ = some (.slice y5.A3 t5.sup.kids.length y5.c3) ∧ w'.cell? ⟨w6.heap.size, 4, none⟩ = some (.slice y5.A4 t5.sup.pages.length y5.c4) ∧ w'.cell? ⟨w6.heap.size, 5, none⟩ = some (.int .i64 t5.sup.next) ∧ w'.cell? ⟨w6.heap.size, 6, none⟩ = some (.int .u64 (t5.sup.epoch : Int)) ∧ w'.cell? ⟨w6.heap.size, 7, none⟩ = some (.int .i64 t5.sup.root) ∧ w'.cell? ⟨w6.heap.size, 8, none⟩ = some (.int .i64 t5.sup.depth) ∧ w'.cell? ⟨w6.heap.size, 9, none⟩ = some (.int .i64 t5.sup.count) ∧ w'.cell? ⟨w6.heap.size, 10, none⟩ = some (.int .i64 t5.sup.high))
            (with_reducible (first | exact K0.out | exact K1.out | exact K2.out))
            (first
              | (go_at_call 14; (with_reducible refine (CSU.out _ HBD.out).mono ?_); rintro e v7 ⟨rfl, hb⟩
                 have RB1 := Lib.hid (HBD.out.trans (hb.mono HBD.out.size)); have K1 := Lib.hid (KC.out _ RB1.out); clear hb)
              | (go_at_call 24; (with_reducible refine (CSA.out _).mono ?_); rintro e v8 ⟨r, rfl, hr, hb⟩
                 have RB2 := Lib.hid (RB1.out.trans (hb.mono RB1.out.size)); have K2 := Lib.hid (KC.out _ RB2.out); have HR := Lib.hid hr; clear hr hb))
          obtain rfl : r = true := HR.out.2 trivial
          clear K0 K1 K2 RB1 CSU CSA KC HR HBD
          have N16 := Lib.hid (N15.out.mod (mod_below RB2.out))
          have FIN16 := Lib.hid (FIN15.out.trans (RB2.out.mono FIN15.out.size))
          have ST16 := Lib.hid (ST15.out.below RB2.out)
          clear N15 FIN15 ST15 RB2
          have KQ := Lib.hid (fun V (hV : Below v8.heap.size v8 V) => show V.cell? ⟨w8.heap.size, 0, none⟩ = some (.int .i64 t5.pool.high) ∧ V.cell? ⟨w8.heap.size, 1, none⟩ = some (.slice cc.A1 t5.pool.free.length cc.c1) ∧ V.cell? ⟨w8.heap.size, 2, none⟩ = some (.slice cc.A2 t5.pool.limbo.length cc.c2) from by
            have h := N16.out.qbox.below hV N16.out.qbox.1
            exact ⟨h.2.2 0 _ rfl, h.2.2 1 _ rfl, h.2.2 2 _ rfl⟩)
          have CPO := Lib.hid (fun V (hV : Below v8.heap.size v8 V) => show Calls Tryz.prog 15 #[ptr B2.ss] V (fun e w' => ∃ c, e = .returned (poV t5.base c) ∧ PoAt w' t5.base c ∧ Below V.heap.size V w' ∧ Fresh V.heap.size c) from pool_any (t := openT t5.sup t5.own t5.base) (ST16.out.below hV))
          have HBE := Lib.hid (Below.refl v8.heap.size v8).drew
          have Q0 := Lib.hid (KQ.out _ HBE.out)
          go_wp2_with fail
          go_region_held3 (fun w' => w'.cell? ⟨w8.heap.size, 0, none⟩ = some (.int .i64 t5.pool.high) ∧ w'.cell? ⟨w8.heap.size, 1, none⟩ = some (.slice cc.A1 t5.pool.free.length cc.c1) ∧ w'.cell? ⟨w8.heap.size, 2, none⟩ = some (.slice cc.A2 t5.pool.limbo.length cc.c2))
            (with_reducible (first | exact Q0.out | exact Q1.out | exact Q2.out))
            (first
              | (go_at_call 15; (with_reducible refine (CPO.out _ HBE.out).mono ?_); rintro e v9 ⟨c9, rfl, hp9, hb, -⟩
                 have RB1 := Lib.hid (HBE.out.trans (hb.mono HBE.out.size)); have Q1 := Lib.hid (KQ.out _ RB1.out)
                 have cSP := Pool.rSame_any t5.base t5.pool c9 cc v9 hp9 (N16.out.pool.below RB1.out); clear hb hp9)
              | (go_at_call 25; (with_reducible refine cSP.mono ?_); rintro e v10 ⟨r, rfl, hr, hb⟩
                 have RB2 := Lib.hid (RB1.out.trans (hb.mono RB1.out.size)); have Q2 := Lib.hid (KQ.out _ RB2.out); have HR := Lib.hid hr; clear hr hb cSP))
          obtain rfl : r = true := HR.out.2 HT5.out.symm
          clear Q0 Q1 Q2 RB1 KQ CPO HR HBE
          have cLs : Calls Tryz.prog 16 #[ptr B2.ss] v10 (NumsN t5.own v10) := lists_told (t := openT t5.sup t5.own t5.base) (ST16.out.below RB2.out) OWL.out
          have N17 := Lib.hid (N16.out.mod (mod_below RB2.out))
          have FIN17 := Lib.hid (FIN16.out.trans (RB2.out.mono FIN16.out.size))
          clear N16 FIN16 ST16 RB2
          go_wp2_with fail
          refine cLs.mono ?_
          rintro e v11 ⟨A3, n3, c3, rfl, hN3, b11, -⟩
          have cIn := Pool.rInts_any A3 lA n3 c3 ln lc t5.own t5.own v11 hN3 (nat_mod N17.out.lists (mod_below b11) N17.out.offl)
          have FIN18 := Lib.hid (FIN17.out.trans (b11.mono FIN17.out.size))
          clear cLs hN3 b11 N17 FIN17
          go_wp2_with fail
          refine cIn.mono ?_
          rintro e v12 ⟨r, rfl, hr, b12⟩
          obtain rfl : r = true := hr.2 trivial
          have FIN19 := Lib.hid (FIN18.out.trans (b12.mono FIN18.out.size))
          clear cIn hr b12 FIN18
          go_wp2_with fail
          go_ret
          exact ⟨rfl, FIN19.out⟩
end Go.Proofs.YthnodkhcenmnfaaGreat.Store
