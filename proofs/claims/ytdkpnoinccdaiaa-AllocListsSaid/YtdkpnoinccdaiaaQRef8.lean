/-
  Contracts of the document's own Of, Lists.
-/
import Derived.Test.YtdkpnoinccdaiaaQRef7
namespace Go.Proofs.Ytdkpnoinccdaiaa.Pool
open Go.RowKit Gen

/-- Between two rounds of Of. -/
structure OfSt (w : World) (h : Int) (T : List Int) (v : Value) (wr : World) : Prop where
  zero : At wr w.heap.size #[.int .i64 0, .slice none 0 0, .slice none 0 0]
  box : At wr (w.heap.size + 1) #[.int .i64 h, v, .slice none 0 0]
  own : OwnI wr (w.heap.size + 2) v T
  below : Below w.heap.size w wr
  size : w.heap.size + 2 ≤ wr.heap.size
theorem OfSt.drew {w wr : World} {h : Int} {T : List Int} {v : Value} (s : OfSt w h T v wr) : OfSt w h T v wr.drew :=
  ⟨s.zero.below (Below.refl _ _).drew s.zero.1, s.box.below (Below.refl _ _).drew s.box.1, OwnG.kept s.own (Below.refl _ _).drew, s.below.drew, s.size⟩
theorem OfSt.more {w wr : World} {h : Int} {T : List Int} {v : Value} (s : OfSt w h T v wr) {A : Option Addr} {n c : Nat} {l : List Int} (hN : NAt wr A n c l) (hn : T.length + n ≤ 1000000) :
    ∃ X m d W', AppI wr W' v (.slice A n c) (.slice X m d) ∧ W'.cell? ⟨w.heap.size + 1, 1, none⟩ = some v ∧ W'.frozen? ⟨w.heap.size + 1, 1, none⟩ = false ∧ Below (w.heap.size + 2) wr W' ∧ OfSt w h (T ++ l) (.slice X m d) (W'.setCell ⟨w.heap.size + 1, 1, none⟩ (.slice X m d)) := by
  obtain ⟨X, m, d, W', r, o, g, b, -⟩ := app_own s.own s.size hN hn
  have h1 := s.box.below b (by omega)
  have h0 := s.zero.below b (by omega)
  refine ⟨X, m, d, W', r, h1.2.2 1 _ rfl, h1.2.1 1, b, ⟨h0.set_other (by omega), h1.set 1 _ (by simp), own_kept o (grown_set W' (w.heap.size + 1) 1 _) (by
    right
    intro e2
    have := (World.ownsRow.lt o _ e2).1
    omega), ((s.below.trans (b.mono (by omega)))).setCell (p := ⟨w.heap.size + 1, 1, none⟩) (Nat.le_succ _) _, by have := b.size; have := s.size; simp; omega⟩⟩
set_option maxRecDepth 100000 in
set_option maxHeartbeats 8000000 in
theorem rOf_any (high : Int) (A : Option Addr) (n c : Nat) (xs : List Part) (w : World) (hl : xs.length = n) (hn : n ≤ 100000) (hR : RowG w encS A xs) (hP : PartsIn w xs) (hb : (allOf xs).length ≤ 100000) :
    Calls Try.prog 24 #[.int .i64 high, .slice A n c] w (PoolE (ofP high (allOf xs)) w) := by
  have HR := Lib.hid hR
  have HP := Lib.hid hP
  have HL := Lib.hid hl
  have HT := Lib.hid (allOf_take_le xs)
  have HB := Lib.hid hb
  have az := po_box w { high := 0 } {}
  have b1 := below_box w (.cells #[.int .i64 0, .slice none 0 0, .slice none 0 0] 25)
  have e0 : poC { high := 0 } {} = #[.int .i64 0, .slice none 0 0, .slice none 0 0] := rfl
  rw [e0] at az
  obtain ⟨W0, hW0⟩ : ∃ W0, w.alloc (.cells #[.int .i64 0, .slice none 0 0, .slice none 0 0] 25) = W0 := ⟨_, rfl⟩
  have hsz : W0.heap.size = w.heap.size + 1 := by rw [← hW0]; simp
  rw [hW0] at az b1
  obtain ⟨Wz, W1, z1, r0, r1, r2, fz, s1, at1, bl1, lt1⟩ := put_box W0 (.int .i64 high) (.slice none 0 0) (.slice none 0 0)
  have ST := Lib.hid (show OfSt w high [] (.slice none 0 0) W1 from ⟨az.below bl1 (by omega), by rw [← hsz]; exact at1, OwnG.nil _ _ _ _, b1.trans (bl1.mono b1.size), by omega⟩)
  clear at1 bl1 az b1 hR hP hl hb e0 lt1
  rw [hsz] at r0 r1 r2 fz s1
  go_enter Try.func24, Try.ntmps24
  go_wp2_with fail
  clear hW0 hsz z1 r0 r1 r2 fz s1
  go_loopw [7] (fun i wr => ∃ (k : Nat) (v : Value), i = .int .i64 (k : Int) ∧ k ≤ n ∧ OfSt w high (allOf (xs.take k)) v wr) (fun i _ => n - (intOf i).toNat)
  case atStart => exact ⟨0, _, rfl, Nat.zero_le _, ST.out⟩
  case round =>
    obtain ⟨k, v, rfl, hk, hst⟩ := hrel
    by_cases hlt : k < n
    · have hkl : k < xs.length := by rw [HL.out]; exact hlt
      obtain ⟨b, off, rfl, hlb, hc⟩ := HR.out (by intro e; rw [e] at hkl; simp at hkl)
      have hck := hc k hkl
      rw [← hst.below.cell (p := ⟨b, off + k, none⟩) hlb] at hck
      have hin := (HP.out _ (List.getElem_mem hkl)).below hst.below
      have hle := HT.out (k + 1)
      rw [allOf_snoc hkl, List.length_append] at hle
      have HA := Lib.hid (allOf_snoc hkl)
      have hck2 : wr.cell? ⟨b, off + k, none⟩ = some (.slice xs[k].1 xs[k].2.2.length xs[k].2.1) := hck
      clear hck
      generalize xs[k] = x at *
      obtain ⟨x1, x2, x3⟩ := x
      dsimp only at hck2 hin hle HA
      have hdr := hst.drew
      obtain ⟨X, m, d, W', hrun, hcell, hfz, hbw, hst2⟩ := hdr.more (hin.below (Below.refl _ _).drew) (by have := HB.out; omega)
      rw [← HA.out] at hst2
      have HNX := Lib.hid hst2
      have Q := Lib.hid hrun
      have HFZ := Lib.hid hfz
      have hlt2 : b < w.heap.size := hlb
      obtain ⟨n3, hn3⟩ : ∃ n3, x3.length = n3 := ⟨_, rfl⟩
      rw [hn3] at hck2 Q
      have S0 : (fun w' : World => w'.cell? ⟨w.heap.size + 1, 1, none⟩ = some v ∧ w'.cell? ⟨b, off + k, none⟩ = some (.slice x1 n3 x2)) wr.drew := ⟨hst.box.2.2 1 _ rfl, hck2⟩
      have S4 := Lib.hid (show (fun w' : World => w'.cell? ⟨w.heap.size + 1, 1, none⟩ = some v ∧ w'.cell? ⟨b, off + k, none⟩ = some (.slice x1 n3 x2)) W' from ⟨hcell, (hbw.cell (p := ⟨b, off + k, none⟩) (by show b < w.heap.size + 2; omega)).trans hck2⟩)
      have y1 := hcell
      have t1 : (0 : Int) ≤ (k : Int) := by omega
      have t2 : (k : Int) < (n : Int) := by omega
      clear hst2 hrun hfz hbw hcell hdr hst hin hle HA hc hlb hkl hn3 hck2 hlt2
      go_wp2_with fail
      refine region_last (S := fun w' => w'.cell? ⟨w.heap.size + 1, 1, none⟩ = some v ∧ w'.cell? ⟨b, off + k, none⟩ = some (.slice x1 n3 x2)) 8 (by kernel_rfl) rfl rfl rfl rfl (by kernel_rfl) (by kernel_rfl) ?_
      intro w3 hw3
      subst hw3
      have hSR := S0
      simp only [List.set_cons_zero, List.set_cons_succ]
      refine wpAnyH_take (i := 0) (v := ?_) rfl (by kernel_rfl) (by kernel_rfl) (by kernel_rfl) (fun _ _ _ h => h) (Or.inl ⟨by rfl, ?_⟩) hSR ?_
      rotate_left
      · (intro w' hSw; (try dsimp only at hSw); go_simp; (try with_reducible rfl))
      simp only [Act.put]
      refine wpAnyH_take (i := 1) (v := ?_) rfl (by kernel_rfl) (by kernel_rfl) (by kernel_rfl) (fun _ _ _ h => h) (Or.inl ⟨by rfl, ?_⟩) hSR ?_
      rotate_left
      · (intro w' hSw; (try dsimp only at hSw); go_simp; (try with_reducible rfl))
      simp only [Act.put]
      refine wpAnyH_take (i := 2) (v := ?_) rfl (by kernel_rfl) (by kernel_rfl) (by kernel_rfl) (fun _ _ _ h => h) (Or.inl ⟨by rfl, ?_⟩) hSR ?_
      rotate_left
      · (intro w' hSw; (try dsimp only at hSw); go_simp; (try with_reducible rfl))
      simp only [Act.put]
      refine wpAnyH_take (i := 3) (v := ?_) rfl (by kernel_rfl) (by kernel_rfl) (by kernel_rfl) (fun _ _ _ h => h) (Or.inl ⟨by rfl, ?_⟩) hSR ?_
      rotate_left
      · (intro w' hSw; (try dsimp only at hSw); go_simp; (try with_reducible rfl))
      simp only [Act.put]
      refine wpAnyH_take (i := 4) (v := ?_) rfl (by kernel_rfl) (by kernel_rfl) (by kernel_rfl) (fun _ _ _ h => h) (Or.inl ⟨by rfl, ?_⟩) hSR ?_
      rotate_left
      · (intro w' hSw; (try dsimp only at hSw); go_simp; (try with_reducible rfl))
      simp only [Act.put]
      refine wpAnyH_take (i := 5) (v := ?_) rfl (by kernel_rfl) (by kernel_rfl) (by kernel_rfl) (fun _ _ _ h => h) (Or.inl ⟨by rfl, ?_⟩) hSR ?_
      rotate_left
      · (intro w' hSw; (try dsimp only at hSw); go_simp; (try with_reducible rfl))
      simp only [Act.put]
      refine wpAnyH_ready (rs := [6]) (by kernel_rfl) (by simp) (AllReadyH.cons rfl (fun K hK => ?_) AllReadyH.nil)
      refine step_append2_eq (by rfl) (.tmp 17) (.tmp 21) _ _ (by rfl) (by rfl) (by rfl) Q.out ?_
      refine hK.out _ _ S4.out (fun hSR => ?_)
      clear hK K S0
      have hfz := HFZ.out
      simp only [Act.put]
      refine wpAnyH_take (i := 7) (v := ?_) rfl (by kernel_rfl) (by kernel_rfl) (by kernel_rfl) (fun _ _ _ h => h) (Or.inl ⟨by rfl, ?_⟩) hSR ?_
      rotate_left
      · (intro w' hSw; (try dsimp only at hSw); go_simp; (try with_reducible rfl))
      simp only [Act.put]
      refine wpAnyH_take (i := 8) (v := ?_) rfl (by kernel_rfl) (by kernel_rfl) (by kernel_rfl) (fun _ _ _ h => h) (Or.inl ⟨by rfl, ?_⟩) hSR ?_
      rotate_left
      · (intro w' hSw; (try dsimp only at hSw); go_simp; (try with_reducible rfl))
      simp only [Act.put]
      refine wpAnyH_done (by kernel_rfl) ?_ _
      show Oper.wp _ _ _ _ _ _
      unfold Oper.wp
      go_simp
      clear hSR hfz y1
      go_wp2_with fail
      go_roundw
      case rel => exact ⟨k + 1, _, by go_num, by omega, HNX.out⟩
      case measure => simp [intOf]; omega
    · have hkn : k = n := by omega
      rw [List.take_of_length_le (by rw [HL.out]; omega)] at hst
      have HLB := Lib.hid HB.out
      generalize allOf xs = L at *
      obtain ⟨A1, n1, d1, rfl, hN, hbl⟩ := own_nums hst.own
      obtain rfl := hN.len
      have HBL := Lib.hid hbl
      have A3 := Lib.hid hst.box
      have AZ3 := Lib.hid hst.zero
      have HB3 := Lib.hid hst.below
      have N3 := Lib.hid hN
      have cK : Calls Try.prog 22 #[.agg #[.int .i64 high, .slice A1 L.length d1, .slice none 0 0], .int .i64 4096] wr (Checks { high := high, free := L } 4096 wr) :=
        rCheck_any { high := high, free := L } { A1 := A1, c1 := d1 } 4096 wr ⟨hN, NAt.none _⟩
      have c0 : wr.cell? ⟨w.heap.size + 1, 0, none⟩ = some (.int .i64 high) := A3.out.2.2 0 _ rfl
      have c1 : wr.cell? ⟨w.heap.size + 1, 1, none⟩ = some (.slice A1 L.length d1) := A3.out.2.2 1 _ rfl
      have c2 : wr.cell? ⟨w.heap.size + 1, 2, none⟩ = some (.slice none 0 0) := A3.out.2.2 2 _ rfl
      clear hst hN hbl hkn
      go_wp2_with fail
      unfold Checks at cK
      by_cases hok : PoolOk { high := high, free := L } 4096
      · have HRR : Hid (ofP high L = ({ high := high, free := L }, 0)) := Lib.hid (by unfold ofP; rw [if_pos hok])
        rw [if_pos hok] at cK
        refine cK.mono ?_
        rintro e w4 ⟨rfl, hb4⟩
        have A4 := Lib.hid (A3.out.below hb4 A3.out.1)
        have N4 := Lib.hid (N3.out.below hb4)
        have AZ4 := Lib.hid (AZ3.out.below hb4 AZ3.out.1)
        have HB4 := Lib.hid (HB3.out.trans (hb4.mono HB3.out.size))
        clear c0 c1 c2 cK hok hb4
        have c0 : w4.cell? ⟨w.heap.size + 1, 0, none⟩ = some (.int .i64 high) := A4.out.2.2 0 _ rfl
        have c1 : w4.cell? ⟨w.heap.size + 1, 1, none⟩ = some (.slice A1 L.length d1) := A4.out.2.2 1 _ rfl
        have c2 : w4.cell? ⟨w.heap.size + 1, 2, none⟩ = some (.slice none 0 0) := A4.out.2.2 2 _ rfl
        have r0 : w4.cell? ⟨w.heap.size, 0, none⟩ = some (.int .i64 0) := AZ4.out.2.2 0 _ rfl
        have r1 : w4.cell? ⟨w.heap.size, 1, none⟩ = some (.slice none 0 0) := AZ4.out.2.2 1 _ rfl
        have r2 : w4.cell? ⟨w.heap.size, 2, none⟩ = some (.slice none 0 0) := AZ4.out.2.2 2 _ rfl
        have fz := AZ4.out.2.1
        have A5 := Lib.hid (set3_at AZ4.out rfl (.int .i64 high) (.slice A1 L.length d1) (.slice none 0 0))
        have B5 := Lib.hid (set3_below HB4.out (Nat.le_refl _) (.int .i64 high) (.slice A1 L.length d1) (.slice none 0 0))
        have N5 := Lib.hid (show NAt (set3 w4 w.heap.size (.int .i64 high) (.slice A1 L.length d1) (.slice none 0 0)) A1 L.length d1 L from nat_set3 N4.out (fun a e => by have := HBL.out a e; omega) _ _ _)
        go_wp2_with fail
        change bodyPost _ _ _ _ _ (set3 w4 w.heap.size (.int .i64 high) (.slice A1 L.length d1) (.slice none 0 0))
        generalize set3 w4 w.heap.size (.int .i64 high) (.slice A1 L.length d1) (.slice none 0 0) = W9 at *
        clear r0 r1 r2 fz c0 c1 c2
        have c0 := A5.out.2.2 0 _ rfl
        have c1 := A5.out.2.2 1 _ rfl
        have c2 := A5.out.2.2 2 _ rfl
        refine bodyPost_ret (v := .tuple #[poV { high := high, free := L } { A1 := A1, c1 := d1 }, numV 0]) (by simp [results, Try.results24, go_sem, *]) rfl ?_
        rw [HRR.out]
        exact ⟨{ A1 := A1, c1 := d1 }, rfl, ⟨N5.out, NAt.none _⟩, B5.out⟩
      · have HRR : Hid (ofP high L = ({ high := 0 }, 61)) := Lib.hid (by unfold ofP; rw [if_neg hok])
        rw [if_neg hok] at cK
        refine cK.mono ?_
        rintro e w4 ⟨rfl, hb4⟩
        have AZ4 := Lib.hid (AZ3.out.below hb4 AZ3.out.1)
        have HB4 := Lib.hid (HB3.out.trans (hb4.mono HB3.out.size))
        clear c0 c1 c2 cK hok hb4
        have r0 : w4.cell? ⟨w.heap.size, 0, none⟩ = some (.int .i64 0) := AZ4.out.2.2 0 _ rfl
        have r1 : w4.cell? ⟨w.heap.size, 1, none⟩ = some (.slice none 0 0) := AZ4.out.2.2 1 _ rfl
        have r2 : w4.cell? ⟨w.heap.size, 2, none⟩ = some (.slice none 0 0) := AZ4.out.2.2 2 _ rfl
        have fz := AZ4.out.2.1
        have A5 := Lib.hid (set3_at AZ4.out rfl (.int .i64 0) (.slice none 0 0) (.slice none 0 0))
        have B5 := Lib.hid (set3_below HB4.out (Nat.le_refl _) (.int .i64 0) (.slice none 0 0) (.slice none 0 0))
        go_wp2_with fail
        change bodyPost _ _ _ _ _ (set3 w4 w.heap.size (.int .i64 0) (.slice none 0 0) (.slice none 0 0))
        generalize set3 w4 w.heap.size (.int .i64 0) (.slice none 0 0) (.slice none 0 0) = W9 at *
        clear r0 r1 r2 fz
        have c0 := A5.out.2.2 0 _ rfl
        have c1 := A5.out.2.2 1 _ rfl
        have c2 := A5.out.2.2 2 _ rfl
        refine bodyPost_ret (v := .tuple #[poV { high := 0 } {}, numV 61]) (by simp [results, Try.results24, go_sem, *]) rfl ?_
        rw [HRR.out]
        exact ⟨{}, rfl, none_at _, B5.out⟩
def lenV : Value → Nat
  | .slice _ n _ => n
  | _ => 0
set_option maxRecDepth 100000 in
set_option maxHeartbeats 8000000 in
theorem rLists_any (p : Po) (a : La) (w : World) (h : PoAt w p a) (hf : p.free.length ≤ 100000) (hl : p.limbo.length ≤ 100000) : Calls Try.prog 27 #[poV p a] w (ListsR (chunks (layAll p.free p.limbo)) w) := by
  have hb := below_box w (.cells (poC p a) 25)
  have hat := po_box w p a
  have cT := rTurn_any p a (w.alloc (.cells (poC p a) 25)) (h.below hb) hf hl
  have HB := Lib.hid hb
  have HLR := Lib.hid (show (layAll p.free p.limbo).length ≤ 200000 by rw [layAll_len]; omega)
  obtain ⟨c0, c1, c2⟩ := po_cells hat
  clear h hb hat hf hl
  obtain ⟨W0, hW0⟩ : ∃ W0, w.alloc (.cells (poC p a) 25) = W0 := ⟨_, rfl⟩
  rw [hW0] at HB cT c0 c1 c2
  unfold poV at cT
  unfold poV
  go_enter Try.func27, Try.ntmps27
  go_wp2_with fail
  refine cT.mono ?_
  rintro e w1 ⟨b, rfl, hp, hb⟩
  clear hW0 c0 c1 c2 cT
  unfold poV
  unfold poC
  generalize layAll p.free p.limbo = R at *
  have HN := Lib.hid hp.f
  have HB1 := Lib.hid (HB.out.trans (hb.mono HB.out.size))
  have qf := field_run p.high b.A1 b.A2 R.length 0 b.c1 b.c2
  clear hp hb
  go_wp2_with fail
  clear qf
  go_loopw [3, 4, 5] (fun s3 s4 _ wr => ∃ (A : Option Addr) (n c : Nat) (r : List Int) (xs : List Part) (v : Value), v = s4 ∧ s3 = .slice A n c ∧ NAt w1 A n c r ∧ PS w1 wr v xs ∧ Hid (numsOf xs ++ chunks r = chunks R)) (fun s3 _ _ _ => lenV s3)
  case atStart => exact ⟨b.A1, R.length, b.c1, R, [], _, rfl, rfl, HN.out, PS.nil _, Lib.hid rfl⟩
  case round =>
    obtain ⟨A, n, c, r, xs, v, rfl, rfl, hr, hps, hQ⟩ := hrel
    have HR := Lib.hid hr
    have HPS := Lib.hid hps
    have hxl : xs.length ≤ 200000 := by
      have h1 := congrArg List.length hQ.out
      rw [List.length_append, numsOf, List.length_map] at h1
      have := chunks_len R
      have := HLR.out
      omega
    by_cases h0 : n = 0
    · subst h0
      have HE : Hid (numsOf xs = chunks R) := Lib.hid (by
        have h1 := hQ.out
        rw [List.eq_nil_of_length_eq_zero HR.out.len, chunks_nil, List.append_nil] at h1
        exact h1)
      have d0 : decide ((0 : Int) < ((0 : Nat) : Int)) = false := by simp
      clear hQ hr hps hxl
      go_wp2_with fail
      go_ret
      exact ⟨_, _, rfl, own_base HPS.out.own HB1.out.size, fun x hx => (HPS.out.parts x hx).at_, HE.out, HB1.out.trans (HPS.out.below.mono HB1.out.size)⟩
    have hn0 : 0 < n := by omega
    have hrl := hr.len
    have HRD := Lib.hid (show chunks r = r.take 200 :: chunks (r.drop 200) from chunks_cons r (by omega))
    by_cases hg2 : 200 < n
    · obtain ⟨m, hm⟩ : ∃ m : Nat, m = 200 := ⟨_, rfl⟩
      have hmn : m ≤ n := by omega
      have HD : Hid (numsOf (xs ++ [(A, c, r.take m)]) ++ chunks (r.drop m) = chunks R) := Lib.hid (by
        rw [numsOf, List.map_append, List.append_assoc, ← numsOf, ← hQ.out, HRD.out]
        simp only [List.map_cons, List.map_nil, List.singleton_append]
        rw [hm])
      have q1 : ∀ W, (Instr.slice 23 (.slice A n c) none (some (.int .i64 (200))) none).run Try.prog W = .ok (.slice A m c) W := fun W => by
        have := head_run A n c m (Nat.le_trans hmn HR.out.cap) W
        rw [hm] at this ⊢
        exact this
      have q2 : ∀ W, (Instr.slice 23 (.slice A n c) (some (.int .i64 (200))) none none).run Try.prog W = .ok (.slice (if c = m then A else A.map (·.add m)) (n - m) (c - m)) W := fun W => by
        have := tail_run A n c m hmn W
        rw [hm] at this ⊢
        exact this
      have HT2 := Lib.hid (hr.tail hmn)
      have hh := (hr.head hmn).below hps.below
      have hy : Lies wr v.ownBlock (A, c, r.take m) := by
        refine ⟨by rw [show (A, c, r.take m).2.2.length = m from hh.len]; exact hh, fun hne a e => ?_⟩
        obtain ⟨b', o', e', hlt', -⟩ := hr.row (fun e3 => hne (by show r.take m = []; rw [e3]; simp))
        have e4 : some a = some ⟨b', o', none⟩ := e.symm.trans e'
        cases e4
        refine ⟨Nat.lt_of_lt_of_le hlt' hps.below.size, fun e5 => ?_⟩
        have := (World.ownsRow.lt hps.own b' e5.symm).1
        omega
      obtain ⟨v', W', hrun, hps2, -⟩ := hps.app [(A, c, r.take m)] (fun x hx => by rw [List.mem_singleton.1 hx]; exact hy) 1 rfl #[.slice A (r.take m).length c] rfl (by omega)
      rw [hh.len] at hrun
      have Q := Lib.hid hrun
      have HP2 := Lib.hid hps2
      have HM0 := Lib.hid (show 0 < m ∧ m ≤ n by omega)
      generalize (if c = m then A else A.map (·.add m)) = A3 at q2 HT2
      generalize c - m = c3 at q2 HT2
      obtain ⟨n3, hn3⟩ : ∃ n3, n - m = n3 := ⟨_, rfl⟩
      rw [hn3] at q2 HT2
      have HN3 := Lib.hid (show n3 < n by omega)
      have hd1 : decide ((0 : Int) < (n : Int)) = true := by simp; omega
      have hg : 200 < n := hg2
      clear hg2
      clear hrun hps2 hy hh hn3 hQ hr hps hrl hm hxl h0 hmn
      go_wp2_with (at_builtin; (refine wpList_append_eq rfl (.tmp 16) (.tmp 20) _ rfl rfl rfl Q.out ?_; clear Q))
      go_roundw
      case rel => exact ⟨_, _, _, _, _, _, rfl, rfl, HT2.out, HP2.out, HD⟩
      case measure => simp [lenV]; exact HN3.out
    · obtain ⟨m, hm⟩ : ∃ m : Nat, m = n := ⟨_, rfl⟩
      have hmn : m ≤ n := by omega
      have HD : Hid (numsOf (xs ++ [(A, c, r.take m)]) ++ chunks (r.drop m) = chunks R) := Lib.hid (by
        rw [numsOf, List.map_append, List.append_assoc, ← numsOf, ← hQ.out, HRD.out]
        simp only [List.map_cons, List.map_nil, List.singleton_append]
        rw [hm, List.take_of_length_le (show r.length ≤ n by omega), List.take_of_length_le (show r.length ≤ 200 by omega), List.drop_of_length_le (show r.length ≤ n by omega), List.drop_of_length_le (show r.length ≤ 200 by omega)])
      have q1 : ∀ W, (Instr.slice 23 (.slice A n c) none (some (.int .i64 ((n : Int)))) none).run Try.prog W = .ok (.slice A m c) W := fun W => by
        have := head_run A n c m (Nat.le_trans hmn HR.out.cap) W
        rw [hm] at this ⊢
        exact this
      have q2 : ∀ W, (Instr.slice 23 (.slice A n c) (some (.int .i64 ((n : Int)))) none none).run Try.prog W = .ok (.slice (if c = m then A else A.map (·.add m)) (n - m) (c - m)) W := fun W => by
        have := tail_run A n c m hmn W
        rw [hm] at this ⊢
        exact this
      have HT2 := Lib.hid (hr.tail hmn)
      have hh := (hr.head hmn).below hps.below
      have hy : Lies wr v.ownBlock (A, c, r.take m) := by
        refine ⟨by rw [show (A, c, r.take m).2.2.length = m from hh.len]; exact hh, fun hne a e => ?_⟩
        obtain ⟨b', o', e', hlt', -⟩ := hr.row (fun e3 => hne (by show r.take m = []; rw [e3]; simp))
        have e4 : some a = some ⟨b', o', none⟩ := e.symm.trans e'
        cases e4
        refine ⟨Nat.lt_of_lt_of_le hlt' hps.below.size, fun e5 => ?_⟩
        have := (World.ownsRow.lt hps.own b' e5.symm).1
        omega
      obtain ⟨v', W', hrun, hps2, -⟩ := hps.app [(A, c, r.take m)] (fun x hx => by rw [List.mem_singleton.1 hx]; exact hy) 1 rfl #[.slice A (r.take m).length c] rfl (by omega)
      rw [hh.len] at hrun
      have Q := Lib.hid hrun
      have HP2 := Lib.hid hps2
      have HM0 := Lib.hid (show 0 < m ∧ m ≤ n by omega)
      generalize (if c = m then A else A.map (·.add m)) = A3 at q2 HT2
      generalize c - m = c3 at q2 HT2
      obtain ⟨n3, hn3⟩ : ∃ n3, n - m = n3 := ⟨_, rfl⟩
      rw [hn3] at q2 HT2
      have HN3 := Lib.hid (show n3 < n by omega)
      have hd1 : decide ((0 : Int) < (n : Int)) = true := by simp; omega
      have hg : ¬ 200 < n := hg2
      clear hg2
      clear hrun hps2 hy hh hn3 hQ hr hps hrl hm hxl h0 hmn
      go_wp2_with (at_builtin; (refine wpList_append_eq rfl (.tmp 16) (.tmp 20) _ rfl rfl rfl Q.out ?_; clear Q))
      go_roundw
      case rel => exact ⟨_, _, _, _, _, _, rfl, rfl, HT2.out, HP2.out, HD⟩
      case measure => simp [lenV]; exact HN3.out
end Go.Proofs.Ytdkpnoinccdaiaa.Pool
