/-
  Texts of one family, one behind the other: TChange2, TLeaf, TNew, TAwake0, TAwake, TRow.
-/
import Derived.Test.YtboaamaneeodfaaGreatKS11
import Derived.Test.YtboaamaneeodfaaGreatKS13
import Derived.Test.YtboaamaneeodfaaGreatKS9
import Derived.Test.YtboaamaneeodfaaGreatKS5
import Derived.Test.YtboaamaneeodfaaGreatKP9
namespace Go.Proofs.YtboaamaneeodfaaGreat.Tree
open Go.RowKit Gen
open Disk (St Dev Mod ptr)
open Page (Pg Lay PgOk PgRows pgC pgV Enc IsDec BytesAt strV strB PRow less OwnP Rises Lt)
open Pool (Po NAt PoAt La poC poV numV At takeP giveP backP Fresh PoolOk OwnI chunks layAll May)
open Store

/-- What change does where a key is cut, as data. -/
def CutD (P : List Stp → Stp → Prop) (Q : Int → Prop) (RC : List Stp → Stp → List (Disk.Bs × Disk.Bs) → St → T → Int → Int → Int → Prop) (key : Disk.Bs) (d : St) (t : T) (r dp c : Int) (d' : St) (t' : T) (r' dp' c' x : Int) (had : Bool) : Prop :=
  (∃ l s, P l s ∧ cutP s.p.pairs key = s.p.pairs ∧ x = 0 ∧ d' = d ∧ t' = t ∧ r' = r ∧ dp' = dp ∧ c' = c ∧ had = hasOf (keysOf s.p.pairs) key) ∨
  (∃ l s, P l s ∧ cutP s.p.pairs key ≠ s.p.pairs ∧ RC l s (cutP s.p.pairs key) d' t' r' dp' x ∧ (c' = if x = 0 then c + (((cutP s.p.pairs key).length : Int) - (s.p.pairs.length : Int)) else c) ∧ had = hasOf (keysOf s.p.pairs) key) ∨
  (Q x ∧ x ≠ 0 ∧ d' = d ∧ t' = t ∧ r' = r ∧ dp' = dp ∧ c' = c ∧ had = false)
set_option maxRecDepth 100000 in
set_option maxHeartbeats 8000000 in
theorem change_cut {w0 w : World} {B : Blk} {tb : Nat} {d : St} {t : T} {r dp c : Int} (h : TrOn w0 w B tb d t r dp c) (key : Disk.Bs) {kb bb : Nat} (hkb : w.cell? ⟨kb, 0, none⟩ = some (strV key)) (hbb : At w bb #[.bool false]) (hnb : bb ∉ tall tb B) (hxb : bb ∈ B.xs) (h0b : w0.heap.size ≤ bb) (hcb : 0 ≤ c ∧ c ≤ 1000000)
    {P : List Stp → Stp → Prop} {Q : Int → Prop} {RC : List Stp → Stp → List (Disk.Bs × Disk.Bs) → St → T → Int → Int → Int → Prop} (hP : ∀ l s, P l s → Rises Lt (keysOf s.p.pairs) ∧ s.p.pairs.length ≤ 900)
    (hw : Calls Tryz.prog 58 #[ptr tb, strV key] w (WayOk P Q w))
    (hcl : ∀ W v l s np y, w.heap.size ≤ W.heap.size → P l s → np = cutP s.p.pairs key → Way w W v (l ++ [s]) → PgRows W (leafOf np) y → Page.New (leafOf np) y w.heap.size → np.length ≤ 1000 → TrOn w0 W B tb d t r dp c → Calls Tryz.prog 84 #[ptr tb, v, pgV (leafOf np) y] W (ClimbR (RC l s np) w0 B tb c W)) :
    Calls Tryz.prog 51 #[ptr tb, strV key, .func (.func 56) #[] #[ptr kb, ptr bb]] w (ChangeC (CutD P Q RC key d t r dp c) w0 B tb bb w) := by
  have H := Lib.hid h
  have HP := Lib.hid hP
  have HCL := Lib.hid hcl
  have HKB := Lib.hid (show kb < w.heap.size ∧ w.cell? ⟨kb, 0, none⟩ = some (strV key) from ⟨World.block_lt_of_cell? w _ hkb, hkb⟩)
  have HBB := Lib.hid hbb
  have NBB := Lib.hid hnb
  have XBB := Lib.hid hxb
  have OBB := Lib.hid h0b
  obtain ⟨kv, hkv⟩ : ∃ kv, strV key = kv := ⟨_, rfl⟩
  rw [hkv] at hw
  rw [hkv]
  clear hkv h hP hcl hkb hbb hnb hxb h0b
  go_enter Tryz.func51, Tryz.ntmps51
  go_wp2_with fail
  refine hw.mono ?_
  rintro e w2 ⟨b2, ⟨l, s, v, hp, hl, rfl, WY⟩ | ⟨x, hq, hx, rfl⟩⟩
  rotate_left
  · have d1 : (x != 0) = true := by simp [hx]
    have FIN := Lib.hid (show ChangeC (CutD P Q RC key d t r dp c) w0 B tb bb w (.returned (numV x)) w2 from ⟨d, t, r, dp, c, x, false, rfl, .inr (.inr ⟨hq, hx, rfl, rfl, rfl, rfl, rfl, rfl⟩), H.out.quiet b2, HBB.out.below b2 HBB.out.1, Mod.of_below _ b2⟩)
    clear hw hq hx b2
    go_wp2_with fail
    go_ret
    exact FIN.out
  · obtain ⟨g, o, cc, hv, hcc, hg, hcl⟩ := way_last WY
    have hps := HP.out l s hp
    have hmem : s ∈ l ++ [s] := by simp
    have HN := WY.new s hmem
    have cS := cut1_any (WY.rows s hmem) (WY.ok s hmem) HN hps.1 (by omega) ((b2.cell (p := ⟨kb, 0, none⟩) HKB.out.1).trans HKB.out.2) (HBB.out.below b2 HBB.out.1) HBB.out.1
    have x3 := hcl 2 _ rfl
    have HW := Lib.hid WY
    have B2 := Lib.hid b2
    subst hv
    obtain ⟨k, hk⟩ : ∃ k, l.length = k := ⟨_, rfl⟩
    rw [hk] at x3 hl
    have hw1 : IntKind.i64.wrap (((k + 1 : Nat) : Int) - 1) = (k : Int) := by rw [IntWalk.i64_in _ (by omega)]; omega
    obtain ⟨N, hN⟩ : ∃ N, k + 1 = N := ⟨_, rfl⟩
    have hkN : (k : Int) < (N : Int) := by omega
    rw [hN] at hw1
    have HWV : Hid (Way w w2 (.slice (some ⟨g, o, none⟩) N cc) (l ++ [s])) := Lib.hid (by rw [← hN, ← hk]; exact HW.out)
    rw [hk, hN]
    have HL := Lib.hid hps.2
    have HPP := Lib.hid hp
    clear hN hk hcl hcc hg hl WY hmem hps HN b2 hw hp HW
    go_wp2_with fail
    refine cS.mono ?_
    rintro e w3 ⟨nv, rfl, ho, hb3, b3⟩
    obtain ⟨A, c1, e0, hR, hge, hcz, hcl1⟩ := Page.own_cap ho
    subst e0
    have HLN := cut_len s.p.pairs key
    obtain ⟨np, hnp⟩ : ∃ np, cutP s.p.pairs key = np := ⟨_, rfl⟩
    have HNP := Lib.hid hnp
    rw [hnp] at hR hcl1 HLN
    rw [hnp]
    have PR := Lib.hid (show PgRows w3 (leafOf np) { A1 := A, c1 := c1 } from ⟨hR, fun h => absurd rfl h, fun h => absurd rfl h, fun h => absurd rfl h⟩)
    have PN := Lib.hid (show Page.New (leafOf np) { A1 := A, c1 := c1 } w.heap.size from ⟨fun x e => Nat.le_trans B2.out.size (hge x e), fun _ e => (by cases e), fun _ e => (by cases e), fun _ e => (by cases e), fun _ => rfl, hcl1, Nat.zero_le _, Nat.zero_le _, Nat.zero_le _, hcz, fun _ => rfl, fun _ => rfl⟩)
    have HW3 := Lib.hid (HWV.out.touch b3 HBB.out.1)
    have H3 := Lib.hid ((H.out.quiet B2.out).touch XBB.out NBB.out OBB.out b3)
    have HB3 := Lib.hid hb3
    have B3 := Lib.hid ((Mod.of_below [bb] B2.out).trans b3)
    have cE := equal_any A s.y.A1 np.length c1 s.p.pairs.length s.y.c1 np s.p.pairs w3 rfl rfl (by have := HL.out; omega) hR ((HW3.out.rows s (by simp)).r1)
    have HLL := Lib.hid (show np.length ≤ 1000 from by have := HL.out; omega)
    have hn1 : IntKind.i64.wrap ((np.length : Int) - (s.p.pairs.length : Int)) = (np.length : Int) - (s.p.pairs.length : Int) := IntWalk.i64_in _ (by have := HL.out; omega)
    have hn2 : IntKind.i64.wrap (c + ((np.length : Int) - (s.p.pairs.length : Int))) = c + ((np.length : Int) - (s.p.pairs.length : Int)) := IntWalk.i64_in _ (by have := HL.out; omega)
    obtain ⟨n, hn⟩ : ∃ n, np.length = n := ⟨_, rfl⟩
    obtain ⟨m, hm⟩ : ∃ m, s.p.pairs.length = m := ⟨_, rfl⟩
    have HN := Lib.hid hn
    have HM := Lib.hid hm
    rw [hn, hm] at cE hn1 hn2
    rw [hn, hm]
    clear hn hm hR hge hcz hcl1 ho b3 hb3 cS HLN hnp HWV x3
    go_wp2_with fail
    refine cE.mono ?_
    rintro e w4 ⟨res, rfl, hres, dr⟩
    have db := drew_below dr w3.heap.size
    have B4 := Lib.hid (B3.out.trans (Mod.of_below [bb] db))
    have PR4 := Lib.hid (PR.out.below db)
    have HW4 := Lib.hid (HW3.out.below db)
    have H4 := Lib.hid (H3.out.quiet db)
    have HB4 := Lib.hid (HB3.out.below db HB3.out.1)
    have M4 := Lib.hid (show Mod (bb :: tall tb B) w w4 from B4.out.mono (fun y hy => by rw [List.mem_singleton] at hy; rw [hy]; exact List.mem_cons_self ..))
    clear dr db cE
    rcases res with _ | _
    rotate_left
    · have EQ := Lib.hid (show cutP s.p.pairs key = s.p.pairs from HNP.out.trans (hres.1 rfl))
      clear hres
      go_wp2_with fail
      go_ret
      exact ⟨d, t, r, dp, c, 0, _, rfl, .inl ⟨l, s, HPP.out, EQ.out, rfl, rfl, rfl, rfl, rfl, rfl, rfl⟩, H4.out, HB4.out, M4.out⟩
    · have NE := Lib.hid (show cutP s.p.pairs key ≠ s.p.pairs from fun e => by have := hres.2 (HNP.out.symm.trans e); cases this)
      have cC : Calls Tryz.prog 84 #[ptr tb, .slice (some ⟨g, o, none⟩) N cc, .agg #[.int .i64 1, .slice A n c1, .slice none 0 0, .slice none 0 0, .slice none 0 0, .int .i64 0, .int .u64 0, .int .i64 0, .int .i64 0, .int .i64 0, .int .i64 0]] w4 (ClimbR (RC l s np) w0 B tb c w4) := by
        have e : pgV (leafOf np) { A1 := A, c1 := c1 } = .agg #[.int .i64 1, .slice A n c1, .slice none 0 0, .slice none 0 0, .slice none 0 0, .int .i64 0, .int .u64 0, .int .i64 0, .int .i64 0, .int .i64 0, .int .i64 0] := by rw [← HN.out]; rfl
        have q := HCL.out w4 _ l s np _ B4.out.size HPP.out HNP.out.symm HW4.out PR4.out PN.out HLL.out H4.out
        rw [e] at q
        exact q
      clear hres
      go_wp2_with fail
      refine cC.mono ?_
      rintro e w5 ⟨d5, t5, r5, dp5, x, rfl, hRC, H5, m5⟩
      have H5H := Lib.hid H5
      have M5 := Lib.hid (M4.out.trans (m5.mono (fun y hy => List.mem_cons_of_mem _ hy)))
      have HB5 := Lib.hid (at_mod HB4.out m5 NBB.out)
      have HRC := Lib.hid hRC
      by_cases hx : x = 0
      · subst hx
        have k3 : w5.cell? ⟨tb, 3, none⟩ = some (.int .i64 c) := H5.box.2.2 3 _ rfl
        have f3 : w5.frozen? ⟨tb, 3, none⟩ = false := H5.box.2.1 3
        have D6 : At (w5.setCell ⟨tb, 3, none⟩ (.int .i64 (c + ((n : Int) - (m : Int))))) tb (trC B.ss r5 dp5 (c + ((n : Int) - (m : Int)))) := at_set H5.box 3 _
        have H6 := Lib.hid (H5.cells D6 (mod_set _ _ _ _))
        have M6 := Lib.hid (M5.out.trans ((mod_set w5 tb 3 (.int .i64 (c + ((n : Int) - (m : Int))))).mono (fun x hx => by rw [List.mem_singleton] at hx; rw [hx]; simp)))
        have HB6 := Lib.hid (at_mod HB5.out (mod_set w5 tb 3 (.int .i64 (c + ((n : Int) - (m : Int))))) (fun e => by rw [List.mem_singleton] at e; exact NBB.out (by rw [e]; exact List.mem_cons_self ..)))
        have CD := Lib.hid (show CutD P Q RC key d t r dp c d5 t5 r5 dp5 (c + ((n : Int) - (m : Int))) 0 (hasOf (keysOf s.p.pairs) key) from .inr (.inl ⟨l, s, HPP.out, NE.out, by show RC l s (cutP s.p.pairs key) _ _ _ _ _; rw [HNP.out]; exact HRC.out, by show _ = if (0 : Int) = 0 then c + (((cutP s.p.pairs key).length : Int) - _) else c; rw [if_pos rfl, HNP.out, HN.out, HM.out], rfl⟩))
        clear cC H5 m5 hRC D6
        go_wp2_with fail
        go_ret
        exact ⟨d5, t5, r5, dp5, _, 0, _, rfl, CD.out, H6.out, HB6.out, M6.out⟩
      · have d1 : (x != 0) = true := by simp [hx]
        have CD := Lib.hid (show CutD P Q RC key d t r dp c d5 t5 r5 dp5 c x (hasOf (keysOf s.p.pairs) key) from .inr (.inl ⟨l, s, HPP.out, NE.out, by show RC l s (cutP s.p.pairs key) _ _ _ _ _; rw [HNP.out]; exact HRC.out, by rw [if_neg hx], rfl⟩))
        clear cC H5 m5 hRC hx
        go_wp2_with fail
        go_ret
        exact ⟨d5, t5, r5, dp5, c, x, _, rfl, CD.out, H5H.out, HB5.out, M5.out⟩
end Go.Proofs.YtboaamaneeodfaaGreat.Tree
namespace Go.Proofs.YtboaamaneeodfaaGreat.Tree
open Go.RowKit Gen
open Disk (St Dev Mod ptr)
open Page (Pg Lay PgOk PgRows pgC pgV Enc IsDec BytesAt strV strB PRow SRow IRow less Rises Lt)
open Pool (Po NAt PoAt La poC poV numV At takeP giveP backP Fresh PoolOk OwnI chunks layAll May)
open Store

theorem lays_len {ps : List Pg} {os : List Int} {d : St} {t : T} {k : Nat} {ns : List Int} {d' : St} {t' : T} {ns' : List Int} {x : Int} (h : Lays ps os d t k ns d' t' ns' x) : x = 0 → ns'.length = ns.length + (ps.length - k) := by
  induction h with
  | done hk => exact fun _ => by omega
  | fail _ _ hx => exact fun h => absurd h hx
  | @step d t k ns p d1 t1 n d' t' ns' x hp _ _ ih =>
    intro h
    have := ih h
    have hk : k < ps.length := (List.getElem?_eq_some_iff.1 hp).1
    rw [this, List.length_append]
    simp
    omega
theorem parts_len (p : Pg) : (partsP p).length = 1 ∨ (partsP p).length = 2 := by
  unfold partsP
  split
  · exact .inr rfl
  · exact .inl rfl
theorem spread_len {d : St} {t : T} {p : Pg} {os : List Int} {d' : St} {t' : T} {ks : List Disk.Bs} {ns : List Int} (h : SpreadR d t p os d' t' ks ns 0) : ns ≠ [] ∧ ks.length ≤ 1000 ∧ ns.length ≤ 1000 := by
  obtain ⟨t1, os1, x1, -, ⟨hx, _, _, _, _, h0⟩ | ⟨-, hl, rfl⟩⟩ := h
  · exact absurd h0.symm hx
  have e := lays_len hl rfl
  have hp := parts_len p
  refine ⟨fun e2 => by rw [e2] at e; simp at e; omega, ?_, by simp at e; omega⟩
  rw [if_pos rfl]
  unfold partsK
  split <;> simp
/-- What crown does, as data: n is where the old root lies, N the depth. -/
def CRel (n N r dp : Int) (b : Pg) (d : St) (t : T) (d' : St) (t' : T) (r' dp' x : Int) : Prop :=
  (fillP b = 0 ∧ d' = d ∧ t' = (dropT t n).1 ∧ x = (dropT t n).2 ∧ ((x = 0 ∧ r' = lowRoot b ∧ dp' = N - 1) ∨ (x ≠ 0 ∧ r' = r ∧ dp' = dp))) ∨
  (fillP b ≠ 0 ∧ CrownR (SpreadR d t b [n]) N r dp d' t' r' dp' x)
theorem new_off {p : Pg} {y : Lay} {n1 : Nat} {S : List Nat} (h : Page.New p y n1) (hS : ∀ k ∈ S, k < n1) : Apart S p y :=
  ⟨fun _ x e hx => by have := h.n1 x e; have := hS _ hx; omega, fun _ x e hx => by have := h.n2 x e; have := hS _ hx; omega, fun _ x e hx => by have := h.n3 x e; have := hS _ hx; omega, fun _ x e hx => by have := h.n4 x e; have := hS _ hx; omega⟩
theorem one_nat {w : World} {b : Nat} {n : Int} (h : w.cell? ⟨b, 0, none⟩ = some (numV n)) (hb : b < w.heap.size) : NAt w (some ⟨b, 0, none⟩) 1 1 [n] :=
  ⟨rfl, Nat.le_refl _, by unfold maxLen; omega, (fun e => by cases e), fun _ => ⟨b, 0, rfl, hb, fun k hk => by
    have : k = 0 := by simpa using hk
    subst this
    exact h⟩⟩
theorem crown_fit {w0 w : World} {B : Blk} {tb : Nat} {d : St} {t : T} {r dp c : Int} (h : TrOn w0 w B tb d t r dp c) (n : Int) (hn : I64 n) (N : Int) (hN : 0 ≤ N ∧ N ≤ 1000) (b : Pg) (y : Lay) (hr : PgRows w b y) {n1 : Nat} (hnw : Page.New b y n1) (hlow : ∀ k ∈ tall tb B, k < n1) (hok : PgOk b) (hk : b.kind = 2 → b.kids ≠ []) (hf : fillP b ≤ mostP b) :
    Calls Tryz.prog 118 #[ptr tb, .int .i64 n, .int .i64 N, pgV b y] w (ClimbR (CRel n N r dp b d t) w0 B tb c w) := by
  have hap := new_off hnw hlow
  by_cases h0 : fillP b = 0
  · refine (crown_low h n hn N hN b y hr hap hk h0).mono ?_
    rintro e w' ⟨rfl, m, h1, h2⟩
    by_cases hx : (dropT t n).2 = 0
    · exact ⟨d, _, _, _, _, rfl, .inl ⟨h0, rfl, rfl, rfl, .inl ⟨hx, rfl, rfl⟩⟩, h2 hx, m⟩
    · exact ⟨d, _, r, dp, _, rfl, .inl ⟨h0, rfl, rfl, rfl, .inr ⟨hx, rfl, rfl⟩⟩, h1 hx, m⟩
  · refine (crown_any h n N hN b y h0 (R := SpreadR d t b [n]) (fun d' t' ks ns hs => spread_len hs) (fun W g hg hb hc hlt => ?_)).mono ?_
    · refine spread_fit (h.quiet hb) b y hok (hr.below hb) hap hf (one_nat hc hlt) (fun x e hx => ?_) (fun x hx => by rw [List.mem_singleton] at hx; rw [hx]; exact hn) (by omega)
      cases e
      exact tall_new h hg hx
    · rintro e w' ⟨d', t', r', dp', x, rfl, hR, H, m⟩
      exact ⟨d', t', r', dp', x, rfl, .inr ⟨h0, hR⟩, H, m⟩
/-- climb on a way of one step, where the leaf fits. -/
theorem climb_one {w0 w w1 : World} {B : Blk} {tb : Nat} {d : St} {t : T} {r dp c : Int} (h : TrOn w0 w B tb d t r dp c) {v : Value} {s : Stp} (hv : Way w1 w v ([] ++ [s])) (hw1 : w1.heap.size ≤ w.heap.size) (hlow : ∀ k ∈ tall tb B, k < w1.heap.size) (hs : I64 s.at_) (np : List (Disk.Bs × Disk.Bs)) (y : Lay) (hr : PgRows w (leafOf np) y) (hn : Page.New (leafOf np) y w1.heap.size) (hf : np.length ≤ 6) :
    Calls Tryz.prog 84 #[ptr tb, v, pgV (leafOf np) y] w (ClimbR (CRel s.at_ 1 r dp (leafOf np) d t) w0 B tb c w) := by
  have hok : PgOk (leafOf np) := ⟨leaf0_ok.kind, by show np.length ≤ _; omega, leaf0_ok.keys, leaf0_ok.kids, leaf0_ok.pages, leaf0_ok.next, leaf0_ok.epoch, leaf0_ok.root, leaf0_ok.depth, leaf0_ok.count, leaf0_ok.high⟩
  refine (climb_any (PR := fun _ _ _ _ _ _ _ _ => False) (CR := fun b d t d' t' r' dp' x => CRel s.at_ 1 r dp b d t d' t' r' dp' x) (Q := fun b => b = leafOf np) h hv hw1 hlow (Nat.zero_le _) (leafOf np) y hr hn hok rfl (fun _ hs => by cases hs) (fun b e => by rw [e]; exact ⟨Nat.zero_le _, Nat.zero_le _⟩) (fun _ hs => by cases hs) (fun X W d1 t1 s b yb hs => by cases hs) (fun X W d1 t1 b yb hW H hR hN hO hb => ?_)).mono ?_
  · subst hb
    exact crown_fit H s.at_ hs 1 (by omega) (leafOf np) yb hR hN hlow hO (fun e => by cases e) (by show np.length ≤ 6; exact hf)
  · rintro e w' ⟨d', t', r', dp', x, rfl, hR, H, m⟩
    refine ⟨d', t', r', dp', x, rfl, ?_, H, m⟩
    cases hR with
    | top h => exact h
/-- Set in an empty tree. -/
theorem set_first {w0 w : World} {B : Blk} {tb : Nat} {d : St} {t : T} {r c : Int} (h : TrOn w0 w B tb d t r 0 c) (hc : 0 ≤ c ∧ c ≤ 1000000) (key val : Disk.Bs) (hk1 : 1 ≤ key.length) (hk2 : key.length ≤ 48) (hv : val.length ≤ 100) :
    Calls Tryz.prog 24 #[ptr tb, strV key, strV val] w (DoneR (ChangeD NilP (fun _ => False) (fun _ s np => CRel s.at_ 1 r 0 (leafOf np) d t) (fun l => setP l key val) d t r 0 c) numV w0 B tb w) := by
  refine set_of h key val hk1 hk2 hv (fun W kb vb eb hb H ck cv => ?_)
  refine change_set H key val ck cv hc (fun l s hp => by have := nilP_leaf hp; exact ⟨this.1, by omega⟩) (way_nil H.box key) (fun W' v l s np y hw' hp hnp hwy hr hn _ H' => ?_)
  obtain ⟨rfl, rfl⟩ := hp
  refine climb_one H' hwy hw' (fun k hk => ?_) ⟨by show _ ≤ (0:Int); omega, by show (0:Int) ≤ _; omega⟩ np y hr hn (by
    rw [hnp]
    have := set_len ([] : List (Disk.Bs × Disk.Bs)) key val
    simp only [List.length_nil] at this
    show (setP [] key val).length ≤ 6
    omega)
  obtain ⟨a, s⟩ := H.sto.has
  rcases List.mem_cons.1 hk with rfl | hk
  · exact H.box.1
  · exact s.lt _ hk
/-- Cut in a tree of one leaf. -/
theorem cut_last {w0 w : World} {B : Blk} {tb : Nat} {d : St} {t : T} {r c : Int} (h : TrOn w0 w B tb d t r 1 c) (hr64 : I64 r) (hc : 0 ≤ c ∧ c ≤ 1000000) (key : Disk.Bs) :
    Calls Tryz.prog 26 #[ptr tb, strV key] w (DoneC (CutD (WayP d key r 1) (WayQ d key r 1) (fun _ s np => CRel s.at_ 1 r 1 (leafOf np) d t) key d t r 1 c) w0 B tb w) := by
  refine cut_of h key (fun W kb bb eb hb hbb h0b H ck cb => ?_)
  obtain ⟨a, s⟩ := H.sto.has
  refine change_cut H key ck cb hbb (by simp) h0b hc (fun l s hp => by have := wayP_leaf hp; exact ⟨this.1, by omega⟩) (way_full s (m := 0) (by omega) H.box key) (fun W' v l s' np y hw' hp hnp hwy hr hn _ H' => ?_)
  obtain ⟨hd, hl, hpa, -⟩ := id hp
  obtain rfl : l = [] := List.eq_nil_of_length_eq_zero (by omega)
  have hat : s'.at_ = r := by
    generalize s'.at_ = q at hd
    generalize hll : ([] : List Stp) = ll at hd
    cases hd with
    | nil => rfl
    | snoc => simp at hll
  refine climb_one H' hwy hw' (fun k hk => ?_) (by rw [hat]; exact hr64) np y hr hn (by
    rw [hnp]
    have := cut_len s'.p.pairs key
    have := (wayP_leaf hp).2
    omega)
  rcases List.mem_cons.1 hk with rfl | hk
  · exact H.box.1
  · exact s.lt _ hk
/-- Cut in an empty tree. -/
theorem cut_none {w0 w : World} {B : Blk} {tb : Nat} {d : St} {t : T} {r c : Int} (h : TrOn w0 w B tb d t r 0 c) (hc : 0 ≤ c ∧ c ≤ 1000000) (key : Disk.Bs) :
    Calls Tryz.prog 26 #[ptr tb, strV key] w (DoneC (CutD NilP (fun _ => False) (fun _ s np => CRel s.at_ 1 r 0 (leafOf np) d t) key d t r 0 c) w0 B tb w) := by
  refine cut_of h key (fun W kb bb eb hb hbb h0b H ck cb => ?_)
  obtain ⟨a, s⟩ := H.sto.has
  refine change_cut H key ck cb hbb (by simp) h0b hc (fun l s hp => by have := nilP_leaf hp; exact ⟨this.1, by omega⟩) (way_nil H.box key) (fun W' v l s' np y hw' hp hnp hwy hr hn _ H' => ?_)
  obtain ⟨rfl, rfl⟩ := hp
  refine climb_one H' hwy hw' (fun k hk => ?_) ⟨by show _ ≤ (0:Int); omega, by show (0:Int) ≤ _; omega⟩ np y hr hn (by
    rw [hnp]
    have := cut_len ([] : List (Disk.Bs × Disk.Bs)) key
    simp only [List.length_nil] at this
    show (cutP [] key).length ≤ 6
    omega)
  rcases List.mem_cons.1 hk with rfl | hk
  · exact H.box.1
  · exact s.lt _ hk
end Go.Proofs.YtboaamaneeodfaaGreat.Tree
namespace Go.Proofs.YtboaamaneeodfaaGreat.Tree
open Go.RowKit Gen
open Disk (St Dev Mod ptr)
open Page (Pg Lay PgOk PgRows pgC pgV Enc IsDec BytesAt strV)
open Pool (Po NAt PoAt La poC poV numV At takeP giveP backP Fresh PoolOk OwnI chunks layAll May)
open Store

/-- An empty store's data, as Format leaves it. -/
abbrev T0 : T := newT noneT (leadP (superP noneT 0 0 0) noneT []) []
set_option maxRecDepth 100000 in
set_option maxHeartbeats 4000000 in
theorem new_any (n : Nat) (h0 : 2 ≤ n) (h1 : n ≤ 4096) (w : World) : Calls Tryz.prog 12 #[.int .i64 (n : Int)] w (fun e w' => ∃ B tb d1, e = .returned (ptr tb) ∧ TrOn w w' B tb d1 T0 0 0 0 ∧ Store.Safe d1 T0 ∧ Store.Calm d1 ∧ d1.n = n) := by
  have cN : Calls Tryz.prog 33 #[.int .i64 (n : Int)] w _ := Disk.new_dev n w h0 h1
  go_enter Tryz.func12, Tryz.ntmps12
  go_wp2_with fail
  refine cN.mono ?_
  rintro e w1 ⟨rfl, hd1, b1⟩
  have cF := format_any hd1 (by exact h0)
  have B1 := Lib.hid b1
  clear hd1 b1 cN
  go_wp2_with fail
  refine cF.mono ?_
  rintro e w3 ⟨d1, t1, x, hc, m3, hx⟩
  obtain ⟨rfl, rfl, sf1, cm1, n1⟩ := format_ok h0 h1 hc
  rcases hx with ⟨hx, -⟩ | ⟨-, B, rfl, g1, g2, g3, g4, g5, hs⟩
  · exact absurd rfl hx
  have S3 := Lib.hid (show SOn w w3 B d1 T0 from ⟨hs, B1.out.trans (m3.below B1.out.size (fun k hk => by simp at hk; omega)), fun k hk => by
    have := B1.out.size
    simp only [Blk.all, List.mem_cons, List.not_mem_nil, or_false] at hk
    omega⟩)
  have SF1 := Lib.hid sf1
  have CM1 := Lib.hid cm1
  have N1 := Lib.hid n1
  have cO := of_any S3.out
  clear hc m3 sf1 cm1 n1 g1 g2 g3 g4 g5 hs cF B1
  go_wp2_with fail
  refine cO.mono ?_
  rintro e w4 ⟨rfl, H4, b4⟩
  have H4' := Lib.hid H4
  clear H4 b4 cO
  go_wp2_with fail
  go_ret
  exact ⟨_, _, d1, rfl, H4'.out, SF1.out, CM1.out, N1.out⟩
end Go.Proofs.YtboaamaneeodfaaGreat.Tree
namespace Go.Proofs.YtboaamaneeodfaaGreat.Tree
open Go.RowKit Gen
open Disk (St Dev Mod ptr)
open Page (Pg Lay PgOk PgRows pgC pgV Enc IsDec BytesAt strV strB PRow SRow IRow less Rises Lt)
open Pool (Po NAt PoAt La poC poV numV At takeP giveP backP Fresh PoolOk OwnI chunks layAll May)
open Store

/-- A page that fits is laid on a calm device. -/
theorem spread_calm {d d' : St} {t t' t2 : T} {b : Pg} {n m x : Int} {ks : List Disk.Bs} {ns : List Int} (h : SpreadR d t b [n] d' t' ks ns x) (hf : fillP b ≤ mostP b) (hp : placeT t d.n n = (t2, m, 0)) (hc : Store.Calm d) (hfine : Page.Fine b) (hk : b.kind ≠ 4) (h0 : 2 ≤ m) (h1 : m < d.n) (h2 : d.n ≤ 4096) :
    x = 0 ∧ ks = [] ∧ ns = [m] ∧ t' = t2 ∧ Store.Calm d' ∧ d'.n = d.n ∧ LayR d t n b d' t' m 0 ∧ ∃ l, Enc m b l ∧ d'.get m = l := by
  have e1 : partsP b = [b] := if_neg (by omega)
  have e2 : partsK b = [] := if_neg (by omega)
  obtain ⟨t1, os1, x1, hD, hR⟩ := h
  rw [e1] at hD hR
  have hh : t1 = t ∧ os1 = [n] ∧ x1 = 0 := by
    cases hD with
    | done _ => exact ⟨rfl, rfl, rfl⟩
    | fail h _ _ => simp at h
    | step h _ _ => simp at h
  obtain ⟨rfl, rfl, rfl⟩ := hh
  rcases hR with ⟨h, _⟩ | ⟨_, hL, hks⟩
  · exact absurd rfl h
  cases hL with
  | done h => simp at h
  | fail hb hl hx =>
    simp only [List.getElem?_cons_zero, Option.some.injEq] at hb
    subst hb
    have := lay_calm hl hp hc hfine hk h0 h1 h2
    exact absurd this.2.1 hx
  | step hb hl hr =>
    simp only [List.getElem?_cons_zero, Option.some.injEq] at hb
    subst hb
    have hl' := hl
    obtain ⟨rfl, -, rfl, c1, c2, c3⟩ := lay_calm hl hp hc hfine hk h0 h1 h2
    cases hr with
    | done _ => exact ⟨rfl, by rw [hks, if_pos rfl, e2], rfl, rfl, c1, c2, hl', c3⟩
    | fail hb _ _ => simp at hb
    | step hb _ _ => simp at hb
/-- What crown makes of a page that fits, on a calm device. -/
theorem crel_calm {d d' : St} {t t' t2 : T} {b : Pg} {n N r dp m r' dp' x : Int} (h : CRel n N r dp b d t d' t' r' dp' x) (hb : fillP b ≠ 0) (hf : fillP b ≤ mostP b) (hp : placeT t d.n n = (t2, m, 0)) (hc : Store.Calm d) (hfine : Page.Fine b) (hk : b.kind ≠ 4) (h0 : 2 ≤ m) (h1 : m < d.n) (h2 : d.n ≤ 4096) :
    x = 0 ∧ r' = m ∧ dp' = N ∧ t' = t2 ∧ Store.Calm d' ∧ d'.n = d.n ∧ LayR d t n b d' t' m 0 ∧ ∃ l, Enc m b l ∧ d'.get m = l := by
  rcases h with ⟨e, _⟩ | ⟨_, d1, t1, ks, ns, x1, hR, hh⟩
  · exact absurd e hb
  obtain ⟨rfl, rfl, rfl, rfl, c1, c2, c3, c4⟩ := spread_calm hR hf hp hc hfine hk h0 h1 h2
  rcases hh with ⟨e, _⟩ | ⟨_, _, rfl, rfl, rfl, rfl, rfl⟩ | ⟨_, e, _⟩
  · exact absurd rfl e
  · exact ⟨rfl, rfl, rfl, rfl, c1, c2, c3, c4⟩
  · exact absurd rfl e
/-- A tree of one leaf. -/
theorem down_nil {d : St} {key : Disk.Bs} {r a : Int} {l : List Stp} (h : Down d key r l a) (hl : l.length = 0) : a = r ∧ l = [] := by
  cases h with
  | nil => exact ⟨rfl, rfl⟩
  | snoc => simp at hl
theorem leaf_way {d : St} {key : Disk.Bs} {r : Int} {l : List Stp} {s : Stp} {b : Pg} (h : WayP d key r 1 l s) (hb : IsDec r (d.readB r) b) : s.p = b ∧ s.at_ = r ∧ l = [] := by
  obtain ⟨hd, hl, hp, -⟩ := h
  obtain ⟨e, rfl⟩ := down_nil hd (by omega)
  rw [e] at hp
  exact ⟨Page.dec_fun hp.2.1 hb, e, rfl⟩
theorem leaf_noQ {d : St} {key : Disk.Bs} {r x : Int} {b : Pg} (h : WayQ d key r 1 x) (hr : d.readE r = 0) (hb : IsDec r (d.readB r) b) (hk : b.kind = 1) : False := by
  obtain ⟨l, a, hd, hl, hn, -⟩ := h
  obtain ⟨rfl, rfl⟩ := down_nil hd (by omega)
  have := hn hr b hb
  simp at this
  exact this hk
abbrev lf : Pg := leafOf [([97], [49])]
theorem fine_lf : Page.Fine lf := by
  refine (Page.fine1 rfl).2 ⟨⟨by simp, fun x hx => ?_, fun s hs => ?_, fun j hj => ?_⟩, rfl, rfl, rfl, rfl, rfl, rfl, rfl, rfl, rfl⟩
  · simp only [List.mem_singleton] at hx; subst hx; show 1 ≤ 100; omega
  · simp only [List.map_cons, List.map_nil, List.mem_singleton] at hs; subst hs; exact ⟨by decide, by decide⟩
  · simp at hj
abbrev U2 : T := { sup := T0.sup, own := [], base := { high := 2 }, pool := { high := 3 }, fresh := fup (fun _ => false) 2 true }
theorem place_u {N : Int} (h : 2 < N) : placeT T0 N 0 = (U2, 2, 0) := by
  have e : takeP T0.pool N = ({ high := 3 }, 2, 0) := by
    show (if N ≤ 2 then _ else _) = _
    rw [if_neg (by omega)]; rfl
  have e2 : takeT T0 N = ({ T0 with pool := { high := 3 } }, 2, 0) := by rw [takeT, e]; rfl
  rw [placeT, e2]
  rfl
abbrev U3 : T := newT U2 (leadP (superP U2 2 1 1) U2 []) []
theorem super_u : Page.SuperOk (superP U2 2 1 1) := ⟨.inr ⟨by show (2 : Int) ≤ 2; omega, by show (2 : Int) ≤ 4095; omega⟩, .inl rfl, ⟨by show (2 : Int) ≤ 3; omega, by show (3 : Int) ≤ 4096; omega⟩, ⟨by show (0 : Int) ≤ 1; omega, by show (1 : Int) ≤ 20; omega⟩, ⟨fun e => absurd e (by decide), fun e => absurd e (by decide)⟩, ⟨by show (0 : Int) ≤ 1; omega, by show (1 : Int) ≤ 2147483647; omega⟩, ⟨fun e => absurd e (by decide), fun e => absurd e (by decide)⟩⟩
abbrev U4 : T := { U3 with pool := { high := 3, limbo := [2] } }
theorem drop_u : dropT U3 2 = (U4, 0) := by
  have e3 : giveP { high := 3 } 2 = ({ high := 3, limbo := [2] }, 0) := by
    rw [giveP, if_pos ⟨⟨by omega, by show (2 : Int) < 3; omega⟩, by simp, by simp⟩]; rfl
  rw [dropT, if_neg (by decide), giveT]
  show ({ U3 with pool := (giveP { high := 3 } 2).1 }, (giveP { high := 3 } 2).2) = _
  rw [e3]
/-- Behind Set. -/
theorem set_u {d d' : St} {t' : T} {r' dp' c' x : Int} (hc : Store.Calm d) (hn : d.n = 32) (h : ChangeD NilP (fun _ => False) (fun _ s np => CRel s.at_ 1 0 0 (leafOf np) d T0) (fun l => setP l [97] [49]) d T0 0 0 0 d' t' r' dp' c' x) :
    x = 0 ∧ r' = 2 ∧ dp' = 1 ∧ c' = 1 ∧ t' = U2 ∧ Store.Calm d' ∧ d'.n = 32 ∧ LayR d T0 0 lf d' t' 2 0 ∧ ∃ l, Enc 2 lf l ∧ d'.get 2 = l := by
  rcases h with ⟨l, s, ⟨rfl, rfl⟩, h, _⟩ | ⟨l, s, ⟨rfl, rfl⟩, _, h, rfl⟩ | ⟨h, _⟩
  · exact absurd h (by decide)
  · have e : setP ([] : List (Disk.Bs × Disk.Bs)) [97] [49] = [([97], [49])] := by decide
    have h' : CRel 0 1 0 0 lf d T0 d' t' r' dp' x := by
      have h2 := h
      simp only at h2
      rw [e] at h2
      exact h2
    obtain ⟨rfl, rfl, rfl, rfl, g1, g2, g3, g4⟩ := crel_calm h' (by decide) (by decide) (place_u (by omega)) hc fine_lf (by decide) (by omega) (by omega) (by omega)
    exact ⟨rfl, rfl, rfl, by rw [if_pos rfl]; simp only; rw [e]; rfl, rfl, g1, g2.trans hn, g3, g4⟩
  · exact h.elim
/-- Behind Cut. -/
theorem cut_u {d d' : St} {t' : T} {r' dp' c' x : Int} {had : Bool} (hr : d.readE 2 = 0) (hb : IsDec 2 (d.readB 2) lf) (h : CutD (WayP d [97] 2 1) (WayQ d [97] 2 1) (fun _ s np => CRel s.at_ 1 2 1 (leafOf np) d U3) [97] d U3 2 1 1 d' t' r' dp' c' x had) :
    x = 0 ∧ r' = 0 ∧ dp' = 0 ∧ c' = 0 ∧ had = true ∧ t' = U4 ∧ d' = d := by
  rcases h with ⟨l, s, hp, h, _⟩ | ⟨l, s, hp, _, h, rfl, rfl⟩ | ⟨h, _⟩
  · rw [(leaf_way hp hb).1] at h
    exact absurd h (by decide)
  · obtain ⟨e1, e2, -⟩ := leaf_way hp hb
    have e : cutP [(([97] : Disk.Bs), ([49] : Disk.Bs))] [97] = [] := by decide
    have h' : CRel 2 1 2 1 (leafOf []) d U3 d' t' r' dp' x := by
      have h2 := h
      rw [e1, e2, show lf.pairs = [([97], [49])] from rfl, e] at h2
      exact h2
    rcases h' with ⟨_, rfl, rfl, rfl, ⟨_, rfl, rfl⟩ | ⟨hx, _⟩⟩ | ⟨h0, _⟩
    · rw [drop_u, e1]
      exact ⟨rfl, rfl, rfl, rfl, by decide, rfl, rfl⟩
    · rw [drop_u] at hx; exact absurd rfl hx
    · exact absurd rfl h0
  · exact (leaf_noQ h hr hb rfl).elim
/-- .. and behind another one. -/
theorem cut_v {d d' : St} {t' : T} {r' dp' c' x : Int} {had : Bool} (h : CutD NilP (fun _ => False) (fun _ s np => CRel s.at_ 1 0 0 (leafOf np) d U4) [97] d U4 0 0 0 d' t' r' dp' c' x had) :
    x = 0 ∧ r' = 0 ∧ dp' = 0 ∧ c' = 0 ∧ had = false := by
  rcases h with ⟨l, s, ⟨rfl, rfl⟩, _, rfl, rfl, rfl, rfl, rfl, rfl, rfl⟩ | ⟨l, s, ⟨rfl, rfl⟩, h, _⟩ | ⟨h, _⟩
  · exact ⟨rfl, rfl, rfl, rfl, by decide⟩
  · exact absurd (by decide) h
  · exact h.elim
end Go.Proofs.YtboaamaneeodfaaGreat.Tree
namespace Go.Proofs.YtboaamaneeodfaaGreat.Tree
open Go.RowKit Gen
open Disk (St Dev Mod ptr)
open Page (Pg Lay PgOk PgRows pgC pgV Enc IsDec BytesAt strV strB PRow SRow IRow less Rises Lt)
open Pool (Po NAt PoAt La poC poV numV At takeP giveP backP Fresh PoolOk OwnI chunks layAll May)
open Store

theorem i64_0 : I64 0 := ⟨by omega, by omega⟩
theorem i64_1 : I64 1 := ⟨by omega, by omega⟩
theorem i64_2 : I64 2 := ⟨by omega, by omega⟩
/-- A way in a tree of one leaf. -/
theorem way_leaf {w0 w : World} {B : Blk} {tb : Nat} {d : St} {t : T} {r c : Int} (h : TrOn w0 w B tb d t r 1 c) (key : Disk.Bs) (W : World) (hb : Below w.heap.size w W) :
    Calls Tryz.prog 58 #[ptr tb, strV key] W (WayOk (WayP d key r 1) (WayQ d key r 1) W) := by
  obtain ⟨a, s⟩ := (h.quiet hb).sto.has
  exact way_full s (m := 0) (by omega) (h.quiet hb).box key
theorem get_u {w0 w : World} {B : Blk} {tb : Nat} {d : St} {t : T} {c : Int} (h : TrOn w0 w B tb d t 2 1 c) (hr : d.readE 2 = 0) (hb : IsDec 2 (d.readB 2) lf) (key v : Disk.Bs) (b : Bool) (hv : valOf lf.pairs key = v) (hh : hasOf (keysOf lf.pairs) key = b) :
    Calls Tryz.prog 29 #[ptr tb, strV key] w (fun e w' => e = .returned (.tuple #[strV v, .bool b, numV 0]) ∧ Below w.heap.size w w') := by
  refine (get_any h key (P := WayP d key 2 1) (Q := WayQ d key 2 1) (fun l s hp => by have := wayP_leaf hp; exact ⟨this.1, by omega⟩) (way_leaf h key)).mono ?_
  rintro e w' (⟨l, s, hp, rfl, bl⟩ | ⟨x, hq, _⟩)
  · rw [(leaf_way hp hb).1, hv, hh]
    exact ⟨rfl, bl⟩
  · exact (leaf_noQ hq hr hb rfl).elim
set_option maxRecDepth 100000 in
set_option maxHeartbeats 8000000 in
theorem awake_any (w : World) : Calls Tryz.prog 11 #[] w (fun e w' => e = .returned (.bool true) ∧ Below w.heap.size w w') := by
  have cN : Calls Tryz.prog 12 #[.int .i64 32] w _ := new_any 32 (by omega) (by omega) w
  go_enter Tryz.func11, Tryz.ntmps11
  go_wp2_with fail
  refine cN.mono ?_
  rintro e w1 ⟨B, tb, d1, rfl, H1, sf, cm, hn⟩
  have H1' := Lib.hid H1
  have SF := Lib.hid sf
  have CM := Lib.hid cm
  have HN := Lib.hid (show d1.n = 32 from hn)
  have MEM := Lib.hid H1.mem
  have cS : Calls Tryz.prog 24 #[ptr tb, .string { data := #[97] }, .string { data := #[49] }] w1 _ := set_first H1 (by omega) [97] [49] (by decide) (by decide) (by decide)
  clear H1 sf cm hn cN
  go_wp2_with fail
  refine cS.mono ?_
  rintro e w2 ⟨d2, t2, r2, dp2, c2, x2, rfl, hR, m2, hok, -⟩
  obtain ⟨rfl, rfl, rfl, rfl, rfl, cm2, n2, hl, la, hla, hga⟩ := set_u CM.out HN.out hR
  have H2 := Lib.hid (hok rfl)
  have ST := (Pre.refl SF.out.pre).lay SF.out.pre hl
  have P2 := Lib.hid (ST.pre SF.out.pre)
  have CM2 := Lib.hid cm2
  have N2 := Lib.hid n2
  have LA := Lib.hid (show Enc 2 lf la ∧ d2.get 2 = la from ⟨hla, hga⟩)
  have rd := on_read cm2.1 (x := 2) (by omega) (by rw [n2]; omega)
  have RD := Lib.hid (show d2.readE 2 = 0 ∧ IsDec 2 (d2.readB 2) lf from ⟨rd.1, by rw [rd.2, hga]; exact Page.dec_of_enc hla (by show 0 < _; omega)⟩)
  clear hR m2 hok hl hla hga rd cm2 n2 ST SF CM HN H1' cS
  have cG : Calls Tryz.prog 29 #[ptr tb, .string { data := #[97] }] w2 _ := get_u H2.out RD.out.1 RD.out.2 [97] [49] true (by decide) (by decide)
  go_wp2_with fail
  refine cG.mono ?_
  rintro e w3 ⟨rfl, b3⟩
  have H3 := Lib.hid (H2.out.quiet b3)
  have cH : Calls Tryz.prog 29 #[ptr tb, .string { data := #[98] }] w3 _ := get_u H3.out RD.out.1 RD.out.2 [98] [] false (by decide) (by decide)
  clear b3 cG H2
  go_wp2_with fail
  refine cH.mono ?_
  rintro e w4 ⟨rfl, b4⟩
  have H4 := Lib.hid (H3.out.quiet b4)
  have cD := depth_any H4.out.box
  have cC := count_any H4.out.box
  have cR := root_any H4.out.box
  clear b4 cH H3
  go_wp2_with fail
  refine cD.mono ?_
  rintro e w' ⟨rfl, rfl⟩
  clear cD
  go_wp2_with fail
  refine cC.mono ?_
  rintro e w' ⟨rfl, rfl⟩
  clear cC
  go_wp2_with fail
  refine cR.mono ?_
  rintro e w' ⟨rfl, rfl⟩
  clear cR
  have cB : Calls Tryz.prog 24 #[ptr tb, .string { data := #[] }, .string { data := #[] }] w4 _ := set_bad [] [] (.inl (by decide))
  go_wp2_with fail
  refine cB.mono ?_
  rintro e w5 ⟨rfl, b5⟩
  have H5 := Lib.hid (H4.out.quiet b5)
  have cK := keep_any H5.out i64_2 i64_1 i64_1 (by show 0 ≤ 100000; omega) (fun x hx => by cases hx)
  clear b5 cB H4
  go_wp2_with fail
  refine cK.mono ?_
  rintro e w6 ⟨d3, t3, x, rfl, hc, -, hok, -⟩
  obtain ⟨rfl, rfl⟩ := commit_few hc CM2.out (by rw [N2.out]; omega) rfl rfl super_u
  rcases commit_ends P2.out (by show 1 + 1 < _; omega) hc with ⟨hx, -⟩ | ⟨hx, -⟩ | ⟨-, md⟩
  · exact absurd rfl hx
  · exact absurd rfl hx
  have H6 := Lib.hid (hok rfl)
  have hlive : Live U3.base 2 := ⟨by omega, by show (2 : Int) < 3; omega, by show (2 : Int) ∉ layAll [] []; decide⟩
  have hget : d3.get 2 = la := by
    rw [md.safe.get (.inr (.inr hlive)), md.fresh 2 rfl]
    exact LA.out.2
  have hcm := md.calm CM2.out
  have hn3 := md.n.trans N2.out
  have rd := on_read hcm.1 (x := 2) (by omega) (by rw [hn3]; omega)
  have RD3 := Lib.hid (show d3.readE 2 = 0 ∧ IsDec 2 (d3.readB 2) lf from ⟨rd.1, by rw [rd.2, hget]; exact Page.dec_of_enc LA.out.1 (by show 0 < _; omega)⟩)
  have cU : Calls Tryz.prog 26 #[ptr tb, .string { data := #[97] }] w6 (DoneC (CutD (WayP d3 [97] 2 1) (WayQ d3 [97] 2 1) (fun _ s np => CRel s.at_ 1 2 1 (leafOf np) d3 U3) [97] d3 U3 2 1 1) w B tb w6) := cut_last H6.out i64_2 (by omega) [97]
  clear hc hok md hlive hget hcm hn3 rd cK H5 P2 CM2 N2 LA RD
  go_wp2_with fail
  refine cU.mono ?_
  rintro e w7 ⟨d4, t4, r4, dp4, c4, x, had, rfl, hR, -, hok, -⟩
  obtain ⟨rfl, rfl, rfl, rfl, rfl, rfl, rfl⟩ := cut_u RD3.out.1 RD3.out.2 hR
  have H7 := Lib.hid (hok rfl)
  have cV : Calls Tryz.prog 26 #[ptr tb, .string { data := #[97] }] w7 (DoneC (CutD NilP (fun _ => False) (fun _ s np => CRel s.at_ 1 0 0 (leafOf np) d4 U4) [97] d4 U4 0 0 0) w B tb w7) := cut_none H7.out (by omega) [97]
  have hb1 : (true && decide ((0 : Int) = 0)) = true := by decide
  rw [hb1]
  clear hR hok cU H6 RD3 hb1
  go_wp2_with fail
  refine cV.mono ?_
  rintro e w8 ⟨d5, t5, r5, dp5, c5, x, had, rfl, hR, -, hok, -⟩
  obtain ⟨rfl, rfl, rfl, rfl, rfl⟩ := cut_v hR
  have H8 := hok rfl
  have cD := depth_any H8.box
  have cC := count_any H8.box
  have cT := store_any H8.box
  have FIN := Lib.hid (H8.below (Mod.refl _ _))
  have hb2 : (false && decide ((0 : Int) = 0)) = false := by decide
  rw [hb2]
  have hs : (strB [49]).toList = [49] := Page.strB_list _
  clear hR hok cV H7 hb2 H8
  go_wp2_with fail
  refine cD.mono ?_
  rintro e w' ⟨rfl, rfl⟩
  clear cD
  go_wp2_with fail
  refine cC.mono ?_
  rintro e w' ⟨rfl, rfl⟩
  clear cC
  go_wp2_with fail
  refine cT.mono ?_
  rintro e w' ⟨rfl, rfl⟩
  clear cT
  go_wp2_with fail
  go_ret
  exact ⟨rfl, FIN.out⟩
end Go.Proofs.YtboaamaneeodfaaGreat.Tree
namespace Go.Proofs.YtboaamaneeodfaaGreat.Tree
open Go.RowKit Gen
open Disk (St Dev Mod ptr)
open Page (Pg Lay PgOk PgRows pgC pgV strV strB)
open Pool (numV At)
open Store

theorem own : ownKnob Tryz.prog.godebug = none := by kernel_rfl
theorem names_walk (W : World) : Calls Tryz.prog 3 #[] W fun e W' => e = .returned (.bool true) ∧ Below W.heap.size W W' := by
  have cA := awake_any W
  go_enter Tryz.func3, Tryz.ntmps3
  go_wp2_with fail
  refine cA.mono ?_
  rintro e w1 ⟨rfl, b1⟩
  go_wp2_with fail
  go_ret
  exact ⟨rfl, b1⟩
set_option maxRecDepth 100000 in
set_option maxHeartbeats 8000000 in
theorem nil_walk (k : ByteArray) (W : World) : Calls Tryz.prog 9 #[.string k] W fun e W' => e = .returned (.bool true) ∧ Below W.heap.size W W' := by
  have cA := awake_any W
  go_enter Tryz.func9, Tryz.ntmps9
  go_wp2_with fail
  refine cA.mono ?_
  rintro e w1 ⟨rfl, b1⟩
  have B1 := Lib.hid b1
  have cG := get_nil k w1
  clear b1 cA
  go_wp2_with fail
  refine cG.mono ?_
  rintro e w2 ⟨rfl, b2⟩
  have B2 := Lib.hid (B1.out.trans (b2.mono B1.out.size))
  have cC := cut_nil k w2
  clear b2 cG B1
  go_wp2_with fail
  refine cC.mono ?_
  rintro e w3 ⟨rfl, b3⟩
  have B3 := Lib.hid (B2.out.trans (b3.mono B2.out.size))
  have cO := of_nil w3
  clear b3 cC B2
  go_wp2_with fail
  refine cO.mono ?_
  rintro e w' ⟨rfl, rfl⟩
  have cS := set_nil k k w3
  clear cO
  go_wp2_with fail
  refine cS.mono ?_
  rintro e w4 ⟨rfl, b4⟩
  have B4 := Lib.hid (B3.out.trans (b4.mono B3.out.size))
  have cK := keep_nil w4
  clear b4 cS B3
  go_wp2_with fail
  refine cK.mono ?_
  rintro e w5 ⟨rfl, b5⟩
  have B5 := Lib.hid (B4.out.trans (b5.mono B4.out.size))
  have c1 := root_nil w5
  have c2 := depth_nil w5
  have c3 := count_nil w5
  have c4 := store_nil w5
  clear b5 cK B4
  go_wp2_with fail
  refine c1.mono ?_
  rintro e w' ⟨rfl, rfl⟩
  clear c1
  go_wp2_with fail
  refine c2.mono ?_
  rintro e w' ⟨rfl, rfl⟩
  clear c2
  go_wp2_with fail
  refine c3.mono ?_
  rintro e w' ⟨rfl, rfl⟩
  clear c3
  go_wp2_with fail
  refine c4.mono ?_
  rintro e w' ⟨rfl, rfl⟩
  clear c4
  go_wp2_with fail
  go_ret
  exact ⟨rfl, B5.out⟩
end Go.Proofs.YtboaamaneeodfaaGreat.Tree
