/-
  Texts of one family, one behind the other: TConcat, TOrder, TPage, TSteps, TBack, TEqual2.
-/
import Derived.Test.YtboaamaneeodfaaGreatKS7
import Derived.Lib.AppendZerosOnto
import Derived.Lib.Walk
import Derived.Test.YtboaamaneeodfaaGreatKQ3
import Derived.Test.YtboaamaneeodfaaGreatKS1
import Derived.Test.YtboaamaneeodfaaGreatKP8
import Derived.BigQuiet
namespace Go.Proofs.YtboaamaneeodfaaGreat.Tree
open Go.RowKit Gen
open Disk (St Dev Mod ptr)
open Page (Pg Lay PgOk PgRows pgC pgV Enc IsDec BytesAt strV strB PRow less OwnP flat flat_get flat_len2 pair_info info_parts')
open Pool (Po NAt PoAt La poC poV numV At takeP giveP backP Fresh PoolOk OwnI chunks layAll May)
open Store

set_option maxRecDepth 100000 in
/-- A row of pairs more. -/
theorem append_pairs (W : World) (B : Nat) (v : Value) (ys : List (Disk.Bs × Disk.Bs)) (h : OwnP W B v ys) (A : Option Addr) (m c : Nat) (zs : List (Disk.Bs × Disk.Bs)) (hz : zs.length = m) (hA : A = none → c = 0) (hR : PRow W A zs) (hn : ys.length + m ≤ 1000000) (hB : B ≤ W.heap.size) :
    ∃ v' W', (Builtin.append_ #[27, 27] 27 #[v, .slice A m c]).run Tryz.prog W = .ok v' W' ∧ OwnP W' B v' (ys ++ zs) ∧ W.grownBy W' v.ownBlock ∧ (∀ k, v.ownBlock = some k → B ≤ k) := by
  obtain ⟨i0, hi, hz0, hz1, hz2⟩ := info_parts' pair_info
  have h0 := h
  rcases A with _ | a
  · have hzs : zs = [] := by
      rcases zs with _ | ⟨z, zs⟩
      · rfl
      · obtain ⟨b, o, h, _⟩ := hR (by simp); cases h
    subst hzs
    obtain rfl : c = 0 := hA rfl
    obtain rfl : m = 0 := hz.symm
    exact ⟨v, W, run_append_owned_none (P := Tryz.prog) (w := W) B _ _ 36 i0 2 Tryz.underlying27 hi v _ _ h, by rw [List.append_nil]; exact h, World.grownBy.refl W _, fun k hk => (World.ownsRow.lt h0 k hk).1⟩
  · obtain ⟨v', W', h1, h2, h3, _, _⟩ := run_append_own_at (P := Tryz.prog) W B 27 27 36 i0 _ 2 32 Tryz.underlying27 hi hz0 hz1 hz2 rfl (by decide) v _ _ h a m c (flat zs) (by rw [flat_len2, hz]) (fun j u hu => by
        have hjl : j < zs.length * 2 := by rw [← flat_len2]; exact (List.getElem?_eq_some_iff.1 hu).1
        obtain ⟨b, o, e, _, hc⟩ := hR (by intro e; subst e; simp at hjl)
        injection e with e
        subst e
        have e : (⟨b, o, none⟩ : Addr).add j = ⟨b, o + j, none⟩ := by unfold Addr.add; split <;> simp_all
        rw [e]
        obtain ⟨q, hq⟩ : ∃ q, q = j / 2 := ⟨_, rfl⟩
        have hql : q < zs.length := by omega
        obtain ⟨f1, f2⟩ := flat_get zs q hql
        obtain ⟨g1, g2⟩ := hc q hql
        rcases (show j = q * 2 ∨ j = q * 2 + 1 by omega) with rfl | rfl
        · rw [f1] at hu; rw [g1, hu]
        · rw [f2] at hu; rw [← Nat.add_assoc, g2, hu])
      (fun u hu => by
        simp only [flat, List.mem_flatMap, List.mem_cons, List.not_mem_nil, or_false] at hu
        obtain ⟨x, _, rfl | rfl⟩ := hu <;> rfl) (by simp only [maxLen]; omega) (by omega) hB
    refine ⟨v', W', h1, ?_, h3, fun k hk => (World.ownsRow.lt h0 k hk).1⟩
    unfold OwnP
    rw [List.length_append, hz]
    simpa [flat] using h2
set_option maxRecDepth 100000 in
set_option maxHeartbeats 2000000 in
/-- Room for pairs. -/
theorem grow_any (n : Nat) (hn : n ≤ 1000000) (w : World) : Calls Tryz.prog 88 #[.slice none 0 0, .int .i64 (n : Nat)] w (fun e w' => ∃ v, e = .returned v ∧ OwnP w' w.heap.size v [] ∧ Below w.heap.size w w') := by
  rcases Nat.eq_zero_or_pos n with rfl | h0
  · go_enter Tryz.func88, Tryz.ntmps88
    go_wp2_with fail
    go_ret
    exact ⟨_, rfl, OwnP.nil _ _, Below.refl _ _⟩
  · obtain ⟨i0, hi, hz0, hz1, hz2⟩ := info_parts' pair_info
    have hrun := Lib.run_append_grow_zeros (P := Tryz.prog) w 27 3 27 36 i0 _ .i64 .i64 Tryz.underlying27 Tryz.underlying3 hi hz0 none 0 0 [] (by rw [hz1]; exact run_firstCells_none w.drew 2 0 0 0) n h0 (by rw [hz1]; omega) (by omega) (by omega) (by rw [hz2]; omega)
      (by rw [hz2]; exact growslice_fits (by omega) (by omega))
    have hG := grownCap_ge w (0 + n) 0 36
    have hG2 := grownCap_le_maxLen w (0 + n) 0 36 (by unfold maxLen; omega)
    rw [Nat.zero_add] at hrun hG hG2
    obtain ⟨G, hGG⟩ : ∃ G, grownCap w n 0 36 = G := ⟨_, rfl⟩
    rw [hGG] at hrun hG hG2
    have hbelow : Below w.heap.size w (w.drew.alloc (.cells (([] : List Value).toArray ++ Builtin.zeroCells (Value.agg #[.string ⟨#[]⟩, .string ⟨#[]⟩]).cells n ++ Builtin.zeroCells (Value.agg #[.string ⟨#[]⟩, .string ⟨#[]⟩]).cells (G - n)) 36)) := (Below.refl _ _).drew.alloc (Nat.le_refl _) _
    have hown : OwnP (w.drew.alloc (.cells (([] : List Value).toArray ++ Builtin.zeroCells (Value.agg #[.string ⟨#[]⟩, .string ⟨#[]⟩]).cells n ++ Builtin.zeroCells (Value.agg #[.string ⟨#[]⟩, .string ⟨#[]⟩]).cells (G - n)) 36)) w.heap.size (.slice (some ⟨w.heap.size, 0, none⟩) 0 G) [] := by
      refine ⟨rfl, .inr ⟨w.heap.size, G, _, rfl, Nat.le_refl _, heap_alloc_last w.drew _, Nat.zero_le _, hG2, ?_, rfl⟩⟩
      simp [Builtin.zeroCells, Value.cells]
      omega
    have HB := Lib.hid hbelow
    have HO := Lib.hid hown
    have s1 := fun W => pairs_head (some ⟨w.heap.size, 0, none⟩) n G 0 (Nat.zero_le _) W
    have s2 := fun W => pairs_head none 0 0 0 (Nat.le_refl _) W
    generalize w.drew.alloc (.cells (([] : List Value).toArray ++ Builtin.zeroCells (Value.agg #[.string ⟨#[]⟩, .string ⟨#[]⟩]).cells n ++ Builtin.zeroCells (Value.agg #[.string ⟨#[]⟩, .string ⟨#[]⟩]).cells (G - n)) 36) = W1 at hrun HB HO
    have R := Lib.hid hrun
    have hpos : (0 : Int) < (n : Int) := by omega
    unfold maxLen at hG2
    clear hrun hbelow hown hi hz0 hz1 hz2 hGG h0
    go_enter Tryz.func88, Tryz.ntmps88
    go_wp2_with (at_builtin; ((with_reducible refine Lib.wpList_append_run _ rfl _ _ _ _ rfl _ _ ?_ ?_ _ _ R.out ?_); (next => rfl); (next => rfl)))
    go_ret
    exact ⟨_, rfl, HO.out, HB.out⟩
/-- A row of pairs, as one of several. -/
structure PPart where
  A : Option Addr
  n : Nat
  c : Nat
  l : List (Disk.Bs × Disk.Bs)
structure PPok (w : World) (p : PPart) : Prop where
  len : p.l.length = p.n
  nil : p.A = none → p.c = 0
  row : PRow w p.A p.l
theorem PPok.below {w w' : World} {p : PPart} (h : PPok w p) (b : Below w.heap.size w w') : PPok w' p := ⟨h.len, h.nil, h.row.below b⟩
def sizes (ps : List PPart) : Nat := (ps.map (·.n)).sum
theorem sizes_snoc (ps : List PPart) (k : Nat) (h : k < ps.length) : sizes (ps.take (k + 1)) = sizes (ps.take k) + ps[k].n := by
  unfold sizes
  rw [List.take_succ_eq_append_getElem h, List.map_append, List.sum_append]
  simp
theorem sizes_le (ps : List PPart) (k : Nat) : sizes (ps.take k) ≤ sizes ps := by
  unfold sizes
  conv => rhs; rw [← List.take_append_drop k ps]
  rw [List.map_append, List.sum_append]
  omega
theorem sizes_flat {w : World} (ps : List PPart) (h : ∀ p ∈ ps, PPok w p) : (ps.flatMap (·.l)).length = sizes ps := by
  unfold sizes
  rw [List.length_flatMap]
  congr 1
  exact List.map_congr_left (fun p hp => (h p hp).len)
set_option maxRecDepth 100000 in
set_option maxHeartbeats 2000000 in
theorem concat_any {A : Option Addr} {N C : Nat} (ps : List PPart) (w : World) (hN : ps.length = N) (hN2 : N ≤ 1000) (hrow : ps ≠ [] → ∃ b off, A = some ⟨b, off, none⟩ ∧ b < w.heap.size ∧ ∀ k (h : k < ps.length), w.cell? ⟨b, off + k, none⟩ = some (.slice ps[k].A ps[k].n ps[k].c)) (ok : ∀ p ∈ ps, PPok w p) (tot : sizes ps ≤ 100000) :
    Calls Tryz.prog 54 #[.slice A N C] w (fun e w' => ∃ v, e = .returned v ∧ OwnP w' w.heap.size v (ps.flatMap (·.l)) ∧ Below w.heap.size w w') := by
  have HN := Lib.hid hN
  have HR := Lib.hid hrow
  have HK := Lib.hid ok
  have HT := Lib.hid tot
  clear hN hrow ok tot
  go_enter Tryz.func54, Tryz.ntmps54
  go_wp2_with fail
  go_loopw [3, 11] (fun s i wr => ∃ k : Nat, s = .int .i64 ((sizes (ps.take k) : Nat) : Int) ∧ i = .int .i64 (k : Int) ∧ k ≤ N ∧ w = wr) (fun _ i _ => N - (intOf i).toNat)
  case atStart => exact ⟨0, rfl, rfl, Nat.zero_le _, rfl⟩
  case round =>
    obtain ⟨k, rfl, rfl, hk, rfl⟩ := hrel
    have hs1 := sizes_le ps k
    have hs2 := sizes_le ps (k + 1)
    by_cases hlt : k < N
    · have hkl : k < ps.length := by rw [HN.out]; exact hlt
      have hsn := sizes_snoc ps k hkl
      obtain ⟨b, off, rfl, hb, hc⟩ := HR.out (by intro e; rw [e] at hkl; simp at hkl)
      have q := hc k hkl
      have HTT := HT.out
      obtain ⟨s0, hs0⟩ : ∃ s0, sizes (ps.take k) = s0 := ⟨_, rfl⟩
      obtain ⟨s3, hs3⟩ : ∃ s3, sizes (ps.take (k + 1)) = s3 := ⟨_, rfl⟩
      obtain ⟨m, hm⟩ : ∃ m, ps[k].n = m := ⟨_, rfl⟩
      rw [hs0, hs3, hm] at hsn
      rw [hs0] at hs1
      rw [hs3] at hs2
      rw [hm] at q
      have HS3 := Lib.hid hs3
      have hw1 : IntKind.i64.wrap ((s0 : Int) + (m : Int)) = (s3 : Int) := by rw [IntWalk.i64_in _ (by omega)]; omega
      have hw2 : IntKind.i64.wrap ((k : Int) + 1) = (k : Int) + 1 := IntWalk.i64_in _ (by omega)
      have hneg : ¬ ((s3 : Int) < 0) := by omega
      rw [hs0]
      clear hs0 hs3 hsn hs1 hs2 hc HTT hm
      go_wp2_with fail
      go_roundw
      case rel => exact ⟨k + 1, by rw [HS3.out], by go_num, by omega, trivial⟩
      case measure => simp [intOf]; omega
    obtain rfl : k = N := by omega
    have HTT := HT.out
    have hall : ps.take k = ps := by rw [← HN.out]; exact List.take_length
    rw [hall]
    obtain ⟨s0, hs0⟩ : ∃ s0, sizes ps = s0 := ⟨_, rfl⟩
    rw [hs0] at HTT ⊢
    have cG := grow_any s0 (by omega) w
    clear hs0 hs1 hs2 hall
    go_wp2_with fail
    refine cG.mono ?_
    rintro e w2 ⟨v, rfl, hO, b2⟩
    have HO := Lib.hid hO
    have B2 := Lib.hid b2
    clear hO b2 cG
    go_wp2_with fail
    go_loopw [6, 27] (fun v i wr => ∃ j : Nat, i = .int .i64 (j : Int) ∧ j ≤ k ∧ Hid (OwnP wr w.heap.size v ((ps.take j).flatMap (·.l))) ∧ Hid (Below w.heap.size w wr)) (fun _ i _ => k - (intOf i).toNat)
    case atStart => exact ⟨0, rfl, Nat.zero_le _, HO, B2⟩
    case round =>
      obtain ⟨j, rfl, hj, OW, BW⟩ := hrel
      clear HO B2
      by_cases hlj : j < k
      · have hjl : j < ps.length := by rw [HN.out]; exact hlj
        obtain ⟨b, off, rfl, hb, hc⟩ := HR.out (by intro e; rw [e] at hjl; simp at hjl)
        have q : wr.cell? ⟨b, off + j, none⟩ = some (.slice ps[j].A ps[j].n ps[j].c) := (BW.out.cell (p := ⟨b, off + j, none⟩) hb).trans (hc j hjl)
        have pk := (HK.out ps[j] (List.getElem_mem hjl)).below BW.out
        have h1 : ((ps.take j).flatMap (·.l)).length = sizes (ps.take j) := sizes_flat _ (fun p hp => HK.out p (List.mem_of_mem_take hp))
        have h2 := sizes_le ps (j + 1)
        rw [sizes_snoc ps j hjl] at h2
        have h3 := HT.out
        obtain ⟨v', W', hrun, ho, hg, hge⟩ := append_pairs wr w.heap.size u6 _ OW.out ps[j].A ps[j].n ps[j].c ps[j].l pk.len pk.nil pk.row (by rw [h1]; omega) BW.out.size
        have HO2 := Lib.hid (show OwnP W' w.heap.size v' ((ps.take (j + 1)).flatMap (·.l)) from by rw [List.take_succ_eq_append_getElem hjl, List.flatMap_append]; simpa using ho)
        have B3 := Lib.hid (BW.out.grown hg BW.out.size hge)
        have R := Lib.hid hrun
        have hw2 : IntKind.i64.wrap ((j : Int) + 1) = (j : Int) + 1 := IntWalk.i64_in _ (by omega)
        obtain ⟨PV, hPV⟩ : ∃ PV, Value.slice ps[j].A ps[j].n ps[j].c = PV := ⟨_, rfl⟩
        rw [hPV] at q R
        clear hrun ho hg hge hc pk h1 h2 h3 hPV OW BW
        go_wp2_with (at_builtin; ((with_reducible refine Lib.wpList_append_run _ rfl _ _ _ _ rfl _ _ ?_ ?_ _ _ R.out ?_); (next => rfl); (next => rfl)))
        go_roundw
        case rel => exact ⟨j + 1, by go_num, by omega, HO2, B3⟩
        case measure => simp [intOf]; omega
      obtain rfl : j = k := by omega
      have hall : ps.take j = ps := by rw [← HN.out]; exact List.take_length
      rw [hall] at OW
      clear hall
      go_wp2_with fail
      go_ret
      exact ⟨_, rfl, OW.out, BW.out⟩
end Go.Proofs.YtboaamaneeodfaaGreat.Tree
namespace Go.Proofs.YtboaamaneeodfaaGreat.Tree
open Go.RowKit Gen
open Page (Bs less Rises Lt)

theorem less_trans : ∀ {x y z : Bs}, less x y = true → less y z = true → less x z = true
  | [], [], _, h, _ => by simp [less, Op.bytesLess] at h
  | [], _ :: _, [], _, h => by simp [less, Op.bytesLess] at h
  | [], _ :: _, _ :: _, _, _ => by simp [less, Op.bytesLess]
  | _ :: _, [], _, h, _ => by simp [less, Op.bytesLess] at h
  | _ :: _, _ :: _, [], _, h => by simp [less, Op.bytesLess] at h
  | a :: x, b :: y, c :: z, h, k => by
    have ih := @less_trans x y z
    unfold less at h k ih ⊢
    simp only [Op.bytesLess, Bool.or_eq_true, Bool.and_eq_true, decide_eq_true_eq, beq_iff_eq, UInt8.lt_iff_toNat_lt] at h k ⊢
    rcases h with h | ⟨rfl, h⟩
    · rcases k with k | ⟨rfl, k⟩
      · exact .inl (by omega)
      · exact .inl h
    · rcases k with k | ⟨rfl, k⟩
      · exact .inl k
      · exact .inr ⟨rfl, ih h k⟩
theorem less_irrefl : ∀ (x : Bs), less x x = false
  | [] => rfl
  | a :: x => by
    have ih := less_irrefl x
    unfold less at ih ⊢
    simp [Op.bytesLess, ih]
theorem less_tri : ∀ {x y : Bs}, less x y = false → x ≠ y → less y x = true
  | [], [], _, h => absurd rfl h
  | [], _ :: _, h, _ => by simp [less, Op.bytesLess] at h
  | _ :: _, [], _, _ => by simp [less, Op.bytesLess]
  | a :: x, b :: y, h, hn => by
    have ih := @less_tri x y
    unfold less at h ih ⊢
    simp only [Op.bytesLess, Bool.or_eq_false_iff, Bool.and_eq_false_iff, decide_eq_false_iff_not, UInt8.lt_iff_toNat_lt] at h
    simp only [Op.bytesLess, Bool.or_eq_true, Bool.and_eq_true, decide_eq_true_eq, beq_iff_eq, UInt8.lt_iff_toNat_lt]
    by_cases e : a = b
    · subst e
      exact .inr ⟨rfl, ih (h.2.elim (fun e => by simp at e) id) (fun e => hn (by rw [e]))⟩
    · have : a.toNat ≠ b.toNat := fun g => e (UInt8.toNat_inj.1 g)
      exact .inl (by omega)
theorem less_asymm {x y : Bs} (h : less x y = true) : less y x = false := by
  rcases e : less y x with _ | _
  · rfl
  · have := less_trans h e
    rw [less_irrefl] at this; cases this
theorem rises_cons {a : Bs} {r : List Bs} (h : Rises Lt (a :: r)) : Rises Lt r ∧ ∀ t (ht : t < r.length), less a r[t] = true := by
  have h1 : Rises Lt r := fun j hj => h (j + 1) (by simpa using hj)
  refine ⟨h1, fun t => ?_⟩
  induction t with
  | zero => exact fun ht => h 0 (by simpa using ht)
  | succ t ih => exact fun ht => less_trans (ih (by omega)) (h1 t ht)
theorem rises_tail {a : Bs} {r : List Bs} (h1 : Rises Lt r) (h2 : ∀ b ∈ r, less a b = true) : Rises Lt (a :: r) := fun j hj => by
  rcases j with _ | j
  · exact h2 _ (List.getElem_mem _)
  · exact h1 j (by simpa using hj)
/-- Where a key belongs: how many are before it. -/
def posOf (l : List Bs) (key : Bs) : Nat := (l.takeWhile (fun k => less k key)).length
theorem posOf_cons (a : Bs) (r : List Bs) (key : Bs) : posOf (a :: r) key = if less a key = true then posOf r key + 1 else 0 := by
  unfold posOf
  rw [List.takeWhile_cons]
  split <;> simp
theorem pos_le : ∀ (l : List Bs) (key : Bs), posOf l key ≤ l.length
  | [], _ => Nat.le_refl _
  | a :: r, key => by
    have := pos_le r key
    rw [posOf_cons, List.length_cons]
    split <;> omega
theorem pos_iff : ∀ {l : List Bs} (_ : Rises Lt l) (key : Bs) (t : Nat) (ht : t < l.length), less l[t] key = true ↔ t < posOf l key
  | [], _, _, _, ht => absurd ht (by simp)
  | a :: r, h, key, t, ht => by
    obtain ⟨h1, h2⟩ := rises_cons h
    rw [posOf_cons]
    rcases t with _ | t
    · by_cases e : less a key = true
      · rw [if_pos e]; simp [e]
      · rw [if_neg e]; simp [e]
    · have ht' : t < r.length := by simpa using ht
      have ih := pos_iff h1 key t ht'
      show less r[t] key = true ↔ _
      by_cases e : less a key = true
      · rw [if_pos e, ih]; omega
      · rw [if_neg e]
        exact ⟨fun g => absurd (less_trans (h2 t ht') g) e, fun g => absurd g (by omega)⟩
/-- Is it there? -/
def hasOf (l : List Bs) (key : Bs) : Bool := l[posOf l key]? == some key
theorem has_iff (l : List Bs) (key : Bs) : hasOf l key = true ↔ ∃ h : posOf l key < l.length, l[posOf l key] = key := by
  unfold hasOf
  rw [beq_iff_eq]
  constructor
  · intro h
    obtain ⟨h1, h2⟩ := List.getElem?_eq_some_iff.1 h
    exact ⟨h1, h2⟩
  · rintro ⟨h1, h2⟩
    rw [List.getElem?_eq_getElem h1, h2]
theorem has_mem {l : List Bs} (h : Rises Lt l) (key : Bs) : hasOf l key = true ↔ key ∈ l := by
  rw [has_iff]
  constructor
  · rintro ⟨h1, h2⟩
    rw [← h2]; exact List.getElem_mem _
  · intro hm
    obtain ⟨t, ht, e⟩ := List.getElem_of_mem hm
    have h1 := pos_iff h key t ht
    rw [e, less_irrefl] at h1
    have hge : posOf l key ≤ t := by
      rcases Nat.lt_or_ge t (posOf l key) with g | g
      · cases h1.2 g
      · exact g
    have hp : posOf l key < l.length := by omega
    refine ⟨hp, ?_⟩
    rcases Nat.eq_or_lt_of_le hge with g | g
    · have : l[posOf l key] = l[t] := by congr 1
      rw [this, e]
    · exfalso
      have h2 := pos_iff h key _ hp
      have h3 : less l[posOf l key] l[t] = true := by
        have : ∀ {l : List Bs}, Rises Lt l → ∀ i j (hi : i < l.length) (hj : j < l.length), i < j → less l[i] l[j] = true := by
          intro l
          induction l with
          | nil => exact fun _ i j hi => absurd hi (by simp)
          | cons a r ih =>
            intro h i j hi hj hij
            obtain ⟨g1, g2⟩ := rises_cons h
            rcases i with _ | i
            · rcases j with _ | j
              · omega
              · exact g2 j (by simpa using hj)
            · rcases j with _ | j
              · omega
              · exact ih g1 i j (by simpa using hi) (by simpa using hj) (by omega)
        exact this h _ _ hp ht g
      rw [e] at h3
      have := h2.1 h3
      omega
/-- Which of a branch's kids a key belongs to. -/
def sideOf (keys : List Bs) (key : Bs) : Nat := if hasOf keys key = true then posOf keys key + 1 else posOf keys key
theorem side_le (keys : List Bs) (key : Bs) : sideOf keys key ≤ keys.length := by
  unfold sideOf
  split
  · rename_i h
    obtain ⟨h, -⟩ := (has_iff keys key).1 h
    omega
  · exact pos_le keys key
end Go.Proofs.YtboaamaneeodfaaGreat.Tree
namespace Go.Proofs.YtboaamaneeodfaaGreat.Tree
open Go.RowKit Gen
open Disk (St Dev Mod ptr)
open Page (Pg Lay PgOk PgRows pgC pgV Enc IsDec BytesAt strV)
open Pool (Po NAt PoAt La poC poV numV At takeP giveP backP Fresh PoolOk OwnI chunks layAll May)
open Store

theorem readE_or (d : St) (n : Int) : d.readE n = 0 ∨ d.readE n = 40 ∨ d.readE n = 41 := by
  unfold St.readE
  repeat' split
  all_goals simp
/-- What is told where no page of a kind is. -/
def tellE (d : St) (n : Int) : Int := if d.readE n = 40 then 40 else 81
theorem tellE_ne (d : St) (n : Int) : tellE d n ≠ 0 := by unfold tellE; split <;> decide
/-- What the tree's page answers. -/
def PageT (d : St) (n kd : Int) (w : World) (e : Ending) (w' : World) : Prop := Below w.heap.size w w' ∧
  ((∃ p y, e = .returned (.tuple #[pgV p y, numV 0]) ∧ PgRows w' p y ∧ PgOk p ∧ d.readE n = 0 ∧ IsDec n (d.readB n) p ∧ p.kind = kd ∧ Page.New p y w.heap.size) ∨
   (e = .returned (.tuple #[zeroPg, numV (tellE d n)]) ∧ (d.readE n = 0 → ∀ p, IsDec n (d.readB n) p → p.kind ≠ kd)))
set_option maxRecDepth 100000 in
set_option maxHeartbeats 8000000 in
theorem tpage_any {w : World} {B : Blk} {d : St} {t : T} {a : Lys} (h : Sto w B d t a) {tb : Nat} {r dp c : Int} (hT : At w tb (trC B.ss r dp c)) (n kd : Int) (hk4 : kd ≠ 4) :
    Calls Tryz.prog 89 #[ptr tb, .int .i64 n, .int .i64 kd] w (PageT d n kd w) := by
  have b1 := Pool.below_box w (.cells pgZ 82)
  have AZ := Lib.hid (at_new w pgZ 82)
  have S1 := h.below b1
  have hT1 := hT.below b1 hT.1
  have B1 := Lib.hid b1
  obtain ⟨W1, hW1⟩ : ∃ W1, w.alloc (.cells pgZ 82) = W1 := ⟨_, rfl⟩
  rw [hW1] at AZ S1 B1 hT1
  have cP := page_any S1 n
  have c0 : W1.cell? ⟨tb, 0, none⟩ = some (ptr B.ss) := hT1.2.2 0 _ rfl
  unfold pgZ at hW1
  have HK4 := Lib.hid hk4
  clear b1 h S1 hT hT1 hk4
  go_enter Tryz.func89, Tryz.ntmps89
  go_wp2_with fail
  refine cP.mono ?_
  rintro e w1 ⟨b2, hd⟩
  have B2 := Lib.hid (B1.out.trans (b2.mono B1.out.size))
  have AZ2 := Lib.hid (AZ.out.below b2 AZ.out.1)
  have SZ := Lib.hid AZ.out.1
  clear b2 cP hW1 c0 AZ B1
  rcases hd with ⟨he, rfl⟩ | ⟨he, ⟨p, y, rfl, hr, hok, hq, hk, hw⟩ | ⟨rfl, hno⟩⟩
  · have HE := Lib.hid he
    by_cases h41 : d.readE n = 41
    · have TE := Lib.hid (show tellE d n = 81 from by unfold tellE; rw [if_neg (by omega)])
      rw [h41]
      have P1 := Lib.hid (put_page w1 { kind := 0 } {})
      obtain ⟨pv, hpv⟩ : ∃ pv, zeroPg = pv := ⟨_, rfl⟩
      rw [show pgV { kind := 0 } {} = pv from hpv] at P1
      rw [hpv]
      clear hpv
      have b3 := Pool.below_box w1 (.cells (pgC { kind := 0 } {}) 82)
      have AZ3 := AZ2.out.below b3 AZ2.out.1
      have ck : (w1.alloc (.cells (pgC { kind := 0 } {}) 82)).cell? ⟨w1.heap.size, 0, none⟩ = some (.int .i64 (0)) := (at_new w1 (pgC { kind := 0 } {}) 82).2.2 0 _ rfl
      have R := Lib.hid (show (Instr.storeAt 82 (.pointer (some ⟨w.heap.size, 0, none⟩)) (.agg #[.int .i64 0, .slice none 0 0, .slice none 0 0, .slice none 0 0, .slice none 0 0, .int .i64 0, .int .u64 0, .int .i64 0, .int .i64 0, .int .i64 0, .int .i64 0])).run Tryz.prog (w1.alloc (.cells (pgC { kind := 0 } {}) 82)) = .ok () ((w1.alloc (.cells (pgC { kind := 0 } {}) 82)).setCells w.heap.size 0 (pgC { kind := 0 } {}).toList) from store_page (o := 0) AZ3 { kind := 0 } {} (by simp))
      have A4 := show At _ w.heap.size (pgC { kind := 0 } {}) from at_over AZ3 (vs := (pgC { kind := 0 } {}).toList) (o := 0) (by simp) rfl
      have L := Lib.hid (var_page (o := 0) A4 { kind := 0 } {} rfl)
      have B4 := Lib.hid ((B2.out.trans (b3.mono B2.out.size)).grown (grown_puts (pgC { kind := 0 } {}).toList 0 _ w.heap.size) (Nat.le_trans B2.out.size b3.size) (fun k hk => by cases hk; exact Nat.le_refl _))
      clear he h41 b3 AZ3 A4 AZ2 B2
      generalize (w1.alloc (.cells (pgC { kind := 0 } {}) 82)).setCells w.heap.size 0 (pgC { kind := 0 } {}).toList = W9 at *
      go_wp2_with (first | ((with_reducible refine Disk.wpList_store_eq rfl 82 (.tmp 8) (.tmp 17) rfl _ _ ?_ ?_ P1.out ?_); (next => rfl); (next => rfl)) | ((with_reducible refine Disk.wpList_store_eq rfl 82 (.tmp 6) (.tmp 35) rfl _ _ ?_ ?_ R.out ?_); (next => rfl); (next => rfl)))
      refine bodyPost_ret (results_ct rfl rfl L.out) rfl ?_
      exact ⟨B4.out, .inr ⟨by rw [TE.out]; rfl, fun e => absurd e HE.out⟩⟩
    · have h40 : d.readE n = 40 := by rcases readE_or d n with h | h | h <;> omega
      have TE := Lib.hid (show tellE d n = 40 from by unfold tellE; rw [if_pos h40])
      rw [h40]
      have P1 := Lib.hid (put_page w1 { kind := 0 } {})
      have b3 := Pool.below_box w1 (.cells (pgC { kind := 0 } {}) 82)
      have AZ3 := AZ2.out.below b3 AZ2.out.1
      have ck : (w1.alloc (.cells (pgC { kind := 0 } {}) 82)).cell? ⟨w1.heap.size, 0, none⟩ = some (.int .i64 (0)) := (at_new w1 (pgC { kind := 0 } {}) 82).2.2 0 _ rfl
      have LD := Lib.hid (load_page (o := 0) (at_new w1 (pgC { kind := 0 } {}) 82) { kind := 0 } {} rfl)
      have R := Lib.hid (store_page (o := 0) AZ3 { kind := 0 } {} (by simp))
      have A4 := show At _ w.heap.size (pgC { kind := 0 } {}) from at_over AZ3 (vs := (pgC { kind := 0 } {}).toList) (o := 0) (by simp) rfl
      have L := Lib.hid (var_page (o := 0) A4 { kind := 0 } {} rfl)
      have B4 := Lib.hid ((B2.out.trans (b3.mono B2.out.size)).grown (grown_puts (pgC { kind := 0 } {}).toList 0 _ w.heap.size) (Nat.le_trans B2.out.size b3.size) (fun k hk => by cases hk; exact Nat.le_refl _))
      obtain ⟨pv, hpv⟩ : ∃ pv, pgV { kind := 0 } {} = pv := ⟨_, rfl⟩
      rw [hpv] at P1 LD R L
      rw [show zeroPg = pv from hpv]
      have PV := Lib.hid hpv
      clear he h41 h40 b3 AZ3 A4 AZ2 B2 hpv
      generalize (w1.alloc (.cells (pgC { kind := 0 } {}) 82)).setCells w.heap.size 0 (pgC { kind := 0 } {}).toList = W9 at *
      go_wp2_with (first | ((with_reducible refine Disk.wpList_store_eq rfl 82 (.tmp 8) (.tmp 17) rfl _ _ ?_ ?_ P1.out ?_); (next => rfl); (next => rfl)) | ((with_reducible refine Disk.wpList_load_eq rfl 82 (.tmp 8) rfl _ ?_ LD.out ?_); (next => rfl)) | ((with_reducible refine Disk.wpList_store_eq rfl 82 (.tmp 6) (.tmp 36) rfl _ _ ?_ ?_ R.out ?_); (next => rfl); (next => rfl)))
      refine bodyPost_ret (results_ct rfl rfl L.out) rfl ?_
      exact ⟨B4.out, .inr ⟨by rw [TE.out, show zeroPg = pv from PV.out]; rfl, fun e => absurd e HE.out⟩⟩
  · have HE := Lib.hid he
    have HQ := Lib.hid hq
    by_cases hkd : p.kind = kd
    · have d2 : (p.kind != kd) = false := by simp [hkd]
      have HKD := Lib.hid hkd
      have P1 := Lib.hid (put_page w1 p y)
      have b3 := Pool.below_box w1 (.cells (pgC p y) 82)
      have AZ3 := AZ2.out.below b3 AZ2.out.1
      have ck : (w1.alloc (.cells (pgC p y) 82)).cell? ⟨w1.heap.size, 0, none⟩ = some (.int .i64 (p.kind)) := (at_new w1 (pgC p y) 82).2.2 0 _ rfl
      have LD := Lib.hid (load_page (o := 0) (at_new w1 (pgC p y) 82) p y rfl)
      have R := Lib.hid (store_page (o := 0) AZ3 p y (by simp))
      have A4 := show At _ w.heap.size (pgC p y) from at_over AZ3 (vs := (pgC p y).toList) (o := 0) (by simp) rfl
      have L := Lib.hid (var_page (o := 0) A4 p y rfl)
      have B4 := Lib.hid ((B2.out.trans (b3.mono B2.out.size)).grown (grown_puts (pgC p y).toList 0 _ w.heap.size) (Nat.le_trans B2.out.size b3.size) (fun k hk => by cases hk; exact Nat.le_refl _))
      have FIN := Lib.hid (show PgRows ((w1.alloc (.cells (pgC p y) 82)).setCells w.heap.size 0 (pgC p y).toList) p y ∧ PgOk p ∧ Page.New p y w.heap.size from
        ⟨(hr.below b3).apart (grown_puts (pgC p y).toList 0 _ w.heap.size) hw SZ.out, hok, hw.mono (Nat.le_of_lt SZ.out)⟩)
      obtain ⟨kz, hkz⟩ : ∃ kz, p.kind = kz := ⟨_, rfl⟩
      rw [hkz] at ck d2
      obtain ⟨pv, hpv⟩ : ∃ pv, pgV p y = pv := ⟨_, rfl⟩
      rw [hpv] at P1 LD R L
      rw [hpv]
      have PV := Lib.hid hpv
      clear he hr hok hq hk hw hkd hkz b3 AZ3 A4 AZ2 B2 hpv
      generalize (w1.alloc (.cells (pgC p y) 82)).setCells w.heap.size 0 (pgC p y).toList = W9 at *
      generalize w1.alloc (.cells (pgC p y) 82) = W8 at *
      go_wp2_with (first | ((with_reducible refine Disk.wpList_store_eq rfl 82 (.tmp 8) (.tmp 17) rfl _ _ ?_ ?_ P1.out ?_); (next => rfl); (next => rfl)) | ((with_reducible refine Disk.wpList_load_eq rfl 82 (.tmp 8) rfl _ ?_ LD.out ?_); (next => rfl)) | ((with_reducible refine Disk.wpList_store_eq rfl 82 (.tmp 6) (.tmp 36) rfl _ _ ?_ ?_ R.out ?_); (next => rfl); (next => rfl)))
      refine bodyPost_ret (results_ct rfl rfl L.out) rfl ?_
      exact ⟨B4.out, .inl ⟨p, y, by rw [PV.out]; rfl, FIN.out.1, FIN.out.2.1, HE.out, HQ.out, HKD.out, FIN.out.2.2⟩⟩
    · have d2 : (p.kind != kd) = true := by simp [hkd]
      have TE := Lib.hid (show tellE d n = 81 from by unfold tellE; rw [if_neg (by omega)])
      have FIN := Lib.hid (show ∀ q, IsDec n (d.readB n) q → q.kind ≠ kd from fun q hq' => by
        obtain rfl := Page.dec_fun hq hq'
        exact hkd)
      have P1 := Lib.hid (put_page w1 p y)
      have b3 := Pool.below_box w1 (.cells (pgC p y) 82)
      have AZ3 := AZ2.out.below b3 AZ2.out.1
      have ck : (w1.alloc (.cells (pgC p y) 82)).cell? ⟨w1.heap.size, 0, none⟩ = some (.int .i64 (p.kind)) := (at_new w1 (pgC p y) 82).2.2 0 _ rfl
      have R := Lib.hid (show (Instr.storeAt 82 (.pointer (some ⟨w.heap.size, 0, none⟩)) (.agg #[.int .i64 0, .slice none 0 0, .slice none 0 0, .slice none 0 0, .slice none 0 0, .int .i64 0, .int .u64 0, .int .i64 0, .int .i64 0, .int .i64 0, .int .i64 0])).run Tryz.prog (w1.alloc (.cells (pgC p y) 82)) = .ok () ((w1.alloc (.cells (pgC p y) 82)).setCells w.heap.size 0 (pgC { kind := 0 } {}).toList) from store_page (o := 0) AZ3 { kind := 0 } {} (by simp))
      have A4 := show At _ w.heap.size (pgC { kind := 0 } {}) from at_over AZ3 (vs := (pgC { kind := 0 } {}).toList) (o := 0) (by simp) rfl
      have L := Lib.hid (var_page (o := 0) A4 { kind := 0 } {} rfl)
      have B4 := Lib.hid ((B2.out.trans (b3.mono B2.out.size)).grown (grown_puts (pgC { kind := 0 } {}).toList 0 _ w.heap.size) (Nat.le_trans B2.out.size b3.size) (fun k hk => by cases hk; exact Nat.le_refl _))
      obtain ⟨pv, hpv⟩ : ∃ pv, pgV p y = pv := ⟨_, rfl⟩
      obtain ⟨kz, hkz⟩ : ∃ kz, p.kind = kz := ⟨_, rfl⟩
      rw [hpv] at P1 ⊢
      rw [hkz] at ck d2
      clear he hr hok hq hk hw hkd hpv hkz HQ b3 AZ3 A4 AZ2 B2
      generalize (w1.alloc (.cells (pgC p y) 82)).setCells w.heap.size 0 (pgC { kind := 0 } {}).toList = W9 at *
      generalize w1.alloc (.cells (pgC p y) 82) = W8 at *
      go_wp2_with (first | ((with_reducible refine Disk.wpList_store_eq rfl 82 (.tmp 8) (.tmp 17) rfl _ _ ?_ ?_ P1.out ?_); (next => rfl); (next => rfl)) | ((with_reducible refine Disk.wpList_store_eq rfl 82 (.tmp 6) (.tmp 35) rfl _ _ ?_ ?_ R.out ?_); (next => rfl); (next => rfl)))
      refine bodyPost_ret (results_ct rfl rfl L.out) rfl ?_
      exact ⟨B4.out, .inr ⟨by rw [TE.out]; rfl, fun _ => FIN.out⟩⟩
  · have HE := Lib.hid he
    have TE := Lib.hid (show tellE d n = 81 from by unfold tellE; rw [if_neg (by omega)])
    have FIN := Lib.hid (show ∀ q, IsDec n (d.readB n) q → q.kind ≠ kd from fun q hq' e => HK4.out (by rw [← e]; exact hno q hq'))
    have P1 := Lib.hid (put_page w1 { kind := 0 } {})
    obtain ⟨pv, hpv⟩ : ∃ pv, zeroPg = pv := ⟨_, rfl⟩
    rw [show pgV { kind := 0 } {} = pv from hpv] at P1
    rw [hpv]
    clear hpv
    have b3 := Pool.below_box w1 (.cells (pgC { kind := 0 } {}) 82)
    have AZ3 := AZ2.out.below b3 AZ2.out.1
    have ck : (w1.alloc (.cells (pgC { kind := 0 } {}) 82)).cell? ⟨w1.heap.size, 0, none⟩ = some (.int .i64 (0)) := (at_new w1 (pgC { kind := 0 } {}) 82).2.2 0 _ rfl
    have R := Lib.hid (show (Instr.storeAt 82 (.pointer (some ⟨w.heap.size, 0, none⟩)) (.agg #[.int .i64 0, .slice none 0 0, .slice none 0 0, .slice none 0 0, .slice none 0 0, .int .i64 0, .int .u64 0, .int .i64 0, .int .i64 0, .int .i64 0, .int .i64 0])).run Tryz.prog (w1.alloc (.cells (pgC { kind := 0 } {}) 82)) = .ok () ((w1.alloc (.cells (pgC { kind := 0 } {}) 82)).setCells w.heap.size 0 (pgC { kind := 0 } {}).toList) from store_page (o := 0) AZ3 { kind := 0 } {} (by simp))
    have A4 := show At _ w.heap.size (pgC { kind := 0 } {}) from at_over AZ3 (vs := (pgC { kind := 0 } {}).toList) (o := 0) (by simp) rfl
    have L := Lib.hid (var_page (o := 0) A4 { kind := 0 } {} rfl)
    have B4 := Lib.hid ((B2.out.trans (b3.mono B2.out.size)).grown (grown_puts (pgC { kind := 0 } {}).toList 0 _ w.heap.size) (Nat.le_trans B2.out.size b3.size) (fun k hk => by cases hk; exact Nat.le_refl _))
    clear he hno b3 AZ3 A4 AZ2 B2
    generalize (w1.alloc (.cells (pgC { kind := 0 } {}) 82)).setCells w.heap.size 0 (pgC { kind := 0 } {}).toList = W9 at *
    go_wp2_with (first | ((with_reducible refine Disk.wpList_store_eq rfl 82 (.tmp 8) (.tmp 17) rfl _ _ ?_ ?_ P1.out ?_); (next => rfl); (next => rfl)) | ((with_reducible refine Disk.wpList_store_eq rfl 82 (.tmp 6) (.tmp 35) rfl _ _ ?_ ?_ R.out ?_); (next => rfl); (next => rfl)))
    refine bodyPost_ret (results_ct rfl rfl L.out) rfl ?_
    exact ⟨B4.out, .inr ⟨by rw [TE.out]; rfl, fun _ => FIN.out⟩⟩
end Go.Proofs.YtboaamaneeodfaaGreat.Tree
namespace Go.Proofs.YtboaamaneeodfaaGreat.Tree
open Go.RowKit Gen
open Disk (St Dev Mod ptr)
open Page (Pg Lay PgOk PgRows pgC pgV Enc IsDec BytesAt strV strB PRow less info_parts')
open Pool (Po NAt PoAt La poC poV numV At takeP giveP backP Fresh PoolOk OwnI chunks layAll May)
open Store

/-- A step: where its page lies, the page, which of its kids is the next one. -/
structure Stp where
  at_ : Int
  p : Pg
  y : Lay
  kid : Int
abbrev stC (s : Stp) : Array Value := #[.int .i64 s.at_, .int .i64 s.p.kind, .slice s.y.A1 s.p.pairs.length s.y.c1, .slice s.y.A2 s.p.keys.length s.y.c2, .slice s.y.A3 s.p.kids.length s.y.c3, .slice s.y.A4 s.p.pages.length s.y.c4, .int .i64 s.p.next, .int .u64 (s.p.epoch : Int), .int .i64 s.p.root, .int .i64 s.p.depth, .int .i64 s.p.count, .int .i64 s.p.high, .int .i64 s.kid]
abbrev flatS (l : List Stp) : List Value := l.flatMap fun s => (stC s).toList
def OwnS (w : World) (B : Nat) (v : Value) (l : List Stp) : Prop := w.ownsRow B 117 13 v l.length (flatS l)
theorem flatS_len : ∀ (l : List Stp), (flatS l).length = l.length * 13
  | [] => rfl
  | x :: l => by
    have := flatS_len l
    simp only [flatS, List.flatMap_cons, List.length_append, List.length_cons, List.length_nil] at this ⊢
    omega
theorem flatS_get : ∀ (l : List Stp) (j : Nat) (h : j < l.length) (i : Nat) (v : Value), (stC l[j]).toList[i]? = some v → (flatS l)[j * 13 + i]? = some v
  | [], _, h, _, _, _ => by simp at h
  | x :: l, 0, _, i, v, hv => by
    rw [Nat.zero_mul, Nat.zero_add]
    show ((stC x).toList ++ flatS l)[i]? = some v
    have hi : i < (stC x).toList.length := (List.getElem?_eq_some_iff.1 hv).1
    rw [List.getElem?_append_left hi]
    exact hv
  | x :: l, j + 1, h, i, v, hv => by
    have := flatS_get l j (by simpa using h) i v hv
    show ((stC x).toList ++ flatS l)[(j + 1) * 13 + i]? = some v
    rw [List.getElem?_append_right (by simp; omega)]
    rw [← this]
    congr 1
    simp
    omega
/-- Steps in a row. -/
def StRow (w : World) (A : Option Addr) (l : List Stp) : Prop := l ≠ [] → ∃ b off, A = some ⟨b, off, none⟩ ∧ b < w.heap.size ∧ ∀ j (h : j < l.length), w.rangeAt b (off + j * 13) (stC l[j]).toList
theorem StRow.below {w w' : World} {A : Option Addr} {l : List Stp} (h : StRow w A l) (b : Below w.heap.size w w') : StRow w' A l := fun hne => by
  obtain ⟨g, off, e, hlt, hc⟩ := h hne
  exact ⟨g, off, e, Nat.lt_of_lt_of_le hlt b.size, fun j hj => range_below (hc j hj) hlt b⟩
theorem OwnS.nil (w : World) (B : Nat) : OwnS w B (.slice none 0 0) [] := ⟨rfl, .inl ⟨rfl, rfl⟩⟩
theorem OwnS.row {w : World} {B : Nat} {v : Value} {l : List Stp} (h : OwnS w B v l) : ∃ A c, v = .slice A l.length c ∧ l.length ≤ c ∧ c ≤ maxLen ∧ StRow w A l ∧ ∀ a, A = some a → B ≤ a.block := by
  obtain ⟨hl, ⟨rfl, hn⟩ | ⟨g, cap, cur, rfl, hg, hh, hnc, hcm, _, ht⟩⟩ := h
  · exact ⟨none, 0, by rw [hn], by omega, Nat.zero_le _, (fun hne => absurd (List.eq_nil_of_length_eq_zero hn) hne), fun a h => by cases h⟩
  · refine ⟨some ⟨g, 0, none⟩, cap, rfl, hnc, hcm, fun _ => ⟨g, 0, rfl, ?_, fun j hj i u hu => ?_⟩, fun a h => by cases h; exact hg⟩
    · exact (Array.getElem?_eq_some_iff.1 hh).1
    · have h1 := flatS_get l j hj i u hu
      rw [Nat.zero_add, cell_of_row w g (j * 13 + i) cur _ _ hh, ← Array.getElem?_toList]
      have : j * 13 + i < (flatS l).length := (List.getElem?_eq_some_iff.1 h1).1
      rw [flatS_len] at this
      rw [← h1, ← ht, List.getElem?_take_of_lt this]
theorem OwnS.below {w w' : World} {B : Nat} {v : Value} {l : List Stp} (h : OwnS w B v l) (b : Below w.heap.size w w') : OwnS w' B v l := by
  obtain ⟨hl, h | ⟨g, cap, cur, hv, hg, hh, h4, h5, h6, h7⟩⟩ := h
  · exact ⟨hl, .inl h⟩
  · exact ⟨hl, .inr ⟨g, cap, cur, hv, hg, by rw [b.block g (Array.getElem?_eq_some_iff.1 hh).1]; exact hh, h4, h5, h6, h7⟩⟩
theorem step_info : (Tryz.prog.info? 117).map (fun i => (i.zero, i.size, i.bytes)) = some (some (.agg (stC ⟨0, { kind := 0 }, {}, 0⟩)), 13, 168) := by kernel_rfl
set_option maxRecDepth 100000 in
/-- One step more. -/
theorem append_step (W : World) (B : Nat) (v : Value) (l : List Stp) (h : OwnS W B v l) (s : Stp) (hn : l.length ≤ 1000) (hB : B ≤ W.heap.size) :
    ∃ v' W', (Builtin.append_ #[113, 113] 113 #[v, .slice (some ⟨W.heap.size, 0, none⟩) 1 1]).run Tryz.prog (W.alloc (.cells (stC s) 117)) = .ok v' W' ∧ OwnS W' B v' (l ++ [s]) ∧ W.grownBy W' v.ownBlock ∧ (∀ k, v.ownBlock = some k → B ≤ k) ∧ (v'.ownBlock = v.ownBlock ∨ v'.ownBlock = some (W.heap.size + 1)) := by
  obtain ⟨i0, hi, hz0, hz1, hz2⟩ := info_parts' step_info
  have h0 := h
  have hnew := heap_alloc_last W (.cells (stC s) 117)
  have hg0 : W.grownBy (W.alloc (.cells (stC s) 117)) v.ownBlock := World.grownBy_alloc W _ _
  obtain ⟨v', W', h1, h2, h3, _, h5⟩ := run_append_own_at (P := Tryz.prog) (W.alloc (.cells (stC s) 117)) B 113 113 117 i0 _ 13 168 Tryz.underlying113 hi hz0 hz1 hz2 rfl (by decide) v _ _ (World.ownsRow.alloc h _) ⟨W.heap.size, 0, none⟩ 1 1
    (stC s).toList rfl (fun j u hu => by
      have e : (⟨W.heap.size, 0, none⟩ : Addr).add j = ⟨W.heap.size, j, none⟩ := by unfold Addr.add; split <;> simp_all
      rw [e, cell_of_row _ _ j _ _ _ hnew]
      simpa using hu) (fun u hu => by
        simp only [List.mem_cons, List.not_mem_nil, or_false] at hu
        rcases hu with rfl | rfl | rfl | rfl | rfl | rfl | rfl | rfl | rfl | rfl | rfl | rfl | rfl <;> rfl) (by simp only [maxLen]; omega) (by omega) (by simp; omega)
  refine ⟨v', W', h1, ?_, hg0.trans h3, fun k hk => (World.ownsRow.lt h0 k hk).1, by rw [World.size_alloc] at h5; exact h5⟩
  unfold OwnS
  rw [List.length_append]
  simpa [flatS] using h2
end Go.Proofs.YtboaamaneeodfaaGreat.Tree
namespace Go.Proofs.YtboaamaneeodfaaGreat.Tree
open Go.RowKit Go.Shelf Gen
open Disk (St Dev Mod ptr)
open Page (Pg Lay PgOk PgRows pgC pgV)
open Pool (numV)
open Store
attribute [local go_sem] Oper.semAt_some

/-- What lay below n₁ lies as it lay, but for some blocks. -/
def KeepS (n₁ : Nat) (S : List Nat) (W W' : World) : Prop := W.heap.size ≤ W'.heap.size ∧ ∀ k, k < n₁ → k ∉ S → W'.heap[k]? = W.heap[k]?
theorem KeepS.refl (n₁ : Nat) (S : List Nat) (W : World) : KeepS n₁ S W W := ⟨Nat.le_refl _, fun _ _ _ => rfl⟩
theorem KeepS.trans {n₁ : Nat} {S : List Nat} {A B C : World} (h : KeepS n₁ S A B) (k : KeepS n₁ S B C) : KeepS n₁ S A C := ⟨Nat.le_trans h.1 k.1, fun j hj hne => (k.2 j hj hne).trans (h.2 j hj hne)⟩
theorem KeepS.of_below {n₁ : Nat} {S : List Nat} {W W' : World} (h : Below n₁ W W') : KeepS n₁ S W W' := ⟨h.size, fun k hk _ => h.block k hk⟩
theorem KeepS.of_mod {n₁ : Nat} {S : List Nat} {W W' : World} (h : Mod S W W') (hn : n₁ ≤ W.heap.size) : KeepS n₁ S W W' := ⟨h.size, fun k hk hne => h.block k (Nat.lt_of_lt_of_le hk hn) hne⟩
theorem KeepS.cell {n₁ : Nat} {S : List Nat} {W W' : World} (h : KeepS n₁ S W W') {p : Addr} (h1 : p.block < n₁) (h2 : p.block ∉ S) : W'.cell? p = W.cell? p := World.cell?_of_block (h.2 _ h1 h2)
theorem keepS_put {n₁ : Nat} {S : List Nat} {w2 : World} (hn : n₁ ≤ w2.heap.size) (W : World) (l : Nat) (o o' : Obj) (hl : w2.heap.size ≤ l) (_ : W.heap[l]? = some o) (_ : o.isCells = false) (_ : o.isWalk = false) : KeepS n₁ S W (W.putObj l o') :=
  ⟨by simp, fun k hk _ => World.putObj_heap_other (by omega)⟩
/-- The last one first. -/
theorem rev_take (xs : List Stp) (j : Nat) (h : j < xs.length) : (xs.take (j + 1)).reverse = xs[j] :: (xs.take j).reverse := by
  rw [List.take_succ_eq_append_getElem h, List.reverse_append]; rfl
set_option maxRecDepth 100000 in
set_option maxHeartbeats 8000000 in
theorem back1_in (F : Fence) (n : Nat) (hf : F.fn 139) (hro : F.round = none) (hn : 1 ≤ n) (l Bs : Nat) (S : List Nat) (A : Option Addr) (len cap : Nat) (xs : List Stp) (w1 : World) (hxl : xs.length = len) (h : StRow w1 A xs) (hA : xs ≠ [] → ∀ a, A = some a → a.block ∉ S)
    (hBs : Bs < w1.heap.size) (hBs2 : Bs ∉ S) (hlen : len ≤ 1000000) (_hcap : len ≤ cap) (J Jx : List { x : Nat × Stp // xs[x.1]? = some x.2 } → World → Prop)
    (hY : ∀ pre x W, J pre W → pre.length < len → YieldAt F (n - 1) Tryz.prog l #[.int .i64 ((x.1.1 : Nat) : Int), .agg (stC x.1.2)] W fun e W' =>
      (e = .returned (.bool true) ∧ J (pre ++ [x]) W' ∧ KeepS w1.heap.size S W W') ∨ (e = .returned (.bool false) ∧ Jx (pre ++ [x]) W'))
    (W : World) (hW : KeepS w1.heap.size S w1 W) (hc1 : W.cell? ⟨Bs, 0, none⟩ = some (.slice A len cap)) (h0 : J [] W) :
    CallsIn F n Tryz.prog 139 #[.func (.yield l) #[] #[], .pointer (some ⟨Bs, 0, none⟩)] W fun e W' => (∃ v, e = .returned v) ∧
      ((∃ ys, ys.map (·.1.2) = xs.reverse ∧ J ys W') ∨ (∃ pre, (∃ ss, pre.map (·.1.2) ++ ss = xs.reverse) ∧ Jx pre W')) := by
  refine callsIn_of_wp Tryz.func139 rfl hf ?_ hro
  simp only [Tryz.ntmps139, List.size_toArray, List.length_cons, List.length_nil, Nat.reduceAdd, Nat.reduceSub, Array.replicate_succ, Array.replicate_zero, List.push_toArray, List.append_toArray, List.nil_append, List.cons_append]
  have HH := Lib.hid h
  have HA := Lib.hid hA
  have HC1 := Lib.hid hc1
  have HXL := Lib.hid hxl
  have hw0 : IntKind.i64.wrap ((len : Int) - 1) = (len : Int) - 1 := IntWalk.i64_in _ (by omega)
  clear h hA hc1 hxl
  have c1 := HC1.out
  gi_wp2
  clear c1 hw0
  gi_loopw [3] (fun i wr => ∃ (z : Int) (q : Nat) (pre : List { x : Nat × Stp // xs[x.1]? = some x.2 }), i = .int .i64 z ∧ Hid (z = (q : Int) - 1) ∧ q ≤ len ∧ J pre wr ∧ KeepS w1.heap.size S W wr ∧ Hid (pre.map (·.1.2) ++ (xs.take q).reverse = xs.reverse))
    (fun i _ => (intOf i + 1).toNat)
  case atStart => exact ⟨(len : Int) - 1, len, [], rfl, Lib.hid rfl, Nat.le_refl _, h0, KeepS.refl _ _ _, Lib.hid (by rw [List.take_of_length_le (Nat.le_of_eq HXL.out)]; rfl)⟩
  case round =>
    obtain ⟨z, q, pre, rfl, hz, hq, hJs, hk, hQ⟩ := hrel
    have c1 := (hk.cell (p := ⟨Bs, 0, none⟩) hBs hBs2).trans HC1.out
    cases q with
    | zero =>
      obtain rfl : z = -1 := by have := hz.out; simpa using this
      have HE : Hid (pre.map (·.1.2) = xs.reverse) := Lib.hid (by
        have := hQ.out
        rwa [List.take_zero, List.reverse_nil, List.append_nil] at this)
      clear hQ hz
      gi_wp2
      go_end0
      exact ⟨⟨_, rfl⟩, .inl ⟨pre, HE.out, hJs⟩⟩
    | succ j =>
      obtain rfl : z = (j : Int) := by have := hz.out; omega
      have hj : j < xs.length := by have := HXL.out; omega
      have hjl : (j : Int) < (len : Int) := by omega
      obtain ⟨g, o, e0, hgl, hc⟩ := HH.out (fun e => by rw [e] at hj; simp at hj)
      have hgS : g ∉ S := HA.out (fun e => by rw [e] at hj; simp at hj) ⟨g, o, none⟩ e0
      have hcj := hc j hj
      have hcell : ∀ (i : Nat) (u : Value), (stC xs[j]).toList[i]? = some u → wr.cell? ⟨g, o + j * 13 + i, none⟩ = some u := fun i u hu => ((hW.trans hk).cell (p := ⟨g, o + j * 13 + i, none⟩) hgl hgS).trans (hcj i u hu)
      obtain ⟨x, hx, hxj⟩ : ∃ x : { x : Nat × Stp // xs[x.1]? = some x.2 }, x.1.2 = xs[j] ∧ x.1.1 = j := ⟨⟨(j, xs[j]), List.getElem?_eq_getElem hj⟩, rfl, rfl⟩
      rw [← hx] at hcell
      have HQ2 := Lib.hid (show (pre ++ [x]).map (·.1.2) ++ (xs.take j).reverse = xs.reverse from by
        rw [← hQ.out, rev_take xs j hj, List.map_append, List.append_assoc, List.map_singleton, hx]; rfl)
      have hpl : pre.length < len := by
        have := congrArg List.length hQ.out
        rw [List.length_append, List.length_map, List.length_reverse, List.length_reverse, List.length_take] at this
        have := HXL.out
        omega
      obtain ⟨fn, tmps, assign, body, hy, hR⟩ := hY pre x wr hJs hpl
      rw [hxj] at hy
      have k0 := hcell 0 _ rfl
      have k1 := hcell 1 _ rfl
      have k2 := hcell 2 _ rfl
      have k3 := hcell 3 _ rfl
      have k4 := hcell 4 _ rfl
      have k5 := hcell 5 _ rfl
      have k6 := hcell 6 _ rfl
      have k7 := hcell 7 _ rfl
      have k8 := hcell 8 _ rfl
      have k9 := hcell 9 _ rfl
      have k10 := hcell 10 _ rfl
      have k11 := hcell 11 _ rfl
      have k12 := hcell 12 _ rfl
      rw [Nat.add_zero] at k0
      have hw1 : IntKind.i64.wrap ((j : Int) - 1) = (j : Int) - 1 := IntWalk.i64_in _ (by omega)
      subst e0
      clear hc hcj hcell hx hxj hQ hz hgS hgl
      gi_wp2
      refine hR.mono ?_
      rintro e W3 (⟨rfl, hJ3, hk3⟩ | ⟨rfl, hJx3⟩)
      · have HK := Lib.hid (hk.trans hk3)
        have HJ := Lib.hid hJ3
        clear hJ3 hk3 hk k0 k1 k2 k3 k4 k5 k6 k7 k8 k9 k10 k11 k12
        gi_wp2
        go_roundw
        case rel => exact ⟨(j : Int) - 1, j, _, rfl, Lib.hid rfl, by omega, HJ.out, HK.out, HQ2⟩
        case measure => simp [intOf]
      · clear k0 k1 k2 k3 k4 k5 k6 k7 k8 k9 k10 k11 k12
        gi_wp2
        refine bodyPost_ret (results_none rfl _ _ _) rfl ?_
        exact ⟨⟨_, rfl⟩, .inr ⟨_, ⟨_, HQ2.out⟩, hJx3⟩⟩
set_option maxRecDepth 100000 in
theorem back_in (F : Fence) (n : Nat) (h5 : F.fn 114) (hro : F.round = none) (a : Option Addr) (len cap : Nat) (w : World) :
    CallsIn F n Tryz.prog 114 #[.slice a len cap] w fun e w' => e = .returned (.func (.func 139) #[] #[.pointer (some ⟨w.heap.size, 0, none⟩)]) ∧ w' = w.alloc (.cells #[.slice a len cap] 113) := by
  refine callsIn_of_wp Tryz.func114 rfl h5 ?_ hro
  simp only [Tryz.ntmps114, List.size_toArray, List.length_cons, List.length_nil, Nat.reduceAdd, Nat.reduceSub, Array.replicate_succ, Array.replicate_zero, List.push_toArray, List.append_toArray, List.nil_append, List.cons_append]
  gi_wp2
  go_ret
  exact ⟨rfl, rfl⟩
theorem back_stops (F : Fence) (n : Nat) (h7 : F.fn 139) (hro : F.round = none) (hn : 1 ≤ n) (Bs : Nat) (S : List Nat) (A : Option Addr) (len cap : Nat) (xs : List Stp) (w1 : World) (hxl : xs.length = len) (h : StRow w1 A xs) (hA : xs ≠ [] → ∀ a, A = some a → a.block ∉ S)
    (hBs : Bs < w1.heap.size) (hBs2 : Bs ∉ S) (hlen : len ≤ 1000000) (hcap : len ≤ cap) (hc1 : w1.cell? ⟨Bs, 0, none⟩ = some (.slice A len cap)) :
    SeqStopsK F n Tryz.prog 139 #[.pointer (some ⟨Bs, 0, none⟩)] (fun x : { x : Nat × Stp // xs[x.1]? = some x.2 } => #[.int .i64 ((x.1.1 : Nat) : Int), .agg (stC x.1.2)]) (KeepS w1.heap.size S) (fun ys => ys.map (·.1.2) = xs.reverse) (fun pre => ∃ ss, pre.map (·.1.2) ++ ss = xs.reverse) len w1 := fun l J Jx W hW _ _ hY h0 =>
  back1_in F n h7 hro hn l Bs S A len cap xs w1 hxl h hA hBs hBs2 hlen hcap J Jx hY W (KeepS.of_below hW) ((hW.cell (p := ⟨Bs, 0, none⟩) hBs).trans hc1) h0
end Go.Proofs.YtboaamaneeodfaaGreat.Tree
namespace Go.Proofs.YtboaamaneeodfaaGreat.Tree
open Go.RowKit Gen
open Page (Bs strV strB PRow TellsD Drew eq_step ne_at all_eq)
open Pool (numV)

set_option maxRecDepth 100000 in
theorem equal_strs (A B : Option Addr) (n c m d : Nat) (la lb : List Bs) (w : World) (hl : la.length = n) (hm : lb.length = m) (hn : n ≤ 9223372036854775806) (hR : RowG w strV A la) (hS : RowG w strV B lb) : Calls Tryz.prog 116 #[.slice A n c, .slice B m d] w (TellsD (la = lb) w) := by
  have HR := Lib.hid hR
  have HS := Lib.hid hS
  have HL := Lib.hid hl
  have HM := Lib.hid hm
  clear hR hS hl hm
  by_cases hnm : n = m
  rotate_left
  · have d0 : ((n : Int) != (m : Int)) = true := by simp; omega
    have HN := Lib.hid hnm
    clear hnm
    go_enter Tryz.func116, Tryz.ntmps116
    go_wp2_with fail
    go_ret
    exact ⟨_, rfl, ⟨fun h => (by cases h), fun h => absurd (by rw [← HL.out, ← HM.out, h]) HN.out⟩, Drew.refl _⟩
  subst hnm
  go_enter Tryz.func116, Tryz.ntmps116
  go_wp2_with fail
  go_loopw [13] (fun i wr => ∃ k : Nat, i = .int .i64 (k : Int) ∧ k ≤ n ∧ Hid (la.take k = lb.take k) ∧ Drew w wr) (fun i _ => n - (intOf i).toNat)
  case atStart => exact ⟨0, rfl, Nat.zero_le _, Lib.hid (by simp), Drew.refl _⟩
  case round =>
    obtain ⟨k, rfl, hk, hQ, hD⟩ := hrel
    have HD := Lib.hid hD
    clear hD
    have hwr : IntKind.i64.wrap ((k : Int) + 1) = (k : Int) + 1 := IntWalk.i64_in _ (by omega)
    by_cases hlt : k < n
    · have hka : k < la.length := by have := HL.out; omega
      have hkb : k < lb.length := by have := HM.out; omega
      obtain ⟨b1, o1, rfl, -, hc1⟩ := HR.out (by intro e; subst e; simp at hka)
      obtain ⟨b2, o2, rfl, -, hc2⟩ := HS.out (by intro e; subst e; simp at hkb)
      have h1 := hc1 k hka
      have h2 := hc2 k hkb
      rw [← HD.out.cell] at h1 h2
      have HE := Lib.hid (eq_step hka hkb hQ.out)
      have HN := Lib.hid (ne_at hka hkb)
      have HX := Lib.hid (show ((strB la[k]).toList == (strB lb[k]).toList) = decide (la[k] = lb[k]) from by rw [Page.strB_list, Page.strB_list]; by_cases e : la[k] = lb[k] <;> simp [e])
      obtain ⟨X1, eX1⟩ : ∃ X, strB la[k] = X := ⟨_, rfl⟩
      rw [show strV la[k] = .string X1 by rw [← eX1]] at h1
      obtain ⟨X2, eX2⟩ : ∃ X, strB lb[k] = X := ⟨_, rfl⟩
      rw [show strV lb[k] = .string X2 by rw [← eX2]] at h2
      rw [eX1, eX2] at HX
      clear eX1 eX2
      clear hc1 hc2 hQ
      have t1 : (k : Int) < (n : Int) := by omega
      have t3 : (0 : Int) ≤ (k : Int) := by omega
      by_cases hxy : la[k] = lb[k]
      · have HF := Lib.hid (HE.out hxy)
        have hx1 : (X1.toList == X2.toList) = true := by rw [HX.out]; simp [hxy]
        clear hxy HE HN HX
        go_wp2_with fail
        go_quiet (fail)
        go_wp2_with fail
        go_roundw
        case rel => exact ⟨k + 1, by go_num, by omega, HF, HD.out.drewN _⟩
        case measure => simp [intOf]; omega
      · have HF := Lib.hid (HN.out hxy)
        have hx1 : (X1.toList == X2.toList) = false := by rw [HX.out]; simp [hxy]
        clear hxy HE HN HX
        go_wp2_with fail
        go_quiet (fail)
        go_wp2_with fail
        go_ret
        exact ⟨_, rfl, ⟨fun h => (by cases h), fun h => absurd h HF.out⟩, HD.out.drewN _⟩
    · have HF := Lib.hid (all_eq (k := k) (by have := HL.out; omega) (by rw [HL.out, HM.out]) hQ.out)
      clear hQ
      go_wp2_with fail
      go_ret
      exact ⟨_, rfl, ⟨fun _ => HF.out, fun _ => rfl⟩, HD.out⟩
set_option maxRecDepth 100000 in
theorem equal_ints (A B : Option Addr) (n c m d : Nat) (la lb : List Int) (w : World) (hl : la.length = n) (hm : lb.length = m) (hn : n ≤ 9223372036854775806) (hR : RowG w numV A la) (hS : RowG w numV B lb) : Calls Tryz.prog 117 #[.slice A n c, .slice B m d] w (TellsD (la = lb) w) := by
  have HR := Lib.hid hR
  have HS := Lib.hid hS
  have HL := Lib.hid hl
  have HM := Lib.hid hm
  clear hR hS hl hm
  by_cases hnm : n = m
  rotate_left
  · have d0 : ((n : Int) != (m : Int)) = true := by simp; omega
    have HN := Lib.hid hnm
    clear hnm
    go_enter Tryz.func117, Tryz.ntmps117
    go_wp2_with fail
    go_ret
    exact ⟨_, rfl, ⟨fun h => (by cases h), fun h => absurd (by rw [← HL.out, ← HM.out, h]) HN.out⟩, Drew.refl _⟩
  subst hnm
  go_enter Tryz.func117, Tryz.ntmps117
  go_wp2_with fail
  go_loopw [13] (fun i wr => ∃ k : Nat, i = .int .i64 (k : Int) ∧ k ≤ n ∧ Hid (la.take k = lb.take k) ∧ Drew w wr) (fun i _ => n - (intOf i).toNat)
  case atStart => exact ⟨0, rfl, Nat.zero_le _, Lib.hid (by simp), Drew.refl _⟩
  case round =>
    obtain ⟨k, rfl, hk, hQ, hD⟩ := hrel
    have HD := Lib.hid hD
    clear hD
    have hwr : IntKind.i64.wrap ((k : Int) + 1) = (k : Int) + 1 := IntWalk.i64_in _ (by omega)
    by_cases hlt : k < n
    · have hka : k < la.length := by have := HL.out; omega
      have hkb : k < lb.length := by have := HM.out; omega
      obtain ⟨b1, o1, rfl, -, hc1⟩ := HR.out (by intro e; subst e; simp at hka)
      obtain ⟨b2, o2, rfl, -, hc2⟩ := HS.out (by intro e; subst e; simp at hkb)
      have h1 := hc1 k hka
      have h2 := hc2 k hkb
      rw [← HD.out.cell] at h1 h2
      have HE := Lib.hid (eq_step hka hkb hQ.out)
      have HN := Lib.hid (ne_at hka hkb)
      have HX := Lib.hid (show la[k] = lb[k] ↔ la[k] = lb[k] from Iff.rfl)
      obtain ⟨X1, eX1⟩ : ∃ X, la[k] = X := ⟨_, rfl⟩
      rw [show numV la[k] = .int .i64 X1 by rw [← eX1]] at h1
      obtain ⟨X2, eX2⟩ : ∃ X, lb[k] = X := ⟨_, rfl⟩
      rw [show numV lb[k] = .int .i64 X2 by rw [← eX2]] at h2
      rw [eX1, eX2] at HX HE HN
      clear eX1 eX2
      clear hc1 hc2 hQ
      have t1 : (k : Int) < (n : Int) := by omega
      have t3 : (0 : Int) ≤ (k : Int) := by omega
      by_cases hxy : X1 = X2
      · have HF := Lib.hid (HE.out hxy)
        have hx1 : (X1 != X2) = false := by simp [hxy]
        have hx2 : (X1 == X2) = true := by simp [hxy]
        clear hxy HE HN HX
        go_wp2_with fail
        go_quiet (fail)
        go_wp2_with fail
        go_roundw
        case rel => exact ⟨k + 1, by go_num, by omega, HF, HD.out.drewN _⟩
        case measure => simp [intOf]; omega
      · have HF := Lib.hid (HN.out hxy)
        have hx1 : (X1 != X2) = true := by simp [hxy]
        have hx2 : (X1 == X2) = false := by simp [hxy]
        clear hxy HE HN HX
        go_wp2_with fail
        go_quiet (fail)
        go_wp2_with fail
        go_ret
        exact ⟨_, rfl, ⟨fun h => (by cases h), fun h => absurd h HF.out⟩, HD.out.drewN _⟩
    · have HF := Lib.hid (all_eq (k := k) (by have := HL.out; omega) (by rw [HL.out, HM.out]) hQ.out)
      clear hQ
      go_wp2_with fail
      go_ret
      exact ⟨_, rfl, ⟨fun _ => HF.out, fun _ => rfl⟩, HD.out⟩
end Go.Proofs.YtboaamaneeodfaaGreat.Tree
