/-
  What a map of sectors holds, rising: told, Lasting, Cached.
-/
import Derived.Test.YtoldkhfnebjacaaDKept
import Derived.Test.YtoldkhfnebjacaaShelfG
namespace Go.Proofs.Ytoldkhfnebjacaa.Disk
open Go.RowKit Go.Maps Go.Sort Go.Shelf Gen

theorem sortsA (m : Nat) : AnyZI.SortsIn Try.prog Try.sortedA_ren Fence.wide m :=
  ⟨fun blk off cap ss W hH hblk hsz => callsIn_wide.2 (AnyM.slices_Sort_int Try.sortA blk off cap ss W hH hblk hsz),
   fun p cap W => callsIn_wide.2 (AnyM.slices_Sort_int_none Try.sortA p cap W)⟩
theorem keys_any (mb : Option Nat) (W : World) : Calls Try.prog 47 #[.map mb] W fun e w' => e = .returned (.func (.func 50) #[] #[.pointer (some ⟨W.heap.size, 0, none⟩)]) ∧ w' = W.alloc (.cells #[.map mb] 58) :=
  (callsIn_wide (n := 5)).1 (AnyZI.keys_in Try.keysA Fence.wide 5 trivial rfl mb W)
/-- The keys of a map, sorted. -/
theorem sorted_any (b nn : Nat) (D : DataW Unit) (w : World) (hown : w.ownsMap Try.prog 3 SecR b nn D) (hmax : Maps.size D ≤ 4096) :
    Calls Try.prog 46 #[.func (.func 50) #[] #[.pointer (some ⟨w.heap.size, 0, none⟩)]] (w.alloc (.cells #[.map (some b)] 58)) fun e w' => ∃ (v : Value) (ss : List Int), e = .returned v ∧ ss.Perm (intKeys D) ∧
      w'.ownsRow (w.alloc (.cells #[.map (some b)] 58)).heap.size 3 1 v ss.length ((ss.mergeSort (fun x y => decide (x ≤ y))).map encZ) ∧ (v = .slice none 0 0 ↔ ss = []) ∧ Below (w.alloc (.cells #[.map (some b)] 58)).heap.size (w.alloc (.cells #[.map (some b)] 58)) w' := by
  refine (callsIn_wide (n := 5)).1 ?_
  have hbl := hown.lt
  have hseq : SeqGives Fence.wide 2 Try.prog 50 #[.pointer (some ⟨w.heap.size, 0, none⟩)] encZ (fun ss => ss.Perm (intKeys D)) (Maps.size D) (w.alloc (.cells #[.map (some b)] 58)) :=
    AnyZI.keys_gives (ρ := Try.keysA_ren) { Try.keysA with } Fence.wide _ trivial rfl (by omega) w.heap.size b nn D _ (by simp) (by simp) (by
      obtain ⟨es, clock, hb, Ft, hs, hD⟩ := hown
      exact ⟨es, clock, (Below.heap_alloc _ _ b hbl).trans hb, Ft, hs, hD⟩)
  exact AnyZI.sorted_in Try.sortedA Fence.wide 5 trivial trivial trivial trivial rfl (by omega) (sortsA _) (enters_of Try.func49 (by kernel_rfl) rfl) 50 #[.pointer (some ⟨w.heap.size, 0, none⟩)] trivial (enters_of Try.func50 (by kernel_rfl) rfl) _ _ (by unfold maxLen; omega) (by omega) _ hseq
theorem keys_members {w : World} {b N nn : Nat} {f : Int → Option Bs} {D : DataW Unit} (hown : w.ownsMap Try.prog 3 SecR b nn D) (hf : ∀ x, look D x = f x) (hk : ∀ kl, Maps.has D kl = true → ∃ x : Int, kl = keyL x ∧ 0 ≤ x ∧ x < N) : (intKeys D).Nodup ∧ ∀ x, x ∈ intKeys D ↔ x ∈ keysOf N f := by
  obtain ⟨es, rfl, hp, hkl⟩ := hown.entries intKeyed
  have hx : ∀ p ∈ es, ∃ x : Int, p.1 = keyL x ∧ 0 ≤ x ∧ x < N := fun p hp => hk _ (List.any_eq_true.2 ⟨p, hp, WideAt.sameKey_self (hkl p hp)⟩)
  refine ⟨?_, fun x => ?_⟩
  · show (es.map _).Nodup
    rw [List.Nodup, List.pairwise_map]
    refine List.Pairwise.imp_of_mem (fun {p q} hp hq hne => ?_) hp
    obtain ⟨x, e1, _, _⟩ := hx p hp
    obtain ⟨y, e2, _, _⟩ := hx q hq
    rw [e1, e2] at hne ⊢
    exact fun e => hne (by rw [show x = y from e])
  · rw [mem_keysOf]
    have hh : Maps.has (DataW.map es) (keyL x) = true ↔ ∃ l, f x = some l := by
      rw [← hf, look]
      cases Maps.has (DataW.map es) (keyL x) <;> simp
    rw [← hh]
    show x ∈ es.map _ ↔ _
    rw [List.mem_map]
    constructor
    · rintro ⟨p, hp, e⟩
      obtain ⟨y, e1, h0, h1⟩ := hx p hp
      rw [e1] at e
      obtain rfl : y = x := e
      exact ⟨List.any_eq_true.2 ⟨p, hp, by rw [e1]; exact WideAt.sameKey_self (isKey y)⟩, h0, h1⟩
    · rintro ⟨h, _, _⟩
      obtain ⟨p, hp, e⟩ := List.any_eq_true.1 h
      exact ⟨p, hp, by rw [WideAt.sameKey_eq e]; rfl⟩
/-- .. as they are told: nil of none, else a row of the call's own. -/
theorem sorted_map (w : World) (b N : Nat) (f : Int → Option Bs) (h : SMap w b N f) (hN : N ≤ 4096) :
    Calls Try.prog 46 #[.func (.func 50) #[] #[.pointer (some ⟨w.heap.size, 0, none⟩)]] (w.alloc (.cells #[.map (some b)] 58)) fun e w' => ∃ A c, e = .returned (.slice A (listOf N f).length c) ∧
      IRow w' A (keysOf N f) ∧ (∀ a, A = some a → w.heap.size < a.block ∧ ∃ cur, w'.heap[a.block]? = some (.cells cur 3 (0, 0))) ∧ Below (w.heap.size + 1) (w.alloc (.cells #[.map (some b)] 58)) w' := by
  obtain ⟨D, hown, hsz, hf, hk⟩ := h.size
  refine (sorted_any b N D w hown (by omega)).mono ?_
  rintro e w' ⟨v, ss, rfl, hperm, hrow, hnil, hb⟩
  obtain ⟨hnd, hmem⟩ := keys_members (N := N) hown hf hk
  have hs := sorted_keys N f ss (hperm.nodup_iff.2 hnd) (fun x => by rw [hperm.mem_iff]; exact hmem x)
  rw [hs] at hrow
  have hlen : ss.length = (listOf N f).length := by rw [← keysOf_len, ← hs, List.length_mergeSort]
  rw [hlen] at hrow
  have hal : (w.alloc (.cells #[.map (some b)] 58)).heap.size = w.heap.size + 1 := by simp
  rw [hal] at hrow hb
  obtain ⟨hl, ⟨rfl, hz⟩ | ⟨g, cap, cur, rfl, hg, hh, hnc, hcm, _, ht⟩⟩ := hrow
  · have e0 : keysOf N f = [] := List.eq_nil_of_length_eq_zero (by rw [keysOf_len]; exact hz)
    exact ⟨none, 0, by rw [hz], by rw [e0]; exact fun h => absurd rfl h, (fun a h => by cases h), hb⟩
  · refine ⟨some ⟨g, 0, none⟩, cap, rfl, fun _ => ⟨g, 0, rfl, (Array.getElem?_eq_some_iff.1 hh).1, fun k hk => ?_⟩, (fun a ha => by cases ha; exact ⟨by show w.heap.size < g; omega, cur, hh⟩), hb⟩
    rw [Nat.zero_add, cell_of_row w' g k cur _ _ hh, ← Array.getElem?_toList]
    have e : (cur.toList.take ((listOf N f).length * 1))[k]? = ((keysOf N f).map encZ)[k]? := by rw [ht]
    rw [keysOf_len] at hk
    rw [List.getElem?_take_of_lt (by omega)] at e
    rw [e, List.getElem?_map, List.getElem?_eq_getElem (by rw [keysOf_len]; exact hk)]
    rfl
/-- Between two rounds of told's loop. -/
def ToldRel (w w1 : World) (A : Option Addr) (L : List (Int × Bs)) (v i : Value) (wr : World) : Prop :=
  ∃ k : Nat, k ≤ L.length ∧ i = .int .i64 (k : Int) ∧ OwnK wr w.heap.size v (L.take k) ∧ Below w.heap.size w wr ∧ (∀ a, A = some a → wr.heap[a.block]? = w1.heap[a.block]?)
theorem list_cells (W : World) (c : Bs) (t : TypeId) : BRow (W.alloc (.cells (secC c) t)) (some ⟨W.heap.size, 0, none⟩) c := sec_row (heap_alloc_last W _)
/-- One round: a sector is told. -/
theorem told_round {w w1 wr : World} {A : Option Addr} {L : List (Int × Bs)} {v : Value} {k : Nat} (hk : k < L.length) (hl : L[k].2.length = 1024) (hLn : L.length ≤ 4096) (ho : OwnK wr w.heap.size v (L.take k)) (hb : Below w.heap.size w wr) (hA : ∀ a, A = some a → wr.heap[a.block]? = w1.heap[a.block]?)
    (hc : ∀ a, A = some a → ∃ cur, w1.heap[a.block]? = some (.cells cur 3 (0, 0))) (x : Int) (c : Bs) (hx : L[k] = (x, c)) :
    ∃ v' W', (Builtin.append_ #[41, 41] 41 #[v, .slice (some ⟨wr.heap.size + 1, 0, none⟩) 1 1]).run Try.prog ((wr.alloc (.cells (secC c) 66)).alloc (.cells #[.int .i64 x, .slice (some ⟨wr.heap.size, 0, none⟩) 1024 1024] 45)) = .ok v' W' ∧
      ToldRel w w1 A L v' (.int .i64 ((k + 1 : Nat) : Int)) W' := by
  have hcl : c.length = 1024 := by rw [hx] at hl; exact hl
  have hne : ∀ {b : Nat}, v.ownBlock = some b → b < wr.heap.size := fun {b} e => by
    obtain ⟨_, cur, hh⟩ := ho.block e
    exact (Array.getElem?_eq_some_iff.1 hh).1
  have ho2 : OwnK (wr.alloc (.cells (secC c) 66)) w.heap.size v (L.take k) := by
    obtain ⟨cs, hrow, hj⟩ := ho
    refine ⟨cs, hrow.alloc _, fun j h => ?_⟩
    obtain ⟨c1, A', c', c2, hr, ha⟩ := hj j h
    exact ⟨c1, A', c', c2, RowG.below hr ((Below.refl _ _).alloc (Nat.le_refl _) _), ha⟩
  obtain ⟨v', W', hrun, hown, hg⟩ := append_kept (wr.alloc (.cells (secC c) 66)) w.heap.size v (L.take k) ho2 x c (some ⟨wr.heap.size, 0, none⟩) 1024 (list_cells wr c _) (fun _ a ha e => by
    cases ha
    have := hne e.symm
    simp at this) (by rw [List.length_take]; omega) (by have := hb.size; simp; omega)
  have hal : (wr.alloc (.cells (secC c) 66)).heap.size = wr.heap.size + 1 := by simp
  rw [hal, hcl] at hrun
  refine ⟨v', W', hrun, k + 1, hk, rfl, ?_, ?_, fun a ha => ?_⟩
  · rw [List.take_succ_eq_append_getElem hk, hx]; exact hown
  · refine (hb.alloc hb.size _).grown hg (by have := hb.size; omega) (fun j hj => (ho.block hj).1)
  · obtain ⟨cur, hcur⟩ := hc a ha
    have h1 := hA a ha
    have hlt : a.block < wr.heap.size := (Array.getElem?_eq_some_iff.1 (h1.trans hcur)).1
    rw [hg.block a.block (by simp; omega) (fun e => ?_), Below.heap_alloc _ _ _ hlt]
    · exact h1
    · obtain ⟨_, cur', hh⟩ := ho.block e.symm
      rw [h1, hcur] at hh
      cases hh
set_option maxRecDepth 100000 in
set_option maxHeartbeats 1000000 in
theorem told_core (w : World) (b N : Nat) (f : Int → Option Bs) (L : List (Int × Bs)) (hL : listOf N f = L) (h : SMap w b N f) (hN : N ≤ 4096) : Calls Try.prog 38 #[.map (some b)] w fun e w' => ∃ v, e = .returned v ∧ Kepts w' v L ∧ Below w.heap.size w w' := by
  have cS := sorted_map w b N f h hN
  have HM := Lib.hid h
  have hle := listOf_le N f
  have HG := Lib.hid (fun k (hk : k < (listOf N f).length) => listOf_get (N := N) (f := f) hk)
  have HKG : Hid (∀ k (hk : k < (listOf N f).length) (hk' : k < (keysOf N f).length), (keysOf N f)[k] = (listOf N f)[k].1) := Lib.hid (fun k hk hk' => by simp [keysOf])
  have HKL := Lib.hid (keysOf_len N f)
  rw [hL] at cS hle HG HKG HKL
  clear h hL
  go_enter Try.func38, Try.ntmps38
  go_wp2_with fail
  refine (keys_any _ _).mono ?_
  rintro e w' ⟨rfl, rfl⟩
  go_wp2_with fail
  refine cS.mono ?_
  rintro e w1 ⟨A, c, rfl, hrow, hA, hb1⟩
  have HROW := Lib.hid hrow
  have HA := Lib.hid hA
  have hB1 : Below w.heap.size w w1 := ((Below.refl _ w).alloc (Nat.le_refl _) _).trans (hb1.mono (by omega))
  have HB1 := Lib.hid hB1
  clear cS hrow hA hb1 hB1
  go_wp2_with fail
  go_loopw [3, 10] (fun v i wr => ToldRel w w1 A L v i wr) (fun _ i _ => L.length - (intOf i).toNat)
  case atStart => exact ⟨0, Nat.zero_le _, rfl, OwnK.nil _ _, HB1.out, fun _ _ => rfl⟩
  case round =>
    obtain ⟨k, hk, rfl, ho, hb, hkeep⟩ := hrel
    by_cases hlt : k < L.length
    · have hlk : k < (keysOf N f).length := by have := HKL.out; omega
      obtain ⟨g, off, rfl, hg1, hcell⟩ := HROW.out (fun e => by rw [e] at hlk; simp at hlk)
      have hck : wr.cell? ⟨g, off + k, none⟩ = some (.int .i64 L[k].1) := by
        rw [World.cell?_of_block (w := w1) (a := ⟨g, off + k, none⟩) (hkeep ⟨g, off, none⟩ rfl), hcell k hlk, HKG.out k hlt hlk]
      obtain ⟨hfk, hf0, hf1⟩ := HG.out k hlt
      obtain ⟨⟨x, cc⟩, hx⟩ : ∃ p, L[k] = p := ⟨_, rfl⟩
      have hfit := HM.out.fit _ _ hfk
      obtain ⟨v', W', hrun, hrel'⟩ := told_round hlt hfit.2.2 (by omega) ho hb hkeep (fun a ha => (HA.out a ha).2) x cc hx
      have hm := HM.out.of_block (hb.block b HM.out.lt)
      have LK := hm.lookup x (by rw [hx] at hfit; simp at hfit; omega) (by rw [hx] at hfit; simp at hfit; omega)
      rw [hx] at hck hfk
      simp only at hck hfk
      rw [hfk, Option.getD_some] at LK
      have R := Lib.hid hrun
      have RR := Lib.hid hrel'
      have LK2 := Lib.hid LK
      clear hrun hrel' hm LK hfk hf0 hf1 hfit hx ho hb hkeep hcell hlk
      go_wp2_with (first
        | ((with_reducible refine wpList_lookup_eq rfl 58 (.tmp 16) (.tmp 17) false rfl _ _ ?_ ?_ LK2.out ?_); (next => rfl); (next => rfl))
        | (go_at_call 42; refine (list_any _ _).mono ?_; rintro e w' ⟨rfl, rfl⟩)
        | (at_builtin; ((with_reducible refine wpList_append_eq rfl (.tmp 14) (.tmp 21) 41 rfl ?_ ?_ R.out ?_); (next => rfl); (next => rfl))))
      go_roundw
      case rel => exact RR.out
      case measure => simp [intOf]; omega
    · obtain rfl : k = L.length := by omega
      rw [List.take_length] at ho
      have HO := Lib.hid ho.kepts
      have HBB := Lib.hid hb
      clear ho hb hkeep
      go_wp2_with fail
      go_ret
      exact ⟨_, rfl, HO.out, HBB.out⟩
/-- What a list of sectors is told as. -/
def KeptPost (w : World) (L : List (Int × Bs)) (e : Ending) (w' : World) : Prop := ∃ v, e = .returned v ∧ Kepts w' v L ∧ Below w.heap.size w w'
theorem lasting_nil (w : World) : Calls Try.prog 18 #[.pointer none] w fun e w' => e = .returned (.slice none 0 0) ∧ w = w' := by
  go_enter Try.func18, Try.ntmps18
  go_wp2_with fail
  go_ret
  exact ⟨rfl, rfl⟩
theorem cached_nil (w : World) : Calls Try.prog 20 #[.pointer none] w fun e w' => e = .returned (.slice none 0 0) ∧ w = w' := by
  go_enter Try.func20, Try.ntmps20
  go_wp2_with fail
  go_ret
  exact ⟨rfl, rfl⟩
def St.lasts (s : St) : List (Int × Bs) := listOf s.n s.L
def St.caches (s : St) : List (Int × Bs) := listOf s.n s.C
theorem lasting_dev (w : World) (sb bl bc : Nat) (s : St) (h : Dev w sb bl bc s) : Calls Try.prog 18 #[ptr sb] w (KeptPost w s.lasts) := by
  obtain ⟨c0, c1, c2, c3, c4, c5⟩ := h.cells
  have cT := told_core w bl s.n s.L _ rfl h.last h.nle
  change Calls _ _ _ _ (KeptPost w s.lasts) at cT
  generalize s.lasts = L at *
  clear h c0 c2 c3 c4 c5
  go_enter Try.func18, Try.ntmps18
  go_wp2_with fail
  refine cT.mono ?_
  rintro e w' ⟨v, rfl, hk, hb⟩
  go_wp2_with fail
  go_ret
  exact ⟨_, rfl, hk, hb⟩
theorem cached_dev (w : World) (sb bl bc : Nat) (s : St) (h : Dev w sb bl bc s) : Calls Try.prog 20 #[ptr sb] w (KeptPost w s.caches) := by
  obtain ⟨c0, c1, c2, c3, c4, c5⟩ := h.cells
  have cT := told_core w bc s.n s.C _ rfl h.cache h.nle
  change Calls _ _ _ _ (KeptPost w s.caches) at cT
  generalize s.caches = L at *
  clear h c0 c1 c3 c4 c5
  go_enter Try.func20, Try.ntmps20
  go_wp2_with fail
  refine cT.mono ?_
  rintro e w' ⟨v, rfl, hk, hb⟩
  go_wp2_with fail
  go_ret
  exact ⟨_, rfl, hk, hb⟩
end Go.Proofs.Ytoldkhfnebjacaa.Disk
