/-
  What DeviceLasts makes of a device; lists of sectors that stay as they are.
-/
import Derived.Test.YtoldkhfnebjacaaDDone
import Derived.Test.YtoldkhfnebjacaaDOrderWalk
namespace Go.Proofs.Ytoldkhfnebjacaa.Disk
open Go.RowKit Go.Maps Gen

/-- Bytes lie apart from a device. -/
theorem Dev.no_bytes {w : World} {sb bl bc : Nat} {s : St} (h : Dev w sb bl bc s) {b off : Nat} {v : Value} (hc : w.cell? ⟨b, off, none⟩ = some v) (hv : ∀ n, v ≠ .int .i64 n) (hm : ∀ m, v ≠ .map m) (hb : ∀ x, v ≠ .bool x) : b ≠ sb ∧ b ≠ bl ∧ b ≠ bc := by
  refine ⟨fun e => ?_, fun e => ?_, fun e => ?_⟩
  · subst e
    rw [cell_of_row w b off _ _ _ h.box] at hc
    match off, hc with
    | 0, hc => cases hc; exact hv _ rfl
    | 1, hc => cases hc; exact hm _ rfl
    | 2, hc => cases hc; exact hm _ rfl
    | 3, hc => cases hc; exact hb _ rfl
    | 4, hc => cases hc; exact hb _ rfl
    | 5, hc => cases hc; exact hv _ rfl
    | k + 6, hc => simp at hc
  · subst e
    obtain ⟨es, c, hh⟩ := h.last.isMap
    simp [World.cell?, hh] at hc
  · subst e
    obtain ⟨es, c, hh⟩ := h.cache.isMap
    simp [World.cell?, hh] at hc
theorem Dev.apart {w : World} {sb bl bc : Nat} {s : St} (h : Dev w sb bl bc s) {A : Option Addr} {l : Bs} (hR : BRow w A l) (hne : l ≠ []) : ∀ a, A = some a → a.block ∉ [sb, bl, bc] := fun a ha => by
  obtain ⟨b, off, e, _, hc⟩ := hR hne
  rw [ha] at e
  cases e
  have h0 := hc 0 (List.length_pos_iff.2 hne)
  have := h.no_bytes h0 (fun n e => by cases e) (fun n e => by cases e) (fun n e => by cases e)
  simpa using this
theorem Kepts.mod {w w' : World} {sb bl bc : Nat} {s : St} {v : Value} {l : List (Int × Bs)} (h : Kepts w v l) (d : Dev w sb bl bc s) (m : Mod [sb, bl, bc] w w') : Kepts w' v l := by
  obtain ⟨A, c, e, h1, h2, h3, h4⟩ := h
  refine ⟨A, c, e, h1, h2, h3, fun hne => ?_⟩
  obtain ⟨b, off, ha, hlt, hc⟩ := h4 hne
  have hb : b ∉ [sb, bl, bc] := by
    obtain ⟨_, A', c', c2, _⟩ := hc 0 (List.length_pos_iff.2 hne)
    have := d.no_bytes c2 (fun n e => by cases e) (fun n e => by cases e) (fun n e => by cases e)
    simpa using this
  refine ⟨b, off, ha, Nat.lt_of_lt_of_le hlt m.size, fun j hj => ?_⟩
  obtain ⟨c1, A', c', c2, hr⟩ := hc j hj
  exact ⟨(m.cell (p := ⟨b, off + 2 * j, none⟩) hlt hb).trans c1, A', c', (m.cell (p := ⟨b, off + (2 * j + 1), none⟩) hlt hb).trans c2, hr.mod m (fun hne a ha => d.apart hr hne a ha)⟩
/-- A device that is on, without a fuse, and with what lasts of another one. -/
structure Calm (L : Int → Option Bs) (s : St) : Prop where
  n : s.n = 8
  off : s.off = false
  fused : s.fused = false
  L : s.L = L
theorem Calm.lasts {L : Int → Option Bs} {s : St} (h : Calm L s) : s.lasts = listOf 8 L := by rw [St.lasts, h.n, h.L]
theorem Calm.write {L : Int → Option Bs} {s : St} (h : Calm L s) (n : Int) (l : Bs) : Calm L (s.write n l) := by
  unfold St.write
  have ha : s.actE = 0 := by simp [St.actE, h.fused]
  have hs : s.act = s := by simp [St.act, h.fused]
  rw [if_neg (by simp [h.off])]
  split
  · exact h
  · simp only [hs]
    exact ⟨h.n, h.off, h.fused, h.L⟩
theorem reset_calm {s : St} (hn : s.n = 8) (hC : s.C (-1) = none) : Calm s.L (s.restart [] (-1) 0) ∧ (s.restart [] (-1) 0).C = fun _ => none := by
  have e : s.restart [] (-1) 0 = s.reset := by
    unfold St.restart St.tear1
    rw [show s.keeps [] = s by rfl, hC]
  rw [e]
  exact ⟨⟨hn, rfl, rfl, rfl⟩, rfl⟩
theorem keeps_none : ∀ (ks : List Int) (s : St) (x : Int), s.C x = none → (s.keeps ks).L x = s.L x ∧ (s.keeps ks).C x = none
  | [], s, x, h => ⟨rfl, h⟩
  | y :: ks, s, x, h => by
    show (St.keeps (s.keep1 y) ks).L x = s.L x ∧ (St.keeps (s.keep1 y) ks).C x = none
    have h1 : (s.keep1 y).C x = none ∧ (s.keep1 y).L x = s.L x := by
      unfold St.keep1
      split
      · rename_i l hl
        have hxy : x ≠ y := fun e => by rw [e, hl] at h; cases h
        exact ⟨(upd_other _ _ hxy).trans h, upd_other _ _ hxy⟩
      · exact ⟨h, rfl⟩
    obtain ⟨h2, h3⟩ := keeps_none ks (s.keep1 y) x h1.1
    exact ⟨h2.trans h1.2, h3⟩
theorem keeps_some : ∀ (ks : List Int) (s : St) (x : Int) (l : Bs), s.C x = some l → x ∈ ks → (s.keeps ks).L x = laid l ∧ (s.keeps ks).C x = none
  | [], _, _, _, _, h => by cases h
  | y :: ks, s, x, l, h, hx => by
    show (St.keeps (s.keep1 y) ks).L x = laid l ∧ (St.keeps (s.keep1 y) ks).C x = none
    by_cases e : x = y
    · subst e
      have h1 : (s.keep1 x).C x = none ∧ (s.keep1 x).L x = laid l := by
        unfold St.keep1
        rw [h]
        exact ⟨upd_same _ _ _, upd_same _ _ _⟩
      obtain ⟨h2, h3⟩ := keeps_none ks _ x h1.1
      exact ⟨h2.trans h1.2, h3⟩
    · have h1 : (s.keep1 y).C x = some l := by
        unfold St.keep1
        split
        · exact (upd_other _ _ e).trans h
        · exact h
      exact keeps_some ks _ x l h1 ((List.mem_cons.1 hx).resolve_left e)
theorem keeps_flags : ∀ (ks : List Int) (s : St), (s.keeps ks).off = s.off ∧ (s.keeps ks).fused = s.fused ∧ (s.keeps ks).fuse = s.fuse
  | [], _ => ⟨rfl, rfl, rfl⟩
  | x :: ks, s => by
    have h := keeps_flags ks (s.keep1 x)
    have e : (s.keep1 x).off = s.off ∧ (s.keep1 x).fused = s.fused ∧ (s.keep1 x).fuse = s.fuse := by unfold St.keep1; split <;> exact ⟨rfl, rfl, rfl⟩
    rw [e.1, e.2.1, e.2.2] at h
    exact h
/-- A restart that keeps all that the cache holds. -/
theorem keep_all {s : St} (hn : s.n = 8) (hf : ∀ x l, s.C x = some l → 0 ≤ x ∧ x < s.n) (t cut : Int) :
    (s.restart (keysOf s.n s.C) t cut).n = 8 ∧ (s.restart (keysOf s.n s.C) t cut).off = false ∧ (s.restart (keysOf s.n s.C) t cut).fused = false ∧ (s.restart (keysOf s.n s.C) t cut).C = (fun _ => none) ∧
      ∀ x l, s.C x = some l → (s.restart (keysOf s.n s.C) t cut).L x = laid l := by
  have hC : ∀ x, (s.keeps (keysOf s.n s.C)).C x = none := fun x => by
    cases e : s.C x with
    | none => exact (keeps_none _ s x e).2
    | some l => exact (keeps_some _ s x l e (mem_keysOf.2 ⟨⟨l, e⟩, hf x l e⟩)).2
  have ht : (s.keeps (keysOf s.n s.C)).tear1 t (cutN cut) = s.keeps (keysOf s.n s.C) := by
    unfold St.tear1
    rw [hC t]
  have e : s.restart (keysOf s.n s.C) t cut = (s.keeps (keysOf s.n s.C)).reset := by unfold St.restart; rw [ht]
  rw [e]
  exact ⟨(keeps_n _ s).trans hn, rfl, rfl, rfl, fun x l h => (keeps_some _ s x l h (mem_keysOf.2 ⟨⟨l, h⟩, hf x l h⟩)).1⟩
/-- A restart of a device with nothing in its cache. -/
theorem restart_none {s : St} (hC : s.C = fun _ => none) (ks : List Int) (t cut : Int) : (s.restart ks t cut).L = s.L ∧ (s.restart ks t cut).n = s.n := by
  have hC' : ∀ x, (s.keeps ks).C x = none := fun x => (keeps_none _ s x (by rw [hC])).2
  have ht : (s.keeps ks).tear1 t (cutN cut) = s.keeps ks := by
    unfold St.tear1
    rw [hC' t]
  unfold St.restart
  rw [ht]
  refine ⟨funext fun x => ?_, keeps_n ks s⟩
  exact (keeps_none ks s x (by rw [hC])).1
theorem read_kept {s : St} (hn : s.n = 8) (ho : s.off = false) (hC : s.C = fun _ => none) (x : Int) (l : Bs) (hL : s.L x = laid l) (h0 : 0 ≤ x) (h1 : x < 8) : s.readB x = l ∧ s.readE x = 0 := by
  have hh : s.has x = true := by simp [St.has, hn, h0]; omega
  refine ⟨?_, by simp [St.readE, ho, hh]⟩
  simp only [St.readB, ho, hh, Bool.false_eq_true, if_false, if_true, St.get, hC, hL, Option.getD_none]
  exact laid_getD l
/-- What DeviceLasts needs of a restart that keeps all. -/
theorem all_facts {w : World} {sb bl bc : Nat} {s : St} {L : Int → Option Bs} (cm : Calm L s) (d : Dev w sb bl bc s) (t cut : Int) :
    (∀ k (h : k < s.caches.length), (s.restart (s.caches.map (·.1)) t cut).readB s.caches[k].1 = s.caches[k].2 ∧ (s.restart (s.caches.map (·.1)) t cut).readE s.caches[k].1 = 0) ∧
    (∀ x ∈ s.caches.map (·.1), -9223372036854775808 ≤ x ∧ x ≤ 9223372036854775807) ∧ s.caches.length ≤ 8 ∧ (s.restart (s.caches.map (·.1)) t cut).n = 8 ∧ (s.restart (s.caches.map (·.1)) t cut).C = fun _ => none := by
  have hall := keep_all cm.n (fun x l e => by have := d.cache.fit x l e; omega) t cut
  have hn8 := cm.n
  refine ⟨fun k h => ?_, fun x hx => ?_, ?_, hall.1, hall.2.2.2.1⟩
  · obtain ⟨e, g0, g1⟩ := listOf_get (N := s.n) (f := s.C) h
    have h3 : (listOf s.n s.C)[k].1 < 8 := by omega
    exact read_kept hall.1 hall.2.1 hall.2.2.2.1 _ _ (hall.2.2.2.2 _ _ e) g0 h3
  · have := (mem_keysOf (N := s.n) (f := s.C) (x := x)).1 hx
    omega
  · have := listOf_le s.n s.C
    unfold St.caches
    omega
end Go.Proofs.Ytoldkhfnebjacaa.Disk
