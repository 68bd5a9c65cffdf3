/-
  Texts of one family, one behind the other: PTwin, PRow, PFew.
-/
import Derived.Test.YthnodkhcenmnfaaGreatKP8
import Derived.ProofKit
import Derived.OpenShut
import Derived.ChangeOld
import Derived.Below
import Derived.Deep.Slices
import Derived.Deep.MidRow
namespace Go.Proofs.YthnodkhcenmnfaaGreat.Page
open Go.RowKit Gen

theorem be_inj {k a b : Nat} (h : be k a = be k b) (ha : a < 256 ^ k) (hb : b < 256 ^ k) : a = b := by
  rw [← ofBe_be k a ha, ← ofBe_be k b hb, h]
theorem num2_inj {x y : Int} (h : num2 x = num2 y) (hx : 0 ≤ x ∧ x < 65536) (hy : 0 ≤ y ∧ y < 65536) : x = y := by
  have := be_inj h (by omega) (by omega)
  omega
theorem be_one (n : Nat) : be 1 n = [UInt8.ofNat n] := by simp [be]
theorem byte_ne {n : Nat} (h : 1 ≤ n ∧ n < 256) : UInt8.ofNat n ≠ 0 := fun e => by
  have := congrArg UInt8.toNat e
  rw [UInt8.toNat_ofNat', UInt8.toNat_zero] at this
  omega
/-- Pieces none of which begins with 0, and is longer than 150, leave no long run of bytes 0. -/
theorem chunk_hit {α : Type} (f : α → Bs) : ∀ (xs : List α) (P : Bs), (∀ x ∈ xs, ∃ b r, f x = b :: r ∧ b ≠ 0 ∧ r.length ≤ 149) → P.length ≤ 511 → 512 < (P ++ xs.flatMap f).length → ∃ o b, 362 ≤ o ∧ o ≤ 511 ∧ (P ++ xs.flatMap f)[o]? = some b ∧ b ≠ 0
  | [], P, _, hP, hm => by simp at hm; omega
  | x :: xs, P, h, hP, hm => by
    obtain ⟨b, r, e, hb, hr⟩ := h x (List.mem_cons_self ..)
    by_cases hc : (P ++ f x).length ≤ 511
    · have := chunk_hit f xs (P ++ f x) (fun y hy => h y (List.mem_cons_of_mem _ hy)) hc (by rw [List.append_assoc, ← List.flatMap_cons]; exact hm)
      rw [List.append_assoc, ← List.flatMap_cons] at this
      exact this
    · refine ⟨P.length, b, ?_, hP, ?_, hb⟩
      · rw [List.length_append, e, List.length_cons] at hc; omega
      · rw [List.flatMap_cons, e, List.getElem?_append_right (Nat.le_refl _)]; simp
/-- What stands where in a superblock's bytes. -/
structure Twin (l : Bs) : Prop where
  len : l.length = 1024
  lead : ∀ i, i < 8 → l[i]? = l[1016 + i]?
  half : ∀ i, i < 496 → l[8 + i]? = l[512 + i]?
  gap : ∀ i, i < 8 → l[504 + i]? = some 0
  gap2 : ∀ i, i < 8 → l[1008 + i]? = some 0
theorem zeros_get {n i : Nat} (h : i < n) : (zeros n)[i]? = some 0 := by rw [zeros, List.getElem?_replicate, if_pos h]
theorem twin_of {E H Z : Bs} (hE : E.length = 8) (hH : H.length = 496) (hZ : Z = zeros 8) : Twin (E ++ (H ++ (Z ++ (H ++ (Z ++ E))))) := by
  have hZ' : Z.length = 8 := by rw [hZ, zeros, List.length_replicate]
  have z0 : ∀ i, i < 8 → Z[i]? = some 0 := fun i hi => by rw [hZ]; exact zeros_get hi
  refine ⟨by simp [hE, hH, hZ'], fun i hi => ?_, fun i hi => ?_, fun i hi => ?_, fun i hi => ?_⟩
  · rw [List.getElem?_append_left (by omega), List.getElem?_append_right (by omega), List.getElem?_append_right (by omega), List.getElem?_append_right (by omega), List.getElem?_append_right (by omega), List.getElem?_append_right (by omega)]
    congr 1; omega
  · rw [List.getElem?_append_right (by omega), List.getElem?_append_left (by omega), List.getElem?_append_right (by omega), List.getElem?_append_right (by omega), List.getElem?_append_right (by omega), List.getElem?_append_left (by omega)]
    congr 1; omega
  · rw [List.getElem?_append_right (by omega), List.getElem?_append_right (by omega), List.getElem?_append_left (by omega)]
    exact z0 _ (by omega)
  · rw [List.getElem?_append_right (by omega), List.getElem?_append_right (by omega), List.getElem?_append_right (by omega), List.getElem?_append_right (by omega), List.getElem?_append_left (by omega)]
    exact z0 _ (by omega)
theorem twin_doubled (ep : Nat) {L : Bs} (h : L.length ≤ 496) : Twin (doubledBs ep L) := twin_of (be_len 8 ep) (pad_len h) rfl
theorem twin_zeros : Twin (zeros 1024) := by
  refine ⟨by rw [zeros, List.length_replicate], fun i hi => ?_, fun i hi => ?_, fun i hi => ?_, fun i hi => ?_⟩
  · rw [zeros_get (by omega), zeros_get (by omega)]
  · rw [zeros_get (by omega), zeros_get (by omega)]
  · rw [zeros_get (by omega)]
  · rw [zeros_get (by omega)]
/-- A superblock's bytes one of which is another one are none's. -/
theorem twin_turn {l : Bs} {i : Nat} {x y : UInt8} (h : Twin l) (hx : l[i]? = some x) (g : Twin (l.set i y)) : x = y := by
  have hi : i < l.length := (List.getElem?_eq_some_iff.1 hx).1
  have hl := h.len
  have same : (l.set i y)[i]? = some y := by rw [List.getElem?_set, if_pos rfl, if_pos hi]
  have other : ∀ j, j ≠ i → (l.set i y)[j]? = l[j]? := fun j hj => by rw [List.getElem?_set, if_neg (fun e => hj e.symm)]
  by_cases c1 : i < 8
  · have e := g.lead i c1
    rw [same, other _ (by omega), ← h.lead i c1, hx] at e
    exact (Option.some.inj e).symm
  by_cases c2 : i < 504
  · have e := g.half (i - 8) (by omega)
    have e' := h.half (i - 8) (by omega)
    rw [show 8 + (i - 8) = i by omega] at e e'
    rw [same, other _ (by omega), ← e', hx] at e
    exact (Option.some.inj e).symm
  by_cases c3 : i < 512
  · have e := g.gap (i - 504) (by omega)
    have e' := h.gap (i - 504) (by omega)
    rw [show 504 + (i - 504) = i by omega] at e e'
    rw [same] at e
    rw [hx] at e'
    rw [Option.some.inj e, Option.some.inj e']
  by_cases c4 : i < 1008
  · have e := g.half (i - 512) (by omega)
    have e' := h.half (i - 512) (by omega)
    rw [show 512 + (i - 512) = i by omega] at e e'
    rw [same, other _ (by omega), e', hx] at e
    exact Option.some.inj e
  by_cases c5 : i < 1016
  · have e := g.gap2 (i - 1008) (by omega)
    have e' := h.gap2 (i - 1008) (by omega)
    rw [show 1008 + (i - 1008) = i by omega] at e e'
    rw [same] at e
    rw [hx] at e'
    rw [Option.some.inj e, Option.some.inj e']
  · have e := g.lead (i - 1016) (by omega)
    have e' := h.lead (i - 1016) (by omega)
    rw [show 1016 + (i - 1016) = i by omega] at e e'
    rw [same, other _ (by omega), e', hx] at e
    exact Option.some.inj e
theorem summed_turn {L M : Bs} (hL : L.length ≤ 1016) (hM : M.length ≤ 1016) {i : Nat} {x y : UInt8} (hx : (summedBs L)[i]? = some x) (h : (summedBs L).set i y = summedBs M) : x = y := by
  have hP := pad_len hL
  have hQ := pad_len hM
  unfold summedBs at hx h
  have mP := Crc.more_lt (padTo 1016 L) (s := 0) (by omega)
  have mQ := Crc.more_lt (padTo 1016 M) (s := 0) (by omega)
  generalize padTo 1016 L = P at *
  generalize padTo 1016 M = Q at *
  by_cases hi : i < 1016
  · rw [List.set_append_left _ _ (by omega)] at h
    obtain ⟨h1, h2⟩ := List.append_inj h (by rw [List.length_set]; omega)
    have h3 := be_inj h2 (by omega) (by omega)
    rw [List.getElem?_append_left (by omega)] at hx
    obtain ⟨hi', hx'⟩ := List.getElem?_eq_some_iff.1 hx
    have e1 : P.set i y = P.take i ++ y :: P.drop (i + 1) := List.set_eq_take_append_cons_drop ▸ by rw [if_pos hi']
    have e2 : P = P.take i ++ x :: P.drop (i + 1) := by rw [← hx', ← List.drop_eq_getElem_cons hi', List.take_append_drop]
    rw [← h1, e1] at h3
    rw [e2] at h3
    have h4 := h3
    rw [← e2] at h4
    exact (Crc.more_turns (P.take i) (P.drop (i + 1)) x y (s := 0) (by omega)).1 (by rw [← e2]; exact h4)
  · rw [List.set_append_right _ _ (by omega)] at h
    obtain ⟨h1, h2⟩ := List.append_inj h (by omega)
    rw [List.getElem?_append_right (by omega), hP] at hx
    rw [hP, ← h1] at h2
    have h3 := congrArg (fun l : Bs => l[i - 1016]?) h2
    simp only [List.getElem?_set_self (List.getElem?_eq_some_iff.1 hx).1, hx] at h3
    exact (Option.some.inj h3).symm
theorem page_at0 {s : Int} {p : Pg} : ∃ r, pageBs s p = UInt8.ofNat p.kind.toNat :: (num2 s ++ r) := ⟨_, by rw [pageBs, be_one]; rfl⟩
/-- The first byte of each half of a superblock is its kind. -/
theorem super_bytes {ep : Nat} {s : Int} {p : Pg} (hk : p.kind = 4) : (doubledBs ep (pageBs s p))[512]? = some 4 ∧ (doubledBs ep (pageBs s p))[8]? = some 4 ∧ ((doubledBs ep (pageBs s p)).drop 9).take 2 = num2 s ∧ ∀ i, 23 ≤ i → i < 512 → (doubledBs ep (pageBs s p))[i]? = some 0 := by
  have hlen := page_len4 (s := s) hk
  obtain ⟨r, hr⟩ := page_at0 (s := s) (p := p)
  rw [hk] at hr
  have hH := pad_len (n := 496) (l := pageBs s p) (by omega)
  have hE := be_len 8 ep
  have hz : (zeros 8).length = 8 := by rw [zeros, List.length_replicate]
  have h0 : (padTo 496 (pageBs s p))[0]? = some 4 := by rw [padTo, hr]; rfl
  have ht : ((padTo 496 (pageBs s p)).drop 1).take 2 = num2 s := by
    rw [padTo, hr, List.cons_append, List.drop_one, List.tail_cons, List.append_assoc, List.take_left' (num2_len s)]
  have hpad : ∀ i, 15 ≤ i → i < 496 → (padTo 496 (pageBs s p))[i]? = some 0 := fun i h1 h2 => by
    rw [padTo, List.getElem?_append_right (by omega), hlen, List.getElem?_replicate, if_pos (by omega)]
  unfold doubledBs
  generalize padTo 496 (pageBs s p) = H at *
  generalize be 8 ep = E at *
  refine ⟨?_, ?_, ?_, fun i h1 h2 => ?_⟩
  · rw [List.getElem?_append_right (by omega), List.getElem?_append_right (by omega), List.getElem?_append_right (by omega), List.getElem?_append_left (by omega), hE, hH, hz]
    exact h0
  · rw [List.getElem?_append_right (by omega), List.getElem?_append_left (by omega), hE]
    exact h0
  · rw [show (9 : Nat) = 8 + 1 from rfl, ← List.drop_drop, List.drop_left' hE, List.drop_append_of_le_length (by omega), List.take_append_of_le_length (by rw [List.length_drop]; omega)]
    exact ht
  · rw [List.getElem?_append_right (by omega), hE]
    by_cases c : i < 504
    · rw [List.getElem?_append_left (by omega)]
      exact hpad _ (by omega) (by omega)
    · rw [List.getElem?_append_right (by omega), List.getElem?_append_left (by omega)]
      exact zeros_get (by omega)
/-- No superblock's bytes are another page's. -/
theorem super_apart {s t : Int} {p q : Pg} {ep : Nat} (hp : p.kind = 4) (hq : Fine q) (hk : q.kind ≠ 4) (h : doubledBs ep (pageBs s p) = summedBs (pageBs t q)) : False := by
  obtain ⟨h1, -, -, h3⟩ := super_bytes (ep := ep) (s := s) hp
  rw [h] at h1 h3
  have hm := page_len (s := t) hq
  have hP := pad_len hm
  unfold summedBs at h1 h3
  rw [List.getElem?_append_left (by omega), padTo] at h1
  have h4 : ∀ i b, 23 ≤ i → i < 512 → (pageBs t q)[i]? = some b → b = 0 := fun i b a1 a2 a3 => by
    have := h3 i a1 a2
    rw [List.getElem?_append_left (by omega), padTo, List.getElem?_append_left (List.getElem?_eq_some_iff.1 a3).1, a3] at this
    exact Option.some.inj this
  have hlong : 512 < (pageBs t q).length := by
    rcases Nat.lt_or_ge 512 (pageBs t q).length with g | g
    · exact g
    · rw [List.getElem?_append_right g, List.getElem?_replicate, if_pos (by omega)] at h1
      exact absurd (Option.some.inj h1) (by decide)
  have hit : ∃ o b, 362 ≤ o ∧ o ≤ 511 ∧ (pageBs t q)[o]? = some b ∧ b ≠ 0 := by
    rcases hq with ⟨hk1, g, _⟩ | ⟨hk2, g, _⟩ | ⟨hk3, g, _⟩ | ⟨hk4, _⟩
    · have e : pageBs t q = (be 1 q.kind.toNat ++ (num2 t ++ num2 q.pairs.length)) ++ q.pairs.flatMap fun x => txt x.1 ++ txt x.2 := by
        rw [pageBs, bodyOf, if_pos hk1, bodyLeaf]; simp
      rw [e] at hlong ⊢
      refine chunk_hit _ _ _ (fun x hx => ?_) (by simp [be_len, num2_len]) hlong
      have a1 := g.all x.1 (List.mem_map_of_mem hx)
      have a2 := g.vals x hx
      unfold KeyOk at a1
      refine ⟨UInt8.ofNat x.1.length, x.1 ++ txt x.2, by rw [txt, be_one]; rfl, byte_ne (by omega), ?_⟩
      rw [List.length_append, txt_len]; omega
    · have e : pageBs t q = (be 1 q.kind.toNat ++ (num2 t ++ (num2 q.keys.length ++ num2 (q.kids.headD 0)))) ++ (q.keys.zip q.kids.tail).flatMap fun x => txt x.1 ++ num2 x.2 := by
        rw [pageBs, bodyOf, if_neg (by omega), if_pos hk2, bodyBranch]; simp
      rw [e] at hlong ⊢
      refine chunk_hit _ _ _ (fun x hx => ?_) (by simp [be_len, num2_len]) hlong
      have a1 := g.all x.1 (List.of_mem_zip hx).1
      unfold KeyOk at a1
      refine ⟨UInt8.ofNat x.1.length, x.1 ++ num2 x.2, by rw [txt, be_one]; rfl, byte_ne (by omega), ?_⟩
      rw [List.length_append, num2_len]; omega
    · exfalso
      have := flat_len num2 2 q.pages (fun x _ => by rw [num2_len]; omega)
      have := g.len
      rw [pageBs, bodyOf, if_neg (by omega), if_neg (by omega), if_pos hk3, bodyFree] at hlong
      simp only [List.length_append, num2_len, be_len] at hlong
      omega
    · exact absurd hk4 hk
  obtain ⟨o, b, a1, a2, a3, a4⟩ := hit
  exact a4 (h4 o b (by omega) (by omega) a3)
/-- A page's bytes are those of one sector alone. -/
theorem enc_place {s t : Int} {p q : Pg} {l : Bs} (h : Enc s p l) (g : Enc t q l) : s = t := by
  obtain ⟨hf, ⟨a1, a2, rfl⟩ | ⟨a1, a2, rfl⟩⟩ := h
  · obtain ⟨gf, ⟨b1, b2, b3⟩ | ⟨b1, b2, b3⟩⟩ := g
    · have e1 := (super_bytes (ep := p.epoch) (s := s) a1).2.2.1
      have e2 := (super_bytes (ep := q.epoch) (s := t) b1).2.2.1
      rw [← b3, e1] at e2
      exact num2_inj e2 (by omega) (by omega)
    · exact absurd (super_apart a1 gf b1 b3) id
  · obtain ⟨gf, ⟨b1, b2, b3⟩ | ⟨b1, b2, b3⟩⟩ := g
    · exact absurd (super_apart b1 hf a1 b3.symm) id
    · have n1 : ¬ (s = 0 ∨ s = 1) := by unfold Place at a2; omega
      have n2 : ¬ (t = 0 ∨ t = 1) := by unfold Place at b2; omega
      have e1 := enc_sector (s := s) (p := p) ⟨hf, .inr ⟨a1, a2, rfl⟩⟩ n1
      have e2 := enc_sector (s := t) (p := q) ⟨gf, .inr ⟨b1, b2, b3⟩⟩ n2
      rw [e1] at e2
      exact num2_inj e2 (place16 a2) (place16 b2)
/-- A page one of whose bytes is another one is none. -/
theorem enc_turn {s : Int} {p q : Pg} {l : Bs} {i : Nat} {x y : UInt8} (h : Enc s p l) (hx : l[i]? = some x) (g : Enc s q (l.set i y)) : x = y := by
  obtain ⟨hf, ⟨a1, a2, rfl⟩ | ⟨a1, a2, rfl⟩⟩ := h
  · obtain ⟨gf, ⟨b1, b2, b3⟩ | ⟨b1, b2, b3⟩⟩ := g
    · refine twin_turn (twin_doubled _ (by rw [page_len4 a1]; omega)) hx ?_
      rw [b3]
      exact twin_doubled _ (by rw [page_len4 b1]; omega)
    · unfold Place at b2; omega
  · obtain ⟨gf, ⟨b1, b2, b3⟩ | ⟨b1, b2, b3⟩⟩ := g
    · unfold Place at a2; omega
    · exact summed_turn (page_len hf) (page_len gf) hx b3
theorem twin_torn {A B T : Bs} {cut : Nat} (hA : Twin A) (hB : Twin B) (hT : Twin T) (e : T = B.take cut ++ A.drop cut) (hc : cut ≤ 1024) (hne : ¬ ∀ i, i < 8 → A[i]? = B[i]?) : T = A ∧ cut < 1024 ∨ T = B := by
  have hl : (B.take cut).length = cut := by rw [List.length_take, hB.len]; omega
  have lo : ∀ i, i < cut → T[i]? = B[i]? := fun i hi => by rw [e, List.getElem?_append_left (by omega), List.getElem?_take, if_pos hi]
  have hi : ∀ i, cut ≤ i → T[i]? = A[i]? := fun i hi => by rw [e, List.getElem?_append_right (by omega), hl, List.getElem?_drop]; congr 1; omega
  by_cases c1 : cut < 8
  · refine .inl ⟨List.ext_getElem? fun i => ?_, by omega⟩
    by_cases c : i < 8
    · rw [hT.lead i c, hi _ (by omega), ← hA.lead i c]
    · exact hi _ (by omega)
  by_cases c2 : cut ≤ 1016
  · refine absurd (fun i c => ?_) hne
    rw [hA.lead i c, ← hi _ (by omega), ← hT.lead i c, lo _ (by omega)]
  · refine .inr (List.ext_getElem? fun i => ?_)
    by_cases c : i < 1016
    · exact lo _ (by omega)
    · by_cases d : i < 1024
      · have e1 := hT.lead (i - 1016) (by omega)
        have e2 := hB.lead (i - 1016) (by omega)
        rw [show 1016 + (i - 1016) = i by omega] at e1 e2
        rw [← e1, ← e2]
        exact lo _ (by omega)
      · rw [List.getElem?_eq_none (by rw [hT.len]; omega), List.getElem?_eq_none (by rw [hB.len]; omega)]
theorem enc_twin {s : Int} {p : Pg} {l : Bs} (h : Enc s p l) (hs : s = 0 ∨ s = 1) : Twin l ∧ p.kind = 4 ∧ l[8]? = some 4 ∧ l.take 8 = be 8 p.epoch := by
  obtain ⟨hf, ⟨a1, a2, rfl⟩ | ⟨a1, a2, rfl⟩⟩ := h
  · exact ⟨twin_doubled _ (by rw [page_len4 a1]; omega), a1, (super_bytes a1).2.1, by rw [doubledBs, List.take_left' (be_len 8 _)]⟩
  · unfold Place at a2; omega
theorem enc_kind {s : Int} {p : Pg} {l : Bs} (h : Enc s p l) (hk : p.kind = 4) : s = 0 ∨ s = 1 := by
  obtain ⟨hf, ⟨a1, a2, rfl⟩ | ⟨a1, a2, rfl⟩⟩ := h
  · exact a2
  · exact absurd hk a1
/-- What a superblock that is torn is. -/
theorem enc_torn {s : Int} {now q : Pg} {A B : Bs} {cut : Nat} {oe : Nat} (hB : Enc s now B) (hk : now.kind = 4) (hA : Twin A) (hA8 : A.take 8 = be 8 oe) (ho : oe < 18446744073709551616) (hn : now.epoch < 18446744073709551616) (hne : oe ≠ now.epoch) (hc : cut ≤ 1024) (hT : Enc s q (B.take cut ++ A.drop cut)) :
    B.take cut ++ A.drop cut = A ∧ cut < 1024 ∨ B.take cut ++ A.drop cut = B := by
  have hs := enc_kind hB hk
  obtain ⟨t1, _, _, t4⟩ := enc_twin hB hs
  refine twin_torn hA t1 (enc_twin hT hs).1 rfl hc (fun h => ?_)
  have : A.take 8 = B.take 8 := List.ext_getElem? fun i => by
    rw [List.getElem?_take, List.getElem?_take]
    by_cases c : i < 8
    · rw [if_pos c, if_pos c]; exact h i c
    · rw [if_neg c, if_neg c]
  rw [hA8, t4] at this
  exact hne (be_inj this (by omega) (by omega))
end Go.Proofs.YthnodkhcenmnfaaGreat.Page
namespace Go.Proofs.YthnodkhcenmnfaaGreat.Page
open Go.ChangeShapes Go.WideShapes Go.ChangeAt Go.WideMaps Go.WideElems Go.RowKit Go.Deep Gen

theorem laidOut : laidOutB Tryz.prog = true := by kernel_rfl
/-- A list out of what there is of each number. -/
theorem list_of {α : Type} (p : Nat → α → Prop) : ∀ n, (∀ j, j < n → ∃ x, p j x) → ∃ l : List α, l.length = n ∧ ∀ j (h : j < l.length), p j l[j]
  | 0, _ => ⟨[], rfl, fun j h => by simp at h⟩
  | n + 1, h => by
    obtain ⟨l, hl, hp⟩ := list_of p n (fun j hj => h j (by omega))
    obtain ⟨x, hx⟩ := h n (by omega)
    refine ⟨l ++ [x], by simp [hl], fun j hj => ?_⟩
    rw [List.length_append, List.length_singleton] at hj
    by_cases e : j < l.length
    · rw [List.getElem_append_left e]; exact hp j e
    · obtain rfl : j = l.length := by omega
      rw [List.getElem_append_right (Nat.le_refl _)]
      simp only [Nat.sub_self, List.getElem_singleton]
      rw [hl]; exact hx
/-- Cells one behind the other are a row. -/
theorem row_of {α : Type} {enc : α → Value} {W : World} {a : Addr} {l : List α} (h : ∀ j (hj : j < l.length), W.cell? (a.add j) = some (enc l[j])) : RowG W enc (some a) l := fun hne => by
  have h0 : 0 < l.length := List.length_pos_iff.2 hne
  obtain ⟨b, off, spot⟩ := a
  have hspot : spot = none := by simpa [Addr.add] using World.cell?_spot (h 0 h0)
  subst hspot
  have e0 := h 0 h0
  rw [add_none] at e0
  refine ⟨b, off, rfl, block_lt_of_cell e0, fun j hj => ?_⟩
  rw [← add_none]
  exact h j hj
section
variable {H : Type} {enc : TypeId × Value → H} {W : World} {fuel : Nat} {cs : List Value} {x : DataW H × List MemPlace}
set_option maxRecDepth 100000 in
theorem open_str1 (hf : DataW.trod enc Tryz.prog W 0 (fun _ => true) true fuel 9 cs = some x) : ∃ l : Bs, cs = [strV l] := by
  obtain ⟨s, rfl, _, _⟩ := DataW.trod_string Tryz.underlying9 hf
  refine ⟨s.data.toList, ?_⟩
  cases s
  simp [strB]
set_option maxRecDepth 100000 in
theorem open_strs1 (hf : DataW.trod enc Tryz.prog W 0 (fun _ => true) true fuel 33 cs = some x) : ∃ (A : Option Addr) (c : Nat) (l : List Bs), cs = [.slice A l.length c] ∧ l.length ≤ c ∧ c ≤ maxLen ∧ SRow W A l := by
  rcases open_slice1 Tryz.underlying33 (by kernel_rfl) hf with ⟨rfl, _⟩ | ⟨a, len, cap, m, n, V, D, Pl, rfl, _, hl, hm, hmm, _, hi⟩
  · exact ⟨none, 0, [], rfl, Nat.le_refl _, Nat.zero_le _, fun h => absurd rfl h⟩
  · have hmc : m = cap := by simpa using hmm
    subst hmc
    obtain ⟨l, hll, hp⟩ := list_of (fun j l => W.cell? (a.add j) = some (strV l)) len (fun j hj => by
      obtain ⟨h1, h2⟩ := hi j (by omega)
      obtain ⟨l, e⟩ := open_str1 h2
      rw [(List.cons.inj e).1] at h1
      exact ⟨l, h1⟩)
    exact ⟨some a, m, l, by rw [hll], by omega, hm, row_of hp⟩
set_option maxRecDepth 100000 in
theorem open_ints1 (hf : DataW.trod enc Tryz.prog W 0 (fun _ => true) true fuel 34 cs = some x) : ∃ (A : Option Addr) (c : Nat) (l : List Int), cs = [.slice A l.length c] ∧ l.length ≤ c ∧ c ≤ maxLen ∧ IRow W A l := by
  rcases open_ints Tryz.underlying34 Tryz.underlying3 (by kernel_rfl) hf with ⟨rfl, _⟩ | ⟨x, len, cap, zs, rfl, _, hl, hm, hz, _, hcell, hwz⟩
  · exact ⟨none, 0, [], rfl, Nat.le_refl _, Nat.zero_le _, fun h => absurd rfl h⟩
  · have hz' : zs.length = cap := by simpa using hz
    have hlen : (zs.take len).length = len := by rw [List.length_take]; omega
    refine ⟨some x, cap, zs.take len, by rw [hlen], by omega, hm, row_of fun j hj => ?_⟩
    rw [hlen] at hj
    rw [hcell j (by omega)]
    have hk' : j < zs.length := by omega
    simp only [List.getElem_take, List.getD_eq_getElem?_getD, List.getElem?_eq_getElem hk', Option.getD_some]
theorem cells_pair : Tryz.prog.cellsOf 66 = 2 := by kernel_rfl
set_option maxRecDepth 100000 in
theorem open_pairs1 (hf : DataW.trod enc Tryz.prog W 0 (fun _ => true) true fuel 32 cs = some x) : ∃ (A : Option Addr) (c : Nat) (l : List (Bs × Bs)), cs = [.slice A l.length c] ∧ l.length ≤ c ∧ c ≤ maxLen ∧ PRow W A l := by
  rcases open_slice Tryz.underlying32 hf with ⟨rfl, _⟩ | ⟨a, len, cap, m, n, D, Pl, rfl, _, hl, hm, hmm, _, hi⟩
  · exact ⟨none, 0, [], rfl, Nat.le_refl _, Nat.zero_le _, fun h => absurd rfl h⟩
  · have hmc : m = cap := by simpa using hmm
    subst hmc
    obtain ⟨l, hll, hp⟩ := list_of (fun j (x : Bs × Bs) => W.cells? 0 (a.add (j * 2)) 2 = some [strV x.1, strV x.2]) len (fun j hj => by
      obtain ⟨cs', h1, h2⟩ := hi j (by omega)
      rw [cells_pair] at h1
      obtain ⟨xs, k, _, _, hlen, hxl, hg⟩ := DataW.trod_struct Tryz.underlying66 h2
      rw [cells_pair] at hlen
      have g0 := hg 0 _ rfl
      have g1 := hg 1 _ rfl
      match cs', hlen, xs, hxl with
      | [v0, v1], _, [y0, y1], _ =>
        simp only [List.getElem?_cons_succ, List.getElem?_cons_zero] at g0 g1
        obtain ⟨s0, e0⟩ := open_str1 g0
        obtain ⟨s1, e1⟩ := open_str1 g1
        rw [(List.cons.inj e0).1, (List.cons.inj e1).1] at h1
        exact ⟨(s0, s1), h1⟩)
    refine ⟨some a, m, l, by rw [hll], by omega, hm, fun hne => ?_⟩
    have h0 : 0 < l.length := List.length_pos_iff.2 hne
    obtain ⟨b, off, spot⟩ := a
    have g0 := (World.cells?_some (hp 0 h0)).2.2 0 (by simp)
    have hspot : spot = none := by simpa [Addr.add] using World.cell?_spot g0
    subst hspot
    rw [add_none, add_none] at g0
    refine ⟨b, off, rfl, block_lt_of_cell g0, fun j hj => ?_⟩
    have g := (World.cells?_some (hp j hj)).2.2
    simp only [add_none] at g
    exact ⟨g 0 (by simp), g 1 (by simp)⟩
end
theorem cells_page : Tryz.prog.cellsOf 37 = 11 := by kernel_rfl
set_option maxRecDepth 100000 in
/-- A page that came in. -/
theorem open_page {H : Type} {enc : TypeId × Value → H} {W : World} {base : Nat} {v : Value} {d : DataW H} {ps : List MemPlace} (hval : Value.okWide Tryz.prog W .any base 37 v)
    (h : DataW.Trod enc Tryz.prog W 0 (fun _ => true) true 37 v d ps) : ∃ (p : Pg) (a : Lay), v = pgV p a ∧ PgOk p ∧ PgRows W p a := by
  obtain ⟨cs, rfl, hsz⟩ := okWide_struct Tryz.underlying37 hval
  obtain ⟨fuel, hf⟩ := h
  obtain ⟨xs, n, _, _, hlen, hxl, hg⟩ := DataW.trod_struct Tryz.underlying37 hf
  rw [cells_page] at hlen
  have h0 := hg 0 _ rfl
  have h1 := hg 1 _ rfl
  have h2 := hg 2 _ rfl
  have h3 := hg 3 _ rfl
  have h4 := hg 4 _ rfl
  have h5 := hg 5 _ rfl
  have h6 := hg 6 _ rfl
  have h7 := hg 7 _ rfl
  have h8 := hg 8 _ rfl
  have h9 := hg 9 _ rfl
  have h10 := hg 10 _ rfl
  obtain ⟨l, hl⟩ : ∃ l, cs.toList = l := ⟨_, rfl⟩
  have hcs : cs = l.toArray := by rw [← hl]
  subst hcs
  simp only [Value.cells] at hlen h0 h1 h2 h3 h4 h5 h6 h7 h8 h9 h10
  match l, hlen, xs, hxl with
  | [v0, v1, v2, v3, v4, v5, v6, v7, v8, v9, v10], _, [y0, y1, y2, y3, y4, y5, y6, y7, y8, y9, y10], _ =>
    simp only [List.getElem?_cons_succ, List.getElem?_cons_zero] at h0 h1 h2 h3 h4 h5 h6 h7 h8 h9 h10
    obtain ⟨m0, e0, _, w0⟩ := DataW.trod_int Tryz.underlying3 h0
    obtain ⟨A1, c1, l1, e1, g1, x1, r1⟩ := open_pairs1 h1
    obtain ⟨A2, c2, l2, e2, g2, x2, r2⟩ := open_strs1 h2
    obtain ⟨A3, c3, l3, e3, g3, x3, r3⟩ := open_ints1 h3
    obtain ⟨A4, c4, l4, e4, g4, x4, r4⟩ := open_ints1 h4
    obtain ⟨m5, e5, _, w5⟩ := DataW.trod_int Tryz.underlying3 h5
    obtain ⟨m6, e6, _, w6⟩ := DataW.trod_int Tryz.underlying35 h6
    obtain ⟨m7, e7, _, w7⟩ := DataW.trod_int Tryz.underlying3 h7
    obtain ⟨m8, e8, _, w8⟩ := DataW.trod_int Tryz.underlying3 h8
    obtain ⟨m9, e9, _, w9⟩ := DataW.trod_int Tryz.underlying3 h9
    obtain ⟨m10, e10, _, w10⟩ := DataW.trod_int Tryz.underlying3 h10
    have b6 := bounds_u64 w6
    unfold maxLen at x1 x2 x3 x4
    refine ⟨⟨m0, l1, l2, l3, l4, m5, m6.toNat, m7, m8, m9, m10⟩, ⟨A1, c1, A2, c2, A3, c3, A4, c4⟩, ?_, ⟨bounds_i64 w0, by show l1.length ≤ _; omega, by show l2.length ≤ _; omega, by show l3.length ≤ _; omega, by show l4.length ≤ _; omega, bounds_i64 w5, by show m6.toNat < _; omega, bounds_i64 w7, bounds_i64 w8, bounds_i64 w9, bounds_i64 w10⟩, ⟨r1, r2, r3, r4⟩⟩
    rw [(List.cons.inj e0).1, (List.cons.inj e1).1, (List.cons.inj e2).1, (List.cons.inj e3).1, (List.cons.inj e4).1, (List.cons.inj e5).1, (List.cons.inj e6).1, (List.cons.inj e7).1, (List.cons.inj e8).1, (List.cons.inj e9).1, (List.cons.inj e10).1]
    show _ = Value.agg #[.int .i64 m0, .slice A1 l1.length c1, .slice A2 l2.length c2, .slice A3 l3.length c3, .slice A4 l4.length c4, .int .i64 m5, .int .u64 ((m6.toNat : Nat) : Int), .int .i64 m7, .int .i64 m8, .int .i64 m9, .int .i64 m10]
    rw [show ((m6.toNat : Nat) : Int) = m6 by omega]
set_option maxRecDepth 100000 in
/-- Bytes that came in, nil or not. -/
theorem open_bytes {H : Type} {enc : TypeId × Value → H} {W : World} {base : Nat} {v : Value} {d : DataW H} {ps : List MemPlace} (hval : Value.okWide Tryz.prog W .any base 43 v)
    (h : DataW.Trod enc Tryz.prog W 0 (fun _ => true) true 43 v d ps) :
    ∃ (A : Option Addr) (n c : Nat) (l : List UInt8), v = .slice A n c ∧ l.length = n ∧ n ≤ c ∧ c ≤ maxLen ∧ (A = none → c = 0) ∧ BRow W A l := by
  obtain ⟨a0, len, cap, rfl⟩ := okWide_slice Tryz.underlying43 hval
  obtain ⟨fuel, hf⟩ := h
  rcases open_ints Tryz.underlying43 Tryz.underlying5 (by kernel_rfl) hf with ⟨hcs, _⟩ | ⟨x, l, c, zs, hcs, _, hl, hm, hz, _, hcell, hwz⟩
  · simp [Value.cells] at hcs
    obtain ⟨rfl, rfl, rfl⟩ := hcs
    exact ⟨none, 0, 0, [], rfl, rfl, Nat.le_refl _, Nat.zero_le _, fun _ => rfl, fun h => absurd rfl h⟩
  · simp [Value.cells] at hcs
    obtain ⟨rfl, rfl, rfl⟩ := hcs
    have hz' : zs.length = cap := by simpa using hz
    have hlen : ((zs.take len).map fun z => UInt8.ofNat z.toNat).length = len := by rw [List.length_map, List.length_take]; omega
    refine ⟨_, len, cap, (zs.take len).map (fun z => UInt8.ofNat z.toNat), rfl, hlen, hl, hm, fun h => (by cases h), row_of fun k hk => ?_⟩
    rw [hlen] at hk
    rw [hcell k (by omega)]
    have hk' : k < zs.length := by omega
    have hb := bounds_u8 (hwz zs[k] (List.getElem_mem hk'))
    simp only [List.getElem_map, List.getElem_take, List.getD_eq_getElem?_getD, List.getElem?_eq_getElem hk', Option.getD_some]
    congr 2
    rw [UInt8.toNat_ofNat']; omega
end Go.Proofs.YthnodkhcenmnfaaGreat.Page
namespace Go.Proofs.YthnodkhcenmnfaaGreat.Page
open Go.RowKit Gen

/-- An answer, whichever. -/
def Answers (w : World) (e : Ending) (w' : World) : Prop := (∃ r : Bool, e = .returned (.bool r)) ∧ Below w.heap.size w w'
set_option maxRecDepth 100000 in
theorem few_any (p : Pg) (a : Lay) (w : World) (hok : PgOk p) (hR : PgRows w p a) : Calls Tryz.prog 18 #[pgV p a] w (Answers w) := by
  have b1 : Below w.heap.size w (w.alloc (.cells (pgC p a) 37)) := (Below.refl _ _).alloc (Nat.le_refl _) _
  have B1 := Lib.hid b1
  have AT := Lib.hid (pg_box w p a)
  have HP := Lib.hid (hR.below b1).r1
  have HK := Lib.hid (hR.below b1).r2
  have hkl := hok.keys
  have hpl := hok.pairs
  clear hR hok b1
  obtain ⟨W0, hW0⟩ : ∃ W0, w.alloc (.cells (pgC p a) 37) = W0 := ⟨_, rfl⟩
  unfold pgV
  unfold pgC at *
  rw [hW0] at AT HP HK B1
  have x1 : W0.cell? ⟨w.heap.size, 1, none⟩ = some (.slice a.A1 p.pairs.length a.c1) := AT.out.2.2 1 _ rfl
  have x2 : W0.cell? ⟨w.heap.size, 2, none⟩ = some (.slice a.A2 p.keys.length a.c2) := AT.out.2.2 2 _ rfl
  have x3 : W0.cell? ⟨w.heap.size, 3, none⟩ = some (.slice a.A3 p.kids.length a.c3) := AT.out.2.2 3 _ rfl
  have x4 : W0.cell? ⟨w.heap.size, 4, none⟩ = some (.slice a.A4 p.pages.length a.c4) := AT.out.2.2 4 _ rfl
  obtain ⟨n, hn⟩ : ∃ n, p.pairs.length = n := ⟨_, rfl⟩
  obtain ⟨m, hm⟩ : ∃ m, p.keys.length = m := ⟨_, rfl⟩
  rw [hn] at x1 AT hW0 hpl ⊢
  rw [hm] at x2 AT hW0 hkl ⊢
  have HN := Lib.hid hn
  have HM := Lib.hid hm
  clear hn hm
  generalize a.A1 = Ak at *
  generalize a.A2 = Ad at *
  by_cases hbig : decide (300 < (n : Int)) = true ∨ decide (300 < (m : Int)) = true ∨ decide (300 < (p.kids.length : Int)) = true ∨ decide (300 < (p.pages.length : Int)) = true
  · rcases e1 : decide (300 < (n : Int)) with _ | _ <;> rcases e2 : decide (300 < (m : Int)) with _ | _ <;> rcases e3 : decide (300 < (p.kids.length : Int)) with _ | _ <;> rcases e4 : decide (300 < (p.pages.length : Int)) with _ | _
    · exact absurd hbig (by rw [e1, e2, e3, e4]; decide)
    all_goals
      clear hbig
      go_enter Tryz.func18, Tryz.ntmps18
      go_wp2_with fail
      go_ret
      exact ⟨⟨_, rfl⟩, B1.out⟩
  have e1 : decide (300 < (n : Int)) = false := by rw [← Bool.not_eq_true]; exact fun h => hbig (.inl h)
  have e2 : decide (300 < (m : Int)) = false := by rw [← Bool.not_eq_true]; exact fun h => hbig (.inr (.inl h))
  have e3 : decide (300 < (p.kids.length : Int)) = false := by rw [← Bool.not_eq_true]; exact fun h => hbig (.inr (.inr (.inl h)))
  have e4 : decide (300 < (p.pages.length : Int)) = false := by rw [← Bool.not_eq_true]; exact fun h => hbig (.inr (.inr (.inr h)))
  clear hbig
  go_enter Tryz.func18, Tryz.ntmps18
  go_wp2_with fail
  clear hW0 x1 x2 x3 x4
  have hn3 : n ≤ 300 := by simp at e1; omega
  have hm3 : m ≤ 300 := by simp at e2; omega
  clear e1 e2 e3 e4 hkl hpl
  go_loopw [3] (fun i wr => ∃ k : Nat, i = .int .i64 (k : Int) ∧ k ≤ n ∧ Drew W0 wr) (fun i _ => n - (intOf i).toNat)
  case atStart => exact ⟨0, rfl, Nat.zero_le _, Drew.refl _⟩
  case round =>
    obtain ⟨k, rfl, hk, hD⟩ := hrel
    have HD := Lib.hid hD
    have x1 := (AT.out.below (hD.below _) AT.out.1).2.2 1 _ rfl
    have x2 := (AT.out.below (hD.below _) AT.out.1).2.2 2 _ rfl
    clear hD
    by_cases hlt : k < n
    · have hka : k < p.pairs.length := by have := HN.out; omega
      obtain ⟨b, o, rfl, -, hc⟩ := HP.out (by intro e; rw [e] at hka; simp at hka)
      obtain ⟨h1, h2⟩ := hc k hka
      rw [← HD.out.cell] at h1 h2
      have t1 : (k : Int) < (n : Int) := by omega
      have t3 : (0 : Int) ≤ (k : Int) := by omega
      obtain ⟨X, hX⟩ : ∃ X, strB p.pairs[k].1 = X := ⟨_, rfl⟩
      obtain ⟨Y, hY⟩ : ∃ X, strB p.pairs[k].2 = X := ⟨_, rfl⟩
      rw [show strV p.pairs[k].1 = .string X by rw [← hX]] at h1
      rw [show strV p.pairs[k].2 = .string Y by rw [← hY]] at h2
      clear hc x2 hX hY
      rcases g1 : decide (200 < (X.size : Int)) with _ | _
      rotate_left
      · go_wp2_with fail
        go_ret
        exact ⟨⟨_, rfl⟩, B1.out.trans (HD.out.below _)⟩
      rcases g2 : decide (200 < (Y.size : Int)) with _ | _
      rotate_left
      · go_wp2_with fail
        go_ret
        exact ⟨⟨_, rfl⟩, B1.out.trans (HD.out.below _)⟩
      go_wp2_with fail
      go_roundw
      case rel => exact ⟨k + 1, by go_num, by omega, HD.out⟩
      case measure => simp [intOf]; omega
    · go_wp2_with fail
      clear x1 x2
      obtain ⟨W1, rfl⟩ : ∃ W1 : World, W1 = wr := ⟨_, rfl⟩
      go_loop [4] (fun i => ∃ k : Nat, i = .int .i64 (k : Int) ∧ k ≤ m) (fun i => m - (intOf i).toNat)
      case atStart => exact ⟨0, rfl, Nat.zero_le _⟩
      case round =>
        obtain ⟨k2, rfl, hk2⟩ := hrel
        have x2 := (AT.out.below (HD.out.below _) AT.out.1).2.2 2 _ rfl
        by_cases hlt2 : k2 < m
        · have hka : k2 < p.keys.length := by have := HM.out; omega
          obtain ⟨b, o, rfl, -, hc⟩ := HK.out (by intro e; rw [e] at hka; simp at hka)
          have h1 := hc k2 hka
          rw [← HD.out.cell] at h1
          have t1 : (k2 : Int) < (m : Int) := by omega
          have t3 : (0 : Int) ≤ (k2 : Int) := by omega
          obtain ⟨X, hX⟩ : ∃ X, strB p.keys[k2] = X := ⟨_, rfl⟩
          rw [show strV p.keys[k2] = .string X by rw [← hX]] at h1
          clear hc hX
          rcases g1 : decide (200 < (X.size : Int)) with _ | _
          rotate_left
          · go_wp2_with fail
            go_ret
            exact ⟨⟨_, rfl⟩, B1.out.trans (HD.out.below _)⟩
          go_wp2_with fail
          go_round
          case rel => exact ⟨k2 + 1, by go_num, by omega⟩
          case measure => simp [intOf]; omega
        · go_wp2_with fail
          go_ret
          exact ⟨⟨_, rfl⟩, B1.out.trans (HD.out.below _)⟩
end Go.Proofs.YthnodkhcenmnfaaGreat.Page
