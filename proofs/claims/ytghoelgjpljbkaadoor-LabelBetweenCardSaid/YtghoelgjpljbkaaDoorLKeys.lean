/-
  Plain facts on keys: what a key is made of, and how it is split.
-/
import Derived.Test.YtghoelgjpljbkaaDoorLName
import Derived.Lib.Split
import Derived.Lib.IndexBytes
import Derived.Lib.IndexLaws
namespace Go.Proofs.YtghoelgjpljbkaaDoor.Label
open Go.Lib (splitB indexB index indexByte)

/-- Texts with bars between. -/
def bars (ps : List (List UInt8)) : List UInt8 := ps.flatMap fun p => 124 :: p
def join : List (List UInt8) → List UInt8
  | [] => []
  | p :: ps => p ++ bars ps
theorem bars_cons (p : List UInt8) (ps : List (List UInt8)) : bars (p :: ps) = 124 :: (p ++ bars ps) := by simp [bars]
theorem bars_snoc (ps : List (List UInt8)) (p : List UInt8) : bars (ps ++ [p]) = bars ps ++ 124 :: p := by simp [bars]
theorem indexByte_hit : ∀ (p r : List UInt8), (∀ c ∈ p, c ≠ 124) → indexByte (p ++ 124 :: r) 124 = p.length
  | [], r, _ => by simp [indexByte]
  | c :: p, r, h => by
    have h1 : c ≠ 124 := h c (List.mem_cons_self ..)
    have ih := indexByte_hit p r (fun d hd => h d (List.mem_cons_of_mem _ hd))
    simp only [List.cons_append, indexByte]
    rw [ih]
    simp [h1]
theorem indexByte_miss : ∀ (p : List UInt8), (∀ c ∈ p, c ≠ 124) → indexByte p 124 = -1
  | [], _ => rfl
  | c :: p, h => by
    have h1 : c ≠ 124 := h c (List.mem_cons_self ..)
    have ih := indexByte_miss p (fun d hd => h d (List.mem_cons_of_mem _ hd))
    simp only [indexByte]
    rw [ih]
    simp [h1]
/-- The first bar of a text, or none. -/
theorem bar_cases (l : List UInt8) : (∀ c ∈ l, c ≠ 124) ∨ ∃ p r, l = p ++ 124 :: r ∧ ∀ c ∈ p, c ≠ 124 := by
  induction l with
  | nil => exact Or.inl (fun c h => by cases h)
  | cons c l ih =>
    by_cases h : c = 124
    · subst h; exact Or.inr ⟨[], l, rfl, fun c h => by cases h⟩
    · rcases ih with ih | ⟨p, r, rfl, hp⟩
      · refine Or.inl (fun d hd => ?_)
        rcases List.mem_cons.1 hd with rfl | hd
        · exact h
        · exact ih d hd
      · refine Or.inr ⟨c :: p, r, rfl, fun d hd => ?_⟩
        rcases List.mem_cons.1 hd with rfl | hd
        · exact h
        · exact hp d hd
theorem idx (s : ByteArray) : indexB s ⟨#[124]⟩ = indexByte s.data.toList 124 := by
  have : indexB s ⟨#[124]⟩ = index s.data.toList [124] := rfl
  rw [this, Go.Lib.index_one]
theorem ext_data (s : ByteArray) (a b : Nat) : (s.extract a b).data.toList = (s.data.toList.take b).drop a := by
  rw [ByteArray.data_extract, Array.toList_extract]
  simp [List.extract_eq_take_drop, List.drop_take]
theorem split_miss (k : Nat) (s : ByteArray) (h : ∀ c ∈ s.data.toList, c ≠ 124) : splitB ⟨#[124]⟩ 0 k s = [s] :=
  Go.Lib.splitB_miss _ _ _ _ (by rw [idx, indexByte_miss _ h])
theorem split_hit (k : Nat) (s : ByteArray) (p r : List UInt8) (hs : s.data.toList = p ++ 124 :: r) (h : ∀ c ∈ p, c ≠ 124) :
    splitB ⟨#[124]⟩ 0 (k + 1) s = ⟨p.toArray⟩ :: splitB ⟨#[124]⟩ 0 k ⟨r.toArray⟩ := by
  have hsz : s.size = p.length + 1 + r.length := by rw [show s.size = s.data.toList.length from rfl, hs]; simp; omega
  rw [Go.Lib.splitB_hit _ _ _ _ p.length (by rw [idx, hs, indexByte_hit p r h])]
  have e1 : s.extract 0 (p.length + 0) = ⟨p.toArray⟩ := by
    apply ByteArray.ext; apply Array.toList_inj.1
    rw [ext_data, hs]; simp
  have e2 : s.extract (p.length + (⟨#[124]⟩ : ByteArray).size) s.size = ⟨r.toArray⟩ := by
    apply ByteArray.ext; apply Array.toList_inj.1
    rw [ext_data, hs, show (⟨#[124]⟩ : ByteArray).size = 1 from rfl, List.take_of_length_le (by rw [hsz]; simp; omega)]
    simp
  rw [e1, e2]
/-- What is split, joined again, is what it was. -/
theorem split_join : ∀ (k : Nat) (s : ByteArray), join ((splitB ⟨#[124]⟩ 0 k s).map (·.data.toList)) = s.data.toList ∧ splitB ⟨#[124]⟩ 0 k s ≠ []
  | 0, s => by simp [splitB, join, bars]
  | k + 1, s => by
    rcases bar_cases s.data.toList with h | ⟨p, r, hs, hp⟩
    · rw [split_miss _ _ h]; simp [join, bars]
    · rw [split_hit k s p r hs hp]
      have ih := split_join k ⟨r.toArray⟩
      obtain ⟨q, qs, hq⟩ : ∃ q qs, splitB ⟨#[124]⟩ 0 k ⟨r.toArray⟩ = q :: qs := by
        cases h : splitB ⟨#[124]⟩ 0 k ⟨r.toArray⟩ with
        | nil => exact absurd h ih.2
        | cons q qs => exact ⟨q, qs, rfl⟩
      rw [hq] at ih ⊢
      refine ⟨?_, by simp⟩
      have ih := ih.1
      simp only [List.map_cons, join] at ih ⊢
      rw [bars_cons, ih, hs]
/-- What has no bars inside is split as it was joined. -/
theorem split_of_join : ∀ (ws : List (List UInt8)) (k : Nat), ws ≠ [] → ws.length ≤ k + 1 → (∀ p ∈ ws, ∀ c ∈ p, c ≠ 124) → ∀ s : ByteArray, s.data.toList = join ws → splitB ⟨#[124]⟩ 0 k s = ws.map fun p => ⟨p.toArray⟩
  | [], _, h, _, _, _, _ => absurd rfl h
  | [p], k, _, _, hp, s, hs => by
    have hs : s.data.toList = p := by simpa [join, bars] using hs
    rw [split_miss k s (by rw [hs]; exact hp p (List.mem_cons_self ..))]
    simp only [List.map_cons, List.map_nil]
    congr 1
    apply ByteArray.ext; apply Array.toList_inj.1; rw [hs]
  | p :: q :: ws, k, _, hk, hp, s, hs => by
    obtain ⟨k, rfl⟩ : ∃ j, k = j + 1 := ⟨k - 1, by simp at hk; omega⟩
    have hs : s.data.toList = p ++ 124 :: (join (q :: ws)) := by rw [hs, join, bars_cons]; rfl
    rw [split_hit k s p _ hs (hp p (List.mem_cons_self ..))]
    rw [split_of_join (q :: ws) k (by simp) (by simp at hk ⊢; omega) (fun x hx => hp x (List.mem_cons_of_mem _ hx)) ⟨(join (q :: ws)).toArray⟩ rfl]
    rfl

/-- Which parts a key may be made of, and the key. -/
def partOk (p : List UInt8) : Bool := madeB wordB 16 p
def keyOk (sp : UInt8) (ps : List (List UInt8)) : Bool := smallB sp && (decide (1 ≤ ps.length ∧ ps.length ≤ 4) && ps.all partOk)
def keyS (sp : UInt8) (ps : List (List UInt8)) : List UInt8 := sp :: bars ps
/-- What Key answers. -/
def kR (sp : UInt8) (ps : List (List UInt8)) : List UInt8 := if keyOk sp ps then keyS sp ps else []
def kE (sp : UInt8) (ps : List (List UInt8)) : Int := if keyOk sp ps then 0 else 20
theorem part_nobar {p : List UInt8} (h : partOk p = true) : ∀ c ∈ p, c ≠ 124 := by
  intro c hc e
  unfold partOk madeB at h
  rw [Bool.and_eq_true] at h
  have := List.all_eq_true.1 h.2 c hc
  subst e
  revert this; decide
theorem part_len {p : List UInt8} (h : partOk p = true) : 1 ≤ p.length ∧ p.length ≤ 16 := by
  unfold partOk madeB at h
  rw [Bool.and_eq_true, decide_eq_true_eq] at h
  exact h.1
theorem small_nobar {c : UInt8} (h : smallB c = true) : c ≠ 124 := by intro e; subst e; revert h; decide
theorem ok_parts {sp : UInt8} {ps : List (List UInt8)} (h : keyOk sp ps = true) : smallB sp = true ∧ 1 ≤ ps.length ∧ ps.length ≤ 4 ∧ ∀ p ∈ ps, partOk p = true := by
  unfold keyOk at h
  rw [Bool.and_eq_true, Bool.and_eq_true, decide_eq_true_eq, List.all_eq_true] at h
  exact ⟨h.1, h.2.1.1, h.2.1.2, h.2.2⟩
theorem key_join (sp : UInt8) (ps : List (List UInt8)) : keyS sp ps = join ([sp] :: ps) := rfl
theorem bars_len (n m : Nat) : ∀ ps : List (List UInt8), ps.length ≤ n → (∀ p ∈ ps, p.length ≤ m) → ps.length ≤ (bars ps).length ∧ (bars ps).length ≤ n * (m + 1)
  | [], _, _ => by simp [bars]
  | p :: ps, hn, hp => by
    obtain ⟨n, rfl⟩ : ∃ j, n = j + 1 := ⟨n - 1, by simp at hn; omega⟩
    have ih := bars_len n m ps (by simpa using hn) (fun q hq => hp q (List.mem_cons_of_mem _ hq))
    have := hp p (List.mem_cons_self ..)
    rw [bars_cons]
    simp only [List.length_cons, List.length_append, Nat.succ_mul]
    omega
theorem key_len {sp : UInt8} {ps : List (List UInt8)} (h : keyOk sp ps = true) : ps.length + 1 ≤ (keyS sp ps).length ∧ (keyS sp ps).length ≤ 69 := by
  obtain ⟨_, _, h4, hp⟩ := ok_parts h
  have := bars_len 4 16 ps h4 (fun p hm => (part_len (hp p hm)).2)
  simp [keyS]; omega
theorem map_back : ∀ ps : List (List UInt8), (ps.map fun p => (⟨p.toArray⟩ : ByteArray)).map (fun b => b.data.toList) = ps
  | [] => rfl
  | p :: ps => by simp only [List.map_cons, map_back ps]
/-- One key, one space and parts. -/
theorem key_inj {sp sp' : UInt8} {ps ps' : List (List UInt8)} (h : keyOk sp ps = true) (h' : keyOk sp' ps' = true) (e : keyS sp ps = keyS sp' ps') : sp = sp' ∧ ps = ps' := by
  obtain ⟨a1, a2, a3, a4⟩ := ok_parts h
  obtain ⟨b1, b2, b3, b4⟩ := ok_parts h'
  have x := split_of_join ([sp] :: ps) 4 (by simp) (by simp; omega) (fun p hp => by
    rcases List.mem_cons.1 hp with rfl | hp
    · intro c hc; rw [List.mem_singleton.1 hc]; exact small_nobar a1
    · exact part_nobar (a4 p hp)) ⟨(keyS sp ps).toArray⟩ rfl
  have y := split_of_join ([sp'] :: ps') 4 (by simp) (by simp; omega) (fun p hp => by
    rcases List.mem_cons.1 hp with rfl | hp
    · intro c hc; rw [List.mem_singleton.1 hc]; exact small_nobar b1
    · exact part_nobar (b4 p hp)) ⟨(keyS sp ps).toArray⟩ e
  rw [x] at y
  have z : [sp] :: ps = [sp'] :: ps' := by
    have := congrArg (List.map fun b : ByteArray => b.data.toList) y
    rwa [map_back, map_back] at this
  injection z with z1 z2
  injection z1 with z1 _
  exact ⟨z1, z2⟩
end Go.Proofs.YtghoelgjpljbkaaDoor.Label
