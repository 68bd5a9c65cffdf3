/-
  The contract of package label's Split.
-/
import Derived.Test.YtghoelgjpljbkaaDoorLKey
import Derived.WalkSpells
namespace Go.Proofs.YtghoelgjpljbkaaDoor.Label
open Go.RowKit
open Go.Lib (splitB cellsOf)

/-- What Split tells of a text. -/
def SplitPost (l : List UInt8) (w : World) (e : Ending) (w' : World) : Prop :=
  Below w.heap.size w w' ∧ ((∃ (sp : UInt8) (A : Option Addr) (c : Nat) (bs : List ByteArray), keyOk sp (txt bs) = true ∧ l = keyS sp (txt bs) ∧
      e = .returned (.tuple #[.int .u8 (sp.toNat : Int), .slice A bs.length c, .int .i64 0]) ∧ bs.length ≤ c ∧ SRow w' A bs) ∨
    ((∀ sp ps, keyOk sp ps = true → l ≠ keyS sp ps) ∧ e = .returned (.tuple #[.int .u8 0, .slice none 0 0, .int .i64 20])))

theorem cellsOf_at (ws : List ByteArray) (N k : Nat) (h : k < ws.length) : (cellsOf ws N)[k]? = some (.string ws[k]) := by
  unfold cellsOf
  rw [List.getElem?_toArray, List.getElem?_append_left (by simpa using h)]
  simp [h]
theorem splitB_len : ∀ (k : Nat) (s : ByteArray), (splitB ⟨#[124]⟩ 0 k s).length ≤ k + 1
  | 0, s => by simp [splitB]
  | k + 1, s => by
    rcases bar_cases s.data.toList with h | ⟨p, r, hs, hp⟩
    · rw [split_miss _ _ h]; simp
    · rw [split_hit k s p r hs hp]
      have := splitB_len k ⟨r.toArray⟩
      simp; omega
theorem below_drewN (w : World) (j : Nat) : Below w.heap.size w (w.drewN j) := ⟨rfl, rfl, rfl, Nat.le_refl _, fun _ _ => rfl⟩
theorem bars_ge : ∀ (ps : List ByteArray) (q : ByteArray), q ∈ ps → q.size ≤ (bars (txt ps)).length
  | p :: ps, q, h => by
    rw [show txt (p :: ps) = p.data.toList :: txt ps from rfl, bars_cons]
    simp only [List.length_cons, List.length_append]
    rcases List.mem_cons.1 h with rfl | h
    · show q.data.toList.length ≤ _; omega
    · have := bars_ge ps q h; omega

set_option maxHeartbeats 2000000 in
theorem split_any (s : ByteArray) (w : World) (hs : s.size ≤ 1000) (hr : Ready w) :
    Calls Tryd.prog 24 #[.string s] w (SplitPost s.data.toList w) := by
  obtain ⟨_, _, m, hm⟩ := hr
  have hSp0 := Go.Proofs.Any.strings_SplitN Tryd.lays147 (by kernel_rfl) s ⟨#[124]⟩ 6 m w (by omega) hm (by decide) (by omega) (by omega)
  clear hm
  have hJ := split_join (min 6 (s.size + 1) - 1) s
  have hLn := splitB_len (min 6 (s.size + 1) - 1) s
  have hOf : ∀ (sp : UInt8) (ps : List (List UInt8)), keyOk sp ps = true → s.data.toList = keyS sp ps → splitB ⟨#[124]⟩ 0 (min 6 (s.size + 1) - 1) s = ([sp] :: ps).map fun p => ⟨p.toArray⟩ := fun sp ps hk he => by
    have hkl := key_len hk
    have hz : s.size = (keyS sp ps).length := by rw [← he]; rfl
    obtain ⟨a1, a2, a3, a4⟩ := ok_parts hk
    refine split_of_join ([sp] :: ps) _ (by simp) (by simp; omega) (fun p hp => ?_) s he
    rcases List.mem_cons.1 hp with rfl | hp
    · intro c hc; rw [List.mem_singleton.1 hc]; exact small_nobar a1
    · exact part_nobar (a4 p hp)
  obtain ⟨N, hN⟩ : ∃ N, N = min 6 (s.size + 1) := ⟨_, rfl⟩
  rw [← hN] at hSp0 hJ hLn hOf
  have hN1 : 1 ≤ N := by omega
  have hN6 : N ≤ 6 := by omega
  have hNs : s.size ≠ 0 → 2 ≤ N := by omega
  obtain ⟨hJ1, hJ2⟩ := hJ
  generalize hws : splitB ⟨#[124]⟩ 0 (N - 1) s = ws at *
  obtain ⟨p, ps, rfl⟩ : ∃ p ps, ws = p :: ps := by
    cases ws with
    | nil => exact absurd rfl hJ2
    | cons p ps => exact ⟨p, ps, rfl⟩
  clear hJ2 hws
  -- the world behind SplitN
  have hB : Below w.heap.size w (w.alloc (.cells (cellsOf (p :: ps) N) 9)) := (Below.refl _ _).alloc (Nat.le_refl _) _
  have hC : ∀ k (h : k < (p :: ps).length), (w.alloc (.cells (cellsOf (p :: ps) N) 9)).cell? ⟨w.heap.size, k, none⟩ = some (.string (p :: ps)[k]) := fun k h => by
    rw [World.cell?_alloc_new]; exact cellsOf_at _ _ _ h
  have hH : w.heap.size < (w.alloc (.cells (cellsOf (p :: ps) N) 9)).heap.size := by simp
  have hSp : Calls Tryd.prog 38 #[.string s, .string ⟨#[124]⟩, .int .i64 6] w fun e w' => e = .returned (.slice (some ⟨w.heap.size, 0, none⟩) (ps.length + 1) N) ∧ w.alloc (.cells (cellsOf (p :: ps) N) 9) = w' := hSp0.mono fun e w' ⟨h1, h2⟩ => ⟨h1, h2.symm⟩
  clear hSp0
  generalize w.alloc (.cells (cellsOf (p :: ps) N) 9) = W1 at *
  have hc0 : W1.cell? ⟨w.heap.size, 0, none⟩ = some (.string p) := hC 0 (by simp)
  have hR : SRow W1 (some ⟨w.heap.size, 1, none⟩) ps := fun _ => ⟨_, _, rfl, hH, fun k hk => by
    have := hC (k + 1) (by simpa using hk)
    rw [Nat.add_comm 1 k]; exact this⟩
  have hLn' : ps.length + 1 ≤ N := by simp at hLn; omega
  have hpl : (ps.length : Int) + 1 ≤ (N : Int) := by omega
  have hjoin : s.data.toList = p.data.toList ++ bars (txt ps) := hJ1.symm
  have hno1 : p.size ≠ 1 → ∀ sp qs, keyOk sp qs = true → s.data.toList ≠ keyS sp qs := fun hp1 sp qs hk he => by
    have := hOf sp qs hk he
    injection this with e1 _
    rw [e1] at hp1
    exact hp1 rfl
  have HNO := Lib.hid hno1
  have HJ := Lib.hid hjoin
  have HO := Lib.hid hOf
  clear hno1 hjoin hOf hJ1 hLn hC hH hN
  by_cases hp1 : p.size = 1
  · have hss : s.size = p.size + (bars (txt ps)).length := by have := congrArg List.length HJ.out; simpa using this
    have hN2 := hNs (by omega)
    obtain ⟨sp, rfl⟩ : ∃ sp, p = ⟨#[sp]⟩ := by
      obtain ⟨⟨l⟩⟩ := p
      match l, hp1 with
      | [sp], _ => exact ⟨sp, rfl⟩
    have hz : ∀ q ∈ ps, q.size ≤ 9223372036854775807 := fun q hq => by have := bars_ge ps q hq; omega
    have hbd : ∀ j, Below W1.heap.size W1 (W1.drewN j) := fun j => below_drewN W1 j
    have hK : ∀ j, Calls Tryd.prog 22 #[.int .u8 (sp.toNat : Int), .slice (some ⟨w.heap.size, 1, none⟩) ps.length (N - 1)] (W1.drewN j) fun e w' => e = .returned (.tuple #[.string ⟨(kR sp (txt ps)).toArray⟩, .int .i64 (kE sp (txt ps))]) ∧ Below W1.heap.size W1 w' := fun j =>
      (key_any sp (some ⟨w.heap.size, 1, none⟩) ps.length (N - 1) ps (W1.drewN j) rfl (by omega) hz (hR.below (hbd j))).mono fun e w' ⟨h1, h2⟩ => ⟨h1, (hbd j).trans (h2.mono (hbd j).size)⟩
    have HK := Lib.hid hK
    have hi1 : (1 : Int) ≤ (ps.length : Int) + 1 := by omega
    have hn3 : ¬ N = 1 := by omega
    have HR := Lib.hid hR
    clear hz hss hR hNs hp1 hbd hK
    cases hk : keyOk sp (txt ps)
    · have hE : kE sp (txt ps) = 20 := by unfold kE; rw [hk]; rfl
      have hK := HK.out
      rw [hE] at hK
      have HK := Lib.hid hK
      have hno : ∀ sp' qs, keyOk sp' qs = true → s.data.toList ≠ keyS sp' qs := fun sp' qs hk' he => by
        have := HO.out sp' qs hk' he
        injection this with e1 e2
        have e3 : sp = sp' := by injection e1 with e1; simpa using e1
        subst e3
        rw [e2, show txt (qs.map fun p => ⟨p.toArray⟩) = qs from map_back qs, hk'] at hk
        cases hk
      have HN := Lib.hid hno
      clear hno hE hk hK
      go_enter Tryd.func24, Tryd.ntmps24
      go_wp2_with (go_at_call 38; refine hSp.mono ?_; rintro e w' ⟨rfl, rfl⟩)
      go_quiet (fail)
      go_wp2_with fail
      refine (HK.out _).mono ?_
      rintro e w2 ⟨rfl, b2⟩
      go_wp2
      go_ret3
      exact ⟨hB.trans (b2.mono hB.size), Or.inr ⟨HN.out, rfl⟩⟩
    · have hE : kE sp (txt ps) = 0 := by unfold kE; rw [hk]; rfl
      have hK := HK.out
      rw [hE] at hK
      have HK := Lib.hid hK
      have HO := Lib.hid hk
      clear hE hk hK
      go_enter Tryd.func24, Tryd.ntmps24
      go_wp2_with (go_at_call 38; refine hSp.mono ?_; rintro e w' ⟨rfl, rfl⟩)
      go_quiet (fail)
      go_wp2_with fail
      refine (HK.out _).mono ?_
      rintro e w2 ⟨rfl, b2⟩
      go_wp2
      go_ret3
      exact ⟨hB.trans (b2.mono hB.size), Or.inl ⟨sp, some ⟨w.heap.size, 1, none⟩, N - 1, ps, HO.out, HJ.out, rfl, by omega, HR.out.below b2⟩⟩
  · have hq := HNO.out hp1
    have HQ := Lib.hid hq
    have g1 : ((p.size : Int) != 1) = true := by simp; omega
    clear hq hp1
    go_enter Tryd.func24, Tryd.ntmps24
    go_wp2_with (go_at_call 38; refine hSp.mono ?_; rintro e w' ⟨rfl, rfl⟩)
    go_ret3
    exact ⟨hB, Or.inr ⟨HQ.out, rfl⟩⟩
end Go.Proofs.YtghoelgjpljbkaaDoor.Label
