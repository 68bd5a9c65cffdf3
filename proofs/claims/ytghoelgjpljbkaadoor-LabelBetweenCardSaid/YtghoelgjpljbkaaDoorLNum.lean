/-
  Contracts of package label's Digits and Number. What the library's variables must hold stands in 'Ready'.
-/
import Derived.Test.YtghoelgjpljbkaaDoorLFmt
import Derived.Test.YtghoelgjpljbkaaDoorShelf
import Derived.Lib.Strings
import Derived.Lib.ConvBytes
import Derived.Lib.AtoiErrMem
import Derived.Laws.Strings3
import Derived.Laws.Closers25
import Derived.Laws.Closers25b
import Derived.WalkSmall
import Derived.BigQuiet
import Derived.Deep.QuietTactic
namespace Go.Proofs.YtghoelgjpljbkaaDoor.Label
open Go.RowKit Go.Lib Go.Shelf

/-- What a sign of sixteen counts, small or capital. -/
def dv (c : UInt8) : Option Nat := if 48 ≤ c.toNat ∧ c.toNat ≤ 57 then some (c.toNat - 48) else if 97 ≤ (c ||| 32).toNat ∧ (c ||| 32).toNat ≤ 102 then some ((c ||| 32).toNat - 87) else none
def pv : List UInt8 → Nat → Option Nat
  | [], acc => some acc
  | c :: r, acc => match dv c with
    | none => none
    | some d => pv r (acc * 16 + d)
theorem dv_lt {c : UInt8} {d : Nat} (h : dv c = some d) : d < 16 := by
  unfold dv at h
  split at h
  · injection h with h; omega
  · split at h
    · injection h with h; omega
    · cases h
theorem dv_all : ∀ x : Fin 16, dv (hexd x.val) = some x.val := by decide +kernel
theorem pv_hexN : ∀ (k u : Nat) (r : List UInt8) (a : Nat), pv (hexN k u ++ r) a = pv r (a * 16 ^ k + u % 16 ^ k)
  | 0, u, r, a => by simp [hexN, Nat.mod_one]
  | k + 1, u, r, a => by
    rw [hexN, List.append_assoc, pv_hexN k (u / 16)]
    simp only [List.cons_append, List.nil_append, pv]
    rw [dv_all ⟨u % 16, Nat.mod_lt _ (by omega)⟩]
    simp only
    congr 1
    have : u % 16 ^ (k + 1) = u / 16 % 16 ^ k * 16 + u % 16 := by
      rw [Nat.pow_succ', Nat.mod_mul]; omega
    rw [this, Nat.pow_succ]
    rw [Nat.add_mul, Nat.mul_assoc]; omega
theorem pv_ok (n : Nat) (h : n < 18446744073709551616) : pv (hexN 16 n) 0 = some n := by
  have := pv_hexN 16 n [] 0
  rw [List.append_nil] at this
  rw [this]
  simp only [pv]
  congr 1
  rw [Nat.mod_eq_of_lt (by simpa using h)]; omega
theorem pv_lt : ∀ (l : List UInt8) (a n k : Nat), a < 16 ^ k → pv l a = some n → n < 16 ^ (k + l.length)
  | [], a, n, k, h, e => by simp only [pv] at e; injection e with e; subst e; simpa using h
  | c :: r, a, n, k, h, e => by
    simp only [pv] at e
    cases hd : dv c with
    | none => rw [hd] at e; cases e
    | some d =>
      rw [hd] at e
      have := pv_lt r (a * 16 + d) n (k + 1) (by have := dv_lt hd; rw [Nat.pow_succ]; omega) e
      rw [List.length_cons, show k + (r.length + 1) = k + 1 + r.length by omega]; exact this

/-- What the walk asks of the library's own variables. -/
def Ready (w : World) : Prop :=
  w.cell? ⟨5, 15, none⟩ = some (.int .u8 4) ∧ (∃ tp p, w.cell? ⟨0, 0, none⟩ = some (.iface tp p)) ∧ (∃ m, w.cell? ⟨3, 0, none⟩ = some (.int .i64 m))
theorem cell_lt {w : World} {b o : Nat} {v : Value} (h : w.cell? ⟨b, o, none⟩ = some v) : b < w.heap.size := by
  rcases Nat.lt_or_ge b w.heap.size with h' | h'
  · exact h'
  · simp [World.cell?, Array.getElem?_eq_none h'] at h
theorem cell_below {w w' : World} {b o : Nat} {v : Value} (h : w.cell? ⟨b, o, none⟩ = some v) (hb : Below w.heap.size w w') : w'.cell? ⟨b, o, none⟩ = some v := by
  rw [hb.cell (p := ⟨b, o, none⟩) (cell_lt h)]; exact h
theorem Ready.below {w w' : World} (h : Ready w) (hb : Below w.heap.size w w') : Ready w' := by
  obtain ⟨h1, ⟨t1, p1, h2⟩, ⟨m, h3⟩⟩ := h
  exact ⟨cell_below h1 hb, ⟨t1, p1, cell_below h2 hb⟩, ⟨m, cell_below h3 hb⟩⟩

theorem repeat_zero : ∀ c, repeatL [48] c = List.replicate c 48
  | 0 => rfl
  | c + 1 => by rw [repeatL, repeat_zero c]; rfl
theorem cat_bytes (a l : List UInt8) : (⟨a.toArray⟩ : ByteArray) ++ ⟨l.toArray⟩ = ⟨(a ++ l).toArray⟩ := by
  apply ByteArray.ext
  simp [ByteArray.data_append]

/-- Digits. -/
theorem digits_any (n : Nat) (w : World) (hn : n < 18446744073709551616) (hr : Ready w) :
    Calls Tryd.prog 18 #[.int .u64 n] w fun e w' => e = .returned (.string ⟨(hexN 16 n).toArray⟩) ∧ Below w.heap.size w w' := by
  have hF := formatUint16 n w hn hr.1
  have hl := hexDigits_len 15 n hn
  have hp := pad 15 n hn
  have hR : ∀ W, Calls Tryd.prog 37 #[.string ⟨#[48]⟩, .int .i64 ((16 - (hexDigits n).length : Nat) : Int)] W fun e w' => e = .returned (.string ⟨(List.replicate (16 - (hexDigits n).length) 48).toArray⟩) ∧ Below W.heap.size W w' := fun W => by
    have := Any.strings_Repeat Tryd.lays105 Tryd.Builder_Extra_105 ⟨#[48]⟩ (16 - (hexDigits n).length) W (by omega) (by show 1 * _ ≤ _; omega)
    rw [show (⟨#[48]⟩ : ByteArray).data.toList = [48] from rfl, repeat_zero] at this
    exact this
  clear hr
  have HP := Lib.hid hp
  clear hp
  generalize hexDigits n = D at *
  have e1 : ((16 - D.length : Nat) : Int) = 16 - (D.length : Int) := by omega
  rw [e1] at hR
  clear e1
  have HR := Lib.hid hR
  clear hR
  go_enter Tryd.func18, Tryd.ntmps18
  go_wp2_with fail
  refine hF.mono ?_
  rintro e w1 ⟨rfl, b1⟩
  go_wp2_with fail
  refine (HR.out _).mono ?_
  rintro e w2 ⟨rfl, b2⟩
  go_wp2
  go_ret
  exact ⟨congrArg (fun b => Ending.returned (.string b)) ((cat_bytes _ _).trans (by rw [HP.out])), b1.trans (b2.mono b1.size)⟩

end Go.Proofs.YtghoelgjpljbkaaDoor.Label
