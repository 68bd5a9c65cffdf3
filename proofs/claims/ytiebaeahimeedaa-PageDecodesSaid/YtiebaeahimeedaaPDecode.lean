/-
  Contract of page's Decode.
-/
import Derived.Test.YtiebaeahimeedaaPReadLead
namespace Go.Proofs.Ytiebaeahimeedaa.Page
open Go.RowKit Gen

/-- The page of which a sector and bytes are the bytes. -/
def IsDec (s : Int) (u : Bs) (p : Pg) : Prop := rRead s u = some p ∧ Enc s p u
def DecPost (s : Int) (u : Bs) (w : World) (e : Ending) (w' : World) : Prop := Below w.heap.size w w' ∧
  ((∃ p a, e = .returned (.tuple #[pgV p a, numV 0]) ∧ PgRows w' p a ∧ PgOk p ∧ IsDec s u p) ∨ (e = .returned (.tuple #[pgV { kind := 0 } {}, numV 50]) ∧ ∀ p, ¬ IsDec s u p))
theorem enc_fun {s : Int} {p : Pg} {l m : Bs} (h : Enc s p l) (g : Enc s p m) : l = m := by
  rcases h with ⟨_, ⟨h1, _, h3⟩ | ⟨h1, _, h3⟩⟩ <;> rcases g with ⟨_, ⟨g1, _, g3⟩ | ⟨g1, _, g3⟩⟩
  · rw [h3, g3]
  · exact absurd h1 g1
  · exact absurd g1 h1
  · rw [h3, g3]
theorem strB_beq (l m : Bs) : ((strB l).toList == (strB m).toList) = decide (l = m) := by
  rw [strB_list, strB_list]
  by_cases h : l = m <;> simp [h]
set_option maxRecDepth 100000 in
/-- bytes.Equal. -/
theorem equal_any (A B : Option Addr) (n c m d : Nat) (l k : Bs) (w : World) (hl : l.length = n) (hk : k.length = m) (hR : BRow w A l) (hS : BRow w B k) : Calls Try.prog 40 #[.slice A n c, .slice B m d] w (TellsQ (l = k) w) := by
  have v1 := conv_run c hl hR
  have v2 := conv_run d hk hS
  have HSB := Lib.hid (strB_beq l k)
  obtain ⟨S1, h1⟩ : ∃ S, strB l = S := ⟨_, rfl⟩
  obtain ⟨S2, h2⟩ : ∃ S, strB k = S := ⟨_, rfl⟩
  rw [h1] at v1
  rw [h2] at v2
  rw [h1, h2] at HSB
  clear h1 h2 hl hk hR hS
  go_enter Try.func40, Try.ntmps40
  go_wp2_with fail
  go_ret
  exact ⟨_, rfl, by rw [HSB.out, decide_eq_true_iff], rfl⟩
end Go.Proofs.Ytiebaeahimeedaa.Page
