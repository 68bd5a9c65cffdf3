/-
  Plain facts for the calls at the head of all statements of stage 5.
-/
import Derived.Test.YtiebaeahimeedaaPParse
namespace Go.Proofs.Ytiebaeahimeedaa.Page
open Go.RowKit Gen

def pg0 : Pg := { kind := 1, pairs := [([97], [120, 121])] }
theorem fine0 : Fine pg0 := by
  refine (fine1 rfl).2 ⟨⟨by decide, fun x hx => ?_, fun s hs => ?_, fun j hj => ?_⟩, rfl, rfl, rfl, rfl, rfl, rfl, rfl, rfl, rfl⟩
  · simp only [pg0, List.mem_singleton] at hx; subst hx; decide
  · simp only [pg0, List.map_cons, List.map_nil, List.mem_singleton] at hs; subst hs; exact ⟨by decide, by decide⟩
  · simp [pg0] at hj
def L0 : Bs := summedBs (be 1 1 ++ (num2 5 ++ (num2 1 ++ (txt [97] ++ txt [120, 121]))))
theorem page0 : pageBs 5 pg0 = be 1 1 ++ (num2 5 ++ (num2 1 ++ (txt [97] ++ txt [120, 121]))) := by
  unfold pageBs bodyOf
  rw [if_pos (show pg0.kind = 1 from rfl)]
  simp [pg0, bodyLeaf]
theorem enc0 : Enc 5 pg0 L0 := ⟨fine0, .inr ⟨by decide, ⟨by decide, by decide⟩, by rw [page0]; rfl⟩⟩
theorem dec0 : IsDec 5 L0 pg0 := dec_of_enc enc0 (by decide)
/-- The second and the third byte of a page that is no superblock are its sector. -/
theorem enc_sector {s : Int} {p : Pg} {l : Bs} (h : Enc s p l) (hs : ¬ (s = 0 ∨ s = 1)) : (l.drop 1).take 2 = num2 s := by
  obtain ⟨hf, ⟨_, h1, _⟩ | ⟨_, _, rfl⟩⟩ := h
  · exact absurd h1 hs
  · rw [summedBs, padTo, pageBs, List.append_assoc, List.append_assoc, List.append_assoc, List.drop_left' (be_len 1 _), List.take_left' (num2_len s)]
theorem not6 (q : Pg) : ¬ IsDec 6 L0 q := fun h => by
  have h1 := enc_sector h.2 (by decide)
  have h2 := enc_sector enc0 (by decide)
  rw [h1] at h2
  exact absurd h2 (by decide)
theorem not0 (l : Bs) : ¬ Enc 0 pg0 l := fun h => by
  obtain ⟨_, ⟨h, _⟩ | ⟨_, h, _⟩⟩ := h
  · exact absurd h (by decide)
  · unfold Place at h; omega
theorem bare1 : ¬ Fine { kind := 1 } := fun h => by
  have := ((fine1 rfl).1 h).1.len
  simp at this
theorem heads0 : L0.length = 1024 ∧ L0[0]? = some 1 ∧ L0[2]? = some 5 ∧ L0[4]? = some 1 ∧ L0[6]? = some 97 := by
  refine ⟨enc_len enc0, ?_⟩
  have e : ∃ r, L0 = [1, 0, 5, 0, 1, 1, 97] ++ r := ⟨_, by unfold L0 summedBs padTo; rw [show be 1 1 ++ (num2 5 ++ (num2 1 ++ (txt [97] ++ txt [120, 121]))) = [1, 0, 5, 0, 1, 1, 97] ++ [2, 120, 121] by decide, List.append_assoc, List.append_assoc]⟩
  obtain ⟨r, e⟩ := e
  rw [e]
  exact ⟨rfl, rfl, rfl, rfl⟩
end Go.Proofs.Ytiebaeahimeedaa.Page
