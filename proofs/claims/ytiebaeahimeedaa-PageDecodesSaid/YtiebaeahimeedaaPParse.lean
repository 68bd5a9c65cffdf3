/-
  What was laid is read again: plain facts.
-/
import Derived.Test.YtiebaeahimeedaaPSame
namespace Go.Proofs.Ytiebaeahimeedaa.Page
open Go.RowKit Gen

theorem fold_be (n : Nat) : ∀ (k acc : Nat), (be k n).foldl (fun n b => n * 256 + b.toNat) acc = acc * 256 ^ k + n % 256 ^ k
  | 0, acc => by simp [be, Nat.mod_one]
  | k + 1, acc => by
    have e1 : n % 256 ^ (k + 1) = n % 256 ^ k + 256 ^ k * (n / 256 ^ k % 256) := by rw [Nat.pow_succ, Nat.mod_mul]
    have e2 : (UInt8.ofNat (n / 256 ^ k)).toNat = n / 256 ^ k % 256 := UInt8.toNat_ofNat'
    rw [be, List.foldl_cons, fold_be n k, e1, e2, Nat.add_mul, Nat.pow_succ, Nat.mul_assoc acc, Nat.mul_comm 256, Nat.mul_comm (n / 256 ^ k % 256)]
    omega
theorem ofBe_be (k n : Nat) (h : n < 256 ^ k) : ofBe (be k n) = n := by
  rw [ofBe, fold_be, Nat.zero_mul, Nat.zero_add, Nat.mod_eq_of_lt h]
theorem rWide_be (k n : Nat) (r : Bs) (h : n < 256 ^ k) : rWide k (be k n ++ r) = some (n, r) := by
  rw [rWide, if_pos (by rw [List.length_append, be_len]; omega), List.take_left' (be_len k n), List.drop_left' (be_len k n), ofBe_be k n h]
theorem rNum_be (x : Int) (r : Bs) (h0 : 0 ≤ x) (h1 : x < 65536) : rNum (num2 x ++ r) = some (x, r) := by
  rw [rNum, num2, rWide_be 2 x.toNat r (by omega)]
  simp [Int.toNat_of_nonneg h0]
theorem rText_txt (s r : Bs) (h : s.length < 256) : rText (txt s ++ r) = some (s, r) := by
  rw [rText, txt, List.append_assoc, rWide_be 1 s.length _ (by omega)]
  simp
theorem rPairs_body : ∀ (l : List (Bs × Bs)) (r : Bs), (∀ x ∈ l, x.1.length < 256 ∧ x.2.length < 256) → rPairs l.length ((l.flatMap fun x => txt x.1 ++ txt x.2) ++ r) = some (l, r)
  | [], _, _ => rfl
  | x :: l, r, h => by
    have h1 := h x (List.mem_cons_self ..)
    rw [List.flatMap_cons, List.length_cons, rPairs, List.append_assoc, List.append_assoc, rText_txt _ _ h1.1]
    simp only [Option.bind_some]
    rw [rText_txt _ _ h1.2]
    simp only [Option.bind_some]
    rw [rPairs_body l r (fun y hy => h y (List.mem_cons_of_mem _ hy))]
    rfl
theorem rKids_body : ∀ (l : List (Bs × Int)) (r : Bs), (∀ x ∈ l, x.1.length < 256 ∧ 0 ≤ x.2 ∧ x.2 < 65536) → rKids l.length ((l.flatMap fun x => txt x.1 ++ num2 x.2) ++ r) = some (l, r)
  | [], _, _ => rfl
  | x :: l, r, h => by
    have h1 := h x (List.mem_cons_self ..)
    rw [List.flatMap_cons, List.length_cons, rKids, List.append_assoc, List.append_assoc, rText_txt _ _ h1.1]
    simp only [Option.bind_some]
    rw [rNum_be _ _ h1.2.1 h1.2.2]
    simp only [Option.bind_some]
    rw [rKids_body l r (fun y hy => h y (List.mem_cons_of_mem _ hy))]
    rfl
theorem rInts_body : ∀ (l : List Int) (r : Bs), (∀ x ∈ l, 0 ≤ x ∧ x < 65536) → rInts l.length ((l.flatMap num2) ++ r) = some (l, r)
  | [], _, _ => rfl
  | x :: l, r, h => by
    have h1 := h x (List.mem_cons_self ..)
    rw [List.flatMap_cons, List.length_cons, rInts, List.append_assoc, rNum_be _ _ h1.1 h1.2]
    simp only [Option.bind_some]
    rw [rInts_body l r (fun y hy => h y (List.mem_cons_of_mem _ hy))]
    rfl
theorem place16 {x : Int} (h : Place x) : 0 ≤ x ∧ x < 65536 := by unfold Place at h; omega
theorem rBody_leaf {p : Pg} (g : LeafOk p) (r : Bs) : rLeaf (bodyLeaf p ++ r) = some ({ kind := 1, pairs := p.pairs }, r) := by
  have := g.len.2
  rw [rLeaf, bodyLeaf, List.append_assoc, rNum_be _ _ (by omega) (by omega)]
  simp only [Option.bind_some, Int.toNat_natCast]
  rw [rPairs_body p.pairs r (fun x hx => ⟨by have := (g.all x.1 (List.mem_map_of_mem hx)).2; omega, by have := g.vals x hx; omega⟩)]
  rfl
theorem rBody_branch {p : Pg} (g : BranchOk p) (r : Bs) : rBranch (bodyBranch p ++ r) = some ({ kind := 2, keys := p.keys, kids := p.kids }, r) := by
  have := g.len.2
  have hk := g.kids
  rcases hd : p.kids with _ | ⟨z, ds⟩
  · rw [hd] at hk; simp at hk
  have hz := place16 (g.places z (by rw [hd]; exact List.mem_cons_self ..))
  have hlen : ds.length = p.keys.length := by rw [hd] at hk; simpa using hk
  rw [rBranch, bodyBranch, hd, List.headD_cons, List.tail_cons, List.append_assoc, List.append_assoc, rNum_be _ _ (by omega) (by omega)]
  simp only [Option.bind_some, Int.toNat_natCast]
  rw [rNum_be _ _ hz.1 hz.2]
  simp only [Option.bind_some]
  have h := rKids_body (p.keys.zip ds) r (fun x hx => ⟨by have := (g.all x.1 (List.of_mem_zip hx).1).2; omega, place16 (g.places x.2 (by rw [hd]; exact List.mem_cons_of_mem _ (List.of_mem_zip hx).2))⟩)
  rw [show (p.keys.zip ds).length = p.keys.length by rw [List.length_zip]; omega] at h
  rw [h]
  simp only [Option.map_some]
  rw [List.map_fst_zip (by omega), List.map_snd_zip (by omega)]
theorem rBody_free {p : Pg} (g : FreeOk p) (r : Bs) : rFree (bodyFree p ++ r) = some ({ kind := 3, pages := p.pages, next := p.next }, r) := by
  have := g.len
  have hx : 0 ≤ p.next ∧ p.next < 65536 := by rcases g.next with h | h; omega; exact place16 h
  rw [rFree, bodyFree, List.append_assoc, List.append_assoc, rNum_be _ _ (by omega) (by omega)]
  simp only [Option.bind_some, Int.toNat_natCast]
  rw [rInts_body p.pages _ (fun x hx => place16 (g.all x hx))]
  simp only [Option.bind_some]
  rw [rNum_be _ _ hx.1 hx.2]
  rfl
theorem rBody_super {p : Pg} (g : SuperOk p) (r : Bs) : rSuper (bodySuper p ++ r) = some ({ kind := 4, root := p.root, depth := p.depth, count := p.count, high := p.high, next := p.next }, r) := by
  have hr : 0 ≤ p.root ∧ p.root < 65536 := by rcases g.root with h | h; omega; exact place16 h
  have hx : 0 ≤ p.next ∧ p.next < 65536 := by rcases g.next with h | h; omega; exact place16 h
  have hd := g.depth
  have hc := g.count
  have hh := g.high
  rw [rSuper, bodySuper, List.append_assoc, List.append_assoc, List.append_assoc, List.append_assoc, rNum_be _ _ hr.1 hr.2]
  simp only [Option.bind_some]
  rw [rNum_be _ _ (by omega) (by omega)]
  simp only [Option.bind_some]
  rw [rWide_be 4 _ _ (by omega)]
  simp only [Option.bind_some]
  rw [rNum_be _ _ (by omega) (by omega)]
  simp only [Option.bind_some]
  rw [rNum_be _ _ hx.1 hx.2]
  simp [Int.toNat_of_nonneg hc.1]
/-- A page's bytes are read as it, but for its Epoch. -/
theorem rPage_back {s : Int} {p : Pg} (h : Fine p) (r : Bs) : rPage (pageBs s p ++ r) = some ({ p with epoch := 0 }, r) := by
  have hk : 0 ≤ p.kind ∧ p.kind ≤ 4 := by rcases h with ⟨h, _⟩ | ⟨h, _⟩ | ⟨h, _⟩ | ⟨h, _⟩ <;> omega
  rw [rPage, pageBs, List.append_assoc, List.append_assoc, rWide_be 1 _ _ (by omega)]
  simp only [Option.bind_some]
  rw [if_pos (by rw [List.length_append, num2_len]; omega), List.drop_left' (num2_len s)]
  unfold rBody bodyOf
  rcases h with ⟨hk, g, a1, a2, a3, a4, b1, b2, b3, b4, b5⟩ | ⟨hk, g, a1, a2, a3, b1, b2, b3, b4, b5⟩ | ⟨hk, g, a1, a2, a3, b1, b2, b3, b4, b5⟩ | ⟨hk, g, a1, a2, a3, a4⟩
  · rw [if_pos (by rw [hk]; rfl), if_pos hk, rBody_leaf g r]
    exact congrArg (fun q => some (q, r)) (pg_ext rfl (List.eq_nil_of_length_eq_zero a1).symm (List.eq_nil_of_length_eq_zero a2).symm (List.eq_nil_of_length_eq_zero a3).symm hk.symm a4.symm rfl b2.symm b3.symm b4.symm b5.symm)
  · rw [if_neg (by rw [hk]; decide), if_pos (by rw [hk]; rfl), if_neg (by omega), if_pos hk, rBody_branch g r]
    exact congrArg (fun q => some (q, r)) (pg_ext (List.eq_nil_of_length_eq_zero a1).symm rfl rfl (List.eq_nil_of_length_eq_zero a2).symm hk.symm a3.symm rfl b2.symm b3.symm b4.symm b5.symm)
  · rw [if_neg (by rw [hk]; decide), if_neg (by rw [hk]; decide), if_pos (by rw [hk]; rfl), if_neg (by omega), if_neg (by omega), if_pos hk, rBody_free g r]
    exact congrArg (fun q => some (q, r)) (pg_ext (List.eq_nil_of_length_eq_zero a1).symm (List.eq_nil_of_length_eq_zero a2).symm (List.eq_nil_of_length_eq_zero a3).symm rfl hk.symm rfl rfl b2.symm b3.symm b4.symm b5.symm)
  · rw [if_neg (by rw [hk]; decide), if_neg (by rw [hk]; decide), if_neg (by rw [hk]; decide), if_pos (by rw [hk]; rfl), if_neg (by omega), if_neg (by omega), if_neg (by omega), rBody_super g r]
    exact congrArg (fun q => some (q, r)) (pg_ext (List.eq_nil_of_length_eq_zero a1).symm (List.eq_nil_of_length_eq_zero a2).symm (List.eq_nil_of_length_eq_zero a3).symm (List.eq_nil_of_length_eq_zero a4).symm hk.symm rfl rfl rfl rfl rfl rfl)
/-- What Encode makes is read as what it was made of. -/
theorem dec_of_enc {s : Int} {p : Pg} {l : Bs} (h : Enc s p l) (hep : p.epoch < 18446744073709551616) : IsDec s l p := by
  refine ⟨?_, h⟩
  obtain ⟨hf, ⟨hk, hs, rfl⟩ | ⟨hk, hs, rfl⟩⟩ := h
  · rw [rRead, if_pos hs, doubledBs, rWide_be 8 _ _ (by omega)]
    simp only [Option.bind_some, padTo, List.append_assoc]
    rw [rPage_back hf]
    rfl
  · have hs2 : ¬ (s = 0 ∨ s = 1) := by unfold Place at hs; omega
    rw [rRead, if_neg hs2, summedBs, padTo, List.append_assoc, rPage_back hf]
    have e : p.epoch = 0 := by
      rcases hf with ⟨_, _, _, _, _, _, e, _⟩ | ⟨_, _, _, _, _, e, _⟩ | ⟨_, _, _, _, _, e, _⟩ | ⟨h, _⟩
      · exact e
      · exact e
      · exact e
      · exact absurd h hk
    exact congrArg some (pg_ext rfl rfl rfl rfl rfl rfl e.symm rfl rfl rfl rfl)
theorem enc_len {s : Int} {p : Pg} {l : Bs} (h : Enc s p l) : l.length = 1024 := by
  obtain ⟨hf, ⟨hk, _, rfl⟩ | ⟨hk, _, rfl⟩⟩ := h
  · have := page_len4 (s := s) hk
    simp [doubledBs, be_len, zeros, pad_len (n := 496) (l := pageBs s p) (by omega)]
  · simp [summedBs, be_len, pad_len (n := 1016) (l := pageBs s p) (page_len hf)]
end Go.Proofs.Ytiebaeahimeedaa.Page
