/-
  Plain facts on the check sum's rule: one bit's step is linear for the difference of bits, and no two numbers of 64 bits come to one.
-/
namespace Go.Proofs.Ytiebaeahimeedaa.Crc

def poly : Nat := 14514072000185962306
def ones : Nat := 18446744073709551615
/-- One bit's step. -/
def sh (n : Nat) : Nat := if n % 2 = 1 then n / 2 ^^^ poly else n / 2
/-- Half a byte's steps, and a byte's. -/
def sh4 (n : Nat) : Nat := sh (sh (sh (sh n)))
def sh8 (n : Nat) : Nat := sh4 (sh4 n)
/-- Bytes' steps. -/
def raw : Nat → List UInt8 → Nat
  | n, [] => n
  | n, x :: l => raw (sh8 (n ^^^ x.toNat)) l
def inv (n : Nat) : Nat := n ^^^ ones
/-- The document's More. -/
def more (s : Nat) (l : List UInt8) : Nat := inv (raw (inv s) l)

theorem xor_lt {a b : Nat} (ha : a < 18446744073709551616) (hb : b < 18446744073709551616) : a ^^^ b < 18446744073709551616 := Nat.xor_lt_two_pow (n := 64) ha hb
theorem byte_lt (x : UInt8) : x.toNat < 18446744073709551616 := Nat.lt_of_lt_of_le x.toNat_lt (by decide)
theorem poly_lt : poly < 18446744073709551616 := by decide
theorem ones_lt : ones < 18446744073709551616 := by decide
theorem sh_lt {n : Nat} (h : n < 18446744073709551616) : sh n < 18446744073709551616 := by
  unfold sh
  split
  · exact xor_lt (by omega) poly_lt
  · omega
theorem sh4_lt {n : Nat} (h : n < 18446744073709551616) : sh4 n < 18446744073709551616 := sh_lt (sh_lt (sh_lt (sh_lt h)))
theorem sh8_lt {n : Nat} (h : n < 18446744073709551616) : sh8 n < 18446744073709551616 := sh4_lt (sh4_lt h)
theorem raw_lt : ∀ (l : List UInt8) {n : Nat}, n < 18446744073709551616 → raw n l < 18446744073709551616
  | [], _, h => h
  | x :: l, _, h => raw_lt l (sh8_lt (xor_lt h (byte_lt x)))
theorem inv_lt {n : Nat} (h : n < 18446744073709551616) : inv n < 18446744073709551616 := xor_lt h ones_lt
theorem more_lt {s : Nat} (l : List UInt8) (h : s < 18446744073709551616) : more s l < 18446744073709551616 := inv_lt (raw_lt l (inv_lt h))
theorem inv_inv (n : Nat) : inv (inv n) = n := by unfold inv; rw [Nat.xor_assoc, Nat.xor_self, Nat.xor_zero]

theorem xor_four (a b c d : Nat) : a ^^^ b ^^^ (c ^^^ d) = a ^^^ c ^^^ (b ^^^ d) := by
  rw [Nat.xor_assoc, Nat.xor_assoc, ← Nat.xor_assoc b, Nat.xor_comm b c, Nat.xor_assoc c]
theorem sh_xor (a b : Nat) : sh (a ^^^ b) = sh a ^^^ sh b := by
  unfold sh
  rw [Nat.xor_div_two]
  have hm := Nat.xor_mod_two_eq_one (a := a) (b := b)
  rcases Nat.mod_two_eq_zero_or_one a with ha | ha <;> rcases Nat.mod_two_eq_zero_or_one b with hb | hb
  · rw [if_neg (by omega), if_neg (by omega), if_neg (by omega)]
  · rw [if_pos (by omega), if_neg (by omega), if_pos (by omega), Nat.xor_assoc]
  · rw [if_pos (by omega), if_pos (by omega), if_neg (by omega), Nat.xor_assoc, Nat.xor_assoc, Nat.xor_comm poly]
  · rw [if_neg (by omega), if_pos (by omega), if_pos (by omega), xor_four, Nat.xor_self, Nat.xor_zero]
theorem sh4_xor (a b : Nat) : sh4 (a ^^^ b) = sh4 a ^^^ sh4 b := by unfold sh4; rw [sh_xor, sh_xor, sh_xor, sh_xor]
theorem sh8_xor (a b : Nat) : sh8 (a ^^^ b) = sh8 a ^^^ sh8 b := by unfold sh8; rw [sh4_xor, sh4_xor]

theorem sh_none {a : Nat} (h : a < 18446744073709551616) (e : sh a = 0) : a = 0 := by
  unfold sh at e
  split at e
  · have h1 : a / 2 = poly := by
      have := congrArg (· ^^^ poly) e
      simp only [Nat.xor_assoc, Nat.xor_self, Nat.xor_zero, Nat.zero_xor] at this
      exact this
    unfold poly at h1
    omega
  · omega
theorem xor_none {a b : Nat} (e : a ^^^ b = 0) : a = b := by
  have := congrArg (· ^^^ b) e
  simpa only [Nat.xor_assoc, Nat.xor_self, Nat.xor_zero, Nat.zero_xor] using this
theorem sh_inj {a b : Nat} (ha : a < 18446744073709551616) (hb : b < 18446744073709551616) (e : sh a = sh b) : a = b :=
  xor_none (sh_none (xor_lt ha hb) (by rw [sh_xor, e, Nat.xor_self]))
theorem sh4_inj {a b : Nat} (ha : a < 18446744073709551616) (hb : b < 18446744073709551616) (e : sh4 a = sh4 b) : a = b :=
  sh_inj ha hb (sh_inj (sh_lt ha) (sh_lt hb) (sh_inj (sh_lt (sh_lt ha)) (sh_lt (sh_lt hb)) (sh_inj (sh_lt (sh_lt (sh_lt ha))) (sh_lt (sh_lt (sh_lt hb))) e)))
theorem sh8_inj {a b : Nat} (ha : a < 18446744073709551616) (hb : b < 18446744073709551616) (e : sh8 a = sh8 b) : a = b :=
  sh4_inj ha hb (sh4_inj (sh4_lt ha) (sh4_lt hb) e)
theorem xor_cancel {a b c : Nat} (e : a ^^^ c = b ^^^ c) : a = b := by
  have := congrArg (· ^^^ c) e
  simpa only [Nat.xor_assoc, Nat.xor_self, Nat.xor_zero] using this
theorem xor_cancel' {a b c : Nat} (e : c ^^^ a = c ^^^ b) : a = b := xor_cancel (by rw [Nat.xor_comm a c, Nat.xor_comm b c]; exact e)
theorem raw_inj : ∀ (l : List UInt8) {a b : Nat}, a < 18446744073709551616 → b < 18446744073709551616 → raw a l = raw b l → a = b
  | [], _, _, _, _, e => e
  | x :: l, _, _, ha, hb, e => xor_cancel (sh8_inj (xor_lt ha (byte_lt x)) (xor_lt hb (byte_lt x)) (raw_inj l (sh8_lt (xor_lt ha (byte_lt x))) (sh8_lt (xor_lt hb (byte_lt x))) e))
theorem inv_inj {a b : Nat} (e : inv a = inv b) : a = b := xor_cancel e
theorem raw_append : ∀ (a b : List UInt8) (n : Nat), raw n (a ++ b) = raw (raw n a) b
  | [], _, _ => rfl
  | _ :: a, b, _ => raw_append a b _

/-- Part by part. -/
theorem more_append (s : Nat) (a b : List UInt8) : more (more s a) b = more s (a ++ b) := by
  unfold more
  rw [inv_inv, raw_append]
theorem more_nil (s : Nat) : more s [] = s := inv_inv s
/-- The same bytes behind unlike sums. -/
theorem more_follows {a b : Nat} (l : List UInt8) (ha : a < 18446744073709551616) (hb : b < 18446744073709551616) : more a l = more b l ↔ a = b :=
  ⟨fun e => inv_inj (raw_inj l (inv_lt ha) (inv_lt hb) (inv_inj e)), fun e => by rw [e]⟩
theorem xor_byte (x y : UInt8) : (x ^^^ y).toNat = x.toNat ^^^ y.toNat := UInt8.toNat_xor x y
/-- One byte that is another one. -/
theorem raw_turns (p q : List UInt8) (x y : UInt8) {n : Nat} (h : n < 18446744073709551616) : raw n (p ++ x :: q) = raw n (p ++ y :: q) ↔ x = y := by
  constructor
  · intro e
    rw [raw_append, raw_append] at e
    have h1 := raw_lt p h
    have := xor_cancel' (sh8_inj (xor_lt h1 (byte_lt x)) (xor_lt h1 (byte_lt y)) (raw_inj q (sh8_lt (xor_lt h1 (byte_lt x))) (sh8_lt (xor_lt h1 (byte_lt y))) e))
    exact UInt8.toNat_inj.1 this
  · intro e; rw [e]
theorem more_turns (p q : List UInt8) (x y : UInt8) {s : Nat} (h : s < 18446744073709551616) : more s (p ++ x :: q) = more s (p ++ y :: q) ↔ x = y :=
  ⟨fun e => (raw_turns p q x y (inv_lt h)).1 (inv_inj e), fun e => by rw [e]⟩
/-- The difference of three lists of bytes. -/
def three : List UInt8 → List UInt8 → List UInt8 → List UInt8
  | x :: a, y :: b, z :: c => (x ^^^ y ^^^ z) :: three a b c
  | _, _, _ => []
theorem raw_three : ∀ (a b c : List UInt8) (x y z : Nat), a.length = b.length → a.length = c.length → raw (x ^^^ y ^^^ z) (three a b c) = raw x a ^^^ raw y b ^^^ raw z c
  | [], b, c, x, y, z, h1, h2 => by
    obtain rfl : b = [] := List.eq_nil_of_length_eq_zero h1.symm
    obtain rfl : c = [] := List.eq_nil_of_length_eq_zero h2.symm
    rfl
  | _ :: _, [], _, _, _, _, h1, _ => by simp at h1
  | _ :: _, _ :: _, [], _, _, _, _, h2 => by simp at h2
  | p :: a, q :: b, r :: c, x, y, z, h1, h2 => by
    have e : sh8 (x ^^^ y ^^^ z ^^^ (p ^^^ q ^^^ r).toNat) = sh8 (x ^^^ p.toNat) ^^^ sh8 (y ^^^ q.toNat) ^^^ sh8 (z ^^^ r.toNat) := by
      rw [← sh8_xor, ← sh8_xor, xor_byte, xor_byte, xor_four x, xor_four (x ^^^ y)]
    have := raw_three a b c (sh8 (x ^^^ p.toNat)) (sh8 (y ^^^ q.toNat)) (sh8 (z ^^^ r.toNat)) (by simpa using h1) (by simpa using h2)
    rw [← e] at this
    exact this
theorem more_three (a b c : List UInt8) (h1 : a.length = b.length) (h2 : a.length = c.length) : more 0 (three a b c) = more 0 a ^^^ more 0 b ^^^ more 0 c := by
  unfold more
  have := raw_three a b c (inv 0) (inv 0) (inv 0) h1 h2
  rw [Nat.xor_self, Nat.zero_xor] at this
  rw [this]
  unfold inv
  generalize raw _ a = A
  generalize raw _ b = B
  generalize raw _ c = C
  rw [xor_four A, Nat.xor_self, Nat.xor_zero, ← Nat.xor_assoc]

theorem sh_even (m : Nat) : sh (2 * m) = m := by unfold sh; rw [if_neg (by omega)]; omega
theorem sh4_even (m : Nat) : sh4 (2 * (2 * (2 * (2 * m)))) = m := by unfold sh4; rw [sh_even, sh_even, sh_even, sh_even]
theorem parts16 (n : Nat) : n = 2 * (2 * (2 * (2 * (n / 16)))) ^^^ n % 16 := by
  refine Nat.eq_of_testBit_eq fun i => ?_
  rw [show 2 * (2 * (2 * (2 * (n / 16)))) = 2 ^ 4 * (n / 2 ^ 4) by omega, show n % 16 = n % 2 ^ 4 from rfl, Nat.testBit_xor, Nat.testBit_mod_two_pow, Nat.testBit_two_pow_mul, Nat.testBit_div_two_pow]
  by_cases h : i < 4
  · simp [h, show ¬ 4 ≤ i by omega]
  · simp [h, show 4 ≤ i by omega]
/-- Half a byte's steps by a table of half bytes. -/
theorem sh4_half (n : Nat) : sh4 n = n / 16 ^^^ sh4 (n % 16) := by
  conv => lhs; rw [parts16 n]
  rw [sh4_xor, sh4_even]
end Go.Proofs.Ytiebaeahimeedaa.Crc
