/- The field with 2^128 elements as plain functions of numbers: the element's coefficient of x^i is bit 127 - i. Products, their laws, squares, inverses. Conditions: numbers below 2^128, as each theorem says. Nothing is claimed of the program here. -/
import Derived.Test.YtilpdojliaiokaaBase
namespace Go.Proofs.Ytilpdojliaiokaa
set_option linter.unusedVariables false

/-- The product with x. -/
def gNext (a : Nat) : Nat := (a / 2) ^^^ (a % 2 * 299076299051606071403356588563077529600)
def gIter (a : Nat) : Nat → Nat | 0 => a | k + 1 => gNext (gIter a k)
/-- The coefficient of x^k, of a. -/
def gBit (a k : Nat) : Nat := a / 2 ^ (127 - k) % 2
/-- The product's part of the first k coefficients of b. -/
def gUp (a b : Nat) : Nat → Nat | 0 => 0 | k + 1 => gUp a b k ^^^ (gBit b k * gIter a k)
def gMul (a b : Nat) : Nat := gUp a b 128
/-- x^0, and x^k. -/
def gOne : Nat := 2 ^ 127
def gE (k : Nat) : Nat := 2 ^ (127 - k)

theorem bit01 (n : Nat) : n % 2 = 0 ∨ n % 2 = 1 := Nat.mod_two_eq_zero_or_one n
theorem xor4 (p q s t : Nat) : (p ^^^ q) ^^^ (s ^^^ t) = (p ^^^ s) ^^^ (q ^^^ t) := by
  rw [Nat.xor_assoc, Nat.xor_assoc, ← Nat.xor_assoc q s t, Nat.xor_comm q s, Nat.xor_assoc s q t]
theorem half_xor (a b : Nat) : (a ^^^ b) / 2 = a / 2 ^^^ b / 2 := by
  have h2 : ∀ n : Nat, n / 2 = n >>> 1 := fun n => by simp [Nat.shiftRight_eq_div_pow]
  rw [h2, h2, h2, Nat.shiftRight_xor_distrib]
theorem odd_xor (a b : Nat) : (a ^^^ b) % 2 = (a % 2 + b % 2) % 2 := by
  have h1 := Nat.xor_mod_two_pow (a := a) (b := b) (n := 1)
  rw [Nat.pow_one] at h1
  rw [h1]
  rcases bit01 a with e | e <;> rcases bit01 b with e' | e' <;> rw [e, e'] <;> rfl
theorem gBit_xor (a b k : Nat) : gBit (a ^^^ b) k = (gBit a k + gBit b k) % 2 := by
  unfold gBit
  rw [← Nat.shiftRight_eq_div_pow, ← Nat.shiftRight_eq_div_pow, ← Nat.shiftRight_eq_div_pow, Nat.shiftRight_xor_distrib]
  exact odd_xor _ _
theorem gBit01 (a k : Nat) : gBit a k = 0 ∨ gBit a k = 1 := bit01 _
/-- A multiple by a sum of bits. -/
theorem bits_mul (x y v : Nat) (hx : x = 0 ∨ x = 1) (hy : y = 0 ∨ y = 1) : (x + y) % 2 * v = x * v ^^^ y * v := by
  rcases hx with rfl | rfl <;> rcases hy with rfl | rfl <;> simp
theorem bit_mul (c v w : Nat) (hc : c = 0 ∨ c = 1) : c * (v ^^^ w) = c * v ^^^ c * w := by rcases hc with rfl | rfl <;> simp
theorem gNext_xor (a b : Nat) : gNext (a ^^^ b) = gNext a ^^^ gNext b := by
  unfold gNext
  rw [half_xor, odd_xor, bits_mul _ _ _ (bit01 a) (bit01 b), xor4]
theorem gNext_zero : gNext 0 = 0 := by decide
theorem gNext_bit (c a : Nat) (hc : c = 0 ∨ c = 1) : gNext (c * a) = c * gNext a := by
  rcases hc with rfl | rfl
  · rw [Nat.zero_mul, Nat.zero_mul, gNext_zero]
  · rw [Nat.one_mul, Nat.one_mul]
theorem gIter_xor (a b : Nat) : ∀ k, gIter (a ^^^ b) k = gIter a k ^^^ gIter b k
  | 0 => rfl
  | k + 1 => by rw [gIter, gIter_xor a b k, gNext_xor]; rfl
theorem gIter_next (a : Nat) : ∀ k, gIter (gNext a) k = gNext (gIter a k)
  | 0 => rfl
  | k + 1 => by rw [gIter, gIter_next a k]; rfl
theorem gIter_zero : ∀ k, gIter 0 k = 0
  | 0 => rfl
  | k + 1 => by rw [gIter, gIter_zero k, gNext_zero]
theorem gIter_bit (c a : Nat) (hc : c = 0 ∨ c = 1) (k : Nat) : gIter (c * a) k = c * gIter a k := by
  rcases hc with rfl | rfl
  · rw [Nat.zero_mul, Nat.zero_mul, gIter_zero]
  · rw [Nat.one_mul, Nat.one_mul]
theorem gIter_add (a m : Nat) : ∀ n, gIter a (m + n) = gIter (gIter a m) n
  | 0 => rfl
  | n + 1 => by rw [← Nat.add_assoc, gIter, gIter_add a m n]; rfl
theorem gUp_left (a a' b : Nat) : ∀ k, gUp (a ^^^ a') b k = gUp a b k ^^^ gUp a' b k
  | 0 => by simp [gUp]
  | k + 1 => by rw [gUp, gUp, gUp, gUp_left a a' b k, gIter_xor, bit_mul _ _ _ (gBit01 b k), xor4]
theorem gUp_right (a b b' : Nat) : ∀ k, gUp a (b ^^^ b') k = gUp a b k ^^^ gUp a b' k
  | 0 => by simp [gUp]
  | k + 1 => by rw [gUp, gUp, gUp, gUp_right a b b' k, gBit_xor, bits_mul _ _ _ (gBit01 b k) (gBit01 b' k), xor4]
theorem gUp_next (a b : Nat) : ∀ k, gUp (gNext a) b k = gNext (gUp a b k)
  | 0 => by rw [gUp, gUp, gNext_zero]
  | k + 1 => by rw [gUp, gUp, gUp_next a b k, gNext_xor, gNext_bit _ _ (gBit01 b k), gIter_next]
theorem gUp_zero (b : Nat) : ∀ k, gUp 0 b k = 0
  | 0 => rfl
  | k + 1 => by rw [gUp, gUp_zero b k, gIter_zero]; simp
theorem gUp_bit (c a b : Nat) (hc : c = 0 ∨ c = 1) (k : Nat) : gUp (c * a) b k = c * gUp a b k := by
  rcases hc with rfl | rfl
  · rw [Nat.zero_mul, Nat.zero_mul, gUp_zero]
  · rw [Nat.one_mul, Nat.one_mul]
theorem gMul_left (a a' b : Nat) : gMul (a ^^^ a') b = gMul a b ^^^ gMul a' b := gUp_left a a' b 128
theorem gMul_right (a b b' : Nat) : gMul a (b ^^^ b') = gMul a b ^^^ gMul a b' := gUp_right a b b' 128
theorem gMul_next (a b : Nat) : gMul (gNext a) b = gNext (gMul a b) := gUp_next a b 128
theorem gMul_iter (a b : Nat) : ∀ k, gMul (gIter a k) b = gIter (gMul a b) k
  | 0 => rfl
  | k + 1 => by rw [gIter, gMul_next, gMul_iter a b k]; rfl
theorem gMul_zero' (b : Nat) : gMul 0 b = 0 := gUp_zero b 128

theorem gNext_lt (a : Nat) (h : a < 2 ^ 128) : gNext a < 2 ^ 128 := by
  unfold gNext
  refine Nat.xor_lt_two_pow ?_ ?_
  · omega
  · rcases bit01 a with e | e <;> rw [e] <;> decide
theorem gIter_lt (a : Nat) (h : a < 2 ^ 128) : ∀ k, gIter a k < 2 ^ 128
  | 0 => h
  | k + 1 => gNext_lt _ (gIter_lt a h k)
theorem bit_lt (c v n : Nat) (hc : c = 0 ∨ c = 1) (h : v < n) : c * v < n := by rcases hc with rfl | rfl <;> omega
theorem gUp_lt (a b : Nat) (h : a < 2 ^ 128) : ∀ k, gUp a b k < 2 ^ 128
  | 0 => by rw [gUp]; decide
  | k + 1 => Nat.xor_lt_two_pow (gUp_lt a b h k) (bit_lt _ _ _ (gBit01 b k) (gIter_lt a h k))
theorem gMul_lt (a b : Nat) (h : a < 2 ^ 128) : gMul a b < 2 ^ 128 := gUp_lt a b h 128

/-- x^k is the k-th iterate of x^0. -/
theorem gE_next (k : Nat) (hk : k < 127) : gNext (gE k) = gE (k + 1) := by
  unfold gNext gE
  obtain ⟨m, hm⟩ : ∃ m, 127 - k = m + 1 := ⟨126 - k, by omega⟩
  rw [hm, show 127 - (k + 1) = m by omega, Nat.pow_succ, Nat.mul_mod_left, Nat.mul_div_cancel _ (by omega)]
  simp
theorem gE_iter : ∀ k, k < 128 → gIter gOne k = gE k
  | 0, _ => rfl
  | k + 1, h => by rw [gIter, gE_iter k (by omega), gE_next k (by omega)]
/-- The first k coefficients alone. -/
theorem gTop (b : Nat) (hb : b < 2 ^ 128) : ∀ k, k ≤ 128 → gUp gOne b k = b / 2 ^ (128 - k) * 2 ^ (128 - k)
  | 0, _ => by rw [gUp, Nat.div_eq_of_lt hb, Nat.zero_mul]
  | k + 1, h => by
    rw [gUp, gTop b hb k (by omega), gE_iter k (by omega)]
    unfold gBit gE
    obtain ⟨m, hm⟩ : ∃ m, 127 - k = m := ⟨_, rfl⟩
    rw [hm, show 128 - k = m + 1 by omega, show 128 - (k + 1) = m by omega]
    have h1 : b / 2 ^ (m + 1) = b / 2 ^ m / 2 := by rw [Nat.pow_succ, Nat.div_div_eq_div_mul]
    rw [h1]
    obtain ⟨q, hq⟩ : ∃ q, b / 2 ^ m = q := ⟨_, rfl⟩
    rw [hq, Nat.pow_succ, Nat.mul_comm (2 ^ m) 2, ← Nat.mul_assoc]
    rw [← Nat.shiftLeft_eq, ← Nat.shiftLeft_eq, ← Nat.shiftLeft_eq, ← Nat.shiftLeft_xor_distrib]
    congr 1
    have h3 : q / 2 * 2 ^^^ q % 2 = q := by
      have h4 := Nat.two_pow_add_eq_or_of_lt (i := 1) (b := q % 2) (by omega) (q / 2)
      apply Nat.eq_of_testBit_eq
      intro i
      rw [Nat.testBit_xor]
      cases i with
      | zero => simp [Nat.testBit_zero]
      | succ i =>
        rw [Nat.testBit_succ, Nat.testBit_succ, Nat.testBit_succ, Nat.mul_div_cancel _ (by omega), show q % 2 / 2 = 0 by omega]
        simp
    exact h3
theorem gMul_one' (b : Nat) (hb : b < 2 ^ 128) : gMul gOne b = b := by
  unfold gMul
  rw [gTop b hb 128 (Nat.le_refl _)]
  simp
theorem gUp_comm (a b : Nat) (hb : b < 2 ^ 128) : ∀ k, k ≤ 128 → gMul (gUp gOne a k) b = gUp b a k
  | 0, _ => gMul_zero' b
  | k + 1, h => by
    rw [gUp, gMul_left, gUp_comm a b hb k (by omega), gUp]
    congr 1
    rw [show gMul (gBit a k * gIter gOne k) b = gBit a k * gMul (gIter gOne k) b from gUp_bit _ _ _ (gBit01 a k) 128, gMul_iter, gMul_one' b hb]
theorem gMul_comm (a b : Nat) (ha : a < 2 ^ 128) (hb : b < 2 ^ 128) : gMul a b = gMul b a := by
  have h := gUp_comm a b hb 128 (Nat.le_refl _)
  rw [show gUp gOne a 128 = a from gMul_one' a ha] at h
  exact h
theorem gMul_one (a : Nat) (ha : a < 2 ^ 128) : gMul a gOne = a := by rw [gMul_comm a gOne ha (by decide), gMul_one' a ha]
theorem gMul_zero (a : Nat) (ha : a < 2 ^ 128) : gMul a 0 = 0 := by rw [gMul_comm a 0 ha (by decide), gMul_zero']
theorem gMul_next' (a b : Nat) (ha : a < 2 ^ 128) (hb : b < 2 ^ 128) : gMul a (gNext b) = gNext (gMul a b) := by
  rw [gMul_comm a _ ha (gNext_lt b hb), gMul_next, gMul_comm b a hb ha]
theorem gMul_iter' (a b : Nat) (ha : a < 2 ^ 128) (hb : b < 2 ^ 128) : ∀ k, gMul a (gIter b k) = gIter (gMul a b) k
  | 0 => rfl
  | k + 1 => by rw [gIter, gMul_next' a _ ha (gIter_lt b hb k), gMul_iter' a b ha hb k]; rfl
theorem gMul_bit' (c a b : Nat) (hc : c = 0 ∨ c = 1) (ha : a < 2 ^ 128) : gMul a (c * b) = c * gMul a b := by
  rcases hc with rfl | rfl
  · rw [Nat.zero_mul, Nat.zero_mul, gMul_zero a ha]
  · rw [Nat.one_mul, Nat.one_mul]
theorem gUp_assoc (a b c : Nat) (ha : a < 2 ^ 128) (hb : b < 2 ^ 128) : ∀ k, gMul a (gUp b c k) = gUp (gMul a b) c k
  | 0 => gMul_zero a ha
  | k + 1 => by rw [gUp, gMul_right, gUp_assoc a b c ha hb k, gMul_bit' _ _ _ (gBit01 c k) ha, gMul_iter' a b ha hb k, gUp]
theorem gMul_assoc (a b c : Nat) (ha : a < 2 ^ 128) (hb : b < 2 ^ 128) : gMul (gMul a b) c = gMul a (gMul b c) := (gUp_assoc a b c ha hb 128).symm
end Go.Proofs.Ytilpdojliaiokaa
