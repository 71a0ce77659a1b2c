/- Rows of coefficients and 128-bit numbers: products as the reference of layer 4 makes them. No conditions; nothing is claimed of the program here. -/
import Derived.Test.YtilpdojliaiokaaGf
namespace Go.Proofs.Ytilpdojliaiokaa
set_option linter.unusedVariables false

/-- The sum of x^p over the first n numbers p with F p. -/
def gVal (F : Nat → Bool) : Nat → Nat | 0 => 0 | n + 1 => gVal F n ^^^ (if F n then gIter gOne n else 0)
theorem gVal_xor (F G : Nat → Bool) : ∀ n, gVal (fun p => F p != G p) n = gVal F n ^^^ gVal G n
  | 0 => by simp [gVal]
  | n + 1 => by
    rw [gVal, gVal, gVal, gVal_xor F G n, xor4]
    congr 1
    cases F n <;> cases G n <;> simp
theorem gVal_and (c : Bool) (G : Nat → Bool) : ∀ n, gVal (fun p => c && G p) n = if c then gVal G n else 0
  | 0 => by cases c <;> rfl
  | n + 1 => by
    rw [gVal, gVal_and c G n]
    cases c <;> simp [gVal]
theorem gVal_none (F : Nat → Bool) : ∀ n, (∀ p, p < n → F p = false) → gVal F n = 0
  | 0, _ => rfl
  | n + 1, h => by rw [gVal, gVal_none F n (fun p hp => h p (by omega)), h n (by omega)]; simp
theorem gVal_congr (F G : Nat → Bool) : ∀ n, (∀ p, p < n → F p = G p) → gVal F n = gVal G n
  | 0, _ => rfl
  | n + 1, h => by rw [gVal, gVal, gVal_congr F G n (fun p hp => h p (by omega)), h n (by omega)]
theorem gVal_one (q : Nat) : ∀ n, q < n → gVal (fun p => p == q) n = gIter gOne q
  | 0, h => by omega
  | n + 1, h => by
    rw [gVal]
    by_cases e : n = q
    · subst e
      rw [gVal_none _ n (fun p hp => beq_eq_false_iff_ne.2 (by omega))]
      simp
    · rw [gVal_one q n (by omega)]
      have : (n == q) = false := beq_eq_false_iff_ne.2 e
      simp [this]
theorem gVal_cut (F : Nat → Bool) (m : Nat) : ∀ n, (∀ p, m ≤ p → p < m + n → F p = false) → gVal F (m + n) = gVal F m
  | 0, _ => rfl
  | n + 1, h => by
    rw [show m + (n + 1) = (m + n) + 1 by omega, gVal, gVal_cut F m n (fun p h1 h2 => h p h1 (by omega)), h (m + n) (by omega) (by omega)]
    simp
/-- Coefficients moved by i. -/
theorem gVal_move (B : Nat → Bool) (i : Nat) : ∀ n, gVal (fun p => decide (i ≤ p) && B (p - i)) (i + n) = gIter (gVal B n) i
  | 0 => by
    rw [gVal_none _ _ (fun p hp => by simp; omega)]
    exact (gIter_zero i).symm
  | n + 1 => by
    rw [show i + (n + 1) = (i + n) + 1 by omega, gVal, gVal_move B i n, gVal, gIter_xor]
    congr 1
    rw [show i + n - i = n by omega, decide_eq_true (show i ≤ i + n by omega), Bool.true_and]
    cases B n
    · simp [gIter_zero]
    · simp only [if_true]
      rw [← gIter_add, Nat.add_comm]
/-- What i rounds of the product leave. -/
def cvF (A B : Nat → Bool) : Nat → Nat → Bool | 0, _ => false | i + 1, p => cvF A B i p != (A i && (decide (i ≤ p) && (decide (p < i + 128) && B (p - i))))
theorem cvF_val (A B : Nat → Bool) : ∀ i, i ≤ 128 → gVal (cvF A B i) 255 = gUp (gVal B 128) (gVal A 128) i → (∀ p, p < 128 → gBit (gVal A 128) p = if A p then 1 else 0) → i < 128 → gVal (cvF A B (i + 1)) 255 = gUp (gVal B 128) (gVal A 128) (i + 1) := by
  intro i hi ih hbit hlt
  have e : cvF A B (i + 1) = fun p => cvF A B i p != (A i && (decide (i ≤ p) && (decide (p < i + 128) && B (p - i)))) := rfl
  rw [e, gVal_xor, ih, gUp]
  refine congrArg (fun z => gUp (gVal B 128) (gVal A 128) i ^^^ z) ?_
  rw [gVal_and, hbit i hlt]
  have h2 : gVal (fun p => decide (i ≤ p) && (decide (p < i + 128) && B (p - i))) 255 = gIter (gVal B 128) i := by
    rw [← gVal_move B i 128]
    have h3 : gVal (fun p => decide (i ≤ p) && (decide (p < i + 128) && B (p - i))) ((i + 128) + (127 - i)) = gVal (fun p => decide (i ≤ p) && (decide (p < i + 128) && B (p - i))) (i + 128) := gVal_cut _ (i + 128) (127 - i) (fun p h1 _ => by
      rw [decide_eq_false (show ¬ p < i + 128 by omega)]; simp)
    rw [show i + 128 + (127 - i) = 255 by omega] at h3
    rw [h3]
    exact gVal_congr _ _ _ (fun p hp => by rw [decide_eq_true hp, Bool.true_and])
  rw [h2]
  cases A i <;> simp
/-- A multiple of the modulus. -/
def modE (k p : Nat) : Bool := (p == k) != ((p == k - 128) != ((p == k - 127) != ((p == k - 126) != (p == k - 121))))
theorem mod_iter (m : Nat) : gIter gOne (m + 128) = gIter gOne m ^^^ (gIter gOne (m + 1) ^^^ (gIter gOne (m + 2) ^^^ gIter gOne (m + 7))) := by
  have h : gIter gOne 128 = gOne ^^^ (gIter gOne 1 ^^^ (gIter gOne 2 ^^^ gIter gOne 7)) := by decide +kernel
  rw [Nat.add_comm m 128, gIter_add, h, gIter_xor, gIter_xor, gIter_xor, ← gIter_add, ← gIter_add, ← gIter_add, Nat.add_comm 1 m, Nat.add_comm 2 m, Nat.add_comm 7 m]
theorem mod_val (k : Nat) (h1 : 128 ≤ k) (h2 : k < 255) : gVal (modE k) 255 = 0 := by
  have e : modE k = fun p => (p == k) != ((p == k - 128) != ((p == k - 127) != ((p == k - 126) != (p == k - 121)))) := rfl
  rw [e, gVal_xor, gVal_xor, gVal_xor, gVal_xor, gVal_one k 255 h2, gVal_one (k - 128) 255 (by omega), gVal_one (k - 127) 255 (by omega), gVal_one (k - 126) 255 (by omega), gVal_one (k - 121) 255 (by omega)]
  have := mod_iter (k - 128)
  rw [show k - 128 + 128 = k by omega, show k - 128 + 1 = k - 127 by omega, show k - 128 + 2 = k - 126 by omega, show k - 128 + 7 = k - 121 by omega] at this
  rw [this, Nat.xor_self]
/-- One round of the remainder; all rounds down to k. -/
def rdF (F : Nat → Bool) (k p : Nat) : Bool := F p != (F k && modE k p)
theorem rdF_val (F : Nat → Bool) (k : Nat) (h1 : 128 ≤ k) (h2 : k < 255) : gVal (rdF F k) 255 = gVal F 255 := by
  have e : rdF F k = fun p => F p != (F k && modE k p) := rfl
  rw [e, gVal_xor, gVal_and, mod_val k h1 h2]
  cases F k <;> simp
def rdUp (F : Nat → Bool) : Nat → Nat → Bool | 0 => F | m + 1 => rdF (rdUp F m) (254 - m)
theorem rdUp_val (F : Nat → Bool) : ∀ m, m ≤ 127 → gVal (rdUp F m) 255 = gVal F 255
  | 0, _ => rfl
  | m + 1, h => by rw [rdUp, rdF_val _ _ (by omega) (by omega), rdUp_val F m (by omega)]
theorem modE_above (k p : Nat) (hp : k < p) : modE k p = false := by
  unfold modE
  rw [beq_eq_false_iff_ne.2 (show p ≠ k by omega), beq_eq_false_iff_ne.2 (show p ≠ k - 128 by omega), beq_eq_false_iff_ne.2 (show p ≠ k - 127 by omega), beq_eq_false_iff_ne.2 (show p ≠ k - 126 by omega), beq_eq_false_iff_ne.2 (show p ≠ k - 121 by omega)]
  rfl
theorem modE_self (k : Nat) (h : 128 ≤ k) : modE k k = true := by
  unfold modE
  rw [beq_eq_false_iff_ne.2 (show k ≠ k - 128 by omega), beq_eq_false_iff_ne.2 (show k ≠ k - 127 by omega), beq_eq_false_iff_ne.2 (show k ≠ k - 126 by omega), beq_eq_false_iff_ne.2 (show k ≠ k - 121 by omega)]
  simp
theorem rdUp_top (F : Nat → Bool) : ∀ m, m ≤ 127 → ∀ p, 254 - m < p → p < 255 → rdUp F m p = false
  | 0, _, p, h1, h2 => by omega
  | m + 1, h, p, h1, h2 => by
    rw [rdUp]
    unfold rdF
    by_cases e : p = 254 - m
    · subst e
      rw [modE_self _ (by omega)]
      simp
    · rw [rdUp_top F m (by omega) p (by omega) h2, modE_above _ _ (by omega)]
      simp
theorem gBit_gE (k p : Nat) (hk : k < 128) (hp : p < 128) : gBit (gE k) p = if p = k then 1 else 0 := by
  unfold gBit gE
  by_cases h : p = k
  · subst h
    rw [if_pos rfl, Nat.div_self (Nat.pow_pos (by omega))]
  · rw [if_neg h]
    rcases Nat.lt_or_ge p k with h1 | h1
    · rw [Nat.div_eq_of_lt (Nat.pow_lt_pow_right (by omega) (by omega))]
    · obtain ⟨d, hd⟩ : ∃ d, 127 - k = (127 - p) + (d + 1) := ⟨p - k - 1, by omega⟩
      rw [hd, Nat.pow_add, Nat.mul_comm, Nat.mul_div_cancel _ (Nat.pow_pos (by omega)), Nat.pow_succ]
      omega
theorem gBit_zero (p : Nat) : gBit 0 p = 0 := by unfold gBit; rw [Nat.zero_div]
theorem gBit_val (F : Nat → Bool) (p : Nat) (hp : p < 128) : ∀ n, n ≤ 128 → gBit (gVal F n) p = if p < n ∧ F p = true then 1 else 0
  | 0, _ => by rw [gVal, gBit_zero, if_neg (by omega)]
  | n + 1, h => by
    rw [gVal, gBit_xor, gBit_val F p hp n (by omega)]
    cases hF : F n
    · simp only [Bool.false_eq_true, if_false, gBit_zero, Nat.add_zero]
      by_cases e : p = n
      · subst e; rw [if_neg (by simp), if_neg (by simp [hF])]
      · by_cases h1 : p < n ∧ F p = true
        · rw [if_pos h1, if_pos ⟨by omega, h1.2⟩]
        · rw [if_neg h1, if_neg (fun h2 => h1 ⟨by omega, h2.2⟩)]
    · simp only [if_true]
      rw [gE_iter n (by omega), gBit_gE n p (by omega) hp]
      by_cases e : p = n
      · subst e; rw [if_neg (by simp), if_pos rfl, if_pos ⟨by omega, hF⟩]
      · rw [if_neg e]
        by_cases h1 : p < n ∧ F p = true
        · rw [if_pos h1, if_pos ⟨by omega, h1.2⟩]
        · rw [if_neg h1, if_neg (fun h2 => h1 ⟨by omega, h2.2⟩)]
theorem gVal_lt (F : Nat → Bool) : ∀ n, gVal F n < 2 ^ 128
  | 0 => by rw [gVal]; decide
  | n + 1 => by
    rw [gVal]
    refine Nat.xor_lt_two_pow (gVal_lt F n) ?_
    split
    · exact gIter_lt gOne (by decide) n
    · decide
/-- A number's coefficients. -/
def coF (x p : Nat) : Bool := gBit x p == 1
theorem co_val (x : Nat) (hx : x < 2 ^ 128) : gVal (coF x) 128 = x := by
  have h : ∀ n, n ≤ 128 → gVal (coF x) n = gUp gOne x n := by
    intro n
    induction n with
    | zero => intro _; rfl
    | succ n ih =>
      intro hn
      rw [gVal, gUp, ih (by omega)]
      congr 1
      unfold coF
      rcases gBit01 x n with h | h <;> rw [h] <;> simp
  rw [h 128 (by omega)]
  exact gMul_one' x hx
theorem val_co (F : Nat → Bool) (p : Nat) (hp : p < 128) : coF (gVal F 128) p = F p := by
  unfold coF
  rw [gBit_val F p hp 128 (by omega)]
  cases hF : F p
  · rw [if_neg (by simp)]; rfl
  · rw [if_pos ⟨hp, rfl⟩]; rfl
theorem cv_all (A B : Nat → Bool) : ∀ i, i ≤ 128 → gVal (cvF A B i) 255 = gUp (gVal B 128) (gVal A 128) i
  | 0, _ => by rw [gUp]; exact gVal_none _ _ (fun p _ => rfl)
  | i + 1, h => cvF_val A B i (by omega) (cv_all A B i (by omega)) (fun p hp => by
      rw [gBit_val A p hp 128 (by omega)]
      cases hA : A p
      · rw [if_neg (by simp)]; simp
      · rw [if_pos ⟨hp, rfl⟩]; simp) (by omega)
/-- The product's coefficients are those that the reference leaves. -/
theorem prod_co (A B : Nat → Bool) (p : Nat) (hp : p < 128) : rdUp (cvF A B 128) 127 p = coF (gMul (gVal A 128) (gVal B 128)) p := by
  have h1 := rdUp_val (cvF A B 128) 127 (by omega)
  rw [cv_all A B 128 (by omega)] at h1
  have h2 : gVal (rdUp (cvF A B 128) 127) (128 + 127) = gVal (rdUp (cvF A B 128) 127) 128 := gVal_cut _ 128 127 (fun q h3 h4 => rdUp_top _ 127 (by omega) q (by omega) (by omega))
  rw [show 128 + 127 = 255 from rfl] at h2
  rw [gMul_comm _ _ (gVal_lt A 128) (gVal_lt B 128)]
  have h3 : gVal (rdUp (cvF A B 128) 127) 128 = gMul (gVal B 128) (gVal A 128) := by rw [← h2, h1]; rfl
  rw [← h3, val_co _ p hp]
end Go.Proofs.Ytilpdojliaiokaa
