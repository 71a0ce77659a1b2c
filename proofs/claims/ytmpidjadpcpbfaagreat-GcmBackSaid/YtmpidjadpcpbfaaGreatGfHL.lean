/- Coefficients and halves: what layer 4's elements are as numbers. No conditions; nothing is claimed of the program here. -/
import Derived.Test.YtmpidjadpcpbfaaGreatEqT
namespace Go.Proofs.YtmpidjadpcpbfaaGreat
set_option linter.unusedVariables false

/-- A number of two words. -/
def hl (h l : Nat) : Nat := h * 2 ^ 64 + l
theorem hl_lt (h l : Nat) (hh : h < 2 ^ 64) (hl' : l < 2 ^ 64) : hl h l < 2 ^ 128 := by unfold hl; omega
theorem hl_inj (h l h' l' : Nat) (h1 : l < 2 ^ 64) (h2 : l' < 2 ^ 64) (e : hl h l = hl h' l') : h = h' ∧ l = l' := by unfold hl at e; omega
theorem hl_xor (h l h' l' : Nat) (h1 : l < 2 ^ 64) (h2 : l' < 2 ^ 64) : hl h l ^^^ hl h' l' = hl (h ^^^ h') (l ^^^ l') := by
  have h3 : l ^^^ l' < 2 ^ 64 := Nat.xor_lt_two_pow h1 h2
  unfold hl
  rw [Nat.mul_comm h, Nat.mul_comm h', Nat.mul_comm (h ^^^ h')]
  apply Nat.eq_of_testBit_eq
  intro j
  rw [Nat.testBit_xor, Nat.testBit_two_pow_mul_add _ h1, Nat.testBit_two_pow_mul_add _ h2, Nat.testBit_two_pow_mul_add _ h3]
  by_cases hj : j < 64
  · rw [if_pos hj, if_pos hj, if_pos hj, Nat.testBit_xor]
  · rw [if_neg hj, if_neg hj, if_neg hj, Nat.testBit_xor]
/-- The product with x, by halves. -/
theorem hl_next (h l : Nat) (h2 : l < 2 ^ 64) : gNext (hl h l) = hl (h / 2 ^^^ (l % 2 * 16212958658533785600)) (h % 2 * 2 ^ 63 + l / 2) := by
  unfold gNext
  have e1 : hl h l / 2 = hl (h / 2) (h % 2 * 2 ^ 63 + l / 2) := by unfold hl; omega
  have e2 : hl h l % 2 * 299076299051606071403356588563077529600 = hl (l % 2 * 16212958658533785600) 0 := by unfold hl; omega
  rw [e1, e2, hl_xor _ _ _ _ (by omega) (by omega), Nat.xor_zero]
theorem coF_xor (a b p : Nat) : coF (a ^^^ b) p = (coF a p != coF b p) := by
  unfold coF
  rw [gBit_xor]
  rcases gBit01 a p with h | h <;> rcases gBit01 b p with k | k <;> rw [h, k] <;> rfl
theorem addT_co (a b : Nat) : addT (co a) (co b) = co (a ^^^ b) := by
  apply List.ext_getElem?
  intro j
  unfold addT
  rw [List.getElem?_zipWith]
  by_cases hj : j < 128
  · rw [co_at a j hj, co_at b j hj, co_at _ j hj, coF_xor]
  · rw [List.getElem?_eq_none (l := co a) (by rw [co_len]; omega), List.getElem?_eq_none (l := co (a ^^^ b)) (by rw [co_len]; omega)]
theorem coF_x (p : Nat) (hp : p < 128) : coF (gE 1) p = (p == 1) := by
  unfold coF
  rw [gBit_gE 1 p (by omega) hp]
  by_cases h : p = 1
  · rw [if_pos h, h]
  · rw [if_neg h, beq_eq_false_iff_ne.2 h]; rfl
theorem x_co : zP.set 1 true = co (gE 1) := by
  apply List.ext_getElem?
  intro j
  rw [List.getElem?_set]
  by_cases hj : j < 128
  · rw [co_at _ j hj, coF_x j hj]
    by_cases h : 1 = j
    · subst h; rw [if_pos rfl, zP_len, if_pos (by omega)]; rfl
    · rw [if_neg h, beq_eq_false_iff_ne.2 (fun e => h e.symm)]; unfold zP; rw [List.getElem?_replicate, if_pos hj]
  · rw [if_neg (by omega), List.getElem?_eq_none (by rw [zP_len]; omega), List.getElem?_eq_none (by rw [co_len]; omega)]
theorem gMul_x (a : Nat) (ha : a < 2 ^ 128) : gMul a (gE 1) = gNext a := by
  rw [← gE_next 0 (by omega), show gE 0 = gOne from rfl, gMul_next' a gOne ha gOne_lt, gMul_one a ha]
/-- A sum of many. -/
def gSum : List Nat → Nat → Nat | [], s => s | x :: l, s => gSum l (s ^^^ x)
theorem gSum_snoc (l : List Nat) (x : Nat) : ∀ s, gSum (l ++ [x]) s = gSum l s ^^^ x := by
  induction l with
  | nil => intro s; rfl
  | cons y l ih => intro s; exact ih (s ^^^ y)
end Go.Proofs.YtmpidjadpcpbfaaGreat
