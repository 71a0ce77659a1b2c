/- The reference of layer 4 (poly): products and powers of numbers' coefficients. No conditions. -/
import Derived.Test.YtilpdojliaiokaaRefPolyMul
import Derived.Test.YtilpdojliaiokaaGfSq
namespace Go.Proofs.Ytilpdojliaiokaa
open Go.RowKit
set_option linter.unusedVariables false

/-- A number's coefficients as a list. -/
def co (x : Nat) : List Bool := fl 128 (coF x)
theorem co_len (x : Nat) : (co x).length = 128 := fl_len _ _
theorem co_at (x p : Nat) (hp : p < 128) : (co x)[p]? = some (coF x p) := fl_at 128 _ p hp
theorem pmul_co (x y : Nat) (w : World) (hx : x < 2 ^ 128) (hy : y < 2 ^ 128) :
    Calls Try.prog 20 #[BV (co x), BV (co y)] w (RetT (co (gMul x y)) w) := by
  have h := pmul_any (coF x) (coF y) w
  rw [co_val x hx, co_val y hy] at h
  exact h
theorem coF_one (p : Nat) (hp : p < 128) : coF gOne p = (p == 0) := by
  unfold coF
  rw [show gOne = gE 0 from rfl, gBit_gE 0 p (by omega) hp]
  by_cases h : p = 0
  · rw [if_pos h, h]; rfl
  · rw [if_neg h, beq_eq_false_iff_ne.2 h]; rfl
theorem coF_zero (p : Nat) : coF 0 p = false := by unfold coF; rw [gBit_zero]; rfl
theorem zP_co : zP = co 0 := by
  apply List.ext_getElem?
  intro j
  by_cases hj : j < 128
  · rw [co_at 0 j hj, coF_zero]; unfold zP; rw [List.getElem?_replicate, if_pos hj]
  · rw [List.getElem?_eq_none (by rw [zP_len]; omega), List.getElem?_eq_none (by rw [co_len]; omega)]
theorem one_co : zP.set 0 true = co gOne := by
  apply List.ext_getElem?
  intro j
  rw [List.getElem?_set]
  by_cases hj : j < 128
  · rw [co_at _ j hj, coF_one j hj]
    by_cases h : 0 = j
    · subst h; rw [if_pos rfl, zP_len, if_pos (by omega)]; rfl
    · rw [if_neg h, beq_eq_false_iff_ne.2 (fun e => h e.symm)]; unfold zP; rw [List.getElem?_replicate, if_pos hj]
  · rw [if_neg (by omega), List.getElem?_eq_none (by rw [zP_len]; omega), List.getElem?_eq_none (by rw [co_len]; omega)]
theorem sz_co (x : Nat) : (Try.prog.info? 43).map (·.size) = some (co x).length := by rw [co_len]; exact sz_poly
theorem pow_even (x o n : Nat) (hx : x < 2 ^ 128) (hm : n % 2 = 0) : gMul o (gPow (gMul x x) (n / 2)) = gMul o (gPow x n) := by
  rw [gPow_half x hx n, hm]
  show _ = gMul o (gMul gOne (gPow (gMul x x) (n / 2)))
  rw [gMul_one' _ (gPow_lt _ (gMul_lt x x hx) _)]
theorem pow_odd (x o n : Nat) (hx : x < 2 ^ 128) (ho : o < 2 ^ 128) (hm : n % 2 = 1) : gMul (gMul o x) (gPow (gMul x x) (n / 2)) = gMul o (gPow x n) := by
  rw [gPow_half x hx n, hm, gPow_one x hx, gMul_assoc o x _ ho hx]
  rfl
attribute [local irreducible] co gMul gPow

end Go.Proofs.Ytilpdojliaiokaa
