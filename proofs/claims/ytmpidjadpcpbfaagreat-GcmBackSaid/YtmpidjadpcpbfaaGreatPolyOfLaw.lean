/- An element as the references have it (layer 4's law's 'of'). No conditions. -/
import Derived.Test.YtmpidjadpcpbfaaGreatRefPolyMp
namespace Go.Proofs.YtmpidjadpcpbfaaGreat
open Go.RowKit
set_option linter.unusedVariables false

/-- The first k of a word's eight bytes. -/
def wB (x k : Nat) : List UInt8 := (List.range k).map fun q => UInt8.ofNat (x / 2 ^ (56 - 8 * q))
theorem wB_len (x k : Nat) : (wB x k).length = k := by simp [wB]
theorem wB_snoc (x k : Nat) : wB x (k + 1) = wB x k ++ [UInt8.ofNat (x / 2 ^ (56 - 8 * k))] := by simp [wB, List.range_succ]
/-- An element's sixteen bytes. -/
def eB (h l : Nat) : List UInt8 := wB h 8 ++ wB l 8
theorem eB_len (h l : Nat) : (eB h l).length = 16 := by simp [eB, wB_len]
theorem byte_bit (x s r : Nat) (hr : r < 8) : (UInt8.ofNat (x / 2 ^ s)).toNat / 2 ^ (7 - r) % 2 = x / 2 ^ (s + 7 - r) % 2 := by
  rw [show (UInt8.ofNat (x / 2 ^ s)).toNat = x / 2 ^ s % 256 by simp]
  rw [show s + 7 - r = s + (7 - r) by omega, Nat.pow_add, ← Nat.div_div_eq_div_mul]
  generalize x / 2 ^ s = y
  obtain rfl | rfl | rfl | rfl | rfl | rfl | rfl | rfl : r = 0 ∨ r = 1 ∨ r = 2 ∨ r = 3 ∨ r = 4 ∨ r = 5 ∨ r = 6 ∨ r = 7 := by omega
  all_goals simp only [Nat.sub_zero, Nat.reduceSub, Nat.reducePow]; omega
theorem bits_e (h l : Nat) (hl : l < 2 ^ 64) : bitsOf (eB h l) = co (h * 2 ^ 64 + l) := by
  apply List.ext_getElem?
  intro i
  by_cases hi : i < 128
  · rw [bitsOf_at _ i hi, co_at _ i hi]
    congr 1
    unfold bitOf coF gBit
    by_cases h8 : i < 64
    · have e : (eB h l).getD (i / 8) 0 = UInt8.ofNat (h / 2 ^ (56 - 8 * (i / 8))) := by
        rw [List.getD_eq_getElem?_getD, eB, List.getElem?_append_left (by rw [wB_len]; omega)]
        simp [wB, show i / 8 < 8 by omega]
      rw [e, byte_bit _ _ _ (Nat.mod_lt _ (by omega)), show 56 - 8 * (i / 8) + 7 - i % 8 = 63 - i by omega]
      have e2 : (h * 2 ^ 64 + l) / 2 ^ (127 - i) = h / 2 ^ (63 - i) := by
        rw [show 127 - i = 64 + (63 - i) by omega, Nat.pow_add, ← Nat.div_div_eq_div_mul]
        congr 1
        omega
      rw [e2]
      rcases Nat.mod_two_eq_zero_or_one (h / 2 ^ (63 - i)) with q | q <;> rw [q] <;> rfl
    · have e : (eB h l).getD (i / 8) 0 = UInt8.ofNat (l / 2 ^ (56 - 8 * (i / 8 - 8))) := by
        rw [List.getD_eq_getElem?_getD, eB, List.getElem?_append_right (by rw [wB_len]; omega), wB_len]
        simp [wB, show i / 8 - 8 < 8 by omega]
      rw [e, byte_bit _ _ _ (Nat.mod_lt _ (by omega)), show 56 - 8 * (i / 8 - 8) + 7 - i % 8 = 127 - i by omega]
      have e2 : (h * 2 ^ 64 + l) / 2 ^ (127 - i) % 2 = l / 2 ^ (127 - i) % 2 := by
        obtain ⟨d, hd⟩ : ∃ d, 64 = (127 - i) + (d + 1) := ⟨63 - (127 - i), by omega⟩
        have : h * 2 ^ 64 = 2 ^ (127 - i) * (h * 2 ^ d * 2) := by
          rw [show (2:Nat) ^ 64 = 2 ^ ((127 - i) + (d + 1)) from congrArg (2 ^ ·) hd, Nat.pow_add, Nat.pow_succ]
          rw [Nat.mul_left_comm, Nat.mul_assoc]
        rw [this, Nat.mul_add_div (Nat.pow_pos (by omega))]
        omega
      rw [e2]
      rcases Nat.mod_two_eq_zero_or_one (l / 2 ^ (127 - i)) with q | q <;> rw [q] <;> rfl
  · rw [List.getElem?_eq_none (by rw [bitsOf_len]; omega), List.getElem?_eq_none (by rw [co_len]; omega)]
/-- An element as a value. -/
def EV (h l : Nat) : Value := .agg #[.int .u64 (h : Int), .int .u64 (l : Int)]
theorem byte_at (x k : Nat) : IntKind.u8.wrap ((x : Int) / 2 ^ (56 - 8 * k)) = (((UInt8.ofNat (x / 2 ^ (56 - 8 * k))).toNat : Nat) : Int) := by
  have e : ((x : Int) / 2 ^ (56 - 8 * k)) = ((x / 2 ^ (56 - 8 * k) : Nat) : Int) := by simp
  rw [e]
  generalize x / 2 ^ (56 - 8 * k) = y
  rw [show (UInt8.ofNat y).toNat = y % 256 by simp, IntKind.wrap_u8]
  omega
attribute [local irreducible] co wB eB bitsOf
end Go.Proofs.YtmpidjadpcpbfaaGreat
