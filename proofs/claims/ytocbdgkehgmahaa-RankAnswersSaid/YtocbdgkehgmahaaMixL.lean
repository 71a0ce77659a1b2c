/- Layer 22: Fold, End, Mix and Below, the reference's and the program's, answer what their words reckon. Conditions: the slices' cells are readable. -/
import Derived.Test.YtocbdgkehgmahaaMixU
import Derived.Test.YtocbdgkehgmahaaOctAll
namespace Go.Proofs.Ytocbdgkehgmahaa
open Go.RowKit
set_option linter.unusedVariables false
set_option linter.unusedSimpArgs false

theorem size8_put (n : Nat) : putL n 8 = size8 n := by
  simp only [putL, size8, Nat.div_div_eq_div_mul, List.nil_append, List.cons_append, Nat.reduceMul, Nat.reducePow]
/-- A number moved up by k bytes. -/
def upL (n : Nat) : Nat → Nat | 0 => n | k + 1 => upL n k * 256 % 18446744073709551616
theorem upL_succ (n k : Nat) : upL n (k + 1) = upL n k * 256 % 18446744073709551616 := rfl
theorem upL_lt {n : Nat} (h : n < 18446744073709551616) (k : Nat) : upL n k < 18446744073709551616 := by
  cases k with
  | zero => exact h
  | succ k => exact Nat.mod_lt _ (by decide)
theorem upL_eq {n : Nat} (h : n < 18446744073709551616) (k : Nat) : upL n k = n * 256 ^ k % 18446744073709551616 := by
  induction k with
  | zero => rw [Nat.pow_zero, Nat.mul_one, Nat.mod_eq_of_lt h]; rfl
  | succ k ih => rw [upL_succ, ih, Nat.mod_mul_mod, Nat.pow_succ, Nat.mul_assoc]
theorem ofNat_eq {a b : Nat} (h : a % 256 = b % 256) : UInt8.ofNat a = UInt8.ofNat b := UInt8.toNat_inj.1 (by simpa using h)
theorem downL_eq (n k : Nat) : downL n k = n / 256 ^ k := by
  induction k with
  | zero => rw [Nat.pow_zero, Nat.div_one]; rfl
  | succ k ih => rw [downL_succ, ih, Nat.div_div_eq_div_mul, Nat.pow_succ]
theorem up_down {n : Nat} (k j : Nat) (h : k + j = 7) : n / 256 ^ j % 256 = n * 256 ^ k % 18446744073709551616 / 72057594037927936 % 256 := by
  have e1 : (18446744073709551616 : Nat) = 256 ^ k * (256 ^ j * 256) := by
    rw [← Nat.pow_succ, ← Nat.pow_add]
    rw [show k + (j + 1) = 8 by omega]
  have e2 : (72057594037927936 : Nat) = 256 ^ k * 256 ^ j := by
    rw [← Nat.pow_add, h]
  rw [e1, e2, Nat.mul_comm n, Nat.mul_mod_mul_left, Nat.mul_div_mul_left _ _ (Nat.pow_pos (by decide)), Nat.mod_mul_right_div_self, Nat.mod_mod]
theorem up_at {n k : Nat} (h : n < 18446744073709551616) (hk : k < 8) : (putL n 8)[k]? = some (UInt8.ofNat (upL n k / 72057594037927936)) := by
  rw [putL_get n 8 k hk, upL_eq h, downL_eq]
  exact congrArg some (ofNat_eq (up_down k (8 - 1 - k) (by omega)))
theorem foldl_one {α β : Type} (g : α → β → α) (a : α) (x : β) : List.foldl g a [x] = g a x := rfl
theorem foldF_snoc (f : Nat) (l : List UInt8) (x : UInt8) : foldF f (l ++ [x]) = stepF (foldF f l) x := (fold_app f l [x]).trans (foldl_one stepF (foldF f l) x)
theorem fold_next {f k : Nat} {l : List UInt8} {x : UInt8} (h : l[k]? = some x) : foldF f (l.take (k + 1)) = stepF (foldF f (l.take k)) x := by rw [take_snoc h, foldF_snoc]
theorem parts_next {f k : Nat} {ps : List (List UInt8)} {p : List UInt8} (h : ps[k]? = some p) : partsF f (ps.take (k + 1)) = partF (partsF f (ps.take k)) p := by
  rw [take_row h]
  exact (parts_app f (ps.take k) [p]).trans (foldl_one partF (partsF f (ps.take k)) p)

set_option maxHeartbeats 1000000 in
theorem rfold_any (f : Nat) (A : Option Addr) (n c B : Nat) (l : List UInt8) (w : World) (hf : f < 18446744073709551616) (h : RB w B A n l) (hm : n ≤ maxLen) :
    Calls Try.prog 31 #[.int .u64 (f : Int), .slice A n c] w fun e w' => e = .returned (.int .u64 (foldF f l : Int)) ∧ w = w' := by
  unfold maxLen at hm
  go_enter Try.func31, Try.ntmps31
  go_wp2
  go_loop [0, 5] (fun v i => ∃ k : Nat, k ≤ n ∧ i = .int .i64 k ∧ v = .int .u64 (foldF f (l.take k) : Int)) (fun _ i => n - (intOf i).toNat)
  case atStart => exact ⟨0, Nat.zero_le _, rfl, rfl⟩
  case round =>
    obtain ⟨k, hk, rfl, rfl⟩ := hrel
    by_cases hlt : k < n
    · obtain ⟨b, o, rfl, hb, x, hx, hc⟩ := h.at_ hlt
      have h1 : foldF f (l.take k) < 18446744073709551616 := fold_lt hf
      have h2 := byte_lt x
      have HX := Lib.hid hx
      clear hx
      go_wp2
      go_round
      case rel => exact ⟨k + 1, by omega, by go_num, by rw [fold_next HX.out, ← step64 _ _ h1]⟩
      case measure => simp [intOf]; omega
    · go_wp2
      go_ret
      exact ⟨ret1i (by rw [List.take_of_length_le (by have := h.len; omega)]), rfl⟩

set_option maxHeartbeats 1000000 in
theorem fold_any (f : Nat) (A : Option Addr) (n c B : Nat) (l : List UInt8) (w : World) (hf : f < 18446744073709551616) (h : RB w B A n l) (hm : n ≤ maxLen) :
    Calls Try.prog 28 #[.int .u64 (f : Int), .slice A n c] w fun e w' => e = .returned (.int .u64 (foldF f l : Int)) ∧ w = w' := by
  unfold maxLen at hm
  go_enter Try.func28, Try.ntmps28
  go_wp2
  go_loop [0, 6, 9] (fun v _ i => ∃ k : Nat, k ≤ n ∧ i = .int .i64 k ∧ v = .int .u64 (foldF f (l.take k) : Int)) (fun _ _ i => n - (intOf i).toNat)
  case atStart => exact ⟨0, Nat.zero_le _, rfl, rfl⟩
  case round =>
    obtain ⟨k, hk, rfl, rfl⟩ := hrel
    by_cases hlt : k < n
    · obtain ⟨b, o, rfl, hb, x, hx, hc⟩ := h.at_ hlt
      have h1 : foldF f (l.take k) < 18446744073709551616 := fold_lt hf
      have h2 := byte_lt x
      have HX := Lib.hid hx
      clear hx
      go_wp2
      go_round
      case rel => exact ⟨k + 1, by omega, by go_num, by rw [fold_next HX.out, ← step64 _ _ h1]⟩
      case measure => simp [intOf]; omega
    · go_wp2
      go_ret
      exact ⟨ret1i (by rw [List.take_of_length_le (by have := h.len; omega)]), rfl⟩
end Go.Proofs.Ytocbdgkehgmahaa
