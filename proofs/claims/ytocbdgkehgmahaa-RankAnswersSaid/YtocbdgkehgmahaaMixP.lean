/- Layer 22, plain: folds, ends. Nothing is claimed of the program here. -/
import Derived.Test.YtocbdgkehgmahaaBase
namespace Go.Proofs.Ytocbdgkehgmahaa
set_option linter.unusedVariables false
set_option linter.unusedSimpArgs false
theorem two64 : (2:Nat)^64 = 18446744073709551616 := by decide
def stepF (n : Nat) (b : UInt8) : Nat := (n ^^^ b.toNat) * 1099511628211 % 18446744073709551616
def foldF (n : Nat) (l : List UInt8) : Nat := l.foldl stepF n
def shF (n : Nat) : Nat := n ^^^ n / 8589934592
def endF (n : Nat) : Nat := shF (shF (shF n * 18397679294719823053 % 18446744073709551616) * 14181476777654086739 % 18446744073709551616)
theorem mul_inj {p q a b : Nat} (h : p * q % 18446744073709551616 = 1) (ha : a < 18446744073709551616) (hb : b < 18446744073709551616) (e : a * p % 18446744073709551616 = b * p % 18446744073709551616) : a = b := by
  have f (x : Nat) (hx : x < 18446744073709551616) : (x * p % 18446744073709551616) * q % 18446744073709551616 = x := by
    rw [Nat.mod_mul_mod, Nat.mul_assoc, Nat.mul_mod, h, Nat.mul_one, Nat.mod_mod, Nat.mod_eq_of_lt hx]
  rw [← f a ha, ← f b hb, e]
theorem sh_sh {n : Nat} (h : n < 18446744073709551616) : shF (shF n) = n := by
  have e : ∀ m, m / 8589934592 = m >>> 33 := fun m => (Nat.shiftRight_eq_div_pow m 33).symm
  have z : n >>> 33 >>> 33 = 0 := by
    rw [← Nat.shiftRight_add, Nat.shiftRight_eq_div_pow]
    exact Nat.div_eq_of_lt (Nat.lt_of_lt_of_le h (by decide))
  unfold shF
  rw [e, e, Nat.shiftRight_xor_distrib, z, Nat.xor_zero, Nat.xor_assoc, Nat.xor_self, Nat.xor_zero]
theorem sh_lt {n : Nat} (h : n < 18446744073709551616) : shF n < 18446744073709551616 := by
  have e : n / 8589934592 < 2 ^ 64 := by rw [two64]; omega
  have := Nat.xor_lt_two_pow (x := n) (y := n / 8589934592) (n := 64) (by rw [two64]; exact h) e
  rw [two64] at this
  exact this
theorem sh_inj {a b : Nat} (ha : a < 18446744073709551616) (hb : b < 18446744073709551616) (e : shF a = shF b) : a = b := by
  rw [← sh_sh ha, ← sh_sh hb, e]
theorem xor_lt {a b : Nat} (ha : a < 18446744073709551616) (hb : b < 18446744073709551616) : a ^^^ b < 18446744073709551616 := by
  have := Nat.xor_lt_two_pow (x := a) (y := b) (n := 64) (by rw [two64]; exact ha) (by rw [two64]; exact hb)
  rw [two64] at this
  exact this
theorem b64_lt (b : UInt8) : b.toNat < 18446744073709551616 := by have := b.toNat_lt; omega
theorem xor_inj {a b c : Nat} (e : a ^^^ c = b ^^^ c) : a = b := by
  have := congrArg (· ^^^ c) e
  simpa [Nat.xor_assoc] using this
theorem xor_inj' {a b c : Nat} (e : c ^^^ a = c ^^^ b) : a = b := by
  rw [Nat.xor_comm c a, Nat.xor_comm c b] at e
  exact xor_inj e
theorem step_lt (n : Nat) (b : UInt8) : stepF n b < 18446744073709551616 := Nat.mod_lt _ (by decide)
theorem step_inj {a b : Nat} {c : UInt8} (ha : a < 18446744073709551616) (hb : b < 18446744073709551616) (e : stepF a c = stepF b c) : a = b :=
  xor_inj (mul_inj (q := 14886173955864302971) (by decide) (xor_lt ha (b64_lt c)) (xor_lt hb (b64_lt c)) e)
theorem step_byte {a : Nat} {c d : UInt8} (ha : a < 18446744073709551616) (e : stepF a c = stepF a d) : c = d :=
  UInt8.toNat_inj.1 (xor_inj' (mul_inj (q := 14886173955864302971) (by decide) (xor_lt ha (b64_lt c)) (xor_lt ha (b64_lt d)) e))
theorem fold_lt {l : List UInt8} : ∀ {n : Nat}, n < 18446744073709551616 → foldF n l < 18446744073709551616 := by
  induction l with
  | nil => exact fun h => h
  | cons b l ih => exact fun _ => ih (step_lt _ b)
theorem fold_inj {l : List UInt8} : ∀ {a b : Nat}, a < 18446744073709551616 → b < 18446744073709551616 → foldF a l = foldF b l → a = b := by
  induction l with
  | nil => exact fun _ _ e => e
  | cons c l ih => exact fun ha hb e => step_inj ha hb (ih (step_lt _ c) (step_lt _ c) e)
theorem fold_app (n : Nat) (a b : List UInt8) : foldF n (a ++ b) = foldF (foldF n a) b := List.foldl_append ..
theorem fold_set {l : List UInt8} {c : UInt8} : ∀ {n i : Nat}, n < 18446744073709551616 → i < l.length → foldF n (l.set i c) = foldF n l → l.set i c = l := by
  induction l with
  | nil => intro n i _ h; exact absurd h (Nat.not_lt_zero _)
  | cons b l ih =>
    intro n i hn hi e
    match i with
    | 0 =>
      have := step_byte hn (fold_inj (step_lt _ _) (step_lt _ _) (show foldF (stepF n c) l = foldF (stepF n b) l from e))
      rw [this]
      rfl
    | i + 1 =>
      have := ih (i := i) (step_lt n b) (Nat.lt_of_succ_lt_succ hi) e
      show b :: l.set i c = b :: l
      rw [this]
theorem end_inj {a b : Nat} (ha : a < 18446744073709551616) (hb : b < 18446744073709551616) (e : endF a = endF b) : a = b := by
  have m : ∀ x y : Nat, x * y % 18446744073709551616 < 18446744073709551616 := fun _ _ => Nat.mod_lt _ (by decide)
  have e1 := sh_inj (m _ _) (m _ _) e
  have e2 := mul_inj (q := 11291846944257947611) (by decide) (sh_lt (m _ _)) (sh_lt (m _ _)) e1
  have e3 := sh_inj (m _ _) (m _ _) e2
  have e4 := mul_inj (q := 5725274745694666757) (by decide) (sh_lt ha) (sh_lt hb) e3
  exact sh_inj ha hb e4
theorem end_lt {a : Nat} : endF a < 18446744073709551616 := sh_lt (Nat.mod_lt _ (by decide))
end Go.Proofs.Ytocbdgkehgmahaa
