/- The field's laws on bytes: products have no order, products of sums are sums of products, each byte but 0 has an inverse, powers add up. No conditions; nothing is claimed of the program here. -/
import Derived.Test.YtbpbpkmjkbndbaaFieldFn
namespace Go.Proofs.Ytbpbpkmjkbndbaa
set_option linter.unusedVariables false

/-- v where the bit is set. -/
def sel (c v : Nat) : Nat := if c = 1 then v else 0
theorem sel_xor (x y v : Nat) (hx : x < 2) (hy : y < 2) : sel ((x + y) % 2) v = sel x v ^^^ sel y v := by
  rcases (show x = 0 ∨ x = 1 by omega) with rfl | rfl <;> rcases (show y = 0 ∨ y = 1 by omega) with rfl | rfl <;> simp [sel]
theorem sel_xor_v (c v v' : Nat) : sel c (v ^^^ v') = sel c v ^^^ sel c v' := by unfold sel; split <;> simp
theorem bit_xor (a b k : Nat) : (a ^^^ b) / 2 ^ k % 2 = (a / 2 ^ k % 2 + b / 2 ^ k % 2) % 2 := by
  rw [← Nat.shiftRight_eq_div_pow, ← Nat.shiftRight_eq_div_pow, ← Nat.shiftRight_eq_div_pow, Nat.shiftRight_xor_distrib]
  have h1 := Nat.xor_mod_two_pow (a := a >>> k) (b := b >>> k) (n := 1)
  rw [Nat.pow_one] at h1
  rw [h1]
  rcases Nat.mod_two_eq_zero_or_one (a >>> k) with e | e <;> rcases Nat.mod_two_eq_zero_or_one (b >>> k) with e' | e' <;> rw [e, e'] <;> rfl
theorem mul_pow_xor (a b k : Nat) : (a ^^^ b) * 2 ^ k = (a * 2 ^ k) ^^^ (b * 2 ^ k) := by
  rw [← Nat.shiftLeft_eq, ← Nat.shiftLeft_eq, ← Nat.shiftLeft_eq, Nat.shiftLeft_xor_distrib]
theorem xor_swap (p q s t : Nat) : (p ^^^ q) ^^^ (s ^^^ t) = (p ^^^ s) ^^^ (q ^^^ t) := by
  rw [Nat.xor_assoc, Nat.xor_assoc, ← Nat.xor_assoc q s t, Nat.xor_comm q s, Nat.xor_assoc s q t]
theorem mulUp_eq (a b k : Nat) : mulUp a b (k + 1) = mulUp a b k ^^^ sel (b / 2 ^ k % 2) (a * 2 ^ k) := by
  rw [mulUp]; unfold sel; split <;> simp
theorem mulDown_eq (n k : Nat) : mulDown n (k + 1) = mulDown (n ^^^ sel (n / 2 ^ (8 + k) % 2) (283 * 2 ^ k)) k := by
  rw [mulDown]; unfold sel; split <;> simp
theorem mulUp_right (a b b' : Nat) : ∀ k, mulUp a (b ^^^ b') k = mulUp a b k ^^^ mulUp a b' k
  | 0 => by simp [mulUp]
  | k + 1 => by
    rw [mulUp_eq, mulUp_eq, mulUp_eq, mulUp_right a b b' k, bit_xor, sel_xor _ _ _ (Nat.mod_lt _ (by omega)) (Nat.mod_lt _ (by omega)), xor_swap]
theorem mulUp_left (a a' b : Nat) : ∀ k, mulUp (a ^^^ a') b k = mulUp a b k ^^^ mulUp a' b k
  | 0 => by simp [mulUp]
  | k + 1 => by rw [mulUp_eq, mulUp_eq, mulUp_eq, mulUp_left a a' b k, mul_pow_xor, sel_xor_v, xor_swap]
theorem mulDown_xor : ∀ (k n n' : Nat), mulDown (n ^^^ n') k = mulDown n k ^^^ mulDown n' k
  | 0, n, n' => by simp [mulDown]
  | k + 1, n, n' => by
    rw [mulDown_eq, mulDown_eq, mulDown_eq, bit_xor, sel_xor _ _ _ (Nat.mod_lt _ (by omega)) (Nat.mod_lt _ (by omega)), xor_swap, mulDown_xor k]
theorem ofNat_xor (a b : Nat) : UInt8.ofNat (a ^^^ b) = UInt8.ofNat a ^^^ UInt8.ofNat b := by
  apply UInt8.toNat_inj.1
  rw [UInt8.toNat_xor]
  simp only [UInt8.toNat_ofNat']
  exact Nat.xor_mod_two_pow
theorem mulB_right (a b b' : UInt8) : mulB a (b ^^^ b') = mulB a b ^^^ mulB a b' := by
  unfold mulB; rw [UInt8.toNat_xor, mulUp_right, mulDown_xor, ofNat_xor]
theorem mulB_left (a a' b : UInt8) : mulB (a ^^^ a') b = mulB a b ^^^ mulB a' b := by
  unfold mulB; rw [UInt8.toNat_xor, mulUp_left, mulDown_xor, ofNat_xor]

/-- Bit k alone. -/
def bitB (k : Nat) : UInt8 := UInt8.ofNat (2 ^ k)
theorem byte_bits (x : UInt8) : x = (x &&& bitB 0) ^^^ ((x &&& bitB 1) ^^^ ((x &&& bitB 2) ^^^ ((x &&& bitB 3) ^^^ ((x &&& bitB 4) ^^^ ((x &&& bitB 5) ^^^ ((x &&& bitB 6) ^^^ (x &&& bitB 7))))))) := by
  have h : ∀ n : Fin 256, UInt8.ofNat n.val = (UInt8.ofNat n.val &&& bitB 0) ^^^ ((UInt8.ofNat n.val &&& bitB 1) ^^^ ((UInt8.ofNat n.val &&& bitB 2) ^^^ ((UInt8.ofNat n.val &&& bitB 3) ^^^ ((UInt8.ofNat n.val &&& bitB 4) ^^^ ((UInt8.ofNat n.val &&& bitB 5) ^^^ ((UInt8.ofNat n.val &&& bitB 6) ^^^ (UInt8.ofNat n.val &&& bitB 7))))))) := by decide +kernel
  have e : UInt8.ofNat x.toNat = x := by simp
  have := h ⟨x.toNat, x.toNat_lt⟩
  rw [e] at this
  exact this
theorem and_bit (x : UInt8) (k : Fin 8) : x &&& bitB k.val = 0 ∨ x &&& bitB k.val = bitB k.val := by
  have h : ∀ n : Fin 256, ∀ k : Fin 8, UInt8.ofNat n.val &&& bitB k.val = 0 ∨ UInt8.ofNat n.val &&& bitB k.val = bitB k.val := by decide +kernel
  have e : UInt8.ofNat x.toNat = x := by simp
  have := h ⟨x.toNat, x.toNat_lt⟩ k
  rw [e] at this
  exact this
/-- Two sums-keeping functions that agree on the eight bits agree. -/
theorem lin_ext (f g : UInt8 → UInt8) (hf : ∀ x y, f (x ^^^ y) = f x ^^^ f y) (hg : ∀ x y, g (x ^^^ y) = g x ^^^ g y) (h : ∀ k : Fin 8, f (bitB k.val) = g (bitB k.val)) (x : UInt8) : f x = g x := by
  have f0 : f 0 = 0 := by have := hf 0 0; rw [UInt8.xor_self, UInt8.xor_self] at this; exact this
  have g0 : g 0 = 0 := by have := hg 0 0; rw [UInt8.xor_self, UInt8.xor_self] at this; exact this
  have e : ∀ k : Fin 8, f (x &&& bitB k.val) = g (x &&& bitB k.val) := fun k => by
    rcases and_bit x k with h0 | h0 <;> rw [h0]
    · rw [f0, g0]
    · exact h k
  rw [byte_bits x]
  simp only [hf, hg]
  have e' : ∀ k, k < 8 → f (x &&& bitB k) = g (x &&& bitB k) := fun k hk => e ⟨k, hk⟩
  rw [e' 0 (by omega), e' 1 (by omega), e' 2 (by omega), e' 3 (by omega), e' 4 (by omega), e' 5 (by omega), e' 6 (by omega), e' 7 (by omega)]

theorem mulB_comm (a b : UInt8) : mulB a b = mulB b a :=
  lin_ext (fun a => mulB a b) (fun a => mulB b a) (fun x y => mulB_left x y b) (fun x y => mulB_right b x y)
    (fun k => lin_ext (fun b => mulB (bitB k.val) b) (fun b => mulB b (bitB k.val)) (fun x y => mulB_right _ x y) (fun x y => mulB_left x y _)
      (fun j => (by decide +kernel : ∀ k j : Fin 8, mulB (bitB k.val) (bitB j.val) = mulB (bitB j.val) (bitB k.val)) k j) b) a
theorem mulB_assoc (a b c : UInt8) : mulB (mulB a b) c = mulB a (mulB b c) :=
  lin_ext (fun a => mulB (mulB a b) c) (fun a => mulB a (mulB b c)) (fun x y => by rw [mulB_left, mulB_left]) (fun x y => mulB_left x y _)
    (fun i => lin_ext (fun b => mulB (mulB (bitB i.val) b) c) (fun b => mulB (bitB i.val) (mulB b c)) (fun x y => by rw [mulB_right, mulB_left]) (fun x y => by rw [mulB_left, mulB_right])
      (fun j => lin_ext (fun c => mulB (mulB (bitB i.val) (bitB j.val)) c) (fun c => mulB (bitB i.val) (mulB (bitB j.val) c)) (fun x y => mulB_right _ x y) (fun x y => by rw [mulB_right, mulB_right])
        (fun k => (by decide +kernel : ∀ i j k : Fin 8, mulB (mulB (bitB i.val) (bitB j.val)) (bitB k.val) = mulB (bitB i.val) (mulB (bitB j.val) (bitB k.val))) i j k) c) b) a
theorem mulB_one (a : UInt8) : mulB a 1 = a :=
  lin_ext (fun a => mulB a 1) (fun a => a) (fun x y => mulB_left x y _) (fun _ _ => rfl) (fun k => (by decide +kernel : ∀ k : Fin 8, mulB (bitB k.val) 1 = bitB k.val) k) a
theorem mulB_one' (a : UInt8) : mulB 1 a = a := by rw [mulB_comm, mulB_one]
theorem mulB_zero (a : UInt8) : mulB a 0 = 0 := by have := mulB_right a 0 0; rw [UInt8.xor_self, UInt8.xor_self] at this; exact this
theorem mulB_zero' (a : UInt8) : mulB 0 a = 0 := by rw [mulB_comm, mulB_zero]

theorem powN_succ (a : UInt8) (m : Nat) : powN a (m + 1) = mulB (powN a m) a := rfl
theorem powN_add (a : UInt8) (m : Nat) : ∀ n, powN a (m + n) = mulB (powN a m) (powN a n)
  | 0 => by rw [Nat.add_zero]; show _ = mulB _ 1; rw [mulB_one]
  | n + 1 => by rw [← Nat.add_assoc, powN_succ, powN_succ, powN_add a m n, mulB_assoc]
theorem powN_one (a : UInt8) : powN a 1 = a := mulB_one' a
/-- a to the 255th, by squares. -/
def pow255 (a : UInt8) : UInt8 :=
  let b := mulB a a; let c := mulB b b; let d := mulB c c; let e := mulB d d; let f := mulB e e; let g := mulB f f; let h := mulB g g
  mulB (mulB (mulB (mulB (mulB (mulB (mulB h g) f) e) d) c) b) a
theorem powN_two (a : UInt8) (m : Nat) : powN a (m + m) = mulB (powN a m) (powN a m) := powN_add a m m
theorem pow255_eq (a : UInt8) : powN a 255 = pow255 a := by
  have h1 := powN_one a
  have h2 : powN a 2 = mulB a a := by rw [powN_two a 1, h1]
  have h4 : powN a 4 = mulB (powN a 2) (powN a 2) := powN_two a 2
  have h8 : powN a 8 = mulB (powN a 4) (powN a 4) := powN_two a 4
  have h16 : powN a 16 = mulB (powN a 8) (powN a 8) := powN_two a 8
  have h32 : powN a 32 = mulB (powN a 16) (powN a 16) := powN_two a 16
  have h64 : powN a 64 = mulB (powN a 32) (powN a 32) := powN_two a 32
  have h128 : powN a 128 = mulB (powN a 64) (powN a 64) := powN_two a 64
  have e : powN a 255 = mulB (mulB (mulB (mulB (mulB (mulB (mulB (powN a 128) (powN a 64)) (powN a 32)) (powN a 16)) (powN a 8)) (powN a 4)) (powN a 2)) (powN a 1) := by
    rw [← powN_add, ← powN_add, ← powN_add, ← powN_add, ← powN_add, ← powN_add, ← powN_add]
  rw [e, h128, h64, h32, h16, h8, h4, h2, h1]
  rfl
theorem powN_255 (a : UInt8) (ha : a ≠ 0) : powN a 255 = 1 := by
  rw [pow255_eq]
  have h : ∀ n : Fin 256, n.val ≠ 0 → pow255 (UInt8.ofNat n.val) = 1 := by decide +kernel
  have e : UInt8.ofNat a.toNat = a := by simp
  have := h ⟨a.toNat, a.toNat_lt⟩ (fun h0 => ha (UInt8.toNat_inj.1 (by simpa using h0)))
  rw [e] at this
  exact this
theorem powN_zero (m : Nat) : powN 0 (m + 1) = 0 := by rw [powN_succ, mulB_zero]
theorem powN_turn (a : UInt8) (ha : a ≠ 0) (r : Nat) : ∀ q, powN a (255 * q + r) = powN a r
  | 0 => by simp
  | q + 1 => by rw [show 255 * (q + 1) + r = 255 + (255 * q + r) from by omega, powN_add, powN_255 a ha, mulB_one', powN_turn a ha r q]
theorem powB_eq (a : UInt8) (n : Nat) : powB a n = powN a n := by
  unfold powB
  by_cases h0 : n = 0
  · subst h0; rfl
  · rw [if_neg h0]
    by_cases ha : a = 0
    · rw [if_pos ha, ha]
      obtain ⟨m, rfl⟩ : ∃ m, n = m + 1 := ⟨n - 1, by omega⟩
      rw [powN_zero]
    · rw [if_neg ha]
      have := powN_turn a ha (n % 255) (n / 255)
      rw [Nat.div_add_mod] at this
      exact this.symm
theorem powN_mul (a : UInt8) (m : Nat) : ∀ n, powN (powN a m) n = powN a (m * n)
  | 0 => rfl
  | n + 1 => by rw [powN_succ, powN_mul a m n, Nat.mul_succ, powN_add]
theorem mulB_inv254 (a : UInt8) (ha : a ≠ 0) : mulB a (powN a 254) = 1 := by
  have := powN_255 a ha
  rw [show 255 = 1 + 254 from rfl, powN_add, powN_one] at this
  exact this
theorem mulB_cancel (a b : UInt8) (h : mulB a b = 0) : a = 0 ∨ b = 0 := by
  by_cases ha : a = 0
  · exact .inl ha
  · right
    have h1 := mulB_inv254 a ha
    have h2 : mulB (mulB (powN a 254) a) b = b := by rw [mulB_comm (powN a 254) a, h1, mulB_one']
    rw [mulB_assoc, h, mulB_zero] at h2
    exact h2.symm
theorem invFrom_spec (a : UInt8) : ∀ (m k : Nat), (∃ j, k ≤ j ∧ j < k + m ∧ mulB a (UInt8.ofNat j) = 1) → mulB a (invFrom a k m) = 1
  | 0, k, ⟨j, h1, h2, _⟩ => by omega
  | m + 1, k, ⟨j, h1, h2, h3⟩ => by
    rw [invFrom]
    split
    · assumption
    · rename_i hk
      refine invFrom_spec a m (k + 1) ⟨j, ?_, by omega, h3⟩
      rcases Nat.lt_or_ge k j with h | h
      · exact h
      · exact absurd (by rw [show k = j from by omega]; exact h3) hk
theorem invFrom_none (a : UInt8) : ∀ (m k : Nat), (∀ j, mulB a (UInt8.ofNat j) ≠ 1) → invFrom a k m = 0
  | 0, k, _ => rfl
  | m + 1, k, h => by rw [invFrom, if_neg (h k)]; exact invFrom_none a m (k + 1) h
theorem invB_zero : invB 0 = 0 := invFrom_none 0 256 0 fun j => by rw [mulB_zero']; decide
theorem mulB_inv (a : UInt8) (ha : a ≠ 0) : mulB a (invB a) = 1 := by
  refine invFrom_spec a 256 0 ⟨(powN a 254).toNat, Nat.zero_le _, by have := (powN a 254).toNat_lt; omega, ?_⟩
  have e : UInt8.ofNat (powN a 254).toNat = powN a 254 := by simp
  rw [e]
  exact mulB_inv254 a ha
theorem inv_unique (a b c : UInt8) (h : mulB a b = 1) (h' : mulB a c = 1) : b = c := by
  have e : mulB (mulB b a) c = c := by rw [mulB_comm b a, h, mulB_one']
  rw [mulB_assoc, h', mulB_one] at e
  exact e
theorem invB_pow (a : UInt8) : invB a = powN a 254 := by
  by_cases ha : a = 0
  · rw [ha, invB_zero, show 254 = 253 + 1 from rfl, powN_zero]
  · exact inv_unique a _ _ (mulB_inv a ha) (mulB_inv254 a ha)
end Go.Proofs.Ytbpbpkmjkbndbaa
