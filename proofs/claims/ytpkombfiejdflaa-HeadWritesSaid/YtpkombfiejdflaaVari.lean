/- Layer 8's numbers: a number's forms and their sizes, and what vari's functions and the references' answer of them. Condition: the slices' cells are readable. -/
import Derived.Test.YtpkombfiejdflaaOctAll
namespace Go.Proofs.Ytpkombfiejdflaa
open Go.RowKit
set_option linter.unusedVariables false

/-- What the form of the class k cannot have. -/
def lim : Nat → Nat | 0 => 64 | 1 => 16384 | 2 => 1073741824 | _ => 4611686018427387904
/-- The class of a number's least form; 4: there is none. -/
def clsL (n : Nat) : Nat := if n < 64 then 0 else if n < 16384 then 1 else if n < 1073741824 then 2 else if n < 4611686018427387904 then 3 else 4
/-- A class's bytes. -/
def sz : Nat → Nat | 0 => 1 | 1 => 2 | 2 => 4 | 3 => 8 | _ => 0
/-- A number's form of the class k. -/
def formL (n k : Nat) : List UInt8 := putL (k * lim k + n) (sz k)
theorem clsL_le (n : Nat) : clsL n ≤ 4 := by unfold clsL; (repeat' split) <;> omega
theorem clsL_lt {n k : Nat} (h : k < clsL n) : ¬ n < lim k := by
  have := clsL_le n
  rcases k with _ | _ | _ | _ | k <;> unfold clsL at h <;> simp only [lim] <;> (try omega) <;> (repeat' split at h) <;> omega
theorem clsL_fit {n k : Nat} (h : clsL n = k) (hk : k ≤ 3) : n < lim k := by
  rcases k with _ | _ | _ | _ | k <;> unfold clsL at h <;> simp only [lim] <;> (try omega) <;> (repeat' split at h) <;> omega
theorem clsL_four {n : Nat} : clsL n = 4 ↔ 4611686018427387904 ≤ n := by
  unfold clsL; constructor <;> intro h <;> (repeat' split at h) <;> (repeat' split) <;> omega
theorem lim_mono {a b : Nat} (h : a ≤ b) (hb : b ≤ 3) : lim a ≤ lim b := by
  rcases a with _ | _ | _ | _ | a <;> rcases b with _ | _ | _ | _ | b <;> simp only [lim] <;> omega
theorem clsL_of_fit {n k : Nat} (hk : k ≤ 3) (h : n < lim k) : clsL n ≤ k := by
  rcases Nat.lt_or_ge k (clsL n) with h2 | h2
  · exact absurd h (clsL_lt h2)
  · exact h2
theorem formL_len (n k : Nat) : (formL n k).length = sz k := putL_len _ _
theorem down_form {n k : Nat} (hk : k ≤ 3) (h : n < lim k) : downL (k * lim k + n) (sz k) = 0 := by
  rcases k with _ | _ | _ | _ | k <;> simp only [lim] at h <;> simp only [sz, lim, downL] <;> omega
theorem down_fit {n k : Nat} (hk : k ≤ 3) (h : n < lim k) : downL n (sz k) = 0 := by
  rcases k with _ | _ | _ | _ | k <;> simp only [lim] at h <;> simp only [sz, downL] <;> omega
theorem num_putV : ∀ (k n : Nat), numL (putL n k) + 256 ^ k * downL n k = n
  | 0, n => by simp [putL, numL, downL]
  | k + 1, n => by
    have ih := num_putV k (n / 256)
    rw [putL, numL_snoc, ← downL_comm]
    have e : (UInt8.ofNat n).toNat = n % 256 := by simp
    rw [e, Nat.pow_succ]
    have h2 : 256 ^ k * 256 * downL (n / 256) k = 256 * (256 ^ k * downL (n / 256) k) := by rw [Nat.mul_comm (256 ^ k) 256, Nat.mul_assoc]
    rw [h2]
    omega
theorem num_form {n k : Nat} (hk : k ≤ 3) (h : n < lim k) : numL (formL n k) = k * lim k + n := by
  have := num_putV (sz k) (k * lim k + n)
  rw [down_form hk h] at this
  unfold formL
  omega
/-- The first byte of a form: what octet.Put gave, and the class's bits. -/
theorem form_set {n k : Nat} (hk : k ≤ 3) (h : n < lim k) : ∃ x : UInt8, (putL n (sz k))[0]? = some x ∧ x.toNat < 64 ∧ formL n k = (putL n (sz k)).set 0 (UInt8.ofNat (k * 64 + x.toNat)) := by
  rcases k with _ | _ | _ | _ | k
  · simp only [lim] at h
    refine ⟨UInt8.ofNat n, rfl, by simp; omega, ?_⟩
    simp only [formL, sz, putL, lim, List.nil_append, List.set_cons_zero, List.cons.injEq, and_true]
    simp only [← UInt8.toNat_inj, UInt8.toNat_ofNat']
    omega
  · simp only [lim] at h
    refine ⟨UInt8.ofNat (n / 256), rfl, by simp; omega, ?_⟩
    simp only [formL, sz, putL, lim, List.nil_append, List.cons_append, List.set_cons_zero, List.cons.injEq, and_true]
    simp only [← UInt8.toNat_inj, UInt8.toNat_ofNat']
    omega
  · simp only [lim] at h
    refine ⟨UInt8.ofNat (n / 256 / 256 / 256), rfl, by simp; omega, ?_⟩
    simp only [formL, sz, putL, lim, List.nil_append, List.cons_append, List.set_cons_zero, List.cons.injEq, and_true]
    simp only [← UInt8.toNat_inj, UInt8.toNat_ofNat']
    omega
  · simp only [lim] at h
    refine ⟨UInt8.ofNat (n / 256 / 256 / 256 / 256 / 256 / 256 / 256), rfl, by simp; omega, ?_⟩
    simp only [formL, sz, putL, lim, List.nil_append, List.cons_append, List.set_cons_zero, List.cons.injEq, and_true]
    simp only [← UInt8.toNat_inj, UInt8.toNat_ofNat']
    omega
  · omega

theorem lim_pos (k : Nat) : 1 ≤ lim k := by rcases k with _ | _ | _ | k <;> simp [lim]
theorem lim_le (k : Nat) : lim k ≤ 4611686018427387904 := by rcases k with _ | _ | _ | k <;> simp [lim]
theorem or_topv (x : UInt8) (k : Nat) (hx : x.toNat < 64) (hk : k ≤ 3) : Value.int .u8 (bits .or .u8 (x.toNat : Int) ((k : Int) * 64)) = bv (UInt8.ofNat (k * 64 + x.toNat)) := by
  have h : ∀ (a : Fin 64) (b : Fin 4), bits .or .u8 ((a.val : Nat) : Int) ((b.val : Int) * 64) = ((b.val * 64 + a.val : Nat) : Int) := by decide +kernel
  have := h ⟨x.toNat, hx⟩ ⟨k, by omega⟩
  unfold bv
  congr 1
  refine this.trans ?_
  simp
  omega
theorem pow_named (k : Nat) (hk : k ≤ 3) : ∃ P : Nat, (2 : Int) ^ k = (P : Int) ∧ P = sz k ∧ 1 ≤ P ∧ P ≤ 8 := by
  rcases k with _ | _ | _ | _ | k
  · exact ⟨1, rfl, rfl, by omega, by omega⟩
  · exact ⟨2, rfl, rfl, by omega, by omega⟩
  · exact ⟨4, rfl, rfl, by omega, by omega⟩
  · exact ⟨8, rfl, rfl, by omega, by omega⟩
  · omega
theorem sz_lt {a b : Nat} (h : a < b) (hb : b ≤ 3) : sz a < sz b := by
  rcases a with _ | _ | _ | _ | a <;> rcases b with _ | _ | _ | _ | b <;> simp only [sz] <;> omega

/-- The references' limit of a size. -/
def limZ (z : Int) : Nat := if z = 1 then 64 else if z = 2 then 16384 else if z = 4 then 1073741824 else if z = 8 then 4611686018427387904 else 0
theorem limZ_sz (k : Nat) (hk : k ≤ 3) : limZ (sz k : Int) = lim k := by
  rcases k with _ | _ | _ | _ | k
  · rfl
  · rfl
  · rfl
  · rfl
  · omega
theorem limZ_bad {n : Nat} {z : Int} (hz : ∀ k, k ≤ 3 → z = (sz k : Int) → ¬ n < lim k) : ¬ n < limZ z := by
  unfold limZ
  split
  · exact hz 0 (by omega) (by assumption)
  · split
    · exact hz 1 (by omega) (by assumption)
    · split
      · exact hz 2 (by omega) (by assumption)
      · split
        · exact hz 3 (by omega) (by assumption)
        · omega
theorem limZ_le (z : Int) : limZ z ≤ 4611686018427387904 := by unfold limZ; (repeat' split) <;> omega
/-- The least form's bytes; none where there is none. -/
def leastL (n : Nat) : List UInt8 := if clsL n ≤ 3 then formL n (clsL n) else []
def codeL (n : Nat) : Int := if clsL n ≤ 3 then 0 else 11
theorem leastL_len (n : Nat) : (leastL n).length = sz (clsL n) := by
  unfold leastL
  split
  · exact formL_len _ _
  · have := clsL_le n
    rw [show clsL n = 4 from by omega]
    rfl
theorem sz_le (k : Nat) : sz k ≤ 8 := by rcases k with _ | _ | _ | _ | k <;> simp [sz]
end Go.Proofs.Ytpkombfiejdflaa
