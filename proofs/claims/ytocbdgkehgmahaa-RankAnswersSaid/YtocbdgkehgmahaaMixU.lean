/- Layer 22, plain: how words of 64 bits are folded and ended, as the program reckons them. Nothing is claimed of the program here. -/
import Derived.Test.YtocbdgkehgmahaaMixP
import Derived.Test.YtocbdgkehgmahaaBytes
namespace Go.Proofs.Ytocbdgkehgmahaa
open Go.RowKit
set_option linter.unusedVariables false
set_option linter.unusedSimpArgs false
theorem xor64 (a b : Nat) (ha : a < 18446744073709551616) (hb : b < 18446744073709551616) : bits .xor .u64 (a : Int) (b : Int) = ((a ^^^ b : Nat) : Int) := by
  have hx : a ^^^ b < 2 ^ 64 := Nat.xor_lt_two_pow (by omega) (by omega)
  show IntKind.u64.wrap ((BitVec.ofInt 64 (a : Int) ^^^ BitVec.ofInt 64 (b : Int)).toNat : Int) = _
  rw [BitVec.toNat_xor, ofInt_u64 a (by omega), ofInt_u64 b (by omega), IntKind.wrap_u64]
  omega
theorem mul64 (a c : Nat) : IntKind.u64.wrap ((a : Int) * (c : Int)) = ((a * c % 18446744073709551616 : Nat) : Int) := by
  rw [IntKind.wrap_u64]
  have : (a : Int) * (c : Int) = ((a * c : Nat) : Int) := by push_cast; rfl
  rw [this]
  omega
theorem step64 (n : Nat) (x : UInt8) (hn : n < 18446744073709551616) : IntKind.u64.wrap (bits .xor .u64 (n : Int) (x.toNat : Int) * 1099511628211) = (stepF n x : Int) := by
  rw [xor64 n x.toNat hn (b64_lt x)]
  exact mul64 _ 1099511628211
theorem sh64 (n : Nat) (hn : n < 18446744073709551616) : bits .xor .u64 (n : Int) ((n : Int) / 8589934592) = (shF n : Int) := by
  have e : (n : Int) / 8589934592 = ((n / 8589934592 : Nat) : Int) := by omega
  rw [e, xor64 n _ hn (by omega)]
  rfl
/-- A part's length, as eight bytes. -/
def size8 (n : Nat) : List UInt8 := [UInt8.ofNat (n / 2 ^ 56), UInt8.ofNat (n / 2 ^ 48), UInt8.ofNat (n / 2 ^ 40), UInt8.ofNat (n / 2 ^ 32), UInt8.ofNat (n / 2 ^ 24), UInt8.ofNat (n / 2 ^ 16), UInt8.ofNat (n / 2 ^ 8), UInt8.ofNat n]
def partF (n : Nat) (p : List UInt8) : Nat := foldF (foldF n (size8 p.length)) p
def partsF (n : Nat) (ps : List (List UInt8)) : Nat := ps.foldl partF n
def mixF (seed : Nat) (ps : List (List UInt8)) : Nat := endF (partsF (14695981039346656037 ^^^ seed) ps)
theorem part_lt {n : Nat} {p : List UInt8} (h : n < 18446744073709551616) : partF n p < 18446744073709551616 := fold_lt (fold_lt h)
theorem part_inj {a b : Nat} {p : List UInt8} (ha : a < 18446744073709551616) (hb : b < 18446744073709551616) (e : partF a p = partF b p) : a = b := fold_inj ha hb (fold_inj (fold_lt ha) (fold_lt hb) e)
theorem parts_lt {ps : List (List UInt8)} : ∀ {n : Nat}, n < 18446744073709551616 → partsF n ps < 18446744073709551616 := by
  induction ps with
  | nil => exact fun h => h
  | cons p ps ih => exact fun h => ih (part_lt h)
theorem parts_inj {ps : List (List UInt8)} : ∀ {a b : Nat}, a < 18446744073709551616 → b < 18446744073709551616 → partsF a ps = partsF b ps → a = b := by
  induction ps with
  | nil => exact fun _ _ e => e
  | cons p ps ih => exact fun ha hb e => part_inj ha hb (ih (part_lt ha) (part_lt hb) e)
theorem parts_app (n : Nat) (a b : List (List UInt8)) : partsF n (a ++ b) = partsF (partsF n a) b := List.foldl_append ..
theorem seed_lt {s : Nat} (h : s < 18446744073709551616) : 14695981039346656037 ^^^ s < 18446744073709551616 := xor_lt (by decide) h
theorem mix_inj {a b : Nat} {ps : List (List UInt8)} (ha : a < 18446744073709551616) (hb : b < 18446744073709551616) (e : mixF a ps = mixF b ps) : a = b :=
  xor_inj' (parts_inj (seed_lt ha) (seed_lt hb) (end_inj (parts_lt (seed_lt ha)) (parts_lt (seed_lt hb)) e))
/-- The last part with one byte changed. -/
theorem mix_set {s i : Nat} {ps : List (List UInt8)} {l : List UInt8} {c : UInt8} (hs : s < 18446744073709551616) (hi : i < l.length) (e : mixF s (ps ++ [l.set i c]) = mixF s (ps ++ [l])) : l.set i c = l := by
  have h := end_inj (parts_lt (seed_lt hs)) (parts_lt (seed_lt hs)) e
  rw [parts_app, parts_app] at h
  have h : partF (partsF (14695981039346656037 ^^^ s) ps) (l.set i c) = partF (partsF (14695981039346656037 ^^^ s) ps) l := h
  unfold partF at h
  rw [List.length_set] at h
  exact fold_set (fold_lt (parts_lt (seed_lt hs))) hi h
theorem size8_few {n : Nat} (h : n ≤ 65535) : size8 n = [0, 0, 0, 0, 0, 0, UInt8.ofNat (n / 256), UInt8.ofNat n] := by
  unfold size8
  rw [Nat.div_eq_of_lt (a := n) (b := 2 ^ 56) (by omega), Nat.div_eq_of_lt (a := n) (b := 2 ^ 48) (by omega), Nat.div_eq_of_lt (a := n) (b := 2 ^ 40) (by omega), Nat.div_eq_of_lt (a := n) (b := 2 ^ 32) (by omega), Nat.div_eq_of_lt (a := n) (b := 2 ^ 24) (by omega), Nat.div_eq_of_lt (a := n) (b := 2 ^ 16) (by omega)]
  rfl
theorem mix_two (s : Nat) (a b : List UInt8) : mixF s [a, b] = endF (foldF (foldF (foldF (foldF (14695981039346656037 ^^^ s) (size8 a.length)) a) (size8 b.length)) b) := rfl
theorem mix_none (s : Nat) : mixF s [] = endF (14695981039346656037 ^^^ s) := rfl
theorem byte_xor {x b : UInt8} : x ^^^ b = x ↔ b = 0 := by
  constructor
  · intro h
    have := congrArg (x ^^^ ·) h
    simpa [← UInt8.xor_assoc] using this
  · rintro rfl
    simp
end Go.Proofs.Ytocbdgkehgmahaa
