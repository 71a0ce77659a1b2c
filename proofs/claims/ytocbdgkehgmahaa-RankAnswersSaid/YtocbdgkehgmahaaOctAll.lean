/- octet.Xor and the reference's Xor give the bytes' exclusive or in new memory, and refuse other lengths; Equal compares bytes; CopyBytes copies. Condition: the slices' cells are readable. -/
import Derived.Test.YtocbdgkehgmahaaBytes
import Derived.Test.YtocbdgkehgmahaaRowsIn
import Derived.Test.YtocbdgkehgmahaaBase
import Derived.Test.YtocbdgkehgmahaaChecked
import Derived.Lib.Strings
import Derived.Lib.Bytealg
namespace Go.Proofs.Ytocbdgkehgmahaa
open Go.RowKit
set_option linter.unusedVariables false

theorem set_next (p : List UInt8) (n k : Nat) (v : UInt8) (hp : p.length = k) (hk : k < n) : (p ++ List.replicate (n - k) 0).set k v = (p ++ [v]) ++ List.replicate (n - (k + 1)) 0 := by
  obtain ⟨m, rfl⟩ : ∃ m, n = k + 1 + m := ⟨n - (k + 1), by omega⟩
  have e1 : k + 1 + m - k = m + 1 := by omega
  have e2 : k + 1 + m - (k + 1) = m := by omega
  rw [e1, e2, List.replicate_succ, List.set_append_right _ _ (by omega)]
  simp [hp]

/-- What Xor's loop has written behind k rounds. -/
theorem xorTake_len {n k : Nat} {a b : List UInt8} (hn : a.length = n) (hn' : b.length = n) (hk : k ≤ n) : (xorL (a.take k) (b.take k)).length = k := by
  have h1 : (a.take k).length = k := by rw [List.length_take]; omega
  have h2 : (b.take k).length = k := by rw [List.length_take]; omega
  rw [xorL_len _ _ (by omega), h1]
def xorAt (n k : Nat) (a b : List UInt8) : List UInt8 := xorL (a.take k) (b.take k) ++ List.replicate (n - k) 0
theorem xorAt_next {n k : Nat} {a b : List UInt8} {x y : UInt8} (ha : a[k]? = some x) (hb : b[k]? = some y) (hn : a.length = n) (hn' : b.length = n) : (xorAt n k a b).set k (x ^^^ y) = xorAt n (k + 1) a b := by
  have hk : k < n := by rw [← hn]; exact (List.getElem?_eq_some_iff.1 ha).1
  unfold xorAt
  rw [set_next _ _ _ _ (xorTake_len hn hn' (by omega)) hk, take_snoc ha, take_snoc hb, xorL_snoc _ _ _ _ (by simp only [List.length_take]; omega)]
theorem xorAt_get {n k : Nat} {a b : List UInt8} (hn : a.length = n) (hn' : b.length = n) (hk : k < n) : (xorAt n k a b)[k]? = some 0 := by
  unfold xorAt
  have hl := xorTake_len hn hn' (Nat.le_of_lt hk)
  rw [List.getElem?_append_right (by omega), hl, Nat.sub_self, List.getElem?_replicate, if_pos (by omega)]
theorem xorAt_end {n : Nat} {a b : List UInt8} (hn : a.length = n) (hn' : b.length = n) : xorAt n n a b = xorL a b := by
  unfold xorAt
  rw [List.take_of_length_le (by omega), List.take_of_length_le (by omega)]
  simp

/-- Halved k times. -/
def halves (n : Nat) : Nat → Nat | 0 => n | k + 1 => halves n k / 2
theorem halves_succ (n k : Nat) : halves n (k + 1) = halves n k / 2 := rfl
theorem halves_le (n k : Nat) : halves n k ≤ n := by induction k with | zero => exact Nat.le_refl _ | succ k ih => unfold halves; omega
theorem halves_xor (a b k : Nat) : halves (a ^^^ b) k = halves a k ^^^ halves b k := by
  induction k with
  | zero => rfl
  | succ k ih =>
    rw [halves_succ, halves_succ, halves_succ, ih]
    have h2 : ∀ n : Nat, n / 2 = n >>> 1 := fun n => by simp [Nat.shiftRight_eq_div_pow]
    rw [h2, h2, h2, Nat.shiftRight_xor_distrib]
theorem bit_step (x y : UInt8) (j : Nat) : 2 * halves (x ^^^ y).toNat (j + 1) + (halves x.toNat j % 2 + halves y.toNat j % 2) % 2 = halves (x ^^^ y).toNat j := by
  rw [halves_succ, UInt8.toNat_xor]
  have h : halves (x.toNat ^^^ y.toNat) j % 2 = (halves x.toNat j % 2 + halves y.toNat j % 2) % 2 := by
    rw [halves_xor]
    have h1 := Nat.xor_mod_two_pow (a := halves x.toNat j) (b := halves y.toNat j) (n := 1)
    rw [Nat.pow_one] at h1
    rw [h1]
    rcases Nat.mod_two_eq_zero_or_one (halves x.toNat j) with e | e <;> rcases Nat.mod_two_eq_zero_or_one (halves y.toNat j) with e' | e' <;> rw [e, e'] <;> rfl
  omega
theorem bit_step' (x y : UInt8) (j z : Nat) (hz : z = (x ^^^ y).toNat) : wrap64 (wrap64 (2 * (halves z (j + 1) : Int)) + ((halves x.toNat j : Int) + (halves y.toNat j : Int)) % 2) = (halves z j : Int) := by
  subst hz
  have h := bit_step x y j
  have h1 := halves_le (x ^^^ y).toNat (j + 1)
  have h2 := (x ^^^ y).toNat_lt
  rw [IntWalk.wrap64_in (2 * (halves (x ^^^ y).toNat (j + 1) : Int)) (by omega), IntWalk.wrap64_in _ (by omega)]
  omega
theorem halves8 (x : UInt8) : halves x.toNat 8 = 0 := by
  have := x.toNat_lt
  show x.toNat / 2 / 2 / 2 / 2 / 2 / 2 / 2 / 2 = 0
  omega

end Go.Proofs.Ytocbdgkehgmahaa

/- octet.Num and the reference's Num give the number of at most eight bytes, and refuse more. Condition: the slice's cells are readable. -/
namespace Go.Proofs.Ytocbdgkehgmahaa
open Go.RowKit
set_option linter.unusedVariables false

end Go.Proofs.Ytocbdgkehgmahaa

/- octet.Put and the reference's Put give a number's bytes in new memory, and refuse sizes and numbers that do not fit. -/
namespace Go.Proofs.Ytocbdgkehgmahaa
open Go.RowKit
set_option linter.unusedVariables false

/-- The last size bytes of n, the first the most significant. -/
def putL (n : Nat) : Nat → List UInt8
  | 0 => []
  | k + 1 => putL (n / 256) k ++ [UInt8.ofNat n]
theorem putL_len (n k : Nat) : (putL n k).length = k := by
  induction k generalizing n with
  | zero => rfl
  | succ k ih => simp [putL, ih]
/-- n shifted by k bytes. -/
def downL (n : Nat) : Nat → Nat | 0 => n | k + 1 => downL n k / 256
theorem downL_succ (n k : Nat) : downL n (k + 1) = downL n k / 256 := rfl
theorem downL_le (n k : Nat) : downL n k ≤ n := by induction k with | zero => exact Nat.le_refl _ | succ k ih => rw [downL_succ]; omega
theorem downL_comm (n k : Nat) : downL (n / 256) k = downL n (k + 1) := by induction k with | zero => rfl | succ k ih => rw [downL_succ, ih, ← downL_succ]
/-- What Put's loop has written when j bytes are still to go (of size). -/
def putAt (n size j : Nat) : List UInt8 := List.replicate j 0 ++ (putL n size).drop j
theorem putL_get (n k j : Nat) (h : j < k) : (putL n k)[j]? = some (UInt8.ofNat (downL n (k - 1 - j))) := by
  induction k generalizing n with
  | zero => omega
  | succ k ih =>
    unfold putL
    by_cases hj : j < k
    · rw [List.getElem?_append_left (by rw [putL_len]; exact hj), ih _ hj, downL_comm]
      congr 3
      omega
    · obtain rfl : j = k := by omega
      rw [List.getElem?_append_right (by rw [putL_len]; exact Nat.le_refl _), putL_len]
      simp [downL]
theorem putAt_next (n size j : Nat) (h : j < size) : (putAt n size (j + 1)).set j (UInt8.ofNat (downL n (size - 1 - j))) = putAt n size j := by
  unfold putAt
  have hg := putL_get n size j h
  have hlt : j < (putL n size).length := by rw [putL_len]; exact h
  have hd : (putL n size).drop j = UInt8.ofNat (downL n (size - 1 - j)) :: (putL n size).drop (j + 1) := by
    rw [List.getElem?_eq_getElem hlt] at hg
    rw [List.drop_eq_getElem_cons hlt, Option.some.inj hg]
  rw [hd, List.replicate_succ', List.append_assoc, List.set_append_right _ _ (by simp)]
  simp
theorem putAt_get (n size j : Nat) : (putAt n size (j + 1))[j]? = some 0 := by
  unfold putAt
  rw [List.getElem?_append_left (by simp), List.getElem?_replicate, if_pos (by omega)]
theorem putAt_zero (n size : Nat) : putAt n size 0 = putL n size := by simp [putAt]
theorem putAt_full (n size : Nat) : putAt n size size = List.replicate size 0 := by
  unfold putAt
  rw [List.drop_of_length_le (by rw [putL_len]; exact Nat.le_refl _), List.append_nil]

theorem convert_u8 (n : Nat) : ((UInt8.ofNat n).toNat : Int) = (n : Int) % 256 := by simp

/-- What a call of Put gives: the bytes, or a refusal where the number needs more. -/
def PutPost (n s : Nat) (w : World) (e : Ending) (w' : World) : Prop :=
  (downL n s = 0 ∧ RetBE s (putL n s) 0 w e w') ∨ (downL n s ≠ 0 ∧ e = .returned (.tuple #[.slice none 0 0, .int .i64 11]) ∧ Below w.heap.size w w')

end Go.Proofs.Ytocbdgkehgmahaa

/- octet.Join and the reference's Join give the bytes of all parts in new memory; Long tells whether rows are more bytes than so many. Condition: the rows' cells are readable, and fewer than 2^46 bytes together. -/
namespace Go.Proofs.Ytocbdgkehgmahaa
open Go.RowKit
set_option linter.unusedVariables false

end Go.Proofs.Ytocbdgkehgmahaa

/- octet.Equal compares the bytes of two slices, whatever the memory. Condition: the slices' cells are readable. -/
namespace Go.Proofs.Ytocbdgkehgmahaa
open Go.RowKit
set_option linter.unusedVariables false

theorem strL_beq (l l' : List UInt8) : ((strL l).toList == (strL l').toList) = (l == l') := by
  rw [Lib.toList_data, Lib.toList_data]
  rfl
end Go.Proofs.Ytocbdgkehgmahaa

