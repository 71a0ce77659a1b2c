/- Steps and streams of layer 6: steps add up; a stream goes on where a part of it ends; adding twice. No conditions; nothing is claimed of the program here. -/
import Derived.Test.YtoaafjeknikniaaRefStream
namespace Go.Proofs.Ytoaafjeknikniaa
set_option linter.unusedVariables false

theorem downL_pow (n : Nat) : ∀ k, downL n k = n / 256 ^ k
  | 0 => by simp [downL]
  | k + 1 => by rw [downL_succ, downL_pow n k, Nat.div_div_eq_div_mul, Nat.pow_succ]
theorem numP_put : ∀ (k n : Nat), numL (putL n k) + 256 ^ k * downL n k = n
  | 0, n => by simp [putL, numL, downL]
  | k + 1, n => by
    have ih := numP_put k (n / 256)
    rw [putL, numL_snoc, ← downL_comm]
    have e : (UInt8.ofNat n).toNat = n % 256 := by simp
    rw [e, Nat.pow_succ]
    have h2 : 256 ^ k * 256 * downL (n / 256) k = 256 * (256 ^ k * downL (n / 256) k) := by rw [Nat.mul_comm (256 ^ k) 256, Nat.mul_assoc]
    rw [h2]
    omega
theorem numP_four (n : Nat) (hn : n < 2 ^ 32) : numL (putL n 4) = n := by
  have h := numP_put 4 n
  rw [downL_pow, Nat.div_eq_of_lt (show n < 256 ^ 4 by omega)] at h
  omega
theorem putP_num : ∀ (k : Nat) (l : List UInt8), l.length = k → putL (numL l) k = l
  | 0, l, h => by rw [List.eq_nil_of_length_eq_zero h]; rfl
  | k + 1, l, h => by
    obtain ⟨m, x, rfl⟩ : ∃ m x, l = m ++ [x] := by
      have hne : l ≠ [] := fun e => by rw [e] at h; cases h
      exact ⟨l.dropLast, l.getLast hne, (List.dropLast_concat_getLast hne).symm⟩
    have hm : m.length = k := by simpa using h
    have hx := x.toNat_lt
    rw [putL, numL_snoc, show (numL m * 256 + x.toNat) / 256 = numL m by omega, putP_num k m hm]
    have e : UInt8.ofNat (numL m * 256 + x.toNat) = x := by
      apply UInt8.toNat_inj.1
      simp
    rw [e]
theorem aft_take (l : List UInt8) (n : Nat) (hl : l.length = 16) : (aftL l n).take 12 = l.take 12 := by
  unfold aftL
  rw [List.take_left' (by rw [List.length_take]; omega)]
theorem aft_drop (l : List UInt8) (n : Nat) (hl : l.length = 16) : (aftL l n).drop 12 = putL (aftN l n) 4 := by
  unfold aftL
  rw [List.drop_left' (by rw [List.length_take]; omega)]
theorem aftN_lt (l : List UInt8) (n : Nat) : aftN l n < 2 ^ 32 := Nat.mod_lt _ (by omega)
/-- Steps add up. -/
theorem aft_aft (l : List UInt8) (a b : Nat) (hl : l.length = 16) : aftL (aftL l a) b = aftL l (a + b) := by
  have e : aftN (aftL l a) b = aftN l (a + b) := by
    have h := aft_drop l a hl
    have h2 := numP_four _ (aftN_lt l a)
    unfold aftN at h2 ⊢
    rw [h]
    unfold aftN
    rw [h2]
    omega
  rw [aftL, e, aft_take l a hl]
  rfl
theorem aft_whole (l : List UInt8) (n : Nat) (hl : l.length = 16) (hn : n % 2 ^ 32 = 0) : aftL l n = l := by
  have hd : (l.drop 12).length = 4 := by rw [List.length_drop]; omega
  have hlt : numL (l.drop 12) < 256 ^ 4 := numL_lt 4 _ hd
  have e : aftN l n = numL (l.drop 12) := by unfold aftN; omega
  rw [aftL, e, putP_num 4 _ hd, List.take_append_drop]
theorem blk_aft (key l : List UInt8) (k i : Nat) (hl : l.length = 16) : blkL key (aftL l k) i = blkL key l (k + i) := by
  unfold blkL
  rw [aft_aft l k i hl]
theorem blks_app (key l : List UInt8) (k : Nat) (hl : l.length = 16) : ∀ m, blksL key l (k + m) = blksL key l k ++ blksL key (aftL l k) m
  | 0 => by rw [Nat.add_zero]; exact (List.append_nil _).symm
  | m + 1 => by
    show blksL key l (k + m) ++ blkL key l (k + m) = _
    rw [blks_app key l k hl m, blksL_succ, ← blk_aft key l k m hl, List.append_assoc]
/-- A stream goes on where a part of it ends. -/
theorem strm_drop (key l : List UInt8) (k n : Nat) (hk : key.length = 16) (hl : l.length = 16) : (strmL key l (16 * k + n)).drop (16 * k) = strmL key (aftL l k) n := by
  unfold strmL
  rw [show (16 * k + n + 15) / 16 = k + (n + 15) / 16 by omega, blks_app key l k hl, List.drop_take, show 16 * k + n - 16 * k = n by omega, List.drop_left' (blksL_len key l hk hl k)]
theorem strm_take (key l : List UInt8) (m n : Nat) (hk : key.length = 16) (hl : l.length = 16) (h : m ≤ n) : (strmL key l n).take m = strmL key l m := by
  unfold strmL
  obtain ⟨d, hd⟩ : ∃ d, (n + 15) / 16 = (m + 15) / 16 + d := ⟨(n + 15) / 16 - (m + 15) / 16, by omega⟩
  rw [hd, blks_app key l _ hl, List.take_take, Nat.min_eq_left h, List.take_append_of_le_length (by rw [blksL_len key l hk hl]; omega)]
theorem xor8_self (x y : UInt8) : (x ^^^ y) ^^^ x = y := by
  rw [UInt8.xor_comm x y, UInt8.xor_assoc, UInt8.xor_self, UInt8.xor_zero]
theorem xor8_apart (s x y : UInt8) : (s ^^^ x) ^^^ (s ^^^ y) = x ^^^ y := by
  rw [UInt8.xor_comm s x, UInt8.xor_assoc, ← UInt8.xor_assoc s s y, UInt8.xor_self, UInt8.zero_xor]
end Go.Proofs.Ytoaafjeknikniaa
