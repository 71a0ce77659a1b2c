/- The reference of layer 6 (count): the block behind so many steps. Condition: the block's sixteen cells are readable. -/
import Derived.Test.YtlapnfpdkfhfdaaOctAll
import Derived.Test.YtlapnfpdkfhfdaaRefAesAll
import Derived.Test.YtlapnfpdkfhfdaaAesInvW
namespace Go.Proofs.Ytlapnfpdkfhfdaa
open Go.RowKit
set_option linter.unusedVariables false

/-- The number in a block's last four bytes, n steps on; the block with it. -/
def aftN (l : List UInt8) (n : Nat) : Nat := (numL (l.drop 12) + n) % 2 ^ 32
def aftL (l : List UInt8) (n : Nat) : List UInt8 := l.take 12 ++ putL (aftN l n) 4
/-- What After's loop has written when j bytes are still to go. -/
def cntAt (V : Nat) (l : List UInt8) (j : Nat) : List UInt8 := l.take (12 + j) ++ (putL V 4).drop j
theorem cntAt_len (V : Nat) (l : List UInt8) (j : Nat) (hl : l.length = 16) (hj : j ≤ 4) : (cntAt V l j).length = 16 := by
  unfold cntAt
  rw [List.length_append, List.length_take, List.length_drop, putL_len]
  omega
theorem cntAt_full (V : Nat) (l : List UInt8) (hl : l.length = 16) : cntAt V l 4 = l := by
  unfold cntAt
  rw [List.take_of_length_le (by omega), List.drop_of_length_le (by rw [putL_len]; exact Nat.le_refl _), List.append_nil]
theorem cntAt_zero (V : Nat) (l : List UInt8) : cntAt V l 0 = l.take 12 ++ putL V 4 := by
  unfold cntAt
  rw [Nat.add_zero, List.drop_zero]
theorem cntAt_get (V : Nat) (l : List UInt8) (j : Nat) (hl : l.length = 16) (hj : j < 4) : ∃ y, (cntAt V l (j + 1))[12 + j]? = some y :=
  ⟨_, List.getElem?_eq_getElem (by rw [cntAt_len V l (j + 1) hl (by omega)]; omega)⟩
theorem cntAt_next (V : Nat) (l : List UInt8) (j : Nat) (hl : l.length = 16) (hj : j < 4) : (cntAt V l (j + 1)).set (12 + j) (UInt8.ofNat (downL V (3 - j))) = cntAt V l j := by
  obtain ⟨y, hy⟩ : ∃ y, l[12 + j]? = some y := ⟨_, List.getElem?_eq_getElem (by omega)⟩
  have hg := putL_get V 4 j hj
  have hlt : j < (putL V 4).length := by rw [putL_len]; exact hj
  have hd : (putL V 4).drop j = UInt8.ofNat (downL V (3 - j)) :: (putL V 4).drop (j + 1) := by
    rw [List.getElem?_eq_getElem hlt] at hg
    rw [List.drop_eq_getElem_cons hlt, Option.some.inj hg]
  have ht : (l.take (12 + j)).length = 12 + j := by rw [List.length_take]; omega
  unfold cntAt
  rw [hd, show 12 + (j + 1) = 12 + j + 1 by omega, List.take_add_one, hy, Option.toList_some, List.append_assoc, List.set_append_right _ _ (by omega), ht, Nat.sub_self]
  rfl
theorem numL_four (l : List UInt8) (hl : l.length = 16) (i : Nat) (hi : i < 4) (x : UInt8) (hx : l[12 + i]? = some x) : numL ((l.drop 12).take (i + 1)) = numL ((l.drop 12).take i) * 256 + x.toNat := by
  rw [List.take_add_one, List.getElem?_drop, hx, Option.toList_some, numL_snoc]
theorem numL_take_lt (l : List UInt8) (i : Nat) (hi : i ≤ 4) (hl : l.length = 16) : numL ((l.drop 12).take i) < 256 ^ i := numL_lt i _ (by rw [List.length_take, List.length_drop]; omega)
attribute [local irreducible] cntAt numL putL

end Go.Proofs.Ytlapnfpdkfhfdaa

/- The reference of layer 6 (count): key streams, and texts turned. Conditions: the slices' cells are readable; lengths are small. -/
namespace Go.Proofs.Ytlapnfpdkfhfdaa
open Go.RowKit
set_option linter.unusedVariables false

theorem aftL_len (l : List UInt8) (n : Nat) (hl : l.length = 16) : (aftL l n).length = 16 := by
  unfold aftL
  rw [List.length_append, List.length_take, putL_len]
  omega
/-- Block i of a key stream; the first k blocks; the first n bytes. -/
def blkL (key l : List UInt8) (i : Nat) : List UInt8 := encL key tableL (aftL l i)
def blksL (key l : List UInt8) : Nat → List UInt8 | 0 => [] | k + 1 => blksL key l k ++ blkL key l k
def strmL (key l : List UInt8) (n : Nat) : List UInt8 := (blksL key l ((n + 15) / 16)).take n
theorem blkL_len (key l : List UInt8) (i : Nat) (hk : key.length = 16) (hl : l.length = 16) : (blkL key l i).length = 16 := encL_len key tableL _ hk (aftL_len l i hl)
theorem blksL_len (key l : List UInt8) (hk : key.length = 16) (hl : l.length = 16) : ∀ k, (blksL key l k).length = 16 * k
  | 0 => rfl
  | k + 1 => by rw [blksL, List.length_append, blksL_len key l hk hl k, blkL_len key l k hk hl]; omega
theorem strmL_len (key l : List UInt8) (n : Nat) (hk : key.length = 16) (hl : l.length = 16) : (strmL key l n).length = n := by
  unfold strmL
  rw [List.length_take, blksL_len key l hk hl]
  omega
theorem OwnB.head {w : World} {base N c n : Nat} {A : Option Addr} {l : List UInt8} (h : OwnB w base A N c l) (hn : n ≤ N) (hA : ∃ g, A = some ⟨g, 0, none⟩) : OwnB w base A n c (l.take n) := by
  have hlen := h.len
  refine ⟨by rw [bvs_length, List.length_take]; omega, ?_⟩
  obtain ⟨g0, rfl⟩ := hA
  rcases h.2 with ⟨hv, h0⟩ | ⟨g, cap, cur, hv, hbg, hh, hnc, hcm, hsz, ht⟩
  · cases hv
  · injection hv with e1 e2 e3
    injection e1 with e1
    injection e1 with e1
    subst e1
    subst e3
    refine .inr ⟨g0, c, cur, rfl, hbg, hh, by omega, hcm, hsz, ?_⟩
    have : bvs (l.take n) = (bvs l).take n := by simp [bvs, List.map_take]
    rw [this, ← ht, Nat.mul_one, Nat.mul_one, List.take_take, Nat.min_eq_left hn]
theorem blksL_succ (key l : List UInt8) (k : Nat) : blksL key l (k + 1) = blksL key l k ++ blkL key l k := rfl
attribute [local irreducible] aftL encL tableL blksL blkL

/-- A stream of which the first k bytes have been added to a text's. -/
def turnAt (k : Nat) (a b : List UInt8) : List UInt8 := xorL (a.take k) (b.take k) ++ a.drop k
theorem turnAt_zero (a b : List UInt8) : turnAt 0 a b = a := by simp [turnAt, xorL]
theorem turnAt_end (n : Nat) (a b : List UInt8) (ha : a.length = n) (hb : b.length = n) : turnAt n a b = xorL a b := by
  unfold turnAt
  rw [List.take_of_length_le (by omega), List.take_of_length_le (by omega), List.drop_of_length_le (by omega), List.append_nil]
theorem turnAt_get (n k : Nat) (a b : List UInt8) (x : UInt8) (ha : a.length = n) (hb : b.length = n) (hx : a[k]? = some x) : (turnAt k a b)[k]? = some x := by
  have hk := (List.getElem?_eq_some_iff.1 hx).1
  unfold turnAt
  have hl := xorTake_len ha hb (show k ≤ n by omega)
  rw [List.getElem?_append_right (by omega), hl, Nat.sub_self, List.getElem?_drop, Nat.add_zero, hx]
theorem turnAt_next (n k : Nat) (a b : List UInt8) (x y : UInt8) (ha : a.length = n) (hb : b.length = n) (hx : a[k]? = some x) (hy : b[k]? = some y) : (turnAt k a b).set k (x ^^^ y) = turnAt (k + 1) a b := by
  have hk := (List.getElem?_eq_some_iff.1 hx).1
  have hl := xorTake_len ha hb (show k ≤ n by omega)
  have hd : a.drop k = x :: a.drop (k + 1) := by
    have := List.getElem?_eq_getElem hk
    rw [hx] at this
    rw [List.drop_eq_getElem_cons hk, ← Option.some.inj this]
  unfold turnAt
  rw [take_snoc hx, take_snoc hy, xorL_snoc _ _ _ _ (by simp only [List.length_take]; omega), hd, List.set_append_right _ _ (by omega), hl, Nat.sub_self, List.append_assoc]
  rfl
attribute [local irreducible] turnAt strmL

end Go.Proofs.Ytlapnfpdkfhfdaa

/- Steps and streams of layer 6: steps add up; a stream goes on where a part of it ends; adding twice. No conditions; nothing is claimed of the program here. -/
namespace Go.Proofs.Ytlapnfpdkfhfdaa
set_option linter.unusedVariables false

theorem downL_pow (n : Nat) : ∀ k, downL n k = n / 256 ^ k
  | 0 => by simp [downL]
  | k + 1 => by rw [downL_succ, downL_pow n k, Nat.div_div_eq_div_mul, Nat.pow_succ]
theorem numP_put : ∀ (k n : Nat), numL (putL n k) + 256 ^ k * downL n k = n
  | 0, n => by simp [putL, numL, downL]
  | k + 1, n => by
    have ih := numP_put k (n / 256)
    rw [putL, numL_snoc, ← downL_comm]
    have e : (UInt8.ofNat n).toNat = n % 256 := by simp
    rw [e, Nat.pow_succ]
    have h2 : 256 ^ k * 256 * downL (n / 256) k = 256 * (256 ^ k * downL (n / 256) k) := by rw [Nat.mul_comm (256 ^ k) 256, Nat.mul_assoc]
    rw [h2]
    omega
theorem numP_four (n : Nat) (hn : n < 2 ^ 32) : numL (putL n 4) = n := by
  have h := numP_put 4 n
  rw [downL_pow, Nat.div_eq_of_lt (show n < 256 ^ 4 by omega)] at h
  omega
theorem putP_num : ∀ (k : Nat) (l : List UInt8), l.length = k → putL (numL l) k = l
  | 0, l, h => by rw [List.eq_nil_of_length_eq_zero h]; rfl
  | k + 1, l, h => by
    obtain ⟨m, x, rfl⟩ : ∃ m x, l = m ++ [x] := by
      have hne : l ≠ [] := fun e => by rw [e] at h; cases h
      exact ⟨l.dropLast, l.getLast hne, (List.dropLast_concat_getLast hne).symm⟩
    have hm : m.length = k := by simpa using h
    have hx := x.toNat_lt
    rw [putL, numL_snoc, show (numL m * 256 + x.toNat) / 256 = numL m by omega, putP_num k m hm]
    have e : UInt8.ofNat (numL m * 256 + x.toNat) = x := by
      apply UInt8.toNat_inj.1
      simp
    rw [e]
theorem aft_take (l : List UInt8) (n : Nat) (hl : l.length = 16) : (aftL l n).take 12 = l.take 12 := by
  unfold aftL
  rw [List.take_left' (by rw [List.length_take]; omega)]
theorem aft_drop (l : List UInt8) (n : Nat) (hl : l.length = 16) : (aftL l n).drop 12 = putL (aftN l n) 4 := by
  unfold aftL
  rw [List.drop_left' (by rw [List.length_take]; omega)]
theorem aftN_lt (l : List UInt8) (n : Nat) : aftN l n < 2 ^ 32 := Nat.mod_lt _ (by omega)
/-- Steps add up. -/
theorem aft_aft (l : List UInt8) (a b : Nat) (hl : l.length = 16) : aftL (aftL l a) b = aftL l (a + b) := by
  have e : aftN (aftL l a) b = aftN l (a + b) := by
    have h := aft_drop l a hl
    have h2 := numP_four _ (aftN_lt l a)
    unfold aftN at h2 ⊢
    rw [h]
    unfold aftN
    rw [h2]
    omega
  rw [aftL, e, aft_take l a hl]
  rfl
theorem aft_whole (l : List UInt8) (n : Nat) (hl : l.length = 16) (hn : n % 2 ^ 32 = 0) : aftL l n = l := by
  have hd : (l.drop 12).length = 4 := by rw [List.length_drop]; omega
  have hlt : numL (l.drop 12) < 256 ^ 4 := numL_lt 4 _ hd
  have e : aftN l n = numL (l.drop 12) := by unfold aftN; omega
  rw [aftL, e, putP_num 4 _ hd, List.take_append_drop]
theorem blk_aft (key l : List UInt8) (k i : Nat) (hl : l.length = 16) : blkL key (aftL l k) i = blkL key l (k + i) := by
  unfold blkL
  rw [aft_aft l k i hl]
theorem blks_app (key l : List UInt8) (k : Nat) (hl : l.length = 16) : ∀ m, blksL key l (k + m) = blksL key l k ++ blksL key (aftL l k) m
  | 0 => by rw [Nat.add_zero]; exact (List.append_nil _).symm
  | m + 1 => by
    show blksL key l (k + m) ++ blkL key l (k + m) = _
    rw [blks_app key l k hl m, blksL_succ, ← blk_aft key l k m hl, List.append_assoc]
/-- A stream goes on where a part of it ends. -/
theorem strm_drop (key l : List UInt8) (k n : Nat) (hk : key.length = 16) (hl : l.length = 16) : (strmL key l (16 * k + n)).drop (16 * k) = strmL key (aftL l k) n := by
  unfold strmL
  rw [show (16 * k + n + 15) / 16 = k + (n + 15) / 16 by omega, blks_app key l k hl, List.drop_take, show 16 * k + n - 16 * k = n by omega, List.drop_left' (blksL_len key l hk hl k)]
theorem strm_take (key l : List UInt8) (m n : Nat) (hk : key.length = 16) (hl : l.length = 16) (h : m ≤ n) : (strmL key l n).take m = strmL key l m := by
  unfold strmL
  obtain ⟨d, hd⟩ : ∃ d, (n + 15) / 16 = (m + 15) / 16 + d := ⟨(n + 15) / 16 - (m + 15) / 16, by omega⟩
  rw [hd, blks_app key l _ hl, List.take_take, Nat.min_eq_left h, List.take_append_of_le_length (by rw [blksL_len key l hk hl]; omega)]
theorem xor8_self (x y : UInt8) : (x ^^^ y) ^^^ x = y := by
  rw [UInt8.xor_comm x y, UInt8.xor_assoc, UInt8.xor_self, UInt8.xor_zero]
theorem xor8_apart (s x y : UInt8) : (s ^^^ x) ^^^ (s ^^^ y) = x ^^^ y := by
  rw [UInt8.xor_comm s x, UInt8.xor_assoc, ← UInt8.xor_assoc s s y, UInt8.xor_self, UInt8.zero_xor]
end Go.Proofs.Ytlapnfpdkfhfdaa

