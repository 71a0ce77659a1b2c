/- AES-128's words of round keys, one behind the other. No conditions; nothing is claimed of the program here. -/
import Derived.Test.YtbpbpkmjkbndbaaAesKeyFn
import Derived.Test.YtbpbpkmjkbndbaaArr
namespace Go.Proofs.Ytbpbpkmjkbndbaa
set_option linter.unusedVariables false

theorem xorL_comm (a b : List UInt8) : xorL a b = xorL b a := by
  unfold xorL
  rw [List.zipWith_comm]
  congr 1
  funext x y
  exact UInt8.xor_comm _ _
/-- Word j of the round keys. -/
def wsW (key t : List UInt8) (j : Nat) : List UInt8 := (wordsUp key t 40).getD j []
theorem wsW_len (key t : List UInt8) (hk : key.length = 16) (j : Nat) (hj : j < 44) : (wsW key t j).length = 4 := word_len key t hk j hj
theorem words_pre (key t : List UInt8) : ∀ (m k j : Nat), j < k + 4 → (wordsUp key t (k + m)).getD j [] = (wordsUp key t k).getD j []
  | 0, k, j, h => rfl
  | m + 1, k, j, h => by
    rw [show k + (m + 1) = (k + m) + 1 by omega, wordsUp_succ, List.getD_eq_getElem?_getD, List.getElem?_append_left (by rw [wordsUp_len]; omega), ← List.getD_eq_getElem?_getD]
    exact words_pre key t m k j h
theorem wsW_next (key t : List UInt8) (k : Nat) (hk : k < 40) : wsW key t (k + 4) = xorL (wsW key t k) (turnW t (wsW key t (k + 3)) (k + 4)) := by
  have h1 := words_pre key t (39 - k) (k + 1) (k + 4) (by omega)
  have h2 := words_pre key t (40 - k) k k (by omega)
  have h3 := words_pre key t (40 - k) k (k + 3) (by omega)
  rw [show k + 1 + (39 - k) = 40 by omega] at h1
  rw [show k + (40 - k) = 40 by omega] at h2 h3
  unfold wsW
  rw [h1, h2, h3, wordsUp_succ, List.getD_eq_getElem?_getD, List.getElem?_append_right (by rw [wordsUp_len]; omega), wordsUp_len]
  simp
/-- What is added to the first words of round n: the word ahead, transformed where it is the first. -/
def lastW (key t : List UInt8) (n i : Nat) : List UInt8 := if i = 0 then turn0 t (wsW key t (4 * n - 1)) (n - 1) else wsW key t (4 * n + i - 1)
theorem lastW_next (key t : List UInt8) (n i : Nat) (hn : 1 ≤ n ∧ n ≤ 10) (hi : i < 4) : xorL (lastW key t n i) (wsW key t (4 * (n - 1) + i)) = wsW key t (4 * n + i) ∧ lastW key t n (i + 1) = wsW key t (4 * n + i) := by
  refine ⟨?_, ?_⟩
  · have h := wsW_next key t (4 * (n - 1) + i) (by omega)
    rw [show 4 * (n - 1) + i + 4 = 4 * n + i by omega, show 4 * (n - 1) + i + 3 = 4 * n + i - 1 by omega] at h
    have e : lastW key t n i = turnW t (wsW key t (4 * n + i - 1)) (4 * n + i) := by
      unfold lastW turnW
      by_cases h0 : i = 0
      · rw [if_pos h0, if_pos (by omega), h0, show (4 * n + 0) / 4 - 1 = n - 1 by omega, show 4 * n + 0 - 1 = 4 * n - 1 by omega]
      · rw [if_neg h0, if_neg (by omega)]
    rw [h, e, xorL_comm]
  · unfold lastW
    rw [if_neg (by omega), show 4 * n + (i + 1) - 1 = 4 * n + i by omega]
/-- The first m words, noughts behind them. -/
def flatW (key t : List UInt8) : Nat → List UInt8 | 0 => [] | m + 1 => flatW key t m ++ wsW key t m
def keyUpTo (key t : List UInt8) (m : Nat) : List UInt8 := flatW key t m ++ List.replicate (176 - 4 * m) 0
theorem flatW_len (key t : List UInt8) (hk : key.length = 16) : ∀ m, m ≤ 44 → (flatW key t m).length = 4 * m
  | 0, _ => rfl
  | m + 1, h => by rw [flatW, List.length_append, flatW_len key t hk m (by omega), wsW_len key t hk m (by omega)]; omega
theorem keyUpTo_len (key t : List UInt8) (hk : key.length = 16) (m : Nat) (hm : m ≤ 44) : (keyUpTo key t m).length = 176 := by
  unfold keyUpTo
  rw [List.length_append, flatW_len key t hk m hm, List.length_replicate]; omega
theorem keyUpTo_lay (key t : List UInt8) (hk : key.length = 16) (m : Nat) (hm : m < 44) : layL (keyUpTo key t m) (4 * m) (wsW key t m) = keyUpTo key t (m + 1) := by
  have hl := flatW_len key t hk m (by omega)
  unfold layL keyUpTo
  rw [wsW_len key t hk m hm, List.take_left' hl, List.drop_append, hl, List.drop_eq_nil_of_le (by omega), List.nil_append, List.drop_replicate, flatW, List.append_assoc]
  congr 3; omega
theorem flatW_cut (key t : List UInt8) (hk : key.length = 16) (j : Nat) : ∀ m, m ≤ 44 → j < m → cutL (flatW key t m) (4 * j) 4 = wsW key t j
  | 0, _, h => by omega
  | m + 1, hm, h => by
    have hl := flatW_len key t hk m (by omega)
    unfold cutL
    rw [flatW]
    by_cases e : j = m
    · subst e
      rw [List.drop_left' hl, List.take_of_length_le (by rw [wsW_len key t hk j (by omega)]; omega)]
    · have ih := flatW_cut key t hk j m (by omega) (by omega)
      unfold cutL at ih
      rw [List.drop_append_of_le_length (by omega), List.take_append_of_le_length (by rw [List.length_drop]; omega), ih]
theorem keyUpTo_cut4 (key t : List UInt8) (hk : key.length = 16) (j m : Nat) (hm : m ≤ 44) (hj : j < m) : cutL (keyUpTo key t m) (4 * j) 4 = wsW key t j := by
  have hl := flatW_len key t hk m hm
  have ih := flatW_cut key t hk j m hm hj
  unfold cutL keyUpTo at *
  rw [List.drop_append_of_le_length (by omega), List.take_append_of_le_length (by rw [List.length_drop]; omega), ih]
theorem cutL_split (l : List UInt8) (i a b : Nat) (h : i + a ≤ l.length) : cutL l i (a + b) = cutL l i a ++ cutL l (i + a) b := by
  unfold cutL
  rw [List.take_add, List.drop_drop]
theorem keyUpTo_cut16 (key t : List UInt8) (hk : key.length = 16) (i m : Nat) (hm : m ≤ 44) (hi : 4 * i + 4 ≤ m) : cutL (keyUpTo key t m) (16 * i) 16 = keyF key t i := by
  have hl := keyUpTo_len key t hk m hm
  have e : ∀ j, j < m → cutL (keyUpTo key t m) (4 * j) 4 = wsW key t j := fun j hj => keyUpTo_cut4 key t hk j m hm hj
  rw [show 16 = 4 + (4 + (4 + 4)) from rfl, cutL_split _ _ 4 _ (by omega), cutL_split _ _ 4 _ (by omega), cutL_split _ _ 4 _ (by omega),
    show (4 + (4 + (4 + 4))) * i = 4 * (4 * i) by omega, show 4 * (4 * i) + 4 = 4 * (4 * i + 1) by omega, show 4 * (4 * i + 1) + 4 = 4 * (4 * i + 2) by omega, show 4 * (4 * i + 2) + 4 = 4 * (4 * i + 3) by omega,
    e _ (by omega), e _ (by omega), e _ (by omega), e _ (by omega)]
  unfold keyF wsW
  simp only [List.append_assoc]
theorem keyF_cut (key t : List UInt8) (hk : key.length = 16) (i j : Nat) (hi : i < 11) (hj : j < 4) : cutL (keyF key t i) (4 * j) 4 = wsW key t (4 * i + j) := by
  have h := keyUpTo_cut16 key t hk i 44 (by omega) (by omega)
  have hl := keyUpTo_len key t hk 44 (by omega)
  rw [← h]
  have h2 := keyUpTo_cut4 key t hk (4 * i + j) 44 (by omega) (by omega)
  rw [← h2]
  unfold cutL
  rw [List.drop_take, List.take_take, List.drop_drop, show min 4 (16 - 4 * j) = 4 by omega, show 16 * i + 4 * j = 4 * (4 * i + j) by omega]
/-- All round keys in a row. -/
def keysF (key t : List UInt8) : List UInt8 := keyUpTo key t 44
theorem keyUpTo_first (key t : List UInt8) (hk : key.length = 16) : layL (List.replicate 176 0) 0 key = keyUpTo key t 4 := by
  have w : ∀ j, j < 4 → wsW key t j = cutL key (4 * j) 4 := fun j hj => by
    have h := words_pre key t 40 0 j (by omega)
    unfold wsW
    rw [show 0 + 40 = 40 from rfl] at h
    rw [h]
    simp only [wordsUp, wordsInit, cutL, List.getD_eq_getElem?_getD]
    simp only [List.getElem?_map, List.getElem?_range hj, Option.map_some, Option.getD_some]
    rw [List.drop_take, show 4 * j + 4 - 4 * j = 4 by omega]
  unfold layL keyUpTo
  simp only [flatW, List.nil_append, w 0 (by omega), w 1 (by omega), w 2 (by omega), w 3 (by omega)]
  have hs : cutL key 0 16 = key := by unfold cutL; rw [List.drop_zero, List.take_of_length_le (by omega)]
  have h4 : cutL key (4 * 0) 4 ++ cutL key (4 * 1) 4 ++ cutL key (4 * 2) 4 ++ cutL key (4 * 3) 4 = key := by
    rw [show (16 : Nat) = 4 + (4 + (4 + 4)) from rfl, cutL_split _ _ 4 _ (by omega), cutL_split _ _ 4 _ (by omega), cutL_split _ _ 4 _ (by omega)] at hs
    simpa [List.append_assoc] using hs
  rw [h4, List.take_zero, List.nil_append, hk, List.drop_replicate]
end Go.Proofs.Ytbpbpkmjkbndbaa
