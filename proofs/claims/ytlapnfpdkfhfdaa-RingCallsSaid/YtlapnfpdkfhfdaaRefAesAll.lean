/- AES-128 as plain functions of lists of bytes, as the document's reference reckons it: signs, rows, columns, rounds' keys, blocks. No conditions; nothing is claimed of the program here. -/
import Derived.Test.YtlapnfpdkfhfdaaFieldAll
import Derived.Test.YtlapnfpdkfhfdaaMemAll
import Derived.Deep.RegionWith
import Derived.Test.YtlapnfpdkfhfdaaRowsNew
import Derived.Deep.RegionHeld3
namespace Go.Proofs.Ytlapnfpdkfhfdaa
set_option linter.unusedVariables false

/-- Each byte's entry in a table. -/
def subsL (t b : List UInt8) : List UInt8 := b.map fun x => t.getD x.toNat 0
/-- All S-box values; all bytes by their S-box values. -/
def tableL : List UInt8 := (List.range 256).map fun i => subB (UInt8.ofNat i)
def backL : List UInt8 := (List.range 256).map fun i => unsubB (UInt8.ofNat i)
/-- The rows moved by so many columns times their number. -/
def rowF (b : List UInt8) (m p : Nat) : UInt8 := b.getD (4 * ((p / 4 + m * (p % 4)) % 4) + p % 4) 0
def rowsL (b : List UInt8) (m : Nat) : List UInt8 := (List.range 16).map (rowF b m)
/-- A column's byte behind k of its four products. -/
def colUp (b f : List UInt8) (c r : Nat) : Nat → UInt8 | 0 => 0 | k + 1 => colUp b f c r k ^^^ mulB (f.getD ((k + 4 - r) % 4) 0) (b.getD (4 * c + k) 0)
def colF (b f : List UInt8) (p : Nat) : UInt8 := colUp b f (p / 4) (p % 4) 4
def columnsL (b f : List UInt8) : List UInt8 := (List.range 16).map (colF b f)
/-- A list of sixteen that is F where P holds, and 0 elsewhere. -/
def fillP (P : Nat → Bool) (F : Nat → UInt8) : List UInt8 := (List.range 16).map fun p => if P p then F p else 0
theorem fillP_len (P : Nat → Bool) (F : Nat → UInt8) : (fillP P F).length = 16 := by simp [fillP]
theorem fillP_set (P P' : Nat → Bool) (F : Nat → UInt8) (k : Nat) (hk : k < 16) (h : ∀ p, p < 16 → P' p = (P p || p == k)) : (fillP P F).set k (F k) = fillP P' F := by
  apply List.ext_getElem
  · simp [fillP]
  · intro i h1 h2
    have hi : i < 16 := by simpa [fillP] using h2
    simp only [fillP, List.getElem_set, List.getElem_map, List.getElem_range, h i hi]
    by_cases e : k = i
    · subst e; simp
    · rw [if_neg e]
      have : (i == k) = false := by rw [beq_eq_false_iff_ne]; omega
      rw [this, Bool.or_false]
theorem fillP_all (P : Nat → Bool) (F : Nat → UInt8) (h : ∀ p, p < 16 → P p = true) : fillP P F = (List.range 16).map F := by
  unfold fillP
  apply List.map_congr_left
  intro p hp
  rw [h p (List.mem_range.1 hp)]
  rfl
theorem fillP_none (P : Nat → Bool) (F : Nat → UInt8) (h : ∀ p, p < 16 → P p = false) : List.replicate 16 0 = fillP P F := by
  apply List.ext_getElem
  · simp [fillP]
  · intro i h1 h2
    have hi : i < 16 := by simpa [fillP] using h2
    rw [List.getElem_replicate]
    simp [fillP, h i hi]

/-- The powers of 3: each byte but 0 is one of them. -/
def powsL : Nat → UInt8 → List UInt8 | 0, _ => [] | k + 1, x => x :: powsL k (mulB x 3)
theorem powsL_mem : ∀ (k : Nat) (j : Nat) (y : UInt8), y ∈ powsL k (powN 3 j) → ∃ i, i < k ∧ y = powN 3 (j + i)
  | 0, j, y, h => by simp [powsL] at h
  | k + 1, j, y, h => by
    rw [powsL, ← powN_succ] at h
    rcases List.mem_cons.1 h with h | h
    · exact ⟨0, by omega, h⟩
    · obtain ⟨i, h1, h2⟩ := powsL_mem k (j + 1) y h
      exact ⟨i + 1, by omega, by rw [h2]; congr 1; omega⟩
theorem gen3 (y : UInt8) (hy : y ≠ 0) : ∃ i, i < 255 ∧ y = powN 3 i := by
  have h : ∀ n : Fin 256, UInt8.ofNat n.val ≠ 0 → UInt8.ofNat n.val ∈ powsL 255 1 := by decide +kernel
  have h2 := each_byte (p := fun y => y ≠ 0 → y ∈ powsL 255 1) h y hy
  obtain ⟨i, h3, h4⟩ := powsL_mem 255 0 y h2
  exact ⟨i, h3, by simpa using h4⟩
theorem three_ne : (3 : UInt8) ≠ 0 := by decide
theorem inv_pow3 (i : Nat) (hi : i < 255) : invB (powN 3 i) = powN 3 ((255 - i) % 255) := by
  have h1 : mulB (powN 3 i) (powN 3 ((255 - i) % 255)) = 1 := by
    rw [← powN_add]
    by_cases h0 : i = 0
    · subst h0; rfl
    · rw [show i + (255 - i) % 255 = 255 by omega, powN_255 3 three_ne]
  have hx : powN 3 i ≠ 0 := fun e => by rw [e, mulB_zero'] at h1; exact absurd h1 (by decide)
  exact inv_unique (powN 3 i) _ _ (mulB_inv _ hx) h1
/-- Noughts. -/
def noughts (n : Nat) : List UInt8 := List.replicate n 0
theorem noughts_len (n : Nat) : (noughts n).length = n := List.length_replicate
/-- The table of S-box values behind i rounds. -/
def tabUp : Nat → List UInt8 | 0 => (noughts 256).set 0 (signB 0) | i + 1 => (tabUp i).set (powN 3 i).toNat (signB (powN 3 ((255 - i) % 255)))
theorem tabUp_len : ∀ i, (tabUp i).length = 256 | 0 => by rw [tabUp, List.length_set, noughts_len] | i + 1 => by rw [tabUp, List.length_set, tabUp_len i]
theorem tabUp_at : ∀ (i : Nat), i ≤ 255 → ∀ y : UInt8, (y = 0 ∨ ∃ j, j < i ∧ y = powN 3 j) → (tabUp i)[y.toNat]? = some (subB y)
  | 0, _, y, h => by
    rcases h with rfl | ⟨j, hj, _⟩
    · rw [tabUp, List.getElem?_set, if_pos (by decide), if_pos (by rw [noughts_len]; decide)]
      unfold subB
      rw [invB_zero]
    · omega
  | i + 1, hi, y, h => by
    rw [tabUp, List.getElem?_set]
    have hl := tabUp_len i
    by_cases e : (powN 3 i).toNat = y.toNat
    · have hy := y.toNat_lt
      rw [if_pos e, if_pos (by omega)]
      have e2 : powN 3 i = y := UInt8.toNat_inj.1 e
      rw [← e2]
      unfold subB
      rw [inv_pow3 i (by omega)]
    · rw [if_neg e]
      refine tabUp_at i (by omega) y ?_
      rcases h with h | ⟨j, h1, h2⟩
      · exact .inl h
      · refine .inr ⟨j, ?_, h2⟩
        rcases Nat.lt_or_ge j i with h3 | h3
        · exact h3
        · exact absurd (by rw [h2, show j = i by omega]) e
theorem list256 (l : List UInt8) (hl : l.length = 256) (f : UInt8 → UInt8) (h : ∀ y : UInt8, l[y.toNat]? = some (f y)) : l = (List.range 256).map fun i => f (UInt8.ofNat i) := by
  apply List.ext_getElem
  · simp [hl]
  · intro i h1 h2
    have hi : i < 256 := by omega
    have := h (UInt8.ofNat i)
    rw [show (UInt8.ofNat i).toNat = i by simp; omega, List.getElem?_eq_getElem h1] at this
    simpa using this
theorem tabUp_end : tabUp 255 = tableL := list256 _ (tabUp_len 255) subB fun y => tabUp_at 255 (Nat.le_refl _) y (by
  by_cases h : y = 0
  · exact .inl h
  · exact .inr (gen3 y h))
theorem tableL_at (y : UInt8) : tableL.getD y.toNat 0 = subB y := by
  have := y.toNat_lt
  simp [tableL, List.getD, this]
theorem backL_at (y : UInt8) : backL.getD y.toNat 0 = unsubB y := by
  have := y.toNat_lt
  simp [backL, List.getD, this]
/-- The bytes by their signs, behind i rounds. -/
def backUp : Nat → List UInt8 | 0 => noughts 256 | i + 1 => (backUp i).set (subB (UInt8.ofNat i)).toNat (UInt8.ofNat i)
theorem backUp_len : ∀ i, (backUp i).length = 256 | 0 => by rw [backUp, noughts_len] | i + 1 => by rw [backUp, List.length_set, backUp_len i]
theorem backUp_step (i : Nat) (y : UInt8) (ih : (unsubB y).toNat < i → (backUp i)[y.toNat]? = some (unsubB y)) (h : (unsubB y).toNat < i + 1) : (backUp (i + 1))[y.toNat]? = some (unsubB y) := by
  rw [show backUp (i + 1) = (backUp i).set (subB (UInt8.ofNat i)).toNat (UInt8.ofNat i) from rfl, List.getElem?_set]
  have hl := backUp_len i
  by_cases e : (subB (UInt8.ofNat i)).toNat = y.toNat
  · have hy := y.toNat_lt
    rw [if_pos e, if_pos (by omega)]
    have e2 : subB (UInt8.ofNat i) = y := UInt8.toNat_inj.1 e
    rw [← e2, unsub_sub]
  · rw [if_neg e]
    refine ih ?_
    rcases Nat.lt_or_ge (unsubB y).toNat i with h3 | h3
    · exact h3
    · refine absurd ?_ e
      have e3 : UInt8.ofNat i = unsubB y := by rw [show i = (unsubB y).toNat by omega]; simp
      rw [e3, sub_unsub]
theorem backUp_at (y : UInt8) (i : Nat) : (unsubB y).toNat < i → (backUp i)[y.toNat]? = some (unsubB y) := by
  induction i with
  | zero => intro h; omega
  | succ i ih => exact backUp_step i y ih
theorem backUp_end : backUp 256 = backL := list256 _ (backUp_len 256) unsubB fun y => backUp_at y 256 (by have := (unsubB y).toNat_lt; omega)
end Go.Proofs.Ytlapnfpdkfhfdaa

/- The references of layer 3 (aes) that work on one block: at, subs, add, rows, columns, back, Table, each as a plain function of lists. Conditions: the slices' cells are readable, of the lengths that each theorem says. -/
namespace Go.Proofs.Ytlapnfpdkfhfdaa
open Go.RowKit
set_option linter.unusedVariables false

theorem subsL_snoc (t b : List UInt8) (x : UInt8) : subsL t (b ++ [x]) = subsL t b ++ [t.getD x.toNat 0] := by simp [subsL]
end Go.Proofs.Ytlapnfpdkfhfdaa

/- The references of layer 3 (aes), rows and columns: each as a plain function of a list of sixteen. Condition: the slices' cells are readable. -/
namespace Go.Proofs.Ytlapnfpdkfhfdaa
open Go.RowKit
set_option linter.unusedVariables false

/-- Filled row by row, up to row r and column c. -/
def rowP (r c p : Nat) : Bool := decide (p % 4 < r) || (p % 4 == r && decide (p / 4 < c))
theorem rowP_next (r c p : Nat) (hr : r < 4) (hc : c < 4) (hp : p < 16) : rowP r (c + 1) p = (rowP r c p || p == 4 * c + r) := by
  unfold rowP
  rw [Bool.eq_iff_iff]
  simp
  omega
theorem rowP_turn (r p : Nat) (hp : p < 16) : rowP r 4 p = rowP (r + 1) 0 p := by
  unfold rowP
  rw [Bool.eq_iff_iff]
  simp
  omega
theorem fillP_congr (P P' : Nat → Bool) (F : Nat → UInt8) (h : ∀ p, p < 16 → P p = P' p) : fillP P F = fillP P' F := by
  unfold fillP
  apply List.map_congr_left
  intro p hp
  rw [h p (List.mem_range.1 hp)]

/-- Filled column by column, up to column c and row r. -/
def colP (c r p : Nat) : Bool := decide (p / 4 < c) || (p / 4 == c && decide (p % 4 < r))
theorem colP_next (c r p : Nat) (hr : r < 4) (hc : c < 4) (hp : p < 16) : colP c (r + 1) p = (colP c r p || p == 4 * c + r) := by
  unfold colP
  rw [Bool.eq_iff_iff]
  simp
  omega
theorem colP_turn (c p : Nat) (hp : p < 16) : colP c 4 p = colP (c + 1) 0 p := by
  unfold colP
  rw [Bool.eq_iff_iff]
  simp
  omega

end Go.Proofs.Ytlapnfpdkfhfdaa

/- The references of layer 3 (aes), back and Table: the tables of S-box values, both ways. Condition: back's table is Table's. -/
namespace Go.Proofs.Ytlapnfpdkfhfdaa
open Go.RowKit
set_option linter.unusedVariables false

theorem byte_k (k : Nat) (hk : k < 256) : (Value.int .u8 (k : Int)) = bv (UInt8.ofNat k) := by
  unfold bv
  rw [show (UInt8.ofNat k).toNat = k by simp; omega]
theorem getAt (l : List UInt8) (n k : Nat) (hl : l.length = n) (hk : k < n) : ∃ x, l[k]? = some x := ⟨l[k]'(by omega), List.getElem?_eq_getElem (by omega)⟩

/-- The first k powers of 3. -/
def threes (k : Nat) : List UInt8 := (List.range k).map (powN 3)
theorem threes_len (k : Nat) : (threes k).length = k := by simp [threes]
theorem threes_snoc (k : Nat) : threes (k + 1) = threes k ++ [powN 3 k] := by simp [threes, List.range_succ]
theorem threes_at (k j : Nat) (h : j < k) : (threes k)[j]? = some (powN 3 j) := by simp [threes, h]

end Go.Proofs.Ytlapnfpdkfhfdaa

/- AES-128's rounds' keys and blocks as plain functions of lists of bytes. No conditions; nothing is claimed of the program here. -/
namespace Go.Proofs.Ytlapnfpdkfhfdaa
set_option linter.unusedVariables false

/-- The first four words. -/
def wordsInit (key : List UInt8) : List (List UInt8) := (List.range 4).map fun i => (key.take (4 * i + 4)).drop (4 * i)
/-- A word turned and replaced, the round's power added to its first byte. -/
def turn0 (t w : List UInt8) (r : Nat) : List UInt8 := (subsL t [w.getD 1 0, w.getD 2 0, w.getD 3 0, w.getD 0 0]).set 0 ((subsL t [w.getD 1 0, w.getD 2 0, w.getD 3 0, w.getD 0 0]).getD 0 0 ^^^ powN 2 r)
def turnW (t w : List UInt8) (i : Nat) : List UInt8 := if i % 4 = 0 then turn0 t w (i / 4 - 1) else w
/-- All words behind k further ones. -/
def wordsUp (key t : List UInt8) : Nat → List (List UInt8)
  | 0 => wordsInit key
  | k + 1 => wordsUp key t k ++ [xorL ((wordsUp key t k).getD k []) (turnW t ((wordsUp key t k).getD (k + 3) []) (k + 4))]
theorem wordsUp_succ (key t : List UInt8) (k : Nat) : wordsUp key t (k + 1) = wordsUp key t k ++ [xorL ((wordsUp key t k).getD k []) (turnW t ((wordsUp key t k).getD (k + 3) []) (k + 4))] := rfl
theorem turn0_len (t w : List UInt8) (r : Nat) : (turn0 t w r).length = 4 := by simp [turn0, subsL]
theorem wordsUp_len (key t : List UInt8) : ∀ k, (wordsUp key t k).length = k + 4
  | 0 => by simp [wordsUp, wordsInit]
  | k + 1 => by rw [wordsUp_succ, List.length_append, wordsUp_len key t k]; simp
theorem wordsUp_row (key t : List UInt8) (hk : key.length = 16) : ∀ (k i : Nat) (p : List UInt8), (wordsUp key t k)[i]? = some p → p.length = 4
  | 0, i, p, h => by
    simp only [wordsUp, wordsInit, List.getElem?_map, Option.map_eq_some_iff] at h
    obtain ⟨j, hj, rfl⟩ := h
    have := List.getElem?_eq_some_iff.1 hj
    obtain ⟨h1, h2⟩ := this
    simp at h1 h2
    simp [hk]
    omega
  | k + 1, i, p, h => by
    rw [wordsUp_succ] at h
    have hl := wordsUp_len key t k
    rcases Nat.lt_or_ge i (k + 4) with hi | hi
    · rw [List.getElem?_append_left (by omega)] at h
      exact wordsUp_row key t hk k i p h
    · rw [List.getElem?_append_right (by omega)] at h
      have hi0 : i - (wordsUp key t k).length = 0 := by
        have := (List.getElem?_eq_some_iff.1 h).1
        simp at this
        omega
      rw [hi0] at h
      simp only [List.getElem?_cons_zero, Option.some.injEq] at h
      subst h
      have g : ∀ j, j < k + 4 → ((wordsUp key t k).getD j []).length = 4 := fun j hj => by
        have h2 : (wordsUp key t k)[j]? = some ((wordsUp key t k).getD j []) := by rw [List.getD_eq_getElem?_getD, List.getElem?_eq_getElem (by omega)]; rfl
        exact wordsUp_row key t hk k j _ h2
      rw [xorL_len]
      · exact g k (by omega)
      · rw [g k (by omega)]
        unfold turnW
        split
        · exact turn0_len _ _ _
        · exact g (k + 3) (by omega)
/-- The rounds' keys. -/
def keyF (key t : List UInt8) (i : Nat) : List UInt8 := (wordsUp key t 40).getD (4 * i) [] ++ (wordsUp key t 40).getD (4 * i + 1) [] ++ (wordsUp key t 40).getD (4 * i + 2) [] ++ (wordsUp key t 40).getD (4 * i + 3) []
def keysL (key t : List UInt8) : List (List UInt8) := (List.range 11).map (keyF key t)
theorem word_len (key t : List UInt8) (hk : key.length = 16) (j : Nat) (hj : j < 44) : ((wordsUp key t 40).getD j []).length = 4 := by
  have hl := wordsUp_len key t 40
  have h2 : (wordsUp key t 40)[j]? = some ((wordsUp key t 40).getD j []) := by rw [List.getD_eq_getElem?_getD, List.getElem?_eq_getElem (by omega)]; rfl
  exact wordsUp_row key t hk 40 j _ h2
theorem keyF_len (key t : List UInt8) (hk : key.length = 16) (i : Nat) (hi : i < 11) : (keyF key t i).length = 16 := by
  unfold keyF
  rw [List.length_append, List.length_append, List.length_append, word_len key t hk _ (by omega), word_len key t hk _ (by omega), word_len key t hk _ (by omega), word_len key t hk _ (by omega)]

/-- A block behind i rounds. -/
def encUp (key t b : List UInt8) : Nat → List UInt8
  | 0 => xorL b (keyF key t 0)
  | i + 1 => xorL (if i + 1 < 10 then columnsL (rowsL (subsL t (encUp key t b i)) 1) [2, 3, 1, 1] else rowsL (subsL t (encUp key t b i)) 1) (keyF key t (i + 1))
def encL (key t b : List UInt8) : List UInt8 := encUp key t b 10
/-- A block that i rounds have been taken off. -/
def decUp (key t u b : List UInt8) : Nat → List UInt8
  | 0 => b
  | j + 1 => subsL u (rowsL (if 10 - j < 10 then columnsL (xorL (decUp key t u b j) (keyF key t (10 - j))) [14, 11, 13, 9] else xorL (decUp key t u b j) (keyF key t (10 - j))) 3)
def decL (key t u b : List UInt8) : List UInt8 := xorL (decUp key t u b 10) (keyF key t 0)
theorem rowsL_len (b : List UInt8) (m : Nat) : (rowsL b m).length = 16 := by simp [rowsL]
theorem columnsL_len (b f : List UInt8) : (columnsL b f).length = 16 := by simp [columnsL]
theorem subsL_len (t b : List UInt8) : (subsL t b).length = b.length := by simp [subsL]
theorem encUp_len (key t b : List UInt8) (hk : key.length = 16) (hb : b.length = 16) (i : Nat) (hi : i < 11) : (encUp key t b i).length = 16 := by
  cases i with
  | zero => rw [encUp, xorL_len _ _ (by rw [keyF_len key t hk 0 (by omega), hb]), hb]
  | succ i =>
    have h : ∀ x y : List UInt8, x.length = 16 → y.length = 16 → (if i + 1 < 10 then x else y).length = 16 := fun x y hx hy => by split <;> assumption
    have h2 := h _ _ (columnsL_len (rowsL (subsL t (encUp key t b i)) 1) [2, 3, 1, 1]) (rowsL_len (subsL t (encUp key t b i)) 1)
    rw [encUp, xorL_len _ _ (by rw [keyF_len key t hk (i + 1) hi, h2]), h2]
theorem decUp_len (key t u b : List UInt8) (hb : b.length = 16) (j : Nat) : (decUp key t u b j).length = 16 := by
  cases j with
  | zero => exact hb
  | succ j => rw [decUp, subsL_len, rowsL_len]
end Go.Proofs.Ytlapnfpdkfhfdaa

/- The reference of layer 3 (aes) for the rounds' keys. Conditions: the slices' cells are readable, the key of 16 bytes, the table of 256. -/
namespace Go.Proofs.Ytlapnfpdkfhfdaa
open Go.RowKit
set_option linter.unusedVariables false

theorem cut_mul (A : Option Addr) (c k : Nat) (hk : k < 4) (hc : 16 ≤ c) (W : World) : (Instr.slice 23 (.slice A 16 c) (some (.int .i64 (4 * (k : Int)))) (some (.int .i64 (4 * (k : Int) + 4))) none).run Try.prog W = .ok (.slice (cutA A c (4 * k)) 4 (c - 4 * k)) W := by
  have h := cut_lh A 16 c (4 * k) (4 * k + 4) (by omega) (by omega) W
  rw [show ((4 * k : Nat) : Int) = 4 * (k : Int) by omega, show ((4 * k + 4 : Nat) : Int) = 4 * (k : Int) + 4 by omega, show 4 * k + 4 - 4 * k = 4 by omega] at h
  exact h
/-- A call that gives rows of the call's own. -/
def RetRows (ps : List (List UInt8)) (w : World) (e : Ending) (w' : World) : Prop :=
  ∃ A c, e = .returned (.slice A ps.length c) ∧ OwnR w' w.heap.size A ps.length c ps ∧ Below w.heap.size w w'
theorem wordsInit_at (key : List UInt8) (k : Nat) (hk : k < 4) : (wordsInit key)[k]? = some ((key.take (4 * k + 4)).drop (4 * k)) := by simp [wordsInit, hk]
theorem wordsInit_len (key : List UInt8) : (wordsInit key).length = 4 := by simp [wordsInit]

/-- j words in a row, from the word 4 i on. -/
def keyUp (ws : List (List UInt8)) (i : Nat) : Nat → List UInt8 | 0 => [] | j + 1 => keyUp ws i j ++ ws.getD (4 * i + j) []
theorem keyUp_four (key t : List UInt8) (i : Nat) : keyUp (wordsUp key t 40) i 4 = keyF key t i := by simp [keyUp, keyF]
theorem keysL_len (key t : List UInt8) : (keysL key t).length = 11 := by simp [keysL]
theorem keysL_at (key t : List UInt8) (i : Nat) (hi : i < 11) : (keysL key t)[i]? = some (keyF key t i) := by simp [keysL, hi]

end Go.Proofs.Ytlapnfpdkfhfdaa

/- The references of layer 3 (aes) for a whole block: With and Decrypt. Conditions: the slices' cells are readable, key and block of 16 bytes, With's table of 256. -/
namespace Go.Proofs.Ytlapnfpdkfhfdaa
open Go.RowKit
set_option linter.unusedVariables false

theorem OwnB.step16 {w w' : World} {base n c : Nat} {A : Option Addr} {l : List UInt8} (h : OwnB w' w.heap.size A n c l) (hb : base ≤ w.heap.size) : OwnB w' base A n c l := h.base_le hb
/-- The key of round i, read at a later world. -/
theorem key_at {wk w : World} {base : Nat} {A : Option Addr} {c : Nat} {key t : List UInt8} (hk : key.length = 16) (h : OwnR wk base A 11 c (keysL key t)) (hb : Below wk.heap.size wk w) (i : Nat) (hi : i < 11) :
    ∃ g Ai ci, A = some ⟨g, 0, none⟩ ∧ w.cell? ⟨g, i, none⟩ = some (.slice Ai 16 ci) ∧ RB w w.heap.size Ai 16 (keyF key t i) := by
  obtain ⟨g, p, Ai, ci, e, _, hp, hc, ho⟩ := (h.below hb).at_ hi
  rw [keysL_at key t i hi] at hp
  injection hp with hp
  subst hp
  rw [keyF_len key t hk i hi] at hc ho
  exact ⟨g, Ai, ci, e, hc, ho.rb⟩

theorem decUp_step (key t u b : List UInt8) (m : Nat) (hm : m < 10) : decUp key t u b (10 - m) = subsL u (rowsL (if m + 1 < 10 then columnsL (xorL (decUp key t u b (10 - (m + 1))) (keyF key t (m + 1))) [14, 11, 13, 9] else xorL (decUp key t u b (10 - (m + 1))) (keyF key t (m + 1))) 3) := by
  obtain ⟨j, hj⟩ : ∃ j, 10 - m = j + 1 := ⟨10 - (m + 1), by omega⟩
  rw [hj, decUp, show 10 - j = m + 1 by omega, show 10 - (m + 1) = j by omega]

end Go.Proofs.Ytlapnfpdkfhfdaa

