/- AES-128 as plain functions of lists of bytes, as the document's reference reckons it: signs, rows, columns, rounds' keys, blocks. No conditions; nothing is claimed of the program here. -/
import Derived.Test.YtbpbpkmjkbndbaaFieldSub
namespace Go.Proofs.Ytbpbpkmjkbndbaa
set_option linter.unusedVariables false

/-- Each byte's entry in a table. -/
def subsL (t b : List UInt8) : List UInt8 := b.map fun x => t.getD x.toNat 0
/-- All S-box values; all bytes by their S-box values. -/
def tableL : List UInt8 := (List.range 256).map fun i => subB (UInt8.ofNat i)
def backL : List UInt8 := (List.range 256).map fun i => unsubB (UInt8.ofNat i)
/-- The rows moved by so many columns times their number. -/
def rowF (b : List UInt8) (m p : Nat) : UInt8 := b.getD (4 * ((p / 4 + m * (p % 4)) % 4) + p % 4) 0
def rowsL (b : List UInt8) (m : Nat) : List UInt8 := (List.range 16).map (rowF b m)
/-- A column's byte behind k of its four products. -/
def colUp (b f : List UInt8) (c r : Nat) : Nat → UInt8 | 0 => 0 | k + 1 => colUp b f c r k ^^^ mulB (f.getD ((k + 4 - r) % 4) 0) (b.getD (4 * c + k) 0)
def colF (b f : List UInt8) (p : Nat) : UInt8 := colUp b f (p / 4) (p % 4) 4
def columnsL (b f : List UInt8) : List UInt8 := (List.range 16).map (colF b f)
/-- A list of sixteen that is F where P holds, and 0 elsewhere. -/
def fillP (P : Nat → Bool) (F : Nat → UInt8) : List UInt8 := (List.range 16).map fun p => if P p then F p else 0
theorem fillP_len (P : Nat → Bool) (F : Nat → UInt8) : (fillP P F).length = 16 := by simp [fillP]
theorem fillP_set (P P' : Nat → Bool) (F : Nat → UInt8) (k : Nat) (hk : k < 16) (h : ∀ p, p < 16 → P' p = (P p || p == k)) : (fillP P F).set k (F k) = fillP P' F := by
  apply List.ext_getElem
  · simp [fillP]
  · intro i h1 h2
    have hi : i < 16 := by simpa [fillP] using h2
    simp only [fillP, List.getElem_set, List.getElem_map, List.getElem_range, h i hi]
    by_cases e : k = i
    · subst e; simp
    · rw [if_neg e]
      have : (i == k) = false := by rw [beq_eq_false_iff_ne]; omega
      rw [this, Bool.or_false]
theorem fillP_all (P : Nat → Bool) (F : Nat → UInt8) (h : ∀ p, p < 16 → P p = true) : fillP P F = (List.range 16).map F := by
  unfold fillP
  apply List.map_congr_left
  intro p hp
  rw [h p (List.mem_range.1 hp)]
  rfl
theorem fillP_none (P : Nat → Bool) (F : Nat → UInt8) (h : ∀ p, p < 16 → P p = false) : List.replicate 16 0 = fillP P F := by
  apply List.ext_getElem
  · simp [fillP]
  · intro i h1 h2
    have hi : i < 16 := by simpa [fillP] using h2
    rw [List.getElem_replicate]
    simp [fillP, h i hi]

/-- The powers of 3: each byte but 0 is one of them. -/
def powsL : Nat → UInt8 → List UInt8 | 0, _ => [] | k + 1, x => x :: powsL k (mulB x 3)
theorem powsL_mem : ∀ (k : Nat) (j : Nat) (y : UInt8), y ∈ powsL k (powN 3 j) → ∃ i, i < k ∧ y = powN 3 (j + i)
  | 0, j, y, h => by simp [powsL] at h
  | k + 1, j, y, h => by
    rw [powsL, ← powN_succ] at h
    rcases List.mem_cons.1 h with h | h
    · exact ⟨0, by omega, h⟩
    · obtain ⟨i, h1, h2⟩ := powsL_mem k (j + 1) y h
      exact ⟨i + 1, by omega, by rw [h2]; congr 1; omega⟩
theorem gen3 (y : UInt8) (hy : y ≠ 0) : ∃ i, i < 255 ∧ y = powN 3 i := by
  have h : ∀ n : Fin 256, UInt8.ofNat n.val ≠ 0 → UInt8.ofNat n.val ∈ powsL 255 1 := by decide +kernel
  have h2 := each_byte (p := fun y => y ≠ 0 → y ∈ powsL 255 1) h y hy
  obtain ⟨i, h3, h4⟩ := powsL_mem 255 0 y h2
  exact ⟨i, h3, by simpa using h4⟩
theorem three_ne : (3 : UInt8) ≠ 0 := by decide
theorem inv_pow3 (i : Nat) (hi : i < 255) : invB (powN 3 i) = powN 3 ((255 - i) % 255) := by
  have h1 : mulB (powN 3 i) (powN 3 ((255 - i) % 255)) = 1 := by
    rw [← powN_add]
    by_cases h0 : i = 0
    · subst h0; rfl
    · rw [show i + (255 - i) % 255 = 255 by omega, powN_255 3 three_ne]
  have hx : powN 3 i ≠ 0 := fun e => by rw [e, mulB_zero'] at h1; exact absurd h1 (by decide)
  exact inv_unique (powN 3 i) _ _ (mulB_inv _ hx) h1
/-- Noughts. -/
def noughts (n : Nat) : List UInt8 := List.replicate n 0
theorem noughts_len (n : Nat) : (noughts n).length = n := List.length_replicate
/-- The table of S-box values behind i rounds. -/
def tabUp : Nat → List UInt8 | 0 => (noughts 256).set 0 (signB 0) | i + 1 => (tabUp i).set (powN 3 i).toNat (signB (powN 3 ((255 - i) % 255)))
theorem tabUp_len : ∀ i, (tabUp i).length = 256 | 0 => by rw [tabUp, List.length_set, noughts_len] | i + 1 => by rw [tabUp, List.length_set, tabUp_len i]
theorem tabUp_at : ∀ (i : Nat), i ≤ 255 → ∀ y : UInt8, (y = 0 ∨ ∃ j, j < i ∧ y = powN 3 j) → (tabUp i)[y.toNat]? = some (subB y)
  | 0, _, y, h => by
    rcases h with rfl | ⟨j, hj, _⟩
    · rw [tabUp, List.getElem?_set, if_pos (by decide), if_pos (by rw [noughts_len]; decide)]
      unfold subB
      rw [invB_zero]
    · omega
  | i + 1, hi, y, h => by
    rw [tabUp, List.getElem?_set]
    have hl := tabUp_len i
    by_cases e : (powN 3 i).toNat = y.toNat
    · have hy := y.toNat_lt
      rw [if_pos e, if_pos (by omega)]
      have e2 : powN 3 i = y := UInt8.toNat_inj.1 e
      rw [← e2]
      unfold subB
      rw [inv_pow3 i (by omega)]
    · rw [if_neg e]
      refine tabUp_at i (by omega) y ?_
      rcases h with h | ⟨j, h1, h2⟩
      · exact .inl h
      · refine .inr ⟨j, ?_, h2⟩
        rcases Nat.lt_or_ge j i with h3 | h3
        · exact h3
        · exact absurd (by rw [h2, show j = i by omega]) e
theorem list256 (l : List UInt8) (hl : l.length = 256) (f : UInt8 → UInt8) (h : ∀ y : UInt8, l[y.toNat]? = some (f y)) : l = (List.range 256).map fun i => f (UInt8.ofNat i) := by
  apply List.ext_getElem
  · simp [hl]
  · intro i h1 h2
    have hi : i < 256 := by omega
    have := h (UInt8.ofNat i)
    rw [show (UInt8.ofNat i).toNat = i by simp; omega, List.getElem?_eq_getElem h1] at this
    simpa using this
theorem tabUp_end : tabUp 255 = tableL := list256 _ (tabUp_len 255) subB fun y => tabUp_at 255 (Nat.le_refl _) y (by
  by_cases h : y = 0
  · exact .inl h
  · exact .inr (gen3 y h))
theorem tableL_at (y : UInt8) : tableL.getD y.toNat 0 = subB y := by
  have := y.toNat_lt
  simp [tableL, List.getD, this]
theorem backL_at (y : UInt8) : backL.getD y.toNat 0 = unsubB y := by
  have := y.toNat_lt
  simp [backL, List.getD, this]
/-- The bytes by their signs, behind i rounds. -/
def backUp : Nat → List UInt8 | 0 => noughts 256 | i + 1 => (backUp i).set (subB (UInt8.ofNat i)).toNat (UInt8.ofNat i)
theorem backUp_len : ∀ i, (backUp i).length = 256 | 0 => by rw [backUp, noughts_len] | i + 1 => by rw [backUp, List.length_set, backUp_len i]
theorem backUp_step (i : Nat) (y : UInt8) (ih : (unsubB y).toNat < i → (backUp i)[y.toNat]? = some (unsubB y)) (h : (unsubB y).toNat < i + 1) : (backUp (i + 1))[y.toNat]? = some (unsubB y) := by
  rw [show backUp (i + 1) = (backUp i).set (subB (UInt8.ofNat i)).toNat (UInt8.ofNat i) from rfl, List.getElem?_set]
  have hl := backUp_len i
  by_cases e : (subB (UInt8.ofNat i)).toNat = y.toNat
  · have hy := y.toNat_lt
    rw [if_pos e, if_pos (by omega)]
    have e2 : subB (UInt8.ofNat i) = y := UInt8.toNat_inj.1 e
    rw [← e2, unsub_sub]
  · rw [if_neg e]
    refine ih ?_
    rcases Nat.lt_or_ge (unsubB y).toNat i with h3 | h3
    · exact h3
    · refine absurd ?_ e
      have e3 : UInt8.ofNat i = unsubB y := by rw [show i = (unsubB y).toNat by omega]; simp
      rw [e3, sub_unsub]
theorem backUp_at (y : UInt8) (i : Nat) : (unsubB y).toNat < i → (backUp i)[y.toNat]? = some (unsubB y) := by
  induction i with
  | zero => intro h; omega
  | succ i ih => exact backUp_step i y ih
theorem backUp_end : backUp 256 = backL := list256 _ (backUp_len 256) unsubB fun y => backUp_at y 256 (by have := (unsubB y).toNat_lt; omega)
end Go.Proofs.Ytbpbpkmjkbndbaa
