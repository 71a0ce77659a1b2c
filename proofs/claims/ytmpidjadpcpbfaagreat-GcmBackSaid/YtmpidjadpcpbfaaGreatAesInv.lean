/- AES-128's two ways undo each other, as plain functions of lists of bytes. Conditions: key and block of sixteen bytes. Nothing is claimed of the program here. -/
import Derived.Test.YtmpidjadpcpbfaaGreatRefAesAll
namespace Go.Proofs.YtmpidjadpcpbfaaGreat
set_option linter.unusedVariables false

theorem list16 (l l' : List UInt8) (h : l.length = 16) (h' : l'.length = 16) (e : ∀ p, p < 16 → l.getD p 0 = l'.getD p 0) : l = l' := by
  apply List.ext_getElem (by omega)
  intro i h1 h2
  have := e i (by omega)
  rw [List.getD_eq_getElem?_getD, List.getD_eq_getElem?_getD, List.getElem?_eq_getElem h1, List.getElem?_eq_getElem h2] at this
  exact this
theorem map16_at (F : Nat → UInt8) (p : Nat) (hp : p < 16) : ((List.range 16).map F).getD p 0 = F p := by simp [List.getD, hp]
theorem rowsL_at (b : List UInt8) (m p : Nat) (hp : p < 16) : (rowsL b m).getD p 0 = b.getD (4 * ((p / 4 + m * (p % 4)) % 4) + p % 4) 0 := map16_at _ p hp
theorem xorL_at (a b : List UInt8) (p : Nat) (ha : a.length = 16) (hb : b.length = 16) (hp : p < 16) : (xorL a b).getD p 0 = a.getD p 0 ^^^ b.getD p 0 := by
  simp [xorL, List.getD, List.getElem?_zipWith, List.getElem?_eq_getElem (show p < a.length by omega), List.getElem?_eq_getElem (show p < b.length by omega)]
theorem xorL_twice (a b : List UInt8) (ha : a.length = 16) (hb : b.length = 16) : xorL (xorL a b) b = a := by
  have h1 : (xorL a b).length = 16 := by rw [xorL_len _ _ (by omega), ha]
  refine list16 _ _ (by rw [xorL_len _ _ (by omega), h1]) ha fun p hp => ?_
  rw [xorL_at _ _ p h1 hb hp, xorL_at _ _ p ha hb hp, UInt8.xor_assoc, UInt8.xor_self, UInt8.xor_zero]
theorem rows_back (b : List UInt8) (hb : b.length = 16) : rowsL (rowsL b 1) 3 = b ∧ rowsL (rowsL b 3) 1 = b := by
  refine ⟨list16 _ _ (rowsL_len _ _) hb fun p hp => ?_, list16 _ _ (rowsL_len _ _) hb fun p hp => ?_⟩ <;>
  · rw [rowsL_at _ _ p hp, rowsL_at _ _ _ (by omega)]
    congr 1
    omega
theorem subs_back (b : List UInt8) : subsL backL (subsL tableL b) = b ∧ subsL tableL (subsL backL b) = b := by
  constructor
  · unfold subsL
    rw [List.map_map]
    conv => rhs; rw [← List.map_id b]
    apply List.map_congr_left
    intro x _
    show backL.getD (tableL.getD x.toNat 0).toNat 0 = x
    rw [tableL_at, backL_at, unsub_sub]
  · unfold subsL
    rw [List.map_map]
    conv => rhs; rw [← List.map_id b]
    apply List.map_congr_left
    intro x _
    show tableL.getD (backL.getD x.toNat 0).toNat 0 = x
    rw [backL_at, tableL_at, sub_unsub]
/-- The four products of a column's byte, by the row. -/
def mix4 (f0 f1 f2 f3 a b c d : UInt8) : UInt8 := mulB f0 a ^^^ (mulB f1 b ^^^ (mulB f2 c ^^^ mulB f3 d))
theorem columnsL_at (b : List UInt8) (f0 f1 f2 f3 : UInt8) (c r : Nat) (hc : c < 4) (hr : r < 4) : (columnsL b [f0, f1, f2, f3]).getD (4 * c + r) 0 =
    mix4 f0 f1 f2 f3 (b.getD (4 * c + r) 0) (b.getD (4 * c + (r + 1) % 4) 0) (b.getD (4 * c + (r + 2) % 4) 0) (b.getD (4 * c + (r + 3) % 4) 0) := by
  unfold columnsL
  rw [map16_at _ _ (by omega)]
  unfold colF mix4
  rw [show (4 * c + r) / 4 = c by omega, show (4 * c + r) % 4 = r by omega]
  simp only [colUp]
  rcases (show r = 0 ∨ r = 1 ∨ r = 2 ∨ r = 3 by omega) with rfl | rfl | rfl | rfl <;>
  · simp only [List.getD_eq_getElem?_getD, Nat.reduceAdd, Nat.reduceSub, Nat.reduceMod, Nat.add_zero, Nat.zero_add, List.getElem?_cons_zero, List.getElem?_cons_succ, Option.getD_some, UInt8.zero_xor]
    ac_rfl
/-- A column, mixed and mixed back: a sum of four linear functions, each checked on every byte. -/
theorem mix_lin (f0 f1 f2 f3 g0 g1 g2 g3 a b c d : UInt8) :
    mix4 g0 g1 g2 g3 (mix4 f0 f1 f2 f3 a b c d) (mix4 f0 f1 f2 f3 b c d a) (mix4 f0 f1 f2 f3 c d a b) (mix4 f0 f1 f2 f3 d a b c) =
      mulB (mulB g0 f0 ^^^ (mulB g1 f3 ^^^ (mulB g2 f2 ^^^ mulB g3 f1))) a ^^^ (mulB (mulB g0 f1 ^^^ (mulB g1 f0 ^^^ (mulB g2 f3 ^^^ mulB g3 f2))) b ^^^
        (mulB (mulB g0 f2 ^^^ (mulB g1 f1 ^^^ (mulB g2 f0 ^^^ mulB g3 f3))) c ^^^ mulB (mulB g0 f3 ^^^ (mulB g1 f2 ^^^ (mulB g2 f1 ^^^ mulB g3 f0))) d)) := by
  unfold mix4
  simp only [mulB_right, mulB_left, mulB_assoc]
  ac_rfl
theorem mix_id (f0 f1 f2 f3 g0 g1 g2 g3 : UInt8) (h0 : mulB g0 f0 ^^^ (mulB g1 f3 ^^^ (mulB g2 f2 ^^^ mulB g3 f1)) = 1) (h1 : mulB g0 f1 ^^^ (mulB g1 f0 ^^^ (mulB g2 f3 ^^^ mulB g3 f2)) = 0)
    (h2 : mulB g0 f2 ^^^ (mulB g1 f1 ^^^ (mulB g2 f0 ^^^ mulB g3 f3)) = 0) (h3 : mulB g0 f3 ^^^ (mulB g1 f2 ^^^ (mulB g2 f1 ^^^ mulB g3 f0)) = 0) (b : List UInt8) (hb : b.length = 16) :
    columnsL (columnsL b [f0, f1, f2, f3]) [g0, g1, g2, g3] = b := by
  refine list16 _ _ (columnsL_len _ _) hb fun p hp => ?_
  obtain ⟨c, r, hc, hr, rfl⟩ : ∃ c r, c < 4 ∧ r < 4 ∧ p = 4 * c + r := ⟨p / 4, p % 4, by omega, by omega, by omega⟩
  rw [columnsL_at _ _ _ _ _ c r hc hr, columnsL_at _ _ _ _ _ c r hc hr, columnsL_at _ _ _ _ _ c _ hc (by omega), columnsL_at _ _ _ _ _ c _ hc (by omega), columnsL_at _ _ _ _ _ c _ hc (by omega)]
  rw [show ((r + 1) % 4 + 1) % 4 = (r + 2) % 4 by omega, show ((r + 1) % 4 + 2) % 4 = (r + 3) % 4 by omega, show ((r + 1) % 4 + 3) % 4 = r by omega,
    show ((r + 2) % 4 + 1) % 4 = (r + 3) % 4 by omega, show ((r + 2) % 4 + 2) % 4 = r by omega, show ((r + 2) % 4 + 3) % 4 = (r + 1) % 4 by omega,
    show ((r + 3) % 4 + 1) % 4 = r by omega, show ((r + 3) % 4 + 2) % 4 = (r + 1) % 4 by omega, show ((r + 3) % 4 + 3) % 4 = (r + 2) % 4 by omega]
  rw [mix_lin, h0, h1, h2, h3, mulB_one', mulB_zero', mulB_zero', mulB_zero', UInt8.xor_zero, UInt8.xor_zero, UInt8.xor_zero]
theorem columns_back (b : List UInt8) (hb : b.length = 16) : columnsL (columnsL b [2, 3, 1, 1]) [14, 11, 13, 9] = b ∧ columnsL (columnsL b [14, 11, 13, 9]) [2, 3, 1, 1] = b :=
  ⟨mix_id 2 3 1 1 14 11 13 9 (by decide +kernel) (by decide +kernel) (by decide +kernel) (by decide +kernel) b hb, mix_id 14 11 13 9 2 3 1 1 (by decide +kernel) (by decide +kernel) (by decide +kernel) (by decide +kernel) b hb⟩

theorem ifmix_len (P : Prop) [Decidable P] (x y : List UInt8) (hx : x.length = 16) (hy : y.length = 16) : (if P then x else y).length = 16 := by split <;> assumption
/-- One round taken off. -/
theorem round_off (i : Nat) (e k : List UInt8) (he : e.length = 16) (hk : k.length = 16) :
    subsL backL (rowsL (if i < 10 then columnsL (xorL (xorL (if i < 10 then columnsL (rowsL (subsL tableL e) 1) [2, 3, 1, 1] else rowsL (subsL tableL e) 1) k) k) [14, 11, 13, 9] else xorL (xorL (if i < 10 then columnsL (rowsL (subsL tableL e) 1) [2, 3, 1, 1] else rowsL (subsL tableL e) 1) k) k) 3) = e := by
  rw [xorL_twice _ k (ifmix_len _ _ _ (columnsL_len _ _) (rowsL_len _ _)) hk]
  have hs : (subsL tableL e).length = 16 := by rw [subsL_len, he]
  by_cases h : i < 10
  · rw [if_pos h, if_pos h, (columns_back _ (rowsL_len _ _)).1, (rows_back _ hs).1, (subs_back e).1]
  · rw [if_neg h, if_neg h, (rows_back _ hs).1, (subs_back e).1]
/-- One round put on again. -/
theorem round_on (i : Nat) (d k : List UInt8) (hd : d.length = 16) (hk : k.length = 16) :
    xorL (if i < 10 then columnsL (rowsL (subsL tableL (subsL backL (rowsL (if i < 10 then columnsL (xorL d k) [14, 11, 13, 9] else xorL d k) 3))) 1) [2, 3, 1, 1] else rowsL (subsL tableL (subsL backL (rowsL (if i < 10 then columnsL (xorL d k) [14, 11, 13, 9] else xorL d k) 3))) 1) k = d := by
  rw [(subs_back _).2]
  have hx : (xorL d k).length = 16 := by rw [xorL_len _ _ (by omega), hd]
  rw [(rows_back _ (ifmix_len _ _ _ (columnsL_len _ _) hx)).2]
  by_cases h : i < 10
  · rw [if_pos h, if_pos h, (columns_back _ hx).2, xorL_twice d k hd hk]
  · rw [if_neg h, if_neg h, xorL_twice d k hd hk]
theorem decUp_enc (key b : List UInt8) (hk : key.length = 16) (hb : b.length = 16) : ∀ j, j ≤ 10 → decUp key tableL backL (encL key tableL b) j = encUp key tableL b (10 - j)
  | 0, _ => rfl
  | j + 1, hj => by
    rw [decUp, decUp_enc key b hk hb j (by omega)]
    obtain ⟨i, hi⟩ : ∃ i, 10 - j = i + 1 := ⟨10 - (j + 1), by omega⟩
    rw [hi, encUp, show 10 - (j + 1) = i by omega]
    exact round_off (i + 1) _ _ (encUp_len key tableL b hk hb i (by omega)) (keyF_len key tableL hk (i + 1) (by omega))
theorem dec_enc (key b : List UInt8) (hk : key.length = 16) (hb : b.length = 16) : decL key tableL backL (encL key tableL b) = b := by
  unfold decL
  rw [decUp_enc key b hk hb 10 (by omega)]
  exact xorL_twice b _ hb (keyF_len key tableL hk 0 (by omega))
theorem encUp_dec (key c : List UInt8) (hk : key.length = 16) (hc : c.length = 16) : ∀ i, i ≤ 10 → encUp key tableL (decL key tableL backL c) i = decUp key tableL backL c (10 - i)
  | 0, _ => xorL_twice _ _ (decUp_len key tableL backL c hc 10) (keyF_len key tableL hk 0 (by omega))
  | i + 1, hi => by
    rw [encUp, encUp_dec key c hk hc i (by omega)]
    obtain ⟨j, hj⟩ : ∃ j, 10 - i = j + 1 := ⟨10 - (i + 1), by omega⟩
    rw [hj, decUp, show 10 - (i + 1) = j by omega, show 10 - j = i + 1 by omega]
    exact round_on (i + 1) _ _ (decUp_len key tableL backL c hc j) (keyF_len key tableL hk (i + 1) (by omega))
theorem enc_dec (key c : List UInt8) (hk : key.length = 16) (hc : c.length = 16) : encL key tableL (decL key tableL backL c) = c := by
  have h := encUp_dec key c hk hc 10 (by omega)
  exact h
theorem decL_len (key b : List UInt8) (hk : key.length = 16) (hb : b.length = 16) : (decL key tableL backL b).length = 16 := by
  unfold decL
  rw [xorL_len _ _ (by rw [keyF_len key tableL hk 0 (by omega), decUp_len key tableL backL b hb 10]), decUp_len key tableL backL b hb 10]
theorem encL_len (key t b : List UInt8) (hk : key.length = 16) (hb : b.length = 16) : (encL key t b).length = 16 := encUp_len key t b hk hb 10 (by omega)
theorem encL_inj (key b b' : List UInt8) (hk : key.length = 16) (hb : b.length = 16) (hb' : b'.length = 16) (h : encL key tableL b = encL key tableL b') : b = b' := by
  rw [← dec_enc key b hk hb, ← dec_enc key b' hk hb', h]
end Go.Proofs.YtmpidjadpcpbfaaGreat
