/- Layer 14, plain: halves of a text, cut, joined, trimmed, their blocks, and rows of four bits. Nothing is claimed of the program here. -/
import Derived.Test.YtkcchidklcnnnaaGreatBytes
namespace Go.Proofs.YtkcchidklcnnnaaGreat
open Go.RowKit
set_option linter.unusedVariables false
set_option linter.unusedSimpArgs false

theorem hv_byte {p : UInt8 → Prop} (h : ∀ n : Fin 256, p (UInt8.ofNat n.val)) (x : UInt8) : p x := by
  have e : UInt8.ofNat x.toNat = x := by simp
  have := h ⟨x.toNat, x.toNat_lt⟩
  simpa [e] using this

/-- The byte at a place, nought behind the end. -/
def gd (l : List UInt8) (i : Nat) : UInt8 := l.getD i 0
theorem gd_some {l : List UInt8} {i : Nat} {x : UInt8} (h : l[i]? = some x) : gd l i = x := by unfold gd; rw [List.getD_eq_getElem?_getD, h]; rfl
theorem gd_lt {l : List UInt8} {i : Nat} (h : i < l.length) : l[i]? = some (gd l i) := by unfold gd; rw [List.getD_eq_getElem?_getD, List.getElem?_eq_getElem h]; rfl
theorem gd_ge {l : List UInt8} {i : Nat} (h : l.length ≤ i) : gd l i = 0 := by unfold gd; rw [List.getD_eq_getElem?_getD, List.getElem?_eq_none h]; rfl
theorem gd_ext {a b : List UInt8} (h : a.length = b.length) (hg : ∀ i, i < a.length → gd a i = gd b i) : a = b := by
  apply List.ext_getElem? 
  intro i
  rcases Nat.lt_or_ge i a.length with hi | hi
  · rw [gd_lt hi, gd_lt (by omega), hg i hi]
  · rw [List.getElem?_eq_none hi, List.getElem?_eq_none (by omega)]
theorem gd_set (l : List UInt8) (k i : Nat) (x : UInt8) : gd (l.set k x) i = if i = k ∧ k < l.length then x else gd l i := by
  unfold gd
  simp only [List.getD_eq_getElem?_getD, List.getElem?_set]
  by_cases h : k = i
  · subst h
    by_cases h2 : k < l.length
    · simp [h2]
    · simp [h2]
  · rw [if_neg h, if_neg (fun e => h e.1.symm)]
theorem gd_take (l : List UInt8) (k i : Nat) : gd (l.take k) i = if i < k then gd l i else 0 := by
  unfold gd
  simp only [List.getD_eq_getElem?_getD, List.getElem?_take]
  split <;> rfl
theorem gd_drop (l : List UInt8) (k i : Nat) : gd (l.drop k) i = gd l (k + i) := by
  unfold gd
  simp only [List.getD_eq_getElem?_getD, List.getElem?_drop]
theorem gd_app (a b : List UInt8) (i : Nat) : gd (a ++ b) i = if i < a.length then gd a i else gd b (i - a.length) := by
  unfold gd
  simp only [List.getD_eq_getElem?_getD, List.getElem?_append]
  split <;> rfl
theorem gd_map (f : Nat → UInt8) (n i : Nat) : gd ((List.range n).map f) i = if i < n then f i else 0 := by
  rcases Nat.lt_or_ge i n with h | h
  · rw [if_pos h, gd_some (x := f i) (by simp [h])]
  · rw [if_neg (by omega), gd_ge (by simp [h])]
theorem gd_rep (n i : Nat) : gd (List.replicate n 0) i = 0 := by
  rcases Nat.lt_or_ge i n with h | h
  · exact gd_some (by simp [h])
  · exact gd_ge (by simp [h])

/-- A half's size. -/
def szN (n : Nat) : Nat := n / 2 + n % 2
def szI (z : Int) : Int := if z < 1 then 0 else ((szN z.toNat : Nat) : Int)
theorem szI_nat (n : Nat) : szI (n : Int) = (szN n : Int) := by unfold szI szN; split <;> simp <;> omega
theorem szN_le (n : Nat) (h : n ≤ 28) : szN n ≤ 14 := by unfold szN; omega
/-- May halves of a text of z bytes be so long? -/
def fitB (z : Int) (k : Nat) : Bool := decide (2 ≤ z ∧ z ≤ 28 ∧ (k : Int) = szI z)
theorem fitB_nat {z : Int} {k : Nat} (h : fitB z k = true) : ∃ n : Nat, z = (n : Int) ∧ 2 ≤ n ∧ n ≤ 28 ∧ k = szN n := by
  have h := of_decide_eq_true h
  refine ⟨z.toNat, by omega, by omega, by omega, ?_⟩
  have e : z = (z.toNat : Int) := by omega
  rw [e, szI_nat] at h
  omega
theorem fitB_mk {n : Nat} (h2 : 2 ≤ n) (h28 : n ≤ 28) : fitB (n : Int) (szN n) = true := decide_eq_true ⟨by omega, by omega, by rw [szI_nat]⟩
/-- The bits that are a half's own, and where. -/
def maskB (n : Nat) (left : Bool) : UInt8 := if n % 2 = 0 then 255 else if left then 240 else 15
def edgeN (k : Nat) (left : Bool) : Nat := if left then k - 1 else 0
/-- A valid half of bytes. -/
def trimL (l : List UInt8) (n : Nat) (left : Bool) : List UInt8 := l.set (edgeN l.length left) (gd l (edgeN l.length left) &&& maskB n left)
theorem trim_len (l : List UInt8) (n : Nat) (left : Bool) : (trimL l n left).length = l.length := by unfold trimL; simp
theorem trim_gd (l : List UInt8) (n i : Nat) (left : Bool) : gd (trimL l n left) i = if i = edgeN l.length left ∧ i < l.length then gd l i &&& maskB n left else gd l i := by
  unfold trimL
  rw [gd_set]
  by_cases h : i = edgeN l.length left
  · subst h; rfl
  · rw [if_neg (fun e => h e.1), if_neg (fun e => h e.1)]
/-- Trim's answer. -/
def trimR (l : List UInt8) (z : Int) (left : Bool) : List UInt8 × Int := if fitB z l.length then (trimL l z.toNat left, 0) else ([], 11)
/-- Cut's answer. -/
def cutR (b : List UInt8) : List UInt8 × List UInt8 × Int :=
  if 2 ≤ b.length ∧ b.length ≤ 28 then (trimL (b.take (szN b.length)) b.length true, trimL (b.drop (b.length - szN b.length)) b.length false, 0) else ([], [], 11)
/-- Has a half bits that are not its own? -/
def badB (l : List UInt8) (n : Nat) (left : Bool) : Bool := decide (gd l (edgeN l.length left) &&& ~~~ maskB n left ≠ 0)
/-- The bytes of halves. -/
def joinL (l r : List UInt8) (n : Nat) : List UInt8 := (List.range n).map fun i => gd l i ||| (if i < n - szN n then 0 else gd r (i - (n - szN n)))
theorem join_len (l r : List UInt8) (n : Nat) : (joinL l r n).length = n := by unfold joinL; simp
/-- Join's answer. -/
def joinR (l r : List UInt8) (z : Int) : List UInt8 × Int :=
  if (fitB z l.length && fitB z r.length) = true then (if (badB l z.toNat true || badB r z.toNat false) = true then ([], 10) else (joinL l r z.toNat, 0)) else ([], 11)
/-- A half's block. -/
def blockL (l : List UInt8) (n p : Nat) : List UInt8 := l ++ List.replicate (14 - l.length) 0 ++ [UInt8.ofNat n, UInt8.ofNat p]
def blockR (l : List UInt8) (z p : Int) : List UInt8 × Int :=
  if (fitB z l.length && decide (0 ≤ p ∧ p ≤ 255)) = true then (blockL l z.toNat p.toNat, 0) else ([], 11)

theorem b_255 (x : UInt8) : x &&& 255 = x := hv_byte (p := fun x => x &&& 255 = x) (by decide +kernel) x
theorem b_twice (x m : UInt8) : x &&& m &&& m = x &&& m := by rw [UInt8.and_assoc, UInt8.and_self]
theorem b_own (x : UInt8) (n : Nat) (left : Bool) : (x &&& maskB n left) &&& ~~~ maskB n left = 0 := by
  unfold maskB
  split
  · exact hv_byte (p := fun x => (x &&& 255) &&& ~~~255 = 0) (by decide +kernel) x
  · split
    · exact hv_byte (p := fun x => (x &&& 240) &&& ~~~240 = 0) (by decide +kernel) x
    · exact hv_byte (p := fun x => (x &&& 15) &&& ~~~15 = 0) (by decide +kernel) x
theorem b_both (x : UInt8) : (x &&& 240) ||| (x &&& 15) = x := hv_byte (p := fun x => (x &&& 240) ||| (x &&& 15) = x) (by decide +kernel) x
theorem b_or_and (x y m : UInt8) : (x ||| y) &&& m = (x &&& m) ||| (y &&& m) := by
  apply UInt8.toBitVec_inj.1
  rw [UInt8.toBitVec_and, UInt8.toBitVec_or, UInt8.toBitVec_or, UInt8.toBitVec_and, UInt8.toBitVec_and]
  ext i hi
  simp [Bool.and_or_distrib_right]
theorem b_hi (x y : UInt8) : ((x &&& 240) ||| (y &&& 15)) &&& 240 = x &&& 240 := by
  have h : ∀ y : UInt8, (y &&& 15) &&& 240 = 0 := fun y => hv_byte (p := fun y => (y &&& 15) &&& 240 = 0) (by decide +kernel) y
  rw [b_or_and, h, b_twice, UInt8.or_zero]
theorem b_lo (x y : UInt8) : ((x &&& 240) ||| (y &&& 15)) &&& 15 = y &&& 15 := by
  have h : ∀ y : UInt8, (y &&& 240) &&& 15 = 0 := fun y => hv_byte (p := fun y => (y &&& 240) &&& 15 = 0) (by decide +kernel) y
  rw [b_or_and, h, b_twice, UInt8.zero_or]

/-- What is trimmed is trimmed. -/
theorem trim_twice (l : List UInt8) (n : Nat) (left : Bool) : trimL (trimL l n left) n left = trimL l n left := by
  refine gd_ext (by rw [trim_len]) fun i hi => ?_
  rw [trim_gd, trim_len]
  split
  · rename_i h
    rw [trim_gd, if_pos h, b_twice]
  · rfl
theorem trim_good (l : List UInt8) (n : Nat) (left : Bool) (h : 0 < l.length) : badB (trimL l n left) n left = false := by
  unfold badB
  rw [trim_len, trim_gd, if_pos ⟨rfl, by unfold edgeN; split <;> omega⟩, b_own]
  rfl
/-- Halves that are joined are cut as they were. -/
theorem cut_join (x r : List UInt8) (n : Nat) (h2 : 2 ≤ n) (h28 : n ≤ 28) (hx : x.length = szN n) (hr : r.length = szN n) (tx : trimL x n true = x) (tr : trimL r n false = r) :
    cutR (joinL x r n) = (x, r, 0) := by
  unfold cutR
  rw [join_len, if_pos ⟨h2, h28⟩]
  have hs : szN n ≤ n ∧ 2 * szN n = n + n % 2 ∧ 0 < szN n := by unfold szN; omega
  have e1 : trimL ((joinL x r n).take (szN n)) n true = x := by
    refine gd_ext (by rw [trim_len, List.length_take, join_len]; omega) fun i hi => ?_
    rw [trim_len, List.length_take, join_len] at hi
    have ti := congrArg (fun l => gd l i) tx
    simp only [trim_gd] at ti
    rw [trim_gd, List.length_take, join_len, gd_take, if_pos (show i < szN n by omega)]
    unfold joinL
    rw [gd_map, if_pos (show i < n by omega)]
    unfold edgeN at ti ⊢
    simp only [if_true] at ti ⊢
    have e : min (szN n) n = x.length := by omega
    rw [e]
    by_cases hi1 : i < n - szN n
    · rw [if_pos hi1, UInt8.or_zero]; exact ti
    · have hm : n % 2 = 1 := by omega
      have hie : i = x.length - 1 := by omega
      have h0 : i - (n - szN n) = 0 := by omega
      rw [if_neg hi1, h0]
      rw [if_pos ⟨hie, by omega⟩] at ti ⊢
      have t0 := congrArg (fun l => gd l 0) tr
      simp only [trim_gd] at t0
      unfold edgeN at t0
      simp only [Bool.false_eq_true, if_false, if_true, true_and] at t0
      rw [if_pos (by omega)] at t0
      unfold maskB at ti t0 ⊢
      rw [if_neg (by omega)] at ti t0 ⊢
      simp only [Bool.false_eq_true, if_false, if_true] at ti t0 ⊢
      rw [← ti, ← t0, b_hi]
  have e2 : trimL ((joinL x r n).drop (n - szN n)) n false = r := by
    refine gd_ext (by rw [trim_len, List.length_drop, join_len]; omega) fun i hi => ?_
    rw [trim_len, List.length_drop, join_len] at hi
    have ti := congrArg (fun l => gd l i) tr
    simp only [trim_gd] at ti
    rw [trim_gd, gd_drop, List.length_drop, join_len]
    unfold joinL
    rw [gd_map, if_pos (show n - szN n + i < n by omega), if_neg (show ¬ (n - szN n + i < n - szN n) by omega)]
    have e0 : n - szN n + i - (n - szN n) = i := by omega
    rw [e0]
    unfold edgeN at ti ⊢
    simp only [Bool.false_eq_true, if_false] at ti ⊢
    by_cases hi1 : szN n ≤ n - szN n + i
    · rw [gd_ge (l := x) (by omega), UInt8.zero_or]
      have e : n - (n - szN n) = r.length := by omega
      rw [e]; exact ti
    · have hm : n % 2 = 1 := by omega
      obtain rfl : i = 0 := by omega
      rw [if_pos ⟨rfl, by omega⟩] at ti ⊢
      have e3 : n - szN n + 0 = x.length - 1 := by omega
      rw [e3]
      have t0 := congrArg (fun l => gd l (x.length - 1)) tx
      simp only [trim_gd] at t0
      unfold edgeN at t0
      simp only [if_true, true_and] at t0
      rw [if_pos (by omega)] at t0
      unfold maskB at ti t0 ⊢
      rw [if_neg (by omega)] at ti t0 ⊢
      simp only [Bool.false_eq_true, if_false, if_true] at ti t0 ⊢
      rw [← ti, ← t0, b_lo]
  rw [e1, e2]
/-- What is cut is joined as it was. -/
theorem join_cut (b : List UInt8) (h2 : 2 ≤ b.length) (h28 : b.length ≤ 28) : joinL (cutR b).1 (cutR b).2.1 b.length = b := by
  obtain ⟨n, hn⟩ : ∃ n, b.length = n := ⟨_, rfl⟩
  unfold cutR
  rw [hn] at h2 h28 ⊢
  rw [if_pos ⟨h2, h28⟩]
  have hs : szN n ≤ n ∧ 2 * szN n = n + n % 2 ∧ 0 < szN n := by unfold szN; omega
  refine gd_ext (by rw [join_len, hn]) fun i hi => ?_
  rw [join_len] at hi
  unfold joinL
  simp only
  rw [gd_map, if_pos hi, trim_gd, trim_gd, gd_take, gd_drop, List.length_take, List.length_drop, hn]
  have em : min (szN n) n = szN n := by omega
  have ed : n - (n - szN n) = szN n := by omega
  rw [em, ed]
  unfold edgeN
  simp only [Bool.false_eq_true, if_false, if_true]
  by_cases hi1 : i < n - szN n
  · rw [if_pos hi1, if_pos (by omega : i < szN n), UInt8.or_zero]
    by_cases he : i = szN n - 1 ∧ i < szN n
    · rw [if_pos he]
      unfold maskB
      rw [if_pos (by omega), b_255]
    · rw [if_neg he]
  · rw [if_neg hi1]
    have e0 : n - szN n + (i - (n - szN n)) = i := by omega
    rw [e0]
    by_cases hi2 : i < szN n
    · have hm : n % 2 = 1 := by omega
      have hie : i = szN n - 1 := by omega
      have hi0 : i - (n - szN n) = 0 := by omega
      rw [if_pos ⟨hie, hi2⟩, if_pos hi2, if_pos ⟨hi0, by omega⟩]
      unfold maskB
      have hm2 : ¬ n % 2 = 0 := by omega
      simp only [if_neg hm2, Bool.false_eq_true, if_false, if_true]
      exact b_both _
    · rw [if_neg (fun h => hi2 h.2), if_neg hi2, UInt8.zero_or]
      by_cases he : i - (n - szN n) = 0 ∧ i - (n - szN n) < szN n
      · rw [if_pos he]
        unfold maskB
        rw [if_pos (by omega), b_255]
      · rw [if_neg he]
theorem cut_parts (b : List UInt8) (h2 : 2 ≤ b.length) (h28 : b.length ≤ 28) :
    (cutR b).2.2 = 0 ∧ (cutR b).1.length = szN b.length ∧ (cutR b).2.1.length = szN b.length ∧ trimL (cutR b).1 b.length true = (cutR b).1 ∧ trimL (cutR b).2.1 b.length false = (cutR b).2.1 := by
  unfold cutR
  rw [if_pos ⟨h2, h28⟩]
  have hs : szN b.length ≤ b.length := by unfold szN; omega
  exact ⟨rfl, by rw [trim_len, List.length_take]; omega, by rw [trim_len, List.length_drop]; omega, trim_twice _ _ _, trim_twice _ _ _⟩
theorem join_ok (x r : List UInt8) (n : Nat) (h2 : 2 ≤ n) (h28 : n ≤ 28) (hx : x.length = szN n) (hr : r.length = szN n) (tx : trimL x n true = x) (tr : trimL r n false = r) : joinR x r (n : Int) = (joinL x r n, 0) := by
  have hs : 0 < szN n := by unfold szN; omega
  unfold joinR
  have e1 : badB x n true = false := by rw [← tx]; exact trim_good x n true (by omega)
  have e2 : badB r n false = false := by rw [← tr]; exact trim_good r n false (by omega)
  rw [hx, hr, fitB_mk h2 h28, Int.toNat_natCast, e1, e2]
  rfl
theorem trim_ok (l : List UInt8) (n : Nat) (left : Bool) (h2 : 2 ≤ n) (h28 : n ≤ 28) (hl : l.length = szN n) : trimR l (n : Int) left = (trimL l n left, 0) := by
  unfold trimR
  rw [hl, fitB_mk h2 h28]
  rfl
theorem block_ok (l : List UInt8) (n p : Nat) (h2 : 2 ≤ n) (h28 : n ≤ 28) (hl : l.length = szN n) (hp : p ≤ 255) : blockR l (n : Int) (p : Int) = (blockL l n p, 0) := by
  unfold blockR
  rw [hl, fitB_mk h2 h28, decide_eq_true (by omega : 0 ≤ (p : Int) ∧ (p : Int) ≤ 255)]
  rfl
theorem block_len (l : List UInt8) (n p : Nat) (h : l.length ≤ 14) : (blockL l n p).length = 16 := by unfold blockL; simp; omega
theorem block_gd (l : List UInt8) (n p i : Nat) (h : l.length ≤ 14) : gd (blockL l n p) i = if i < l.length then gd l i else if i < 14 then 0 else if i = 14 then UInt8.ofNat n else if i = 15 then UInt8.ofNat p else 0 := by
  unfold blockL
  rw [gd_app, gd_app]
  simp only [List.length_append, List.length_replicate, gd_rep]
  by_cases h1 : i < l.length
  · rw [if_pos (by omega), if_pos h1, if_pos h1]
  · rw [if_neg h1, if_neg h1]
    by_cases h2 : i < 14
    · rw [if_pos (by omega), if_pos h2]
    · rw [if_neg (by omega), if_neg h2]
      have e : l.length + (14 - l.length) = 14 := by omega
      rw [e]
      by_cases h3 : i = 14
      · subst h3; rfl
      · by_cases h4 : i = 15
        · subst h4; rfl
        · rw [if_neg h3, if_neg h4]
          exact gd_ge (by simp; omega)

/-- Bytes as rows of four bits, and back. -/
def foursL (l : List UInt8) : List UInt8 := (List.range (2 * l.length)).map fun i => if i % 2 = 0 then gd l (i / 2) / 16 else gd l (i / 2) % 16
def pairsL (f : List UInt8) : List UInt8 := (List.range (f.length / 2)).map fun i => gd f (2 * i) * 16 + gd f (2 * i + 1)
theorem fours_len (l : List UInt8) : (foursL l).length = 2 * l.length := by unfold foursL; simp
theorem pairs_len (l : List UInt8) : (pairsL l).length = l.length / 2 := by unfold pairsL; simp
theorem fours_gd (l : List UInt8) (i : Nat) : gd (foursL l) i = if i % 2 = 0 then gd l (i / 2) / 16 else gd l (i / 2) % 16 := by
  unfold foursL
  rw [gd_map]
  rcases Nat.lt_or_ge i (2 * l.length) with h | h
  · rw [if_pos h]
  · rw [if_neg (by omega), gd_ge (l := l) (by omega)]
    split <;> rfl
theorem fours_snoc {l : List UInt8} {k : Nat} {x : UInt8} (h : l[k]? = some x) : foursL (l.take (k + 1)) = foursL (l.take k) ++ [x / 16, x % 16] := by
  have hk : k < l.length := (List.getElem?_eq_some_iff.1 h).1
  refine gd_ext (by simp [fours_len]; omega) fun i hi => ?_
  rw [fours_len, List.length_take] at hi
  rw [gd_app, fours_len, fours_gd, fours_gd, gd_take, gd_take, List.length_take]
  have e : 2 * min k l.length = 2 * k := by omega
  rw [e, if_pos (by omega : i / 2 < k + 1)]
  by_cases h1 : i < 2 * k
  · rw [if_pos h1, if_pos (show i / 2 < k by omega)]
  · rw [if_neg h1]
    have e2 : i / 2 = k := by omega
    rw [e2, gd_some h]
    by_cases h3 : i % 2 = 0
    · have e4 : i - 2 * k = 0 := by omega
      rw [if_pos h3, e4]; rfl
    · have e4 : i - 2 * k = 1 := by omega
      rw [if_neg h3, e4]; rfl
theorem pairs_snoc {f : List UInt8} {k : Nat} {x y : UInt8} (hx : f[2 * k]? = some x) (hy : f[2 * k + 1]? = some y) : pairsL (f.take (2 * k + 2)) = pairsL (f.take (2 * k)) ++ [x * 16 + y] := by
  have hk : 2 * k + 1 < f.length := (List.getElem?_eq_some_iff.1 hy).1
  have e1 : min (2 * k + 2) f.length = 2 * k + 2 := by omega
  have e2 : min (2 * k) f.length = 2 * k := by omega
  unfold pairsL
  rw [List.length_take, List.length_take, e1, e2, show (2 * k + 2) / 2 = k + 1 by omega, show 2 * k / 2 = k by omega, List.range_succ, List.map_append]
  congr 1
  · apply List.map_congr_left
    intro i hi
    have := List.mem_range.1 hi
    simp only [gd_take]
    rw [if_pos (by omega), if_pos (by omega), if_pos (by omega), if_pos (by omega)]
  · simp only [List.map_cons, List.map_nil, gd_take]
    rw [if_pos (by omega), if_pos (by omega), gd_some hx, gd_some hy]
theorem pairs_gd (f : List UInt8) (i : Nat) : gd (pairsL f) i = if i < f.length / 2 then gd f (2 * i) * 16 + gd f (2 * i + 1) else 0 := by
  unfold pairsL
  rw [gd_map]
theorem b_back (x : UInt8) : x / 16 * 16 + x % 16 = x := hv_byte (p := fun x => x / 16 * 16 + x % 16 = x) (by decide +kernel) x
theorem b_back_hi (x : UInt8) : x / 16 * 16 + 0 = x &&& 240 := hv_byte (p := fun x => x / 16 * 16 + 0 = x &&& 240) (by decide +kernel) x
theorem b_back_lo (x : UInt8) : 0 * 16 + x % 16 = x &&& 15 := hv_byte (p := fun x => 0 * 16 + x % 16 = x &&& 15) (by decide +kernel) x
theorem b_mod0 (x : UInt8) : decide (x &&& ~~~240 ≠ 0) = decide (x % 16 ≠ 0) := hv_byte (p := fun x => decide (x &&& ~~~240 ≠ 0) = decide (x % 16 ≠ 0)) (by decide +kernel) x
theorem b_div0 (x : UInt8) : decide (x &&& ~~~15 ≠ 0) = decide (x / 16 ≠ 0) := hv_byte (p := fun x => decide (x &&& ~~~15 ≠ 0) = decide (x / 16 ≠ 0)) (by decide +kernel) x
theorem b_all0 (x : UInt8) : decide (x &&& ~~~255 ≠ 0) = false := hv_byte (p := fun x => decide (x &&& ~~~255 ≠ 0) = false) (by decide +kernel) x

/-- Trimmed by fours. -/
theorem trim_fours (l : List UInt8) (n : Nat) (left : Bool) (hl : l.length = szN n) (h2 : 2 ≤ n) :
    trimL l n left = pairsL (if n % 2 = 1 then (foursL l).set (if left then n else 0) 0 else foursL l) := by
  have hs : szN n ≤ n ∧ 2 * szN n = n + n % 2 ∧ 0 < szN n := by unfold szN; omega
  refine gd_ext (by rw [trim_len, pairs_len]; split <;> simp [fours_len]) fun i hi => ?_
  rw [trim_len] at hi
  rw [trim_gd, pairs_gd]
  by_cases hm : n % 2 = 1
  · rw [if_pos hm, List.length_set, fours_len, if_pos (show i < 2 * l.length / 2 by omega), gd_set, gd_set, fours_len, fours_gd, fours_gd]
    rw [if_pos (by omega : 2 * i % 2 = 0), if_neg (by omega : ¬ (2 * i + 1) % 2 = 0), show 2 * i / 2 = i by omega, show (2 * i + 1) / 2 = i by omega]
    cases left
    · unfold edgeN maskB
      simp only [Bool.false_eq_true, if_false]
      rw [if_neg (by omega : ¬ n % 2 = 0), if_neg (by omega : ¬ (2 * i + 1 = 0 ∧ 0 < 2 * l.length))]
      by_cases h0 : i = 0
      · rw [if_pos ⟨h0, hi⟩, if_pos (by omega), b_back_lo]
      · rw [if_neg (fun e => h0 e.1), if_neg (by omega), b_back]
    · unfold edgeN maskB
      simp only [if_true]
      rw [if_neg (by omega : ¬ n % 2 = 0), if_neg (by omega : ¬ (2 * i = n ∧ n < 2 * l.length))]
      by_cases h0 : i = l.length - 1
      · rw [if_pos ⟨h0, hi⟩, if_pos (by omega), b_back_hi]
      · rw [if_neg (fun e => h0 e.1), if_neg (by omega), b_back]
  · rw [if_neg hm, fours_len, if_pos (show i < 2 * l.length / 2 by omega), fours_gd, fours_gd]
    rw [if_pos (by omega : 2 * i % 2 = 0), if_neg (by omega : ¬ (2 * i + 1) % 2 = 0), show 2 * i / 2 = i by omega, show (2 * i + 1) / 2 = i by omega, b_back]
    unfold maskB
    rw [if_pos (show n % 2 = 0 by omega), b_255]
    split <;> rfl
/-- Cut by fours. -/
theorem cut_fours (b : List UInt8) (h2 : 2 ≤ b.length) (h28 : b.length ≤ 28) :
    cutR b = (pairsL ((foursL b).take b.length ++ if b.length % 2 = 1 then [0] else []), pairsL ((if b.length % 2 = 1 then [0] else []) ++ (foursL b).drop b.length), 0) := by
  obtain ⟨n, hn⟩ : ∃ n, b.length = n := ⟨_, rfl⟩
  unfold cutR
  rw [hn] at h2 h28 ⊢
  rw [if_pos ⟨h2, h28⟩]
  have hs : szN n ≤ n ∧ 2 * szN n = n + n % 2 ∧ 0 < szN n := by unfold szN; omega
  have lt : (b.take (szN n)).length = szN n := by rw [List.length_take]; omega
  have ld : (b.drop (n - szN n)).length = szN n := by rw [List.length_drop]; omega
  have lo : (if n % 2 = 1 then [0] else [] : List UInt8).length = n % 2 := by split <;> simp <;> omega
  refine Prod.ext ?_ (Prod.ext ?_ rfl)
  · simp only
    rw [trim_fours _ n true lt h2]
    congr 1
    have lf : (foursL (b.take (szN n))).length = 2 * szN n := by rw [fours_len, lt]
    refine gd_ext ?_ fun i hi => ?_
    · rw [List.length_append, List.length_take, fours_len, lo]
      split
      · rw [List.length_set, lf]; omega
      · rw [lf]; omega
    · have hi' : i < 2 * szN n := by
        split at hi
        · rwa [List.length_set, lf] at hi
        · rwa [lf] at hi
      rw [gd_app, List.length_take, fours_len, gd_take, show min n (2 * b.length) = n by omega]
      by_cases hm : n % 2 = 1
      · rw [if_pos hm, if_pos hm, gd_set, lf, fours_gd, gd_take, fours_gd, if_pos rfl]
        rw [if_pos (show i / 2 < szN n by omega)]
        by_cases h1 : i < n
        · rw [if_pos h1, if_pos h1, if_neg (show ¬ (i = n ∧ n < 2 * szN n) by omega)]
        · rw [if_neg h1, if_pos (show i = n ∧ n < 2 * szN n by omega), show i - n = 0 by omega]; rfl
      · rw [if_neg hm, fours_gd, gd_take, fours_gd, if_pos (show i / 2 < szN n by omega), if_pos (show i < n by omega), if_pos (show i < n by omega)]
  · simp only
    rw [trim_fours _ n false ld h2]
    congr 1
    have lf : (foursL (b.drop (n - szN n))).length = 2 * szN n := by rw [fours_len, ld]
    refine gd_ext ?_ fun i hi => ?_
    · rw [List.length_append, List.length_drop, fours_len, lo]
      split
      · rw [List.length_set, lf]; omega
      · rw [lf]; omega
    · have hi' : i < 2 * szN n := by
        split at hi
        · rwa [List.length_set, lf] at hi
        · rwa [lf] at hi
      rw [gd_app, lo, gd_drop]
      by_cases hm : n % 2 = 1
      · rw [if_pos hm, if_pos hm, gd_set, lf, fours_gd, gd_drop, fours_gd]
        simp only [Bool.false_eq_true, if_false]
        by_cases h1 : i = 0
        · rw [if_pos (show i = 0 ∧ 0 < 2 * szN n by omega), if_pos (show i < n % 2 by omega), h1]; rfl
        · rw [if_neg (show ¬ (i = 0 ∧ 0 < 2 * szN n) by omega), if_neg (show ¬ i < n % 2 by omega), show (n + (i - n % 2)) / 2 = n - szN n + i / 2 by omega]
          by_cases h3 : i % 2 = 0
          · rw [if_pos h3, if_pos (show (n + (i - n % 2)) % 2 = 0 by omega)]
          · rw [if_neg h3, if_neg (show ¬ (n + (i - n % 2)) % 2 = 0 by omega)]
      · rw [if_neg hm, if_neg (show ¬ i < n % 2 by omega), fours_gd, gd_drop, fours_gd, show (n + (i - n % 2)) / 2 = n - szN n + i / 2 by omega]
        by_cases h3 : i % 2 = 0
        · rw [if_pos h3, if_pos (show (n + (i - n % 2)) % 2 = 0 by omega)]
        · rw [if_neg h3, if_neg (show ¬ (n + (i - n % 2)) % 2 = 0 by omega)]
theorem or_add (x y : UInt8) (hx : x % 16 = 0) (hy : y / 16 = 0) : x / 16 * 16 + y % 16 = x ||| y := by
  have e1 : x / 16 * 16 + 0 = x &&& 240 := b_back_hi x
  have h1 : x &&& 240 = x := by
    have := hv_byte (p := fun x => x % 16 = 0 → x &&& 240 = x) (by decide +kernel) x
    exact this hx
  have h2 : y % 16 = y := by
    have := hv_byte (p := fun x => x / 16 = 0 → x % 16 = x) (by decide +kernel) y
    exact this hy
  have h3 : y &&& 15 = y := by
    have := hv_byte (p := fun x => x / 16 = 0 → x &&& 15 = x) (by decide +kernel) y
    exact this hy
  have e2 : x / 16 * 16 = x := by rw [← UInt8.add_zero (x / 16 * 16), e1, h1]
  rw [e2, h2]
  apply UInt8.toNat_inj.1
  rw [UInt8.toNat_add, UInt8.toNat_or]
  have hx' : x.toNat % 16 = 0 := by have := congrArg UInt8.toNat hx; simpa using this
  have hy' : y.toNat < 16 := by have := congrArg UInt8.toNat hy; simp at this; omega
  have := x.toNat_lt
  obtain ⟨q, hq⟩ : ∃ q, x.toNat = 2 ^ 4 * q := ⟨x.toNat / 16, by omega⟩
  rw [hq, ← Nat.two_pow_add_eq_or_of_lt (by omega)]
  omega
/-- Joined by fours. -/
theorem join_fours (l r : List UInt8) (n : Nat) (h2 : 2 ≤ n) (h28 : n ≤ 28) (hl : l.length = szN n) (hr : r.length = szN n) (bl : n % 2 = 1 → gd l (szN n - 1) % 16 = 0) (br : n % 2 = 1 → gd r 0 / 16 = 0) :
    joinL l r n = pairsL ((foursL l).take n ++ (foursL r).drop (n % 2)) := by
  have hs : szN n ≤ n ∧ 2 * szN n = n + n % 2 ∧ 0 < szN n := by unfold szN; omega
  have lf : ((foursL l).take n ++ (foursL r).drop (n % 2)).length = 2 * n := by
    rw [List.length_append, List.length_take, List.length_drop, fours_len, fours_len]; omega
  refine gd_ext (by rw [join_len, pairs_len, lf]; omega) fun i hi => ?_
  rw [join_len] at hi
  rw [pairs_gd, lf, if_pos (by omega), gd_app, gd_app, List.length_take, fours_len, gd_take, gd_take, gd_drop, gd_drop, fours_gd, fours_gd, fours_gd, fours_gd]
  unfold joinL
  rw [gd_map, if_pos hi, show min n (2 * l.length) = n by omega, if_pos (by omega : 2 * i % 2 = 0), if_neg (by omega : ¬ (2 * i + 1) % 2 = 0), show 2 * i / 2 = i by omega, show (2 * i + 1) / 2 = i by omega]
  by_cases h1 : i < n - szN n
  · rw [if_pos h1, if_pos (by omega), if_pos (by omega), if_pos (by omega), if_pos (by omega), b_back, UInt8.or_zero]
  · rw [if_neg h1]
    by_cases h3 : i < szN n
    · have hm : n % 2 = 1 := by omega
      have hi0 : i - (n - szN n) = 0 := by omega
      have b1 := bl hm
      have b2 := br hm
      rw [if_pos (by omega), if_pos (by omega), if_neg (by omega), if_neg (by omega), hi0, show (n % 2 + (2 * i + 1 - n)) / 2 = 0 by omega]
      have hie : i = szN n - 1 := by omega
      rw [← hie] at b1
      exact (or_add _ _ b1 b2).symm
    · rw [if_neg (show ¬ 2 * i < n by omega), if_neg (show ¬ 2 * i + 1 < n by omega), gd_ge (l := l) (by omega), UInt8.zero_or, if_pos (show (n % 2 + (2 * i - n)) % 2 = 0 by omega), if_neg (show ¬ (n % 2 + (2 * i + 1 - n)) % 2 = 0 by omega)]
      rw [show (n % 2 + (2 * i - n)) / 2 = i - (n - szN n) by omega, show (n % 2 + (2 * i + 1 - n)) / 2 = i - (n - szN n) by omega, b_back]
end Go.Proofs.YtkcchidklcnnnaaGreat
