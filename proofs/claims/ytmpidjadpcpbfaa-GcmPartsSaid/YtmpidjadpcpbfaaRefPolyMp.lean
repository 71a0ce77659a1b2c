/- The reference of layer 4 (poly): products. No conditions. -/
import Derived.Test.YtmpidjadpcpbfaaRefPolyAll
import Derived.Test.YtmpidjadpcpbfaaGfAll
namespace Go.Proofs.Ytmpidjadpcpbfaa
open Go.RowKit
set_option linter.unusedVariables false

/-- Coefficients as a list. -/
def fl (n : Nat) (F : Nat → Bool) : List Bool := (List.range n).map F
theorem fl_len (n : Nat) (F : Nat → Bool) : (fl n F).length = n := by simp [fl]
theorem fl_at (n : Nat) (F : Nat → Bool) (p : Nat) (hp : p < n) : (fl n F)[p]? = some (F p) := by simp [fl, hp]
theorem fl_congr (n : Nat) (F G : Nat → Bool) (h : ∀ p, p < n → F p = G p) : fl n F = fl n G := by
  unfold fl
  exact List.map_congr_left (fun p hp => h p (List.mem_range.1 hp))
def upB (F : Nat → Bool) (k : Nat) (v : Bool) (p : Nat) : Bool := if p = k then v else F p
theorem fl_set (n : Nat) (F : Nat → Bool) (k : Nat) (v : Bool) (hk : k < n) : (fl n F).set k v = fl n (upB F k v) := by
  apply List.ext_getElem?
  intro j
  rw [List.getElem?_set, fl_len]
  by_cases hj : j < n
  · rw [fl_at n _ j hj, fl_at n _ j hj]
    unfold upB
    by_cases e : k = j
    · subst e; rw [if_pos rfl, if_pos hj, if_pos rfl]
    · rw [if_neg e, if_neg (fun h => e h.symm)]
  · rw [List.getElem?_eq_none (by rw [fl_len]; omega), List.getElem?_eq_none (by rw [fl_len]; omega)]
    by_cases e : k = j
    · omega
    · rw [if_neg e]
theorem Br.put {w : World} {g n : Nat} {F : Nat → Bool} (h : Br w g 0 (fl n F)) (k : Nat) (v : Bool) (hk : k < n) : Br (w.setCell ⟨g, k, none⟩ (.bool v)) g 0 (fl n (upB F k v)) := by
  have h1 := h.set (k := k) (by rw [fl_len]; exact hk) v
  rw [fl_set n F k v hk, Nat.zero_add] at h1
  exact h1
theorem Br.get {w : World} {g n : Nat} {F : Nat → Bool} (h : Br w g 0 (fl n F)) (k : Nat) (hk : k < n) : w.cell? ⟨g, k, none⟩ = some (.bool (F k)) ∧ w.frozen? ⟨g, k, none⟩ = false := by
  have h1 := h.cell (fl_at n F k hk)
  have h2 := h.free (j := k) (by rw [fl_len]; exact hk)
  rw [Nat.zero_add] at h1 h2
  exact ⟨h1, h2⟩
theorem Br.like {w : World} {g n : Nat} {F G : Nat → Bool} (h : Br w g 0 (fl n F)) (e : ∀ p, p < n → F p = G p) : Br w g 0 (fl n G) := by rw [← fl_congr n F G e]; exact h
def zN : List Bool := List.replicate 255 false
theorem zN_len : zN.length = 255 := List.length_replicate
theorem zN_fl : zN = fl 255 (fun _ => false) := by
  apply List.ext_getElem?
  intro j
  by_cases hj : j < 255
  · rw [fl_at 255 _ j hj]; unfold zN; rw [List.getElem?_replicate, if_pos hj]
  · rw [List.getElem?_eq_none (by rw [zN_len]; omega), List.getElem?_eq_none (by rw [fl_len]; omega)]
/-- A row being added, k coefficients in. -/
def cvI (A B : Nat → Bool) (i k p : Nat) : Bool := if i ≤ p ∧ p < i + k then cvF A B i p != B (p - i) else cvF A B i p
theorem cvI_step (A B : Nat → Bool) (i k p : Nat) : upB (cvI A B i k) (i + k) (cvI A B i k (i + k) != B k) p = cvI A B i (k + 1) p := by
  unfold upB cvI
  by_cases e : p = i + k
  · subst e
    rw [if_pos rfl, if_neg (by omega), if_pos (by omega), show i + k - i = k by omega]
  · rw [if_neg e]
    by_cases h : i ≤ p ∧ p < i + k
    · rw [if_pos h, if_pos (by omega)]
    · rw [if_neg h, if_neg (by omega)]
theorem cvI_zero (A B : Nat → Bool) (i p : Nat) : cvI A B i 0 p = cvF A B i p := by unfold cvI; rw [if_neg (by omega)]
theorem cvI_all (A B : Nat → Bool) (i p : Nat) (h : A i = true) : cvI A B i 128 p = cvF A B (i + 1) p := by
  unfold cvI
  rw [cvF, h, Bool.true_and]
  by_cases h1 : i ≤ p
  · by_cases h2 : p < i + 128
    · rw [if_pos ⟨h1, h2⟩, decide_eq_true h1, decide_eq_true h2]; simp
    · rw [if_neg (by omega), decide_eq_false h2]; simp
  · rw [if_neg (by omega), decide_eq_false h1]; simp
theorem cvF_skip (A B : Nat → Bool) (i p : Nat) (h : A i = false) : cvF A B i p = cvF A B (i + 1) p := by rw [cvF, h]; simp
theorem rd_flip (F : Nat → Bool) (k p : Nat) (hk : 128 ≤ k) (h : F k = true) :
    upB (upB (upB (upB (upB F k false) (k - 128) (!F (k - 128))) (k - 127) (!F (k - 127))) (k - 126) (!F (k - 126))) (k - 121) (!F (k - 121)) p = rdF F k p := by
  unfold upB rdF modE
  rw [h, Bool.true_and]
  by_cases e1 : p = k - 121
  · rw [if_pos e1, e1]
    rw [beq_eq_false_iff_ne.2 (show k - 121 ≠ k by omega), beq_eq_false_iff_ne.2 (show k - 121 ≠ k - 128 by omega), beq_eq_false_iff_ne.2 (show k - 121 ≠ k - 127 by omega), beq_eq_false_iff_ne.2 (show k - 121 ≠ k - 126 by omega)]
    simp
  · rw [if_neg e1, beq_eq_false_iff_ne.2 e1]
    by_cases e2 : p = k - 126
    · rw [if_pos e2, e2]
      rw [beq_eq_false_iff_ne.2 (show k - 126 ≠ k by omega), beq_eq_false_iff_ne.2 (show k - 126 ≠ k - 128 by omega), beq_eq_false_iff_ne.2 (show k - 126 ≠ k - 127 by omega)]
      simp
    · rw [if_neg e2, beq_eq_false_iff_ne.2 e2]
      by_cases e3 : p = k - 127
      · rw [if_pos e3, e3]
        rw [beq_eq_false_iff_ne.2 (show k - 127 ≠ k by omega), beq_eq_false_iff_ne.2 (show k - 127 ≠ k - 128 by omega)]
        simp
      · rw [if_neg e3, beq_eq_false_iff_ne.2 e3]
        by_cases e4 : p = k - 128
        · rw [if_pos e4, e4]
          rw [beq_eq_false_iff_ne.2 (show k - 128 ≠ k by omega)]
          simp
        · rw [if_neg e4, beq_eq_false_iff_ne.2 e4]
          by_cases e5 : p = k
          · subst e5; rw [if_pos rfl, h]; simp
          · rw [if_neg e5, beq_eq_false_iff_ne.2 e5]; simp
attribute [local irreducible] cvF rdUp rdF cvI

end Go.Proofs.Ytmpidjadpcpbfaa

/- The reference of layer 4 (poly): products and powers of numbers' coefficients. No conditions. -/
namespace Go.Proofs.Ytmpidjadpcpbfaa
open Go.RowKit
set_option linter.unusedVariables false

/-- A number's coefficients as a list. -/
def co (x : Nat) : List Bool := fl 128 (coF x)
theorem co_len (x : Nat) : (co x).length = 128 := fl_len _ _
theorem co_at (x p : Nat) (hp : p < 128) : (co x)[p]? = some (coF x p) := fl_at 128 _ p hp
theorem coF_one (p : Nat) (hp : p < 128) : coF gOne p = (p == 0) := by
  unfold coF
  rw [show gOne = gE 0 from rfl, gBit_gE 0 p (by omega) hp]
  by_cases h : p = 0
  · rw [if_pos h, h]; rfl
  · rw [if_neg h, beq_eq_false_iff_ne.2 h]; rfl
theorem coF_zero (p : Nat) : coF 0 p = false := by unfold coF; rw [gBit_zero]; rfl
theorem zP_co : zP = co 0 := by
  apply List.ext_getElem?
  intro j
  by_cases hj : j < 128
  · rw [co_at 0 j hj, coF_zero]; unfold zP; rw [List.getElem?_replicate, if_pos hj]
  · rw [List.getElem?_eq_none (by rw [zP_len]; omega), List.getElem?_eq_none (by rw [co_len]; omega)]
theorem one_co : zP.set 0 true = co gOne := by
  apply List.ext_getElem?
  intro j
  rw [List.getElem?_set]
  by_cases hj : j < 128
  · rw [co_at _ j hj, coF_one j hj]
    by_cases h : 0 = j
    · subst h; rw [if_pos rfl, zP_len, if_pos (by omega)]; rfl
    · rw [if_neg h, beq_eq_false_iff_ne.2 (fun e => h e.symm)]; unfold zP; rw [List.getElem?_replicate, if_pos hj]
  · rw [if_neg (by omega), List.getElem?_eq_none (by rw [zP_len]; omega), List.getElem?_eq_none (by rw [co_len]; omega)]
theorem pow_even (x o n : Nat) (hx : x < 2 ^ 128) (hm : n % 2 = 0) : gMul o (gPow (gMul x x) (n / 2)) = gMul o (gPow x n) := by
  rw [gPow_half x hx n, hm]
  show _ = gMul o (gMul gOne (gPow (gMul x x) (n / 2)))
  rw [gMul_one' _ (gPow_lt _ (gMul_lt x x hx) _)]
theorem pow_odd (x o n : Nat) (hx : x < 2 ^ 128) (ho : o < 2 ^ 128) (hm : n % 2 = 1) : gMul (gMul o x) (gPow (gMul x x) (n / 2)) = gMul o (gPow x n) := by
  rw [gPow_half x hx n, hm, gPow_one x hx, gMul_assoc o x _ ho hx]
  rfl
attribute [local irreducible] co gMul gPow

end Go.Proofs.Ytmpidjadpcpbfaa

