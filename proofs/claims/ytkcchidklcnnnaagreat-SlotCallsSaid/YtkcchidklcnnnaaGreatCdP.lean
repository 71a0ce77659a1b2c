/- Layer 17, plain: ids, what they are made of, what they show. Nothing is claimed of the program here. -/
import Derived.Test.YtkcchidklcnnnaaGreatMdP
import Derived.Test.YtkcchidklcnnnaaGreatHvP
namespace Go.Proofs.YtkcchidklcnnnaaGreat
open Go.RowKit
set_option linter.unusedVariables false
set_option linter.unusedSimpArgs false
/-- An id's parts. -/
structure Prt where
  p : Int
  s : List UInt8
  n : List UInt8
deriving DecidableEq
def zPrt : Prt := ⟨0, [], []⟩
/-- A first byte, with a point and what follows. -/
def idB (p : Int) (l : List UInt8) : List UInt8 := b8 (64 * p + l.length) :: l
def pntB (x : UInt8) : Int := ((x / 64).toNat : Int)
def tldB (x : UInt8) : Int := ((x % 64).toNat : Int) + 1
/-- Make's, Back's and Plain's answers. -/
def codM (c : Cfg) (p : Int) (s n : List UInt8) : List UInt8 × Int :=
  if rtB c = false then ([], 19) else if (0 ≤ p ∧ p ≤ 2) ∧ (s.length : Int) = c.s ∧ (n.length : Int) = c.n then (idB p (wayC c false (s ++ n)), 0) else ([], 11)
def prtC (c : Cfg) (l : List UInt8) : Prt := ⟨pntB (l.getD 0 0), (wayC c true (l.drop 1)).take c.s.toNat, (wayC c true (l.drop 1)).drop c.s.toNat⟩
def codB (c : Cfg) (l : List UInt8) : Prt × Int :=
  if rtB c = false then (zPrt, 19) else if (l.length : Int) = 1 + (c.s + c.n) then (if tldB (l.getD 0 0) = l.length then (prtC c l, 0) else (zPrt, 10)) else (zPrt, 11)
def plnL (p : Int) (n : List UInt8) : List UInt8 × Int := if (0 ≤ p ∧ p ≤ 3) ∧ n.length ≤ 19 then (idB p n, 0) else ([], 11)

section
variable {c : Cfg} {p q : Int} {s n s2 n2 l a b : List UInt8} {x : UInt8}
theorem idB_len : (idB p l).length = l.length + 1 := rfl
theorem pnt_lt (x : UInt8) : 0 ≤ pntB x ∧ pntB x ≤ 3 := hv_byte (p := fun x => 0 ≤ pntB x ∧ pntB x ≤ 3) (by decide +kernel) x
theorem tld_lt (x : UInt8) : 1 ≤ tldB x ∧ tldB x ≤ 64 := hv_byte (p := fun x => 1 ≤ tldB x ∧ tldB x ≤ 64) (by decide +kernel) x
theorem first_back (x : UInt8) : 64 * pntB x + (tldB x - 1) = (x.toNat : Int) := hv_byte (p := fun x => 64 * pntB x + (tldB x - 1) = (x.toNat : Int)) (by decide +kernel) x
theorem first_of {m : Nat} (h0 : 0 ≤ p) (h3 : p ≤ 3) (hm : m ≤ 63) : pntB (b8 (64 * p + m)) = p ∧ tldB (b8 (64 * p + m)) = (m : Int) + 1 := by
  have e := b8_nat (z := 64 * p + m) (by omega) (by omega)
  have f := first_back (b8 (64 * p + m))
  have g := pnt_lt (b8 (64 * p + m))
  have t := tld_lt (b8 (64 * p + m))
  omega
theorem codM_state (h : rtB c = false) : codM c p s n = ([], 19) := by unfold codM; rw [if_pos h]
theorem codM_range (h : rtB c = true) (hn : ¬ ((0 ≤ p ∧ p ≤ 2) ∧ (s.length : Int) = c.s ∧ (n.length : Int) = c.n)) : codM c p s n = ([], 11) := by unfold codM; rw [if_neg (by rw [h]; decide), if_neg hn]
theorem codM_ok (h : rtB c = true) (hn : (0 ≤ p ∧ p ≤ 2) ∧ (s.length : Int) = c.s ∧ (n.length : Int) = c.n) : codM c p s n = (idB p (wayC c false (s ++ n)), 0) := by unfold codM; rw [if_neg (by rw [h]; decide), if_pos hn]
theorem codM_cases (c : Cfg) (p : Int) (s n : List UInt8) : (rtB c = false ∧ codM c p s n = ([], 19)) ∨ (rtB c = true ∧ ¬ ((0 ≤ p ∧ p ≤ 2) ∧ (s.length : Int) = c.s ∧ (n.length : Int) = c.n) ∧ codM c p s n = ([], 11)) ∨ (rtB c = true ∧ ((0 ≤ p ∧ p ≤ 2) ∧ (s.length : Int) = c.s ∧ (n.length : Int) = c.n) ∧ codM c p s n = (idB p (wayC c false (s ++ n)), 0)) := by
  cases h : rtB c
  · exact .inl ⟨rfl, codM_state h⟩
  · by_cases hn : (0 ≤ p ∧ p ≤ 2) ∧ (s.length : Int) = c.s ∧ (n.length : Int) = c.n
    · exact .inr (.inr ⟨rfl, hn, codM_ok h hn⟩)
    · exact .inr (.inl ⟨rfl, hn, codM_range h hn⟩)
theorem codB_state (h : rtB c = false) : codB c l = (zPrt, 19) := by unfold codB; rw [if_pos h]
theorem codB_range (h : rtB c = true) (hn : ¬ (l.length : Int) = 1 + (c.s + c.n)) : codB c l = (zPrt, 11) := by unfold codB; rw [if_neg (by rw [h]; decide), if_neg hn]
theorem codB_form (h : rtB c = true) (hn : (l.length : Int) = 1 + (c.s + c.n)) (ht : ¬ tldB (l.getD 0 0) = l.length) : codB c l = (zPrt, 10) := by unfold codB; rw [if_neg (by rw [h]; decide), if_pos hn, if_neg ht]
theorem codB_ok (h : rtB c = true) (hn : (l.length : Int) = 1 + (c.s + c.n)) (ht : tldB (l.getD 0 0) = l.length) : codB c l = (prtC c l, 0) := by unfold codB; rw [if_neg (by rw [h]; decide), if_pos hn, if_pos ht]
theorem both_len (hn : (s.length : Int) = c.s ∧ (n.length : Int) = c.n) : ((s ++ n).length : Int) = c.s + c.n := by rw [List.length_append]; omega
/-- What is made has the configuration's size. -/
theorem made_len (hr : rtB c = true) (hk : c.k.length = 16) (hn : (s.length : Int) = c.s ∧ (n.length : Int) = c.n) : (wayC c false (s ++ n)).length = s.length + n.length := by
  rw [way_len (rt_of hr) hk (both_len hn), List.length_append]
/-- What is made comes back. -/
theorem made_back (hr : rtB c = true) (hk : c.k.length = 16) (hn : (0 ≤ p ∧ p ≤ 2) ∧ (s.length : Int) = c.s ∧ (n.length : Int) = c.n) : codB c (idB p (wayC c false (s ++ n))) = (⟨p, s, n⟩, 0) := by
  have hl := made_len hr hk hn.2
  obtain ⟨_, r2, r3, r4, _⟩ := rt_unf (rt_of hr)
  have e : (idB p (wayC c false (s ++ n))).getD 0 0 = b8 (64 * p + (wayC c false (s ++ n)).length) := rfl
  have f := first_of (p := p) (m := (wayC c false (s ++ n)).length) hn.1.1 (by omega) (by omega)
  rw [codB_ok hr (by rw [idB_len, hl]; omega) (by rw [e, f.2, idB_len]; omega)]
  have hd : (idB p (wayC c false (s ++ n))).drop 1 = wayC c false (s ++ n) := rfl
  have hb := way_back (back := false) (rt_of hr) hk (both_len hn.2)
  unfold prtC
  rw [e, f.1, hd, show wayC c true (wayC c false (s ++ n)) = s ++ n from hb, show c.s.toNat = s.length by omega, List.take_left' rfl, List.drop_left' rfl]
/-- Ids are alike just where what they are made of is. -/
theorem idB_same (h : 0 ≤ p ∧ p ≤ 3) (h2 : 0 ≤ q ∧ q ≤ 3) (ha : a.length ≤ 63) (hb : b.length = a.length) : (idB p a == idB q b) = (decide (p = q) && (a == b)) := by
  have f := first_of (p := p) (m := a.length) h.1 h.2 ha
  have g := first_of (p := q) (m := b.length) h2.1 h2.2 (by omega)
  rw [Bool.eq_iff_iff, beq_iff_eq, Bool.and_eq_true, decide_eq_true_eq, beq_iff_eq]
  unfold idB
  constructor
  · intro e
    injection e with e1 e2
    refine ⟨?_, e2⟩
    rw [← f.1, ← g.1, e1]
  · rintro ⟨rfl, rfl⟩; rfl
theorem apart (hr : rtB c = true) (hk : c.k.length = 16) (hn : (0 ≤ p ∧ p ≤ 2) ∧ (s.length : Int) = c.s ∧ (n.length : Int) = c.n) (hm : (0 ≤ q ∧ q ≤ 2) ∧ (s2.length : Int) = c.s ∧ (n2.length : Int) = c.n) :
    (idB p (wayC c false (s ++ n)) == idB q (wayC c false (s2 ++ n2))) = (decide (p = q) && ((s == s2) && (n == n2))) := by
  have h1 := made_len hr hk hn.2
  have h2 := made_len hr hk hm.2
  obtain ⟨_, r2, r3, r4, _⟩ := rt_unf (rt_of hr)
  rw [idB_same ⟨hn.1.1, by omega⟩ ⟨hm.1.1, by omega⟩ (by omega) (by omega), way_same (rt_of hr) hk (both_len hn.2) (both_len hm.2)]
  congr 1
  rw [Bool.eq_iff_iff, beq_iff_eq, Bool.and_eq_true, beq_iff_eq, beq_iff_eq]
  constructor
  · intro e
    exact List.append_inj e (by omega)
  · rintro ⟨rfl, rfl⟩; rfl
theorem codB_cases (c : Cfg) (l : List UInt8) : (rtB c = false ∧ codB c l = (zPrt, 19)) ∨ (rtB c = true ∧ ¬ (l.length : Int) = 1 + (c.s + c.n) ∧ codB c l = (zPrt, 11)) ∨ (rtB c = true ∧ (l.length : Int) = 1 + (c.s + c.n) ∧ ¬ tldB (l.getD 0 0) = l.length ∧ codB c l = (zPrt, 10)) ∨ (rtB c = true ∧ (l.length : Int) = 1 + (c.s + c.n) ∧ tldB (l.getD 0 0) = l.length ∧ codB c l = (prtC c l, 0)) := by
  cases h : rtB c
  · exact .inl ⟨rfl, codB_state h⟩
  · by_cases hn : (l.length : Int) = 1 + (c.s + c.n)
    · by_cases ht : tldB (l.getD 0 0) = l.length
      · exact .inr (.inr (.inr ⟨rfl, hn, ht, codB_ok h hn ht⟩))
      · exact .inr (.inr (.inl ⟨rfl, hn, ht, codB_form h hn ht⟩))
    · exact .inr (.inl ⟨rfl, hn, codB_range h hn⟩)
end
end Go.Proofs.YtkcchidklcnnnaaGreat
