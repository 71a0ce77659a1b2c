/- Layer 18, plain: three slots, what they are told, what they show. Nothing is claimed of the program here. -/
import Derived.Test.YtkcchidklcnnnaaGreatCdP
namespace Go.Proofs.YtkcchidklcnnnaaGreat
open Go.RowKit
set_option linter.unusedVariables false
set_option linter.unusedSimpArgs false
/-- Three configurations, their stamps (0: empty), and how many were installed. -/
structure Sl where
  rs : List Cfg
  ts : List Nat
  n : Nat
def zSl : Sl := ⟨[zeroC, zeroC, zeroC], [0, 0, 0], 0⟩
def Sl.row (s : Sl) (p : Nat) : Cfg := s.rs.getD p zeroC
def Sl.tm (s : Sl) (p : Nat) : Nat := s.ts.getD p 0
structure Sl.ok (s : Sl) : Prop where
  r : s.rs.length = 3
  t : s.ts.length = 3
  g : ∀ p, (s.row p).ok
  z : ∀ p, s.tm p = 0 → s.row p = zeroC
  v : ∀ p, 0 < s.tm p → rtB (s.row p) = true
  m : ∀ p, s.tm p ≤ s.n
def hasS (s : Sl) (p : Int) : Bool := decide ((0 ≤ p ∧ p < 3) ∧ 0 < s.tm p.toNat)
def putS (s : Sl) (p : Nat) (c : Cfg) : Sl := ⟨s.rs.set p c, s.ts.set p (s.n + 1), s.n + 1⟩
def offS (s : Sl) (p : Nat) : Sl := ⟨s.rs.set p zeroC, s.ts.set p 0, s.n⟩
/-- Install's, Retire's, Show's and Short's answers. -/
def instS (s : Sl) (p : Int) (c : Cfg) : Sl × Int :=
  if ¬ (0 ≤ p ∧ p < 3) then (s, 11) else if rtB c = false then (s, 10) else if 0 < s.tm p.toNat then (s, 16) else (putS s p.toNat c, 0)
def retS (s : Sl) (p : Int) : Sl × Int :=
  if ¬ (0 ≤ p ∧ p < 3) then (s, 11) else if s.tm p.toNat = 0 then (s, 17) else (offS s p.toNat, 0)
def ofS (s : Sl) (p : Int) : Cfg := if hasS s p then s.row p.toNat else zeroC
def tmS (s : Sl) (p : Int) : Int := if hasS s p then (s.tm p.toNat : Int) else 0
def showS (s : Sl) (l : List UInt8) : Prt × Int :=
  if l.length = 0 then (zPrt, 12) else if hasS s (pntB (l.getD 0 0)) = false then (zPrt, 17) else codB (s.row (pntB (l.getD 0 0)).toNat) l
def shortS (s : Sl) (l : List UInt8) : Prt × Int :=
  if l.length < 2 then (zPrt, 12) else if hasS s (pntB (l.getD 1 0)) = false then (zPrt, 17)
  else if (l.length : Int) - 1 < sizeC (s.row (pntB (l.getD 1 0)).toNat) then (zPrt, 12)
  else showS s ((l.drop 1).take (sizeC (s.row (pntB (l.getD 1 0)).toNat)).toNat)

section
variable {s : Sl} {p q : Int} {k j : Nat} {c : Cfg} {l x y : List UInt8}
theorem zSl_row (p : Nat) : zSl.row p = zeroC := by
  rcases p with _ | _ | _ | p <;> rfl
theorem zSl_tm (p : Nat) : zSl.tm p = 0 := by
  rcases p with _ | _ | _ | p <;> rfl
theorem zSl_ok : zSl.ok := ⟨rfl, rfl, fun p => by rw [zSl_row]; exact zeroC_ok, fun p _ => zSl_row p, fun p h => by rw [zSl_tm] at h; exact absurd h (by decide), fun p => by rw [zSl_tm]; exact Nat.zero_le _⟩
theorem put_row (h : s.ok) (hk : k < 3) (j : Nat) : (putS s k c).row j = if j = k then c else s.row j := by
  unfold putS Sl.row
  simp only [List.getD_eq_getElem?_getD, List.getElem?_set]
  have := h.r
  by_cases e : j = k
  · subst e; simp [this, hk]
  · rw [if_neg (fun h => e h.symm), if_neg e]
theorem put_tm (h : s.ok) (hk : k < 3) (j : Nat) : (putS s k c).tm j = if j = k then s.n + 1 else s.tm j := by
  unfold putS Sl.tm
  simp only [List.getD_eq_getElem?_getD, List.getElem?_set]
  have := h.t
  by_cases e : j = k
  · subst e; simp [this, hk]
  · rw [if_neg (fun h => e h.symm), if_neg e]
theorem off_row (h : s.ok) (hk : k < 3) (j : Nat) : (offS s k).row j = if j = k then zeroC else s.row j := by
  unfold offS Sl.row
  simp only [List.getD_eq_getElem?_getD, List.getElem?_set]
  have := h.r
  by_cases e : j = k
  · subst e; simp [this, hk]
  · rw [if_neg (fun h => e h.symm), if_neg e]
theorem off_tm (h : s.ok) (hk : k < 3) (j : Nat) : (offS s k).tm j = if j = k then 0 else s.tm j := by
  unfold offS Sl.tm
  simp only [List.getD_eq_getElem?_getD, List.getElem?_set]
  have := h.t
  by_cases e : j = k
  · subst e; simp [this, hk]
  · rw [if_neg (fun h => e h.symm), if_neg e]
theorem put_ok (h : s.ok) (hk : k < 3) (hc : c.ok) (hr : rtB c = true) : (putS s k c).ok := by
  refine ⟨by unfold putS; simp [h.r], by unfold putS; simp [h.t], fun p => ?_, fun p e => ?_, fun p e => ?_, fun p => ?_⟩
  · rw [put_row h hk]; split
    · exact hc
    · exact h.g p
  · rw [put_tm h hk] at e; rw [put_row h hk]
    split at e
    · omega
    · rename_i hn; rw [if_neg hn]; exact h.z p e
  · rw [put_tm h hk] at e; rw [put_row h hk]
    split
    · exact hr
    · rename_i hn; rw [if_neg hn] at e; exact h.v p e
  · rw [put_tm h hk]
    have := h.m p
    show _ ≤ s.n + 1
    split <;> omega
theorem off_ok (h : s.ok) (hk : k < 3) : (offS s k).ok := by
  refine ⟨by unfold offS; simp [h.r], by unfold offS; simp [h.t], fun p => ?_, fun p e => ?_, fun p e => ?_, fun p => ?_⟩
  · rw [off_row h hk]; split
    · exact zeroC_ok
    · exact h.g p
  · rw [off_tm h hk] at e; rw [off_row h hk]
    split
    · rfl
    · rename_i hn; rw [if_neg hn] at e; exact h.z p e
  · rw [off_tm h hk] at e; rw [off_row h hk]
    split at e
    · omega
    · rename_i hn; rw [if_neg hn]; exact h.v p e
  · rw [off_tm h hk]
    have := h.m p
    show _ ≤ s.n
    split <;> omega
theorem inst_ok (h : s.ok) (hc : c.ok) (p : Int) : (instS s p c).1.ok := by
  unfold instS
  split
  · exact h
  · split
    · exact h
    · split
      · exact h
      · rename_i hp hr _
        exact put_ok h (by omega) hc (by simpa using hr)
theorem ret_ok (h : s.ok) (p : Int) : (retS s p).1.ok := by
  unfold retS
  split
  · exact h
  · split
    · exact h
    · rename_i hp _
      exact off_ok h (by omega)
theorem has_iff : hasS s p = true ↔ (0 ≤ p ∧ p < 3) ∧ 0 < s.tm p.toNat := decide_eq_true_iff
/-- A row of calls. -/
theorem inst_n (s : Sl) (p : Int) (c : Cfg) : (instS s p c).1.n ≤ s.n + 1 := by
  unfold instS
  split
  · exact Nat.le_succ _
  · split
    · exact Nat.le_succ _
    · split
      · exact Nat.le_succ _
      · exact Nat.le_refl _
theorem ret_n (s : Sl) (p : Int) : (retS s p).1.n = s.n := by
  unfold retS
  split
  · rfl
  · split
    · rfl
    · rfl
theorem show_end (h : l.length = 0) : showS s l = (zPrt, 12) := by unfold showS; rw [if_pos h]
theorem show_none (h : ¬ l.length = 0) (hh : hasS s (pntB (l.getD 0 0)) = false) : showS s l = (zPrt, 17) := by unfold showS; rw [if_neg h, if_pos hh]
theorem show_ok (h : ¬ l.length = 0) (hh : hasS s (pntB (l.getD 0 0)) = true) : showS s l = codB (s.row (pntB (l.getD 0 0)).toNat) l := by unfold showS; rw [if_neg h, if_neg (by rw [hh]; decide)]
theorem short_end (h : l.length < 2) : shortS s l = (zPrt, 12) := by unfold shortS; rw [if_pos h]
theorem short_none (h : ¬ l.length < 2) (hh : hasS s (pntB (l.getD 1 0)) = false) : shortS s l = (zPrt, 17) := by unfold shortS; rw [if_neg h, if_pos hh]
theorem short_few (h : ¬ l.length < 2) (hh : hasS s (pntB (l.getD 1 0)) = true) (hl : (l.length : Int) - 1 < sizeC (s.row (pntB (l.getD 1 0)).toNat)) : shortS s l = (zPrt, 12) := by unfold shortS; rw [if_neg h, if_neg (by rw [hh]; decide), if_pos hl]
theorem short_ok (h : ¬ l.length < 2) (hh : hasS s (pntB (l.getD 1 0)) = true) (hl : ¬ (l.length : Int) - 1 < sizeC (s.row (pntB (l.getD 1 0)).toNat)) : shortS s l = showS s ((l.drop 1).take (sizeC (s.row (pntB (l.getD 1 0)).toNat)).toNat) := by unfold shortS; rw [if_neg h, if_neg (by rw [hh]; decide), if_neg hl]
theorem has_size (h : s.ok) (hh : hasS s p = true) : 6 ≤ sizeC (s.row p.toNat) ∧ sizeC (s.row p.toNat) ≤ 20 := by
  have hv := h.v _ (has_iff.1 hh).2
  obtain ⟨_, r2, r3, r4, _⟩ := rt_unf (rt_of hv)
  rw [size_ok hv]
  omega
/-- What Back refuses shows nothing. -/
theorem codB_zero (c : Cfg) (l : List UInt8) (h : (codB c l).2 ≠ 0) : (codB c l).1 = zPrt := by
  rcases codB_cases c l with ⟨_, e⟩ | ⟨_, _, e⟩ | ⟨_, _, _, e⟩ | ⟨_, _, _, e⟩
  · rw [e]
  · rw [e]
  · rw [e]
  · rw [e] at h; exact absurd rfl h
theorem show_zero (h : (showS s l).2 ≠ 0) : (showS s l).1 = zPrt := by
  by_cases h0 : l.length = 0
  · rw [show_end h0]
  · cases hh : hasS s (pntB (l.getD 0 0))
    · rw [show_none h0 hh]
    · rw [show_ok h0 hh] at h ⊢; exact codB_zero _ _ h
theorem short_zero (h : (shortS s l).2 ≠ 0) : (shortS s l).1 = zPrt := by
  by_cases h0 : l.length < 2
  · rw [short_end h0]
  · cases hh : hasS s (pntB (l.getD 1 0))
    · rw [short_none h0 hh]
    · by_cases hl : (l.length : Int) - 1 < sizeC (s.row (pntB (l.getD 1 0)).toNat)
      · rw [short_few h0 hh hl]
      · rw [short_ok h0 hh hl] at h ⊢; exact show_zero h
/-- An id of a slot's configuration, with the slot's point, is shown; behind a short header's first byte too, whatever follows it. -/
theorem show_made (h : s.ok) (hh : hasS s p = true) {a n : List UInt8} (hn : (0 ≤ p ∧ p ≤ 2) ∧ (a.length : Int) = (s.row p.toNat).s ∧ (n.length : Int) = (s.row p.toNat).n) :
    showS s (idB p (wayC (s.row p.toNat) false (a ++ n))) = (⟨p, a, n⟩, 0) := by
  have hv := h.v _ (has_iff.1 hh).2
  have hl := made_len hv (h.g _).k hn.2
  obtain ⟨_, r2, r3, r4, _⟩ := rt_unf (rt_of hv)
  have e : pntB ((idB p (wayC (s.row p.toNat) false (a ++ n))).getD 0 0) = p := (first_of hn.1.1 (by omega) (by omega)).1
  rw [show_ok (by rw [idB_len]; omega) (by rw [e]; exact hh), e]
  exact made_back hv (h.g _).k hn
theorem made_size (h : s.ok) (hh : hasS s p = true) {a n : List UInt8} (hn : (a.length : Int) = (s.row p.toNat).s ∧ (n.length : Int) = (s.row p.toNat).n) :
    ((idB p (wayC (s.row p.toNat) false (a ++ n))).length : Int) = sizeC (s.row p.toNat) := by
  have hv := h.v _ (has_iff.1 hh).2
  rw [idB_len, made_len hv (h.g _).k hn, size_ok hv]
  omega
theorem short_made (h : s.ok) (hh : hasS s p = true) {a n r : List UInt8} (f : UInt8) (hn : (0 ≤ p ∧ p ≤ 2) ∧ (a.length : Int) = (s.row p.toNat).s ∧ (n.length : Int) = (s.row p.toNat).n) :
    shortS s (f :: (idB p (wayC (s.row p.toNat) false (a ++ n)) ++ r)) = (⟨p, a, n⟩, 0) := by
  have hv := h.v _ (has_iff.1 hh).2
  have hz := made_size h hh hn.2
  have hm := made_len hv (h.g _).k hn.2
  have hs := show_made h hh hn
  obtain ⟨_, r2, r3, r4, _⟩ := rt_unf (rt_of hv)
  have e : pntB ((f :: (idB p (wayC (s.row p.toNat) false (a ++ n)) ++ r)).getD 1 0) = p := (first_of (p := p) (m := (wayC (s.row p.toNat) false (a ++ n)).length) hn.1.1 (by omega) (by omega)).1
  have hd : (f :: (idB p (wayC (s.row p.toNat) false (a ++ n)) ++ r)).drop 1 = idB p (wayC (s.row p.toNat) false (a ++ n)) ++ r := rfl
  rw [short_ok (by rw [List.length_cons, List.length_append, idB_len]; omega) (by rw [e]; exact hh) (by rw [e, ← hz, List.length_cons, List.length_append]; omega), e, hd, ← hz, Int.toNat_natCast, List.take_left' rfl]
  exact hs
theorem cut_first {k : Nat} (hk : 0 < k) : ((l.drop 1).take k).getD 0 0 = l.getD 1 0 := by
  simp only [List.getD_eq_getElem?_getD, List.getElem?_take, List.getElem?_drop]
  rw [if_pos hk]
/-- What Short shows is what Show shows of the bytes that the slot's configuration takes. -/
theorem short_back (h : s.ok) (hc : (shortS s l).2 = 0) : hasS s (shortS s l).1.p = true ∧ 1 + sizeC (s.row (shortS s l).1.p.toNat) ≤ l.length ∧ showS s ((l.drop 1).take (sizeC (s.row (shortS s l).1.p.toNat)).toNat) = shortS s l := by
  by_cases h0 : l.length < 2
  · rw [short_end h0] at hc; exact absurd hc (by decide)
  cases hh : hasS s (pntB (l.getD 1 0))
  · rw [short_none h0 hh] at hc; exact absurd hc (by decide)
  by_cases hl : (l.length : Int) - 1 < sizeC (s.row (pntB (l.getD 1 0)).toNat)
  · rw [short_few h0 hh hl] at hc; exact absurd hc (by decide)
  have e := short_ok h0 hh hl
  have hz := has_size h hh
  have hg : ((l.drop 1).take (sizeC (s.row (pntB (l.getD 1 0)).toNat)).toNat).getD 0 0 = l.getD 1 0 := by
    exact cut_first (by omega)
  have hn0 : ¬ ((l.drop 1).take (sizeC (s.row (pntB (l.getD 1 0)).toNat)).toNat).length = 0 := by rw [List.length_take, List.length_drop]; omega
  have e2 := show_ok (s := s) hn0 (by rw [hg]; exact hh)
  rw [hg] at e2
  have hp : (shortS s l).1.p = pntB (l.getD 1 0) := by
    rw [e, e2] at hc ⊢
    rcases codB_cases (s.row (pntB (l.getD 1 0)).toNat) ((l.drop 1).take (sizeC (s.row (pntB (l.getD 1 0)).toNat)).toNat) with ⟨_, f⟩ | ⟨_, _, f⟩ | ⟨_, _, _, f⟩ | ⟨_, _, _, f⟩
    · rw [f] at hc; exact absurd hc (by decide)
    · rw [f] at hc; exact absurd hc (by decide)
    · rw [f] at hc; exact absurd hc (by decide)
    · rw [f]; unfold prtC; rw [hg]
  rw [hp]
  exact ⟨hh, by omega, e.symm⟩
end
end Go.Proofs.YtkcchidklcnnnaaGreat
