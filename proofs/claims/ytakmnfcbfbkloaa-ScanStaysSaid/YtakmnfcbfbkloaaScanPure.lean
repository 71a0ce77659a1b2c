/- What readers and writers of layer 9 hold, in plain words: an error stays; what is written is read again; of fewer bytes the end is told. No condition; nothing is claimed of the program here. -/
import Derived.Test.YtakmnfcbfbkloaaScanPut
import Derived.Test.YtakmnfcbfbkloaaScanAsk
import Derived.Test.YtakmnfcbfbkloaaVariAlive
namespace Go.Proofs.Ytakmnfcbfbkloaa
open Go.RowKit
set_option linter.unusedVariables false
set_option linter.unusedSimpArgs false

theorem bytesS_no {s : Int × List UInt8} (he : s.1 ≠ 0) (z : Int) : bytesS z s = ([], s) := bytesS_1 he z
theorem numS_no {s : Int × List UInt8} (he : s.1 ≠ 0) (z : Int) : numS z s = (0, s) := by
  rw [numS_eq, numT_1 he, bytesS_1 he]; rfl
theorem variS_no {s : Int × List UInt8} (he : s.1 ≠ 0) : variS s = (0, s) := if_neg he
theorem countS_stop {s : Int × List UInt8} (he : s.1 ≠ 0) (n : Nat) : countS (n, s) s = ([], s) := by
  have e : takeS n s = ([], s) := takeS_1 he n
  exact (countS_no (r := (n, s)) (s := s) (by simp only [e]; exact he)).trans (by simp only [e])
theorem shortS_no {s : Int × List UInt8} (he : s.1 ≠ 0) : shortS s = ([], s) := by
  unfold shortS; rw [numS_no he]; exact countS_stop he 0
theorem longS_no {s : Int × List UInt8} (he : s.1 ≠ 0) : longS s = ([], s) := by
  unfold longS; rw [variS_no he]; exact countS_stop he 0
theorem restS_no {s : Int × List UInt8} (he : s.1 ≠ 0) : restS s = ([], s) := takeS_1 he _
theorem endS_no {s : Int × List UInt8} (he : s.1 ≠ 0) : endS s = s := by
  unfold endS
  split
  · exact failS_1 he 10
  · rfl
theorem askS_no {s : Int × List UInt8} (he : s.1 ≠ 0) (k N : Int) : askS k N s = s := by
  unfold askS
  rw [numS_no he, bytesS_no he, variS_no he, shortS_no he, longS_no he, restS_no he, endS_no he]
  repeat' split
  all_goals rfl
theorem failS_len (s : Int × List UInt8) (e : Int) : (failS s e).2.length = s.2.length := by unfold failS; split <;> rfl
theorem takeS_le (n : Nat) (s : Int × List UInt8) : (takeS n s).2.2.length ≤ s.2.length := by
  unfold takeS
  split
  · split
    · simp only [List.length_drop]; omega
    · exact Nat.le_refl _
  · exact Nat.le_refl _
theorem bytesS_le (z : Int) (s : Int × List UInt8) : (bytesS z s).2.2.length ≤ s.2.length := by
  unfold bytesS
  split
  · exact Nat.le_of_eq (failS_len _ _)
  · exact takeS_le _ _
theorem numS_le (z : Int) (s : Int × List UInt8) : (numS z s).2.2.length ≤ s.2.length := by
  rw [numS_eq]
  refine Nat.le_trans (bytesS_le z _) ?_
  unfold numT
  split
  · exact Nat.le_of_eq (failS_len _ _)
  · exact Nat.le_refl _
theorem variS_le (s : Int × List UInt8) : (variS s).2.2.length ≤ s.2.length := by
  unfold variS
  split
  · simp only [List.length_drop]; omega
  · exact Nat.le_refl _
theorem countS_le (r : Nat × Int × List UInt8) (s : Int × List UInt8) (h : r.2.2.length ≤ s.2.length) : (countS r s).2.2.length ≤ s.2.length := by
  unfold countS
  split
  · exact Nat.le_trans (takeS_le _ _) h
  · exact Nat.le_refl _
theorem endS_le (s : Int × List UInt8) : (endS s).2.length ≤ s.2.length := by
  unfold endS
  split
  · exact Nat.le_of_eq (failS_len _ _)
  · exact Nat.le_refl _
theorem askS_le (k N : Int) (s : Int × List UInt8) : (askS k N s).2.length ≤ s.2.length := by
  unfold askS
  split
  · exact numS_le _ _
  split
  · exact bytesS_le _ _
  split
  · exact variS_le _
  split
  · exact countS_le _ _ (numS_le _ _)
  split
  · exact countS_le _ _ (variS_le _)
  split
  · exact takeS_le _ _
  split
  · exact endS_le _
  · exact Nat.le_refl _
theorem putP_no {s : Int × List UInt8} (he : s.1 ≠ 0) (p : Pt) : putP p s = s := putS_1 he _ _

/-! What is written is read again. -/
/-- A part that a reader is asked for: is it as it was? -/
def readP (p : Pt) (s : Int × List UInt8) : Bool × Int × List UInt8 :=
  if p.what = 0 then ((numS p.size s).1 == p.v, (numS p.size s).2)
  else if p.what = 1 then ((bytesS (p.b.length : Int) s).1 == p.b, (bytesS (p.b.length : Int) s).2)
  else if p.what = 2 then ((variS (variS s).2).1 == 7 && (variS s).1 == p.v, (variS (variS s).2).2)
  else if p.what = 3 then ((shortS s).1 == p.b, (shortS s).2)
  else if p.what = 4 then ((longS s).1 == p.b, (longS s).2)
  else (true, s)
theorem readP_no {s : Int × List UInt8} (he : s.1 ≠ 0) (p : Pt) : (readP p s).2 = s := by
  unfold readP
  rw [numS_no he, bytesS_no he, variS_no he, shortS_no he, longS_no he]
  simp only [variS_no he]
  repeat' split
  all_goals rfl
theorem numL_put {V n : Nat} (h : downL V n = 0) : numL (putL V n) = V := by
  have := num_putV n V
  rw [h] at this
  omega
theorem takeS_app {b l : List UInt8} {n : Nat} (hn : b.length = n) : takeS n (0, b ++ l) = (b, 0, l) := by
  subst hn
  rw [takeS_ok (by simp)]
  simp
theorem numS_app {b l : List UInt8} {z : Int} {V : Nat} (hz : 0 ≤ z ∧ z ≤ 8) (hb : b.length = z.toNat) (hv : numL b = V) : numS z (0, b ++ l) = (V, 0, l) := by
  rw [numS_eq, show numT z (0, b ++ l) = (0, b ++ l) from if_neg (by omega)]
  have e : bytesS z (0, b ++ l) = (b, 0, l) := by
    unfold bytesS
    rw [if_neg (by omega), takeS_app hb]
  rw [e, hv]
theorem numS_end {l : List UInt8} {z : Int} (hz : 0 ≤ z ∧ z ≤ 8) (hl : l.length < z.toNat) : (numS z (0, l)).2 = (12, l) := by
  rw [numS_eq, show numT z (0, l) = (0, l) from if_neg (by omega)]
  have e : bytesS z (0, l) = ([], 12, l) := by
    unfold bytesS
    rw [if_neg (by omega), takeS_end hl]
  rw [e]
theorem least_form {n : Nat} (h : clsL n ≤ 3) : leastL n = formL n (clsL n) := if_pos h
theorem variS_app {n : Nat} {l : List UInt8} (h : clsL n ≤ 3) : variS (0, leastL n ++ l) = (n, 0, l) := by
  rw [least_form h]
  obtain ⟨h1, h2, h3⟩ := tk_form h (clsL_fit rfl h) l
  show (tkV (formL n (clsL n) ++ l), tkE (formL n (clsL n) ++ l), (formL n (clsL n) ++ l).drop (tkN (formL n (clsL n) ++ l))) = (n, 0, l)
  rw [h1, h2, h3, List.drop_left' (formL_len _ _)]
theorem variS_end {n j : Nat} (h : clsL n ≤ 3) (hj : j < (leastL n).length) : variS (0, (leastL n).take j) = (0, 12, (leastL n).take j) := by
  rw [least_form h] at hj ⊢
  rw [formL_len] at hj
  obtain ⟨h1, h2, h3⟩ := tk_cut h (clsL_fit rfl h) hj
  show (tkV ((formL n (clsL n)).take j), tkE ((formL n (clsL n)).take j), ((formL n (clsL n)).take j).drop (tkN ((formL n (clsL n)).take j))) = _
  rw [h1, h2, h3, List.drop_zero]
theorem countS_app {n : Nat} {b l : List UInt8} {s : Int × List UInt8} (hb : b.length = n) : countS (n, 0, b ++ l) s = (b, 0, l) := by
  have e : takeS n (0, b ++ l) = (b, 0, l) := takeS_app hb
  exact (countS_ok (r := (n, 0, b ++ l)) (s := s) (by simp only [e])).trans e
theorem countS_end {n : Nat} {l : List UInt8} {s : Int × List UInt8} (hl : l.length < n) : countS (n, 0, l) s = ([], 12, s.2) := by
  have e : takeS n (0, l) = ([], 12, l) := takeS_end hl
  exact (countS_no (r := (n, 0, l)) (s := s) (by simp only [e]; decide)).trans (by simp only [e])
theorem countS_err {n : Nat} {e : Int} {l : List UInt8} {s : Int × List UInt8} (he : e ≠ 0) : countS (n, e, l) s = ([], e, s.2) := by
  have e1 : takeS n (e, l) = ([], e, l) := takeS_1 (s := (e, l)) he n
  exact (countS_no (r := (n, e, l)) (s := s) (by simp only [e1]; exact he)).trans (by simp only [e1])
theorem cls_few {n : Nat} (h : n ≤ 1000000) : clsL n ≤ 3 := by
  rcases Nat.lt_or_ge 3 (clsL n) with h1 | h1
  · have := clsL_le n
    have h4 : clsL n = 4 := by omega
    have := clsL_four.1 h4
    omega
  · exact h1
theorem row_two {V : Nat} (h : rowC [V, 7] = 0) : clsL V ≤ 3 ∧ rowR [V, 7] = leastL V ++ leastL 7 := by
  have ho : rowOk [V, 7] = true := by
    cases hh : rowOk [V, 7]
    · unfold rowC at h
      rw [hh] at h
      exact absurd h (by decide)
    · rfl
  have hc : clsL V ≤ 3 := by
    have h1 := ho
    unfold rowOk at h1
    rw [List.all_eq_true] at h1
    exact of_decide_eq_true (h1 V (by simp))
  refine ⟨hc, ?_⟩
  unfold rowR
  rw [ho, if_pos rfl]
  simp [rowL]
theorem append_take {b l : List UInt8} {j : Nat} (h : j < b.length) : (b ++ l).take j = b.take j := List.take_append_of_le_length (Nat.le_of_lt h)
/-- What is written of a part is read again, whatever stands behind. -/
theorem read_enc (p : Pt) (hb : p.b.length ≤ 300) (hc : (encP p).2 = 0) (l : List UInt8) : readP p (0, (encP p).1 ++ l) = (true, 0, l) := by
  obtain ⟨what, size, v, A, c, b⟩ := p
  simp only at hb
  unfold encP at hc ⊢
  unfold readP
  simp only at hc ⊢
  by_cases k0 : what = 0
  · rw [if_pos k0] at hc ⊢
    rw [if_pos k0]
    unfold putN at hc ⊢
    by_cases h : 0 ≤ size ∧ size ≤ 8 ∧ downL v size.toNat = 0
    · rw [if_pos h]
      have e : numS size (0, putL v size.toNat ++ l) = (v, 0, l) := numS_app ⟨h.1, h.2.1⟩ (putL_len _ _) (numL_put h.2.2)
      simp only [e, beq_self_eq_true]
    · rw [if_neg h] at hc
      exact absurd hc (by decide)
  rw [if_neg k0] at hc ⊢
  rw [if_neg k0]
  by_cases k1 : what = 1
  · rw [if_pos k1]
    rw [if_pos k1]
    have e : bytesS (b.length : Int) (0, b ++ l) = (b, 0, l) := by rw [bytesS_len, takeS_app rfl]
    simp only [e, beq_self_eq_true]
  rw [if_neg k1] at hc ⊢
  rw [if_neg k1]
  by_cases k2 : what = 2
  · rw [if_pos k2] at hc ⊢
    rw [if_pos k2]
    obtain ⟨h1, h2⟩ := row_two hc
    have e1 : variS (0, rowR [v, 7] ++ l) = (v, 0, leastL 7 ++ l) := by rw [h2, List.append_assoc]; exact variS_app h1
    have e2 : variS (0, leastL 7 ++ l) = (7, 0, l) := variS_app (by decide)
    simp only [e1, e2, beq_self_eq_true, Bool.and_self]
  rw [if_neg k2] at hc ⊢
  rw [if_neg k2]
  by_cases k3 : what = 3
  · rw [if_pos k3] at hc ⊢
    rw [if_pos k3]
    unfold shortP at hc ⊢
    by_cases h : 255 < b.length
    · rw [if_pos h] at hc
      exact absurd hc (by decide)
    · rw [if_neg h]
      have e1 : numS 1 (0, (UInt8.ofNat b.length :: b) ++ l) = (b.length, 0, b ++ l) := by
        have : (UInt8.ofNat b.length :: b) ++ l = [UInt8.ofNat b.length] ++ (b ++ l) := rfl
        rw [this]
        refine numS_app (by decide) rfl ?_
        show 0 * 256 + (UInt8.ofNat b.length).toNat = b.length
        rw [UInt8.toNat_ofNat']
        omega
      have e2 : shortS (0, (UInt8.ofNat b.length :: b) ++ l) = (b, 0, l) := by
        unfold shortS
        rw [e1]
        exact countS_app rfl
      simp only [e2, beq_self_eq_true]
  rw [if_neg k3] at hc ⊢
  rw [if_neg k3]
  by_cases k4 : what = 4
  · rw [if_pos k4]
    rw [if_pos k4]
    have e2 : longS (0, longP b ++ l) = (b, 0, l) := by
      unfold longS longP
      rw [List.append_assoc, variS_app (cls_few (by omega))]
      exact countS_app rfl
    simp only [e2, beq_self_eq_true]
  rw [if_neg k4]
  rw [if_neg k4]
  rfl
/-- Of fewer bytes the end is told. -/
theorem read_cut (p : Pt) (hb : p.b.length ≤ 300) (hc : (encP p).2 = 0) (j : Nat) (hj : j < (encP p).1.length) : (readP p (0, (encP p).1.take j)).2.1 = 12 := by
  obtain ⟨what, size, v, A, c, b⟩ := p
  simp only at hb
  unfold encP at hc hj ⊢
  unfold readP
  simp only at hc hj ⊢
  by_cases k0 : what = 0
  · rw [if_pos k0] at hc hj ⊢
    rw [if_pos k0]
    unfold putN at hc hj ⊢
    by_cases h : 0 ≤ size ∧ size ≤ 8 ∧ downL v size.toNat = 0
    · rw [if_pos h] at hj ⊢
      simp only [putL_len] at hj
      have e : (numS size (0, (putL v size.toNat).take j)).2 = (12, (putL v size.toNat).take j) := numS_end ⟨h.1, h.2.1⟩ (by rw [List.length_take, putL_len]; omega)
      simp only [e]
    · rw [if_neg h] at hc
      exact absurd hc (by decide)
  rw [if_neg k0] at hc hj ⊢
  rw [if_neg k0]
  by_cases k1 : what = 1
  · rw [if_pos k1] at hj ⊢
    rw [if_pos k1]
    simp only at hj
    have e : bytesS (b.length : Int) (0, b.take j) = ([], 12, b.take j) := by rw [bytesS_len, takeS_end (by rw [List.length_take]; omega)]
    simp only [e]
  rw [if_neg k1] at hc hj ⊢
  rw [if_neg k1]
  by_cases k2 : what = 2
  · rw [if_pos k2] at hc hj ⊢
    rw [if_pos k2]
    obtain ⟨h1, h2⟩ := row_two hc
    simp only [h2] at hj ⊢
    by_cases hlt : j < (leastL v).length
    · rw [append_take hlt, variS_end h1 hlt]
      simp only
      rw [variS_no (s := (12, (leastL v).take j)) (by simp)]
    · have e : (leastL v ++ leastL 7).take j = leastL v ++ (leastL 7).take (j - (leastL v).length) := by
        rw [List.take_append, List.take_of_length_le (by omega)]
      rw [List.length_append] at hj
      rw [e, variS_app h1]
      simp only
      rw [variS_end (n := 7) (by decide) (by omega)]
  rw [if_neg k2] at hc hj ⊢
  rw [if_neg k2]
  by_cases k3 : what = 3
  · rw [if_pos k3] at hc hj ⊢
    rw [if_pos k3]
    unfold shortP at hc hj ⊢
    by_cases h : 255 < b.length
    · rw [if_pos h] at hc
      exact absurd hc (by decide)
    · rw [if_neg h] at hj ⊢
      simp only [List.length_cons] at hj
      rcases j with _ | i
      · have e2 : shortS (0, []) = ([], 12, []) := by decide +kernel
        simp only [List.take_zero, e2]
      · have e1 : numS 1 (0, (UInt8.ofNat b.length :: b).take (i + 1)) = (b.length, 0, b.take i) := by
          have : (UInt8.ofNat b.length :: b).take (i + 1) = [UInt8.ofNat b.length] ++ b.take i := rfl
          rw [this]
          refine numS_app (by decide) rfl ?_
          show 0 * 256 + (UInt8.ofNat b.length).toNat = b.length
          rw [UInt8.toNat_ofNat']
          omega
        have e2 : (shortS (0, (UInt8.ofNat b.length :: b).take (i + 1))).2.1 = 12 := by
          unfold shortS
          rw [e1, countS_end (by rw [List.length_take]; omega)]
        exact e2
  rw [if_neg k3] at hc hj ⊢
  rw [if_neg k3]
  by_cases k4 : what = 4
  · rw [if_pos k4] at hj ⊢
    rw [if_pos k4]
    simp only at hj ⊢
    unfold longP at hj ⊢
    rw [List.length_append] at hj
    have hcls := cls_few (n := b.length) (by omega)
    unfold longS
    by_cases hlt : j < (leastL b.length).length
    · rw [append_take hlt, variS_end hcls hlt, countS_err (by decide)]
    · have e : (leastL b.length ++ b).take j = leastL b.length ++ b.take (j - (leastL b.length).length) := by
        rw [List.take_append, List.take_of_length_le (by omega)]
      rw [e, variS_app hcls, countS_end (by rw [List.length_take]; omega)]
  rw [if_neg k4] at hj
  simp at hj
/-- All parts' bytes. -/
def encs (ps : List Pt) : List UInt8 := (ps.map fun p => (encP p).1).flatten
def putAll (ps : List Pt) (s : Int × List UInt8) : Int × List UInt8 := ps.foldl (fun s p => putP p s) s
theorem putAll_no (ps : List Pt) : ∀ {s : Int × List UInt8}, s.1 ≠ 0 → putAll ps s = s := by
  induction ps with
  | nil => intro s _; rfl
  | cons p ps ih =>
    intro s he
    show putAll ps (putP p s) = s
    rw [putP_no he]
    exact ih he
theorem putAll_ok (ps : List Pt) : ∀ l, (putAll ps (0, l)).1 = 0 → (∀ p ∈ ps, (encP p).2 = 0) ∧ putAll ps (0, l) = (0, l ++ encs ps) := by
  induction ps with
  | nil => intro l _; exact ⟨by simp, by simp [putAll, encs]⟩
  | cons p ps ih =>
    intro l h
    have e : putAll (p :: ps) (0, l) = putAll ps (putP p (0, l)) := rfl
    rw [e] at h ⊢
    by_cases hc : (encP p).2 = 0
    · have e2 : putP p (0, l) = (0, l ++ (encP p).1) := by unfold putP; rw [hc]; exact putS_0 _ _
      rw [e2] at h ⊢
      obtain ⟨h1, h2⟩ := ih _ h
      refine ⟨fun q hq => ?_, ?_⟩
      · rcases List.mem_cons.1 hq with rfl | hq
        · exact hc
        · exact h1 q hq
      · rw [h2, List.append_assoc]; rfl
    · have e2 : putP p (0, l) = ((encP p).2, l) := by unfold putP; exact putS_e _ _ hc
      rw [e2, putAll_no ps (s := ((encP p).2, l)) hc] at h
      exact absurd h hc
theorem putAll_snoc (ps : List Pt) (p : Pt) (s : Int × List UInt8) : putAll (ps ++ [p]) s = putP p (putAll ps s) := by simp [putAll]
/-- What a reader is asked, part by part: as they were? the state behind. -/
def tellF (ps : List Pt) (a : Bool × Int × List UInt8) : Bool × Int × List UInt8 := ps.foldl (fun a p => ((readP p a.2).1 && a.1, (readP p a.2).2)) a
theorem tellF_snoc (ps : List Pt) (p : Pt) (a : Bool × Int × List UInt8) : tellF (ps ++ [p]) a = ((readP p (tellF ps a).2).1 && (tellF ps a).1, (readP p (tellF ps a).2).2) := by simp [tellF]
theorem tellF_no (ps : List Pt) : ∀ (o : Bool) {s : Int × List UInt8}, s.1 ≠ 0 → (tellF ps (o, s)).2 = s := by
  induction ps with
  | nil => intro o s _; rfl
  | cons p ps ih =>
    intro o s he
    show (tellF ps ((readP p s).1 && o, (readP p s).2)).2 = s
    rw [readP_no he]
    exact ih _ he
theorem tell_all (ps : List Pt) (h3 : ∀ p ∈ ps, p.b.length ≤ 300) (hc : ∀ p ∈ ps, (encP p).2 = 0) (l : List UInt8) : tellF ps (true, 0, encs ps ++ l) = (true, 0, l) := by
  induction ps with
  | nil => rfl
  | cons p ps ih =>
    have e : encs (p :: ps) ++ l = (encP p).1 ++ (encs ps ++ l) := by simp [encs]
    show tellF ps ((readP p (0, encs (p :: ps) ++ l)).1 && true, (readP p (0, encs (p :: ps) ++ l)).2) = _
    rw [e, read_enc p (h3 p (by simp)) (hc p (by simp))]
    exact ih (fun q hq => h3 q (by simp [hq])) (fun q hq => hc q (by simp [hq]))
theorem tell_cut (ps : List Pt) (h3 : ∀ p ∈ ps, p.b.length ≤ 300) (hc : ∀ p ∈ ps, (encP p).2 = 0) : ∀ (j : Nat) (o : Bool), j < (encs ps).length → (tellF ps (o, 0, (encs ps).take j)).2.1 = 12 := by
  induction ps with
  | nil => intro j o hj; simp [encs] at hj
  | cons p ps ih =>
    intro j o hj
    have e : encs (p :: ps) = (encP p).1 ++ encs ps := by simp [encs]
    show (tellF ps ((readP p (0, (encs (p :: ps)).take j)).1 && o, (readP p (0, (encs (p :: ps)).take j)).2)).2.1 = 12
    rw [e] at hj ⊢
    rw [List.length_append] at hj
    by_cases hlt : j < (encP p).1.length
    · rw [append_take hlt]
      have h12 := read_cut p (h3 p (by simp)) (hc p (by simp)) j hlt
      have hne : (readP p (0, (encP p).1.take j)).2.1 ≠ 0 := by rw [h12]; decide
      rw [tellF_no ps _ hne]
      exact h12
    · have e2 : ((encP p).1 ++ encs ps).take j = (encP p).1 ++ (encs ps).take (j - (encP p).1.length) := by
        rw [List.take_append, List.take_of_length_le (by omega)]
      rw [e2, read_enc p (h3 p (by simp)) (hc p (by simp))]
      exact ih (fun q hq => h3 q (by simp [hq])) (fun q hq => hc q (by simp [hq])) _ _ (by omega)
/-- What a walk with one writer carries. -/
structure SW (v : World) (z : Nat) (A : Option Addr) (s : Int × List UInt8) (w : World) : Prop where
  bel : Below v.heap.size v w
  lz : v.heap.size ≤ z
  wr : WrR w z v.heap.size A s
section
variable {v w w' : World} {z y base' : Nat} {A D : Option Addr} {s s' t t' : Int × List UInt8} {e : Ending}
theorem SW.step (h : SW v z A s w) (hb : Below w.heap.size w w') : SW v z A s w' := ⟨bel_next h.bel hb, h.lz, h.wr.step hb⟩
theorem SW.ret (h : SW v z A s w) (hy : v.heap.size ≤ y) (k : RetPut z y v.heap.size v.heap.size A none s' t' w e w') : e = .returned (.bool true) ∧ ∃ A', SW v z A' s' w' := by
  obtain ⟨he, A', D', h1, h2, h3, h4, h5, h6⟩ := k
  refine ⟨he, A', h.bel.trans (h1.below (fun k hk => ?_) h.bel.size), h.lz, h5⟩
  rcases List.mem_cons.1 hk with rfl | hk
  · exact h.lz
  rcases List.mem_cons.1 hk with rfl | hk
  · exact hy
  rcases List.mem_append.1 hk with hk | hk
  · exact (h.wr.own k hk).2.1
  · simp [blkO] at hk
theorem SW.away (h : SW v z A s w) {B : Option Addr} {n : Nat} {l : List UInt8} (r : RB v v.heap.size B n l) : 0 < n → ∀ g o, B = some ⟨g, o, none⟩ → g ∉ blkO A := fun hn g o e hg => by
  have h1 := r.lt hn e
  have h2 := (h.wr.own g hg).2.1
  omega
end
theorem yW_new (w : World) (base : Nat) : WrQ (w.alloc (.cells #[.slice none 0 0, .int .i64 0] 44)) w.heap.size base none (0, []) := ⟨0, 0, Two.new _ _ _ _, OwnB.nil_ _ _⟩
end Go.Proofs.Ytakmnfcbfbkloaa
