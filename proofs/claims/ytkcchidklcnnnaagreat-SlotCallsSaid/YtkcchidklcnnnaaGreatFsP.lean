/- Layer 15, plain: passes over halves by a cipher E (a function from blocks to blocks), undone by themselves. Nothing is claimed of the program here. -/
import Derived.Test.YtkcchidklcnnnaaGreatHvP
namespace Go.Proofs.YtkcchidklcnnnaaGreat
open Go.RowKit
set_option linter.unusedVariables false
set_option linter.unusedSimpArgs false
theorem b_xor_and (x y m : UInt8) : (x ^^^ y) &&& m = (x &&& m) ^^^ (y &&& m) := by
  apply UInt8.toBitVec_inj.1
  rw [UInt8.toBitVec_and, UInt8.toBitVec_xor, UInt8.toBitVec_xor, UInt8.toBitVec_and, UInt8.toBitVec_and]
  ext i hi
  simp [Bool.and_xor_distrib_right]
theorem xor_gd {a b : List UInt8} (h : a.length ≤ b.length) (i : Nat) : gd (xorL a b) i = if i < a.length then gd a i ^^^ gd b i else 0 := by
  have hl : (xorL a b).length = a.length := by simp [xorL]; omega
  by_cases hi : i < a.length
  · rw [if_pos hi]
    refine gd_some ?_
    unfold xorL
    rw [List.getElem?_zipWith, gd_lt hi, gd_lt (by omega : i < b.length)]
  · rw [if_neg hi]
    exact gd_ge (by omega)
theorem xor_len2 {a b : List UInt8} (h : a.length ≤ b.length) : (xorL a b).length = a.length := by simp [xorL]; omega
/-- A half, added to by the other one's pass. -/
def addL (E : List UInt8 → List UInt8) (f t : List UInt8) (n p : Nat) (left : Bool) : List UInt8 := trimL (xorL t (E (blockL f n p))) n left
/-- Halves behind a pass. -/
def passP (E : List UInt8 → List UInt8) (n : Nat) (s : List UInt8 × List UInt8) (p : Nat) : List UInt8 × List UInt8 :=
  if p % 2 = 0 then (addL E s.2 s.1 n p true, s.2) else (s.1, addL E s.1 s.2 n p false)
/-- Halves behind passes. -/
def passesP (E : List UInt8 → List UInt8) (n : Nat) (s : List UInt8 × List UInt8) (o : List Nat) : List UInt8 × List UInt8 := o.foldl (passP E n) s
/-- Valid halves of a text of n bytes. -/
structure VH (n : Nat) (s : List UInt8 × List UInt8) : Prop where
  l : s.1.length = szN n
  r : s.2.length = szN n
  tl : trimL s.1 n true = s.1
  tr : trimL s.2 n false = s.2
section
variable {E : List UInt8 → List UInt8} {n p : Nat} {s : List UInt8 × List UInt8} {f t : List UInt8} {left : Bool}
theorem add_len (hE : ∀ b, b.length = 16 → (E b).length = 16) (hf : f.length ≤ 14) (ht : t.length ≤ 14) : (addL E f t n p left).length = t.length := by
  unfold addL
  rw [trim_len, xor_len2 (by rw [hE _ (block_len _ _ _ hf)]; omega)]
theorem add_trim : trimL (addL E f t n p left) n left = addL E f t n p left := by unfold addL; exact trim_twice _ _ _
/-- What is added twice is as it was. -/
theorem add_twice (hE : ∀ b, b.length = 16 → (E b).length = 16) (hf : f.length ≤ 14) (ht : t.length ≤ 14) (hv : trimL t n left = t) : addL E f (addL E f t n p left) n p left = t := by
  have hb := hE _ (block_len f n p hf)
  have h1 : (addL E f t n p left).length = t.length := add_len hE hf ht
  refine gd_ext (by rw [add_len hE hf (by omega), h1]) fun i hi => ?_
  rw [add_len hE hf (by omega), h1] at hi
  have hti := congrArg (fun l => gd l i) hv
  simp only [trim_gd] at hti
  have g1 : gd (addL E f t n p left) i = if i = edgeN t.length left ∧ i < t.length then (gd t i ^^^ gd (E (blockL f n p)) i) &&& maskB n left else gd t i ^^^ gd (E (blockL f n p)) i := by
    conv => lhs; unfold addL
    rw [trim_gd, xor_len2 (by omega), xor_gd (by omega), if_pos hi]
  have g2 : gd (addL E f (addL E f t n p left) n p left) i = if i = edgeN t.length left ∧ i < t.length then (gd (addL E f t n p left) i ^^^ gd (E (blockL f n p)) i) &&& maskB n left else gd (addL E f t n p left) i ^^^ gd (E (blockL f n p)) i := by
    conv => lhs; rw [addL]
    rw [trim_gd, xor_len2 (by omega), xor_gd (by omega), h1, if_pos hi]
  rw [g2, g1]
  by_cases he : i = edgeN t.length left ∧ i < t.length
  · rw [if_pos he, if_pos he]
    rw [if_pos he] at hti
    rw [b_xor_and, b_twice, b_xor_and, UInt8.xor_assoc, UInt8.xor_self, UInt8.xor_zero]
    exact hti
  · rw [if_neg he, if_neg he, UInt8.xor_assoc, UInt8.xor_self, UInt8.xor_zero]
theorem VH.pass (v : VH n s) (hn : n ≤ 28) (hE : ∀ b, b.length = 16 → (E b).length = 16) (p : Nat) : VH n (passP E n s p) := by
  have h14 := szN_le n hn
  have h1 := v.l
  have h2 := v.r
  unfold passP
  split
  · exact ⟨by simp only; rw [add_len hE (by omega) (by omega)]; exact v.l, v.r, add_trim, v.tr⟩
  · exact ⟨v.l, by simp only; rw [add_len hE (by omega) (by omega)]; exact v.r, v.tl, add_trim⟩
/-- A pass twice is none. -/
theorem VH.twice (v : VH n s) (hn : n ≤ 28) (hE : ∀ b, b.length = 16 → (E b).length = 16) (p : Nat) : passP E n (passP E n s p) p = s := by
  have h14 := szN_le n hn
  have h1 := v.l
  have h2 := v.r
  unfold passP
  split
  · simp only
    rw [add_twice hE (by omega) (by omega) v.tl]
  · simp only
    rw [add_twice hE (by omega) (by omega) v.tr]
theorem VH.passes (hn : n ≤ 28) (hE : ∀ b, b.length = 16 → (E b).length = 16) : ∀ (o : List Nat) (s : List UInt8 × List UInt8), VH n s → VH n (passesP E n s o)
  | [], s, v => v
  | p :: o, s, v => by unfold passesP; rw [List.foldl_cons]; exact VH.passes hn hE o _ (v.pass hn hE p)
/-- Passes are undone by themselves backwards. -/
theorem VH.back (hn : n ≤ 28) (hE : ∀ b, b.length = 16 → (E b).length = 16) : ∀ (o : List Nat) (s : List UInt8 × List UInt8), VH n s → passesP E n (passesP E n s o) o.reverse = s
  | [], s, v => rfl
  | p :: o, s, v => by
    have ih := VH.back hn hE o _ (v.pass hn hE p)
    unfold passesP at ih ⊢
    rw [List.foldl_cons, List.reverse_cons, List.foldl_append, ih]
    exact v.twice hn hE p
theorem passes_snoc (E : List UInt8 → List UInt8) (n : Nat) (s : List UInt8 × List UInt8) (o : List Nat) (p : Nat) : passesP E n s (o ++ [p]) = passP E n (passesP E n s o) p := by unfold passesP; rw [List.foldl_append]; rfl
end
/-- A text behind passes. -/
def mixL (E : List UInt8 → List UInt8) (b : List UInt8) (o : List Nat) : List UInt8 :=
  joinL (passesP E b.length ((cutR b).1, (cutR b).2.1) o).1 (passesP E b.length ((cutR b).1, (cutR b).2.1) o).2 b.length
theorem cut_vh (b : List UInt8) (h2 : 2 ≤ b.length) (h28 : b.length ≤ 28) : VH b.length ((cutR b).1, (cutR b).2.1) := by
  have h := cut_parts b h2 h28
  exact ⟨h.2.1, h.2.2.1, h.2.2.2.1, h.2.2.2.2⟩
theorem mix_eq (E : List UInt8 → List UInt8) (b : List UInt8) (o : List Nat) : mixL E b o = joinL (passesP E b.length ((cutR b).1, (cutR b).2.1) o).1 (passesP E b.length ((cutR b).1, (cutR b).2.1) o).2 b.length := rfl
theorem mix_len (E : List UInt8 → List UInt8) (b : List UInt8) (o : List Nat) : (mixL E b o).length = b.length := by unfold mixL; exact join_len _ _ _
theorem mix_cut {E : List UInt8 → List UInt8} (hE : ∀ b, b.length = 16 → (E b).length = 16) (b : List UInt8) (o : List Nat) (h2 : 2 ≤ b.length) (h28 : b.length ≤ 28) :
    cutR (mixL E b o) = ((passesP E b.length ((cutR b).1, (cutR b).2.1) o).1, (passesP E b.length ((cutR b).1, (cutR b).2.1) o).2, 0) := by
  have v := VH.passes h28 hE o _ (cut_vh b h2 h28)
  unfold mixL
  exact cut_join _ _ _ h2 h28 v.l v.r v.tl v.tr
/-- What is mixed by passes is unmixed by them backwards. -/
theorem mix_back {E : List UInt8 → List UInt8} (hE : ∀ b, b.length = 16 → (E b).length = 16) (b : List UInt8) (o : List Nat) (h2 : 2 ≤ b.length) (h28 : b.length ≤ 28) : mixL E (mixL E b o) o.reverse = b := by
  have hb := VH.back h28 hE o _ (cut_vh b h2 h28)
  rw [mix_eq E (mixL E b o) o.reverse, mix_cut hE b o h2 h28, mix_len]
  simp only
  rw [hb]
  exact join_cut b h2 h28
/-- Is it a pass's number? -/
def okP (p : Int) : Bool := decide (0 ≤ p ∧ p ≤ 255)
theorem okP_nat {p : Int} (h : okP p = true) : ∃ q : Nat, p = (q : Int) ∧ q ≤ 255 := by
  have h := of_decide_eq_true h
  exact ⟨p.toNat, by omega, by omega⟩
theorem okP_mk (q : Nat) (h : q ≤ 255) : okP (q : Int) = true := decide_eq_true (by omega)
/-- One half's pass onto the other: its answer. -/
def ontoR (E : List UInt8 → List UInt8) (f t : List UInt8) (z p : Int) (left : Bool) : List UInt8 × Int :=
  if (fitB z f.length && (decide (t.length = f.length) && okP p)) = true then (addL E f t z.toNat p.toNat left, 0) else ([], 11)
/-- Pass's answer. -/
def passR (E : List UInt8 → List UInt8) (l r : List UInt8) (z p : Int) : List UInt8 × List UInt8 × Int :=
  if (fitB z l.length && (decide (r.length = l.length) && okP p)) = true then ((passP E z.toNat (l, r) p.toNat).1, (passP E z.toNat (l, r) p.toNat).2, 0) else ([], [], 11)
/-- Passes' answer. -/
def passesR (E : List UInt8 → List UInt8) (b : List UInt8) (o : List Int) : List UInt8 × Int :=
  if 2 ≤ b.length ∧ b.length ≤ 28 ∧ o.all okP = true then (mixL E b (o.map Int.toNat), 0) else ([], 11)
theorem onto_no {E : List UInt8 → List UInt8} {f t : List UInt8} {z p : Int} {left : Bool} (h : (fitB z f.length && (decide (t.length = f.length) && okP p)) = false) : ontoR E f t z p left = ([], 11) := by
  unfold ontoR; rw [h, if_neg (by decide)]
theorem onto_ok (E : List UInt8 → List UInt8) (f t : List UInt8) (n p : Nat) (left : Bool) (h2 : 2 ≤ n) (h28 : n ≤ 28) (hf : f.length = szN n) (ht : t.length = szN n) (hp : p ≤ 255) : ontoR E f t (n : Int) (p : Int) left = (addL E f t n p left, 0) := by
  unfold ontoR
  rw [hf, fitB_mk h2 h28, ht, okP_mk p hp, if_pos (by simp)]
  rfl
theorem pass_no {E : List UInt8 → List UInt8} {l r : List UInt8} {z p : Int} (h : (fitB z l.length && (decide (r.length = l.length) && okP p)) = false) : passR E l r z p = ([], [], 11) := by
  unfold passR; rw [h, if_neg (by decide)]
theorem pass_ok (E : List UInt8 → List UInt8) (l r : List UInt8) (n p : Nat) (h2 : 2 ≤ n) (h28 : n ≤ 28) (hl : l.length = szN n) (hr : r.length = szN n) (hp : p ≤ 255) : passR E l r (n : Int) (p : Int) = ((passP E n (l, r) p).1, (passP E n (l, r) p).2, 0) := by
  unfold passR
  rw [hl, fitB_mk h2 h28, hr, okP_mk p hp, if_pos (by simp)]
  rfl
/-- Pass's answer by the side that it goes to. -/
theorem pass_even {E : List UInt8 → List UInt8} {l r : List UInt8} {z p : Int} (hp : p.tmod 2 = 0) : passR E l r z p = if (ontoR E r l z p true).2 = 0 then ((ontoR E r l z p true).1, r, 0) else ([], [], 11) := by
  unfold passR ontoR
  by_cases hl : r.length = l.length
  · rw [hl, decide_eq_true rfl]
    cases h : (fitB z l.length && (true && okP p))
    · simp
    · have hk : okP p = true := by revert h; cases okP p <;> simp
      obtain ⟨q, rfl, hq⟩ := okP_nat hk
      have hq2 : q % 2 = 0 := by rw [Int.tmod_eq_emod_of_nonneg (by omega)] at hp; omega
      simp only [if_true, Int.toNat_natCast]
      unfold passP
      rw [if_pos hq2]
  · have hl' : ¬ l.length = r.length := fun e => hl e.symm
    rw [decide_eq_false hl, decide_eq_false hl']
    simp
theorem pass_odd {E : List UInt8 → List UInt8} {l r : List UInt8} {z p : Int} (hp : p.tmod 2 ≠ 0) : passR E l r z p = if (ontoR E l r z p false).2 = 0 then (l, (ontoR E l r z p false).1, 0) else ([], [], 11) := by
  unfold passR ontoR
  cases h : (fitB z l.length && (decide (r.length = l.length) && okP p))
  · simp
  · have hk : okP p = true := by revert h; cases okP p <;> simp
    obtain ⟨q, rfl, hq⟩ := okP_nat hk
    have hq2 : ¬ q % 2 = 0 := by rw [Int.tmod_eq_emod_of_nonneg (by omega)] at hp; omega
    simp only [if_true, Int.toNat_natCast]
    unfold passP
    rw [if_neg hq2]
theorem pass_cases (E : List UInt8 → List UInt8) (l r : List UInt8) (z p : Int) : passR E l r z p = ([], [], 11) ∨ (passR E l r z p).2.2 = 0 := by
  unfold passR
  split
  · exact .inr rfl
  · exact .inl rfl
theorem cut_no {b : List UInt8} (h : ¬ (2 ≤ b.length ∧ b.length ≤ 28)) : cutR b = ([], [], 11) := by unfold cutR; rw [if_neg h]
theorem passes_no {E : List UInt8 → List UInt8} {b : List UInt8} {o : List Int} (h : ¬ (2 ≤ b.length ∧ b.length ≤ 28 ∧ o.all okP = true)) : passesR E b o = ([], 11) := by unfold passesR; rw [if_neg h]
theorem passes_ok {E : List UInt8 → List UInt8} {b : List UInt8} {o : List Int} (h2 : 2 ≤ b.length) (h28 : b.length ≤ 28) (ho : o.all okP = true) : passesR E b o = (mixL E b (o.map Int.toNat), 0) := by unfold passesR; rw [if_pos ⟨h2, h28, ho⟩]
theorem all_take {o : List Int} {k : Nat} {p : Int} (hp : o[k]? = some p) : (o.take (k + 1)).all okP = ((o.take k).all okP && okP p) := by
  rw [List.take_add_one, hp, List.all_append]
  simp
/-- Halves behind the first k passes. -/
def atP (E : List UInt8 → List UInt8) (b : List UInt8) (o : List Int) (k : Nat) : List UInt8 × List UInt8 := passesP E b.length ((cutR b).1, (cutR b).2.1) ((o.take k).map Int.toNat)
theorem atP_zero (E : List UInt8 → List UInt8) (b : List UInt8) (o : List Int) : atP E b o 0 = ((cutR b).1, (cutR b).2.1) := rfl
theorem atP_succ {E : List UInt8 → List UInt8} {b : List UInt8} {o : List Int} {k : Nat} {p : Int} (hp : o[k]? = some p) : atP E b o (k + 1) = passP E b.length (atP E b o k) p.toNat := by
  unfold atP
  rw [List.take_add_one, hp, List.map_append]
  exact passes_snoc _ _ _ _ _
theorem atP_vh {E : List UInt8 → List UInt8} (hE : ∀ b, b.length = 16 → (E b).length = 16) (b : List UInt8) (o : List Int) (k : Nat) (h2 : 2 ≤ b.length) (h28 : b.length ≤ 28) : VH b.length (atP E b o k) := VH.passes h28 hE _ _ (cut_vh b h2 h28)
theorem atP_pass {E : List UInt8 → List UInt8} (hE : ∀ b, b.length = 16 → (E b).length = 16) (b : List UInt8) (o : List Int) (k : Nat) (p : Int) (h2 : 2 ≤ b.length) (h28 : b.length ≤ 28) (hp : o[k]? = some p) (hk : okP p = true) :
    passR E (atP E b o k).1 (atP E b o k).2 (b.length : Int) p = ((atP E b o (k + 1)).1, (atP E b o (k + 1)).2, 0) := by
  have v := atP_vh hE b o k h2 h28
  obtain ⟨q, rfl, hq⟩ := okP_nat hk
  rw [atP_succ hp, pass_ok E _ _ _ q h2 h28 v.l v.r hq]
  rfl
theorem atP_bad {E : List UInt8 → List UInt8} (b : List UInt8) (o : List Int) (k : Nat) (p : Int) (hk : okP p = false) :
    passR E (atP E b o k).1 (atP E b o k).2 (b.length : Int) p = ([], [], 11) := pass_no (by rw [hk]; simp)
theorem atP_join {E : List UInt8 → List UInt8} (hE : ∀ b, b.length = 16 → (E b).length = 16) (b : List UInt8) (o : List Int) (n : Nat) (hn : o.length = n) (h2 : 2 ≤ b.length) (h28 : b.length ≤ 28) (ho : o.all okP = true) :
    joinR (atP E b o n).1 (atP E b o n).2 (b.length : Int) = passesR E b o := by
  have v := atP_vh hE b o n h2 h28
  rw [passes_ok h2 h28 ho, join_ok _ _ _ h2 h28 v.l v.r v.tl v.tr]
  unfold atP mixL
  rw [List.take_of_length_le (by omega)]
/-- Passes backwards undo what passes did, as answers. -/
theorem passes_back {E : List UInt8 → List UInt8} (hE : ∀ b, b.length = 16 → (E b).length = 16) (b : List UInt8) (o : List Int) (h2 : 2 ≤ b.length) (h28 : b.length ≤ 28) (ho : o.all okP = true) : passesR E (passesR E b o).1 o.reverse = (b, 0) := by
  rw [passes_ok h2 h28 ho]
  simp only
  rw [passes_ok (by rw [mix_len]; exact h2) (by rw [mix_len]; exact h28) (by rw [List.all_reverse]; exact ho), List.map_reverse, mix_back hE b _ h2 h28]
theorem passes_len {E : List UInt8 → List UInt8} {b : List UInt8} {o : List Int} (h2 : 2 ≤ b.length) (h28 : b.length ≤ 28) (ho : o.all okP = true) : (passesR E b o).1.length = b.length ∧ (passesR E b o).2 = 0 := by
  rw [passes_ok h2 h28 ho]
  exact ⟨mix_len _ _ _, rfl⟩
end Go.Proofs.YtkcchidklcnnnaaGreat
