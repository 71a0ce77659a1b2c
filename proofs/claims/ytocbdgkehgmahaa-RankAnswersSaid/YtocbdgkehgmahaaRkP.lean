/- Layer 23, plain: scores, the ranked order, the first one. Nothing is claimed of the program here. -/
import Derived.Test.YtocbdgkehgmahaaMixU
namespace Go.Proofs.Ytocbdgkehgmahaa
set_option linter.unusedVariables false
set_option linter.unusedSimpArgs false

/-- The score of the Id for the numbers below w. -/
def scF (s : Nat) (k : List UInt8) (id : Nat) : Nat → Nat
  | 0 => 0
  | w + 1 => max (scF s k id w) (mixF s [k, [UInt8.ofNat id], [UInt8.ofNat w]])
theorem scF_succ (s : Nat) (k : List UInt8) (id w : Nat) : scF s k id (w + 1) = max (scF s k id w) (mixF s [k, [UInt8.ofNat id], [UInt8.ofNat w]]) := rfl
theorem scF_mono (s : Nat) (k : List UInt8) (id : Nat) {v w : Nat} (h : v ≤ w) : scF s k id v ≤ scF s k id w := by
  induction w with
  | zero => rw [Nat.le_zero.1 h]; exact Nat.le_refl _
  | succ w ih =>
    rcases Nat.lt_or_ge w v with h1 | h1
    · rw [show v = w + 1 by omega]; exact Nat.le_refl _
    · exact Nat.le_trans (ih h1) (Nat.le_max_left _ _)
theorem mix_lt64 {s : Nat} {ps : List (List UInt8)} : mixF s ps < 18446744073709551616 := end_lt
theorem scF_lt (s : Nat) (k : List UInt8) (id w : Nat) : scF s k id w < 18446744073709551616 := by
  induction w with
  | zero => exact (by decide : 0 < 18446744073709551616)
  | succ w ih => rw [scF_succ]; exact Nat.max_lt.2 ⟨ih, mix_lt64⟩
/-- Is an entry within its bounds? -/
def okE (e : Int × Int) : Bool := decide (0 ≤ e.1 ∧ e.1 ≤ 63 ∧ 1 ≤ e.2 ∧ e.2 ≤ 16)
theorem okE_iff (e : Int × Int) : okE e = true ↔ 0 ≤ e.1 ∧ e.1 ≤ 63 ∧ 1 ≤ e.2 ∧ e.2 ≤ 16 := decide_eq_true_iff
/-- An entry's score. -/
def scE (s : Nat) (k : List UInt8) (e : Int × Int) : Nat := scF s k e.1.toNat e.2.toNat
theorem scE_lt (s : Nat) (k : List UInt8) (e : Int × Int) : scE s k e < 18446744073709551616 := scF_lt _ _ _ _
/-- The scores by Ids: of each Id its first entry within the bounds. -/
def tabE (f : Int × Int → Nat) (l : List (Int × Int)) (i : Nat) : Option Nat := (l.find? fun e => okE e && decide (e.1 = (i : Int))).map f
section
variable {f : Int × Int → Nat} {l : List (Int × Int)}
theorem tab_nil (i : Nat) : tabE f [] i = none := rfl
theorem tab_snoc (e : Int × Int) (i : Nat) : tabE f (l ++ [e]) i = match tabE f l i with | some t => some t | none => if okE e = true ∧ e.1 = (i : Int) then some (f e) else none := by
  unfold tabE
  rw [List.find?_append]
  cases h : l.find? fun e => okE e && decide (e.1 = (i : Int)) with
  | some x => rfl
  | none =>
    simp only [Option.none_or, Option.map_none, List.find?_cons, List.find?_nil]
    by_cases hp : okE e = true ∧ e.1 = (i : Int)
    · rw [if_pos hp, hp.1, decide_eq_true hp.2]; rfl
    · rw [if_neg hp]
      have : (okE e && decide (e.1 = (i : Int))) = false := by
        rw [Bool.eq_false_iff]
        intro h2
        rw [Bool.and_eq_true, decide_eq_true_iff] at h2
        exact hp h2
      rw [this]
      rfl
theorem tab_mem {i t : Nat} (h : tabE f l i = some t) : ∃ e, e ∈ l ∧ okE e = true ∧ e.1 = (i : Int) ∧ f e = t := by
  unfold tabE at h
  obtain ⟨e, h1, h2⟩ := Option.map_eq_some_iff.1 h
  have h3 := List.find?_some h1
  rw [Bool.and_eq_true, decide_eq_true_iff] at h3
  exact ⟨e, List.mem_of_find?_eq_some h1, h3.1, h3.2, h2⟩
theorem tab_has {i : Nat} {e : Int × Int} (h : e ∈ l) (hok : okE e = true) (hi : e.1 = (i : Int)) : tabE f l i ≠ none := by
  intro h0
  unfold tabE at h0
  rw [Option.map_eq_none_iff, List.find?_eq_none] at h0
  exact h0 e h (by rw [hok, hi]; simp)
theorem tab_big {i : Nat} (h : 64 ≤ i) : tabE f l i = none := by
  cases ht : tabE f l i with
  | none => rfl
  | some t =>
    obtain ⟨e, _, h2, h3, _⟩ := tab_mem ht
    rw [okE_iff] at h2
    omega
/-- All entries are within their bounds, and no Id is told twice. -/
def unlP (l : List (Int × Int)) : Prop := (∀ e ∈ l, okE e = true) ∧ l.Pairwise fun a b => a.1 ≠ b.1
theorem unl_nil : unlP [] := ⟨by simp, List.Pairwise.nil⟩
theorem unl_snoc (e : Int × Int) : unlP (l ++ [e]) ↔ unlP l ∧ okE e = true ∧ ∀ x ∈ l, x.1 ≠ e.1 := by
  unfold unlP
  rw [List.pairwise_append]
  constructor
  · rintro ⟨h1, h2, _, h3⟩
    exact ⟨⟨fun x hx => h1 x (List.mem_append_left _ hx), h2⟩, h1 e (by simp), fun x hx => h3 x hx e (by simp)⟩
  · rintro ⟨⟨h1, h2⟩, h3, h4⟩
    refine ⟨fun x hx => ?_, h2, List.pairwise_singleton .., fun x hx y hy => ?_⟩
    · rcases List.mem_append.1 hx with h | h
      · exact h1 x h
      · rw [List.mem_singleton] at h; rw [h]; exact h3
    · rw [List.mem_singleton] at hy; rw [hy]; exact h4 x hx
theorem unl_same (h : unlP l) {a b : Int × Int} (ha : a ∈ l) (hb : b ∈ l) (e : a.1 = b.1) : a = b := by
  have h2 := h.2
  clear h
  induction l with
  | nil => cases ha
  | cons x l ih =>
    rw [List.pairwise_cons] at h2
    rcases List.mem_cons.1 ha with ha1 | ha1
    · rcases List.mem_cons.1 hb with hb1 | hb1
      · rw [ha1, hb1]
      · exact absurd (by rw [← ha1, e]) (h2.1 b hb1)
    · rcases List.mem_cons.1 hb with hb1 | hb1
      · exact absurd (by rw [← hb1, e]) (h2.1 a ha1)
      · exact ih ha1 hb1 h2.2
theorem tab_unl (h : unlP l) {e : Int × Int} (he : e ∈ l) {i : Nat} (hi : e.1 = (i : Int)) : tabE f l i = some (f e) := by
  cases ht : tabE f l i with
  | none => exact absurd ht (tab_has he (h.1 e he) hi)
  | some t =>
    obtain ⟨x, h1, _, h3, h4⟩ := tab_mem ht
    rw [← h4, unl_same h h1 he (by rw [h3, hi])]
/-- The same entries in another order have the same scores. -/
theorem tab_same {l' : List (Int × Int)} (h : unlP l) (h' : unlP l') (hm : ∀ e, e ∈ l ↔ e ∈ l') : tabE f l = tabE f l' := by
  funext i
  cases ht : tabE f l i with
  | some t =>
    obtain ⟨e, h1, _, h3, h4⟩ := tab_mem ht
    rw [tab_unl h' ((hm e).1 h1) h3, h4]
  | none =>
    cases ht' : tabE f l' i with
    | none => rfl
    | some t =>
      obtain ⟨e, h1, h2, h3, h4⟩ := tab_mem ht'
      exact absurd ht (tab_has ((hm e).2 h1) h2 h3)
theorem unl_turn (h : unlP l) (t : Nat) : unlP (l.drop t ++ l.take t) := by
  refine ⟨fun e he => h.1 e ?_, ?_⟩
  · rcases List.mem_append.1 he with h1 | h1
    · exact List.mem_of_mem_drop h1
    · exact List.mem_of_mem_take h1
  · have := h.2
    rw [← List.take_append_drop t l] at this
    exact (List.pairwise_append_comm (fun h => fun e => h e.symm)).1 this
theorem tab_turn (h : unlP l) (t : Nat) : tabE f (l.drop t ++ l.take t) = tabE f l := by
  refine tab_same (unl_turn h t) h fun e => ?_
  conv => rhs; rw [← List.take_append_drop t l]
  rw [List.mem_append, List.mem_append]
  exact Or.comm
end
/-- The best of the Ids below n: the greatest score, and of equal ones the lower Id. -/
def bestT (T : Nat → Option Nat) : Nat → Option Nat
  | 0 => none
  | n + 1 => match T n with
    | none => bestT T n
    | some t => match bestT T n with
      | none => some n
      | some b => if (T b).getD 0 < t then some n else some b
def IsBest (T : Nat → Option Nat) (n i : Nat) : Prop := i < n ∧ ∃ t, T i = some t ∧ ∀ j u, j < n → T j = some u → u < t ∨ (u = t ∧ i ≤ j)
theorem best_is {T : Nat → Option Nat} {n : Nat} : (∀ i, bestT T n = some i → IsBest T n i) ∧ (bestT T n = none → ∀ j, j < n → T j = none) := by
  induction n with
  | zero => exact ⟨fun i h => (by cases h), fun _ j hj => absurd hj (Nat.not_lt_zero _)⟩
  | succ n ih =>
    unfold bestT
    cases hT : T n with
    | none =>
      refine ⟨fun i h => ?_, fun h j hj => ?_⟩
      · obtain ⟨h1, t, h2, h3⟩ := ih.1 i h
        refine ⟨by omega, t, h2, fun j u hj hu => ?_⟩
        rcases Nat.lt_or_ge j n with hj2 | hj2
        · exact h3 j u hj2 hu
        · obtain rfl : j = n := by omega
          rw [hT] at hu; cases hu
      · rcases Nat.lt_or_ge j n with hj2 | hj2
        · exact ih.2 h j hj2
        · obtain rfl : j = n := by omega
          exact hT
    | some t =>
      cases hb : bestT T n with
      | none =>
        refine ⟨fun i h => ?_, fun h => (by cases h)⟩
        injection h with h
        subst h
        refine ⟨Nat.lt_succ_self _, t, hT, fun j u hj hu => ?_⟩
        rcases Nat.lt_or_ge j n with hj2 | hj2
        · rw [ih.2 hb j hj2] at hu; cases hu
        · obtain rfl : j = n := by omega
          rw [hT] at hu; injection hu with hu
          exact .inr ⟨hu.symm, Nat.le_refl _⟩
      | some b =>
        obtain ⟨h1, tb, h2, h3⟩ := ih.1 b hb
        simp only [h2, Option.getD_some]
        by_cases hlt : tb < t
        · rw [if_pos hlt]
          refine ⟨fun i h => ?_, fun h => (by cases h)⟩
          injection h with h
          subst h
          refine ⟨Nat.lt_succ_self _, t, hT, fun j u hj hu => ?_⟩
          rcases Nat.lt_or_ge j n with hj2 | hj2
          · rcases h3 j u hj2 hu with h4 | ⟨h4, _⟩ <;> exact .inl (by omega)
          · obtain rfl : j = n := by omega
            rw [hT] at hu; injection hu with hu
            exact .inr ⟨hu.symm, Nat.le_refl _⟩
        · rw [if_neg hlt]
          refine ⟨fun i h => ?_, fun h => (by cases h)⟩
          injection h with h
          subst h
          refine ⟨by omega, tb, h2, fun j u hj hu => ?_⟩
          rcases Nat.lt_or_ge j n with hj2 | hj2
          · exact h3 j u hj2 hu
          · obtain rfl : j = n := by omega
            rw [hT] at hu; injection hu with hu
            rcases Nat.lt_or_ge u tb with h4 | h4
            · exact .inl h4
            · exact .inr ⟨by omega, by omega⟩
theorem best_one {T : Nat → Option Nat} {n i j : Nat} (h : IsBest T n i) (h' : IsBest T n j) : i = j := by
  obtain ⟨h1, t, h2, h3⟩ := h
  obtain ⟨h1', t', h2', h3'⟩ := h'
  rcases h3 j t' h1' h2' with h4 | ⟨h4, h5⟩ <;> rcases h3' i t h1 h2 with h6 | ⟨h6, h7⟩ <;> omega
theorem best_iff {T : Nat → Option Nat} {n i : Nat} : bestT T n = some i ↔ IsBest T n i := by
  refine ⟨best_is.1 i, fun h => ?_⟩
  cases hb : bestT T n with
  | none =>
    obtain ⟨h1, t, h2, _⟩ := h
    rw [best_is.2 hb i h1] at h2; cases h2
  | some j => rw [best_one (best_is.1 j hb) h]
theorem best_none {T : Nat → Option Nat} {n : Nat} : bestT T n = none ↔ ∀ j, j < n → T j = none := by
  refine ⟨best_is.2, fun h => ?_⟩
  cases hb : bestT T n with
  | none => rfl
  | some j =>
    obtain ⟨h1, t, h2, _⟩ := best_is.1 j hb
    rw [h j h1] at h2; cases h2
/-- Without one Id. -/
def delT (T : Nat → Option Nat) (i j : Nat) : Option Nat := if j = i then none else T j
/-- Removing another than the best one leaves the best one. -/
theorem best_del {T : Nat → Option Nat} {n i j : Nat} (h : bestT T n = some i) (hj : i ≠ j) : bestT (delT T j) n = some i := by
  rw [best_iff] at h ⊢
  obtain ⟨h1, t, h2, h3⟩ := h
  refine ⟨h1, t, by unfold delT; rw [if_neg hj]; exact h2, fun k u hk hu => h3 k u hk ?_⟩
  unfold delT at hu
  split at hu
  · cases hu
  · exact hu
/-- A greater score of one Id takes the first place, or leaves it. -/
theorem best_up {T T' : Nat → Option Nat} {n i j : Nat} (h : bestT T n = some i) (hs : ∀ k, k ≠ j → T' k = T k) (hup : ∀ t, T j = some t → ∃ t', T' j = some t' ∧ t ≤ t') (hj : j < n) (hin : T j ≠ none) :
    ∃ k, bestT T' n = some k ∧ (k = i ∨ k = j) := by
  cases hb : bestT T' n with
  | none =>
    rw [best_none] at hb
    cases ht : T j with
    | none => exact absurd ht hin
    | some t =>
      obtain ⟨t', h1, _⟩ := hup t ht
      rw [hb j hj] at h1; cases h1
  | some k =>
    refine ⟨k, rfl, ?_⟩
    by_cases hkj : k = j
    · exact .inr hkj
    · left
      rw [best_iff] at h hb
      obtain ⟨h1, t, h2, h3⟩ := h
      obtain ⟨k1, u, k2, k3⟩ := hb
      rw [hs k hkj] at k2
      have a1 := h3 k u k1 k2
      by_cases hij : i = j
      · subst hij
        obtain ⟨t', q1, q2⟩ := hup t h2
        have a2 := k3 i t' h1 q1
        omega
      · have a2 := k3 i t h1 (by rw [hs i hij]; exact h2)
        omega
/-- The ranked order. -/
def ordT (T : Nat → Option Nat) : Nat → List Nat
  | 0 => []
  | m + 1 => match bestT T 64 with
    | none => []
    | some i => i :: ordT (delT T i) m
/-- How many Ids below n there are. -/
def cntT (T : Nat → Option Nat) : Nat → Nat
  | 0 => 0
  | n + 1 => cntT T n + if T n = none then 0 else 1
theorem cnt_le (T : Nat → Option Nat) (n : Nat) : cntT T n ≤ n := by
  induction n with
  | zero => exact Nat.le_refl _
  | succ n ih => unfold cntT; split <;> omega
theorem cnt_ext {T T' : Nat → Option Nat} {n : Nat} (h : ∀ j, j < n → (T j = none ↔ T' j = none)) : cntT T n = cntT T' n := by
  induction n with
  | zero => rfl
  | succ n ih =>
    unfold cntT
    rw [ih fun j hj => h j (by omega)]
    have := h n (Nat.lt_succ_self _)
    by_cases h0 : T n = none
    · rw [if_pos h0, if_pos (this.1 h0)]
    · rw [if_neg h0, if_neg (fun e => h0 (this.2 e))]
theorem cnt_del {T : Nat → Option Nat} {n i : Nat} (hi : i < n) (hT : T i ≠ none) : cntT (delT T i) n + 1 = cntT T n := by
  induction n with
  | zero => exact absurd hi (Nat.not_lt_zero _)
  | succ n ih =>
    unfold cntT
    rcases Nat.lt_or_ge i n with h1 | h1
    · have e : delT T i n = T n := by unfold delT; rw [if_neg (by omega)]
      rw [e, ← ih h1]
      omega
    · obtain rfl : i = n := by omega
      have e : delT T i i = none := by unfold delT; rw [if_pos rfl]
      have e2 : cntT (delT T i) i = cntT T i := cnt_ext fun j hj => by unfold delT; rw [if_neg (by omega)]
      rw [e, if_pos rfl, if_neg hT, e2]
theorem cnt_zero {T : Nat → Option Nat} {n : Nat} (h : ∀ j, j < n → T j = none) : cntT T n = 0 := by
  induction n with
  | zero => rfl
  | succ n ih => unfold cntT; rw [ih fun j hj => h j (by omega), if_pos (h n (Nat.lt_succ_self _))]
theorem ord_len {m : Nat} : ∀ {T : Nat → Option Nat}, cntT T 64 ≤ m → (ordT T m).length = cntT T 64 := by
  induction m with
  | zero => intro T h; unfold ordT; simp; omega
  | succ m ih =>
    intro T h
    unfold ordT
    cases hb : bestT T 64 with
    | none => rw [cnt_zero (best_none.1 hb)]; rfl
    | some i =>
      obtain ⟨h1, t, h2, _⟩ := best_is.1 i hb
      have := cnt_del (T := T) h1 (by rw [h2]; simp)
      simp only [List.length_cons]
      rw [ih (by omega)]
      exact this
/-- All Ids, ranked. -/
def ordA (T : Nat → Option Nat) : List Nat := ordT T 64
theorem ordA_len (T : Nat → Option Nat) : (ordA T).length = cntT T 64 := ord_len (cnt_le T 64)
theorem ord_more {m : Nat} : ∀ {T : Nat → Option Nat}, cntT T 64 ≤ m → ordT T (m + 1) = ordT T m := by
  induction m with
  | zero =>
    intro T h
    have hn : bestT T 64 = none := by
      cases hb : bestT T 64 with
      | none => rfl
      | some i =>
        obtain ⟨h1, t, h2, _⟩ := best_is.1 i hb
        have := cnt_del (T := T) h1 (by rw [h2]; simp)
        omega
    show (match bestT T 64 with | none => [] | some i => i :: ordT (delT T i) 0) = []
    rw [hn]
  | succ m ih =>
    intro T h
    show (match bestT T 64 with | none => [] | some i => i :: ordT (delT T i) (m + 1)) = (match bestT T 64 with | none => [] | some i => i :: ordT (delT T i) m)
    cases hb : bestT T 64 with
    | none => rfl
    | some i =>
      obtain ⟨h1, t, h2, _⟩ := best_is.1 i hb
      have := cnt_del (T := T) h1 (by rw [h2]; simp)
      simp only
      rw [ih (by omega)]
theorem ordA_cons {T : Nat → Option Nat} {i : Nat} (h : bestT T 64 = some i) : ordA T = i :: ordA (delT T i) := by
  obtain ⟨h1, t, h2, _⟩ := best_is.1 i h
  have h3 := cnt_del (T := T) h1 (by rw [h2]; simp)
  have h4 := cnt_le T 64
  have e : ordT (delT T i) 64 = ordT (delT T i) 63 := ord_more (by omega)
  show (match bestT T 64 with | none => [] | some i => i :: ordT (delT T i) 63) = i :: ordT (delT T i) 64
  rw [h, e]
theorem ordA_nil {T : Nat → Option Nat} (h : bestT T 64 = none) : ordA T = [] := by
  show (match bestT T 64 with | none => [] | some i => i :: ordT (delT T i) 63) = []
  rw [h]
theorem ordA_head (T : Nat → Option Nat) : (ordA T).head? = bestT T 64 := by
  cases hb : bestT T 64 with
  | none => rw [ordA_nil hb]; rfl
  | some i => rw [ordA_cons hb]; rfl
/-- Without the first k of the order. -/
def leftT (T : Nat → Option Nat) (k j : Nat) : Option Nat := if j ∈ (ordA T).take k then none else T j
theorem left_zero (T : Nat → Option Nat) : leftT T 0 = T := by
  funext j
  unfold leftT
  rw [List.take_zero, if_neg (by simp)]
theorem drop_ord {k : Nat} : ∀ {T : Nat → Option Nat}, ordA (leftT T k) = (ordA T).drop k := by
  induction k with
  | zero => intro T; rw [left_zero]; rfl
  | succ k ih =>
    intro T
    cases hb : bestT T 64 with
    | none =>
      have h0 := ordA_nil hb
      have : leftT T (k + 1) = T := by
        funext j
        unfold leftT
        rw [h0, List.take_nil, if_neg (by simp)]
      rw [this, h0]
      rfl
    | some i =>
      have h0 := ordA_cons hb
      have : leftT T (k + 1) = leftT (delT T i) k := by
        funext j
        unfold leftT
        rw [h0, List.take_succ_cons]
        by_cases hj : j = i
        · have e : delT T i j = none := if_pos hj
          rw [e, if_pos (by rw [hj]; exact List.mem_cons_self ..)]
          split <;> rfl
        · have e : delT T i j = T j := if_neg hj
          rw [e]
          by_cases hm : j ∈ (ordA (delT T i)).take k
          · rw [if_pos (List.mem_cons_of_mem _ hm), if_pos hm]
          · have hm2 : ¬ j ∈ i :: (ordA (delT T i)).take k := fun h => by
              rcases List.mem_cons.1 h with h | h
              · exact hj h
              · exact hm h
            rw [if_neg hm2, if_neg hm]
      rw [this, ih, h0]
      rfl
/-- One of the order: it is there, it wasn't told ahead, and its score is at most those ahead. -/
theorem ord_at {T : Nat → Option Nat} {k i : Nat} (h : (ordA T)[k]? = some i) : i < 64 ∧ (∃ t, T i = some t) ∧ ¬ i ∈ (ordA T).take k ∧ bestT (leftT T k) 64 = some i := by
  have h1 : (ordA (leftT T k)).head? = some i := by
    rw [drop_ord, List.head?_drop]
    exact h
  rw [ordA_head] at h1
  obtain ⟨h2, t, h3, _⟩ := best_is.1 i h1
  unfold leftT at h3
  split at h3
  · cases h3
  · rename_i hn
    exact ⟨h2, ⟨t, h3⟩, hn, h1⟩
theorem ord_down {T : Nat → Option Nat} {k i j t u : Nat} (h : (ordA T)[k]? = some i) (h' : (ordA T)[k + 1]? = some j) (ht : T i = some t) (hu : T j = some u) : u ≤ t := by
  obtain ⟨_, _, h1, h2⟩ := ord_at h
  obtain ⟨h3, _, h4, _⟩ := ord_at h'
  obtain ⟨_, t', q1, q2⟩ := best_is.1 i h2
  have e1 : leftT T k i = T i := by unfold leftT; rw [if_neg h1]
  have hj : ¬ j ∈ (ordA T).take k := fun hm => h4 (by
    rw [List.take_add_one, List.mem_append]
    exact .inl hm)
  have e2 : leftT T k j = T j := by unfold leftT; rw [if_neg hj]
  rw [e1, ht] at q1
  injection q1 with q1
  have := q2 j u h3 (by rw [e2]; exact hu)
  omega
theorem tab_cnt {f : Int × Int → Nat} {l : List (Int × Int)} (h : unlP l) : cntT (tabE f l) 64 = l.length := by
  suffices hs : ∀ n, n ≤ l.length → cntT (tabE f (l.take n)) 64 = n by
    have := hs l.length (Nat.le_refl _)
    rwa [List.take_length] at this
  intro n
  induction n with
  | zero => intro _; exact cnt_zero fun j _ => rfl
  | succ n ih =>
    intro hn
    obtain ⟨e, he⟩ : ∃ e, l[n]? = some e := ⟨l[n]'(by omega), List.getElem?_eq_getElem (by omega)⟩
    have ht : l.take (n + 1) = l.take n ++ [e] := by rw [List.take_add_one, he]; rfl
    have hu : unlP (l.take n ++ [e]) := by
      rw [← ht]
      exact ⟨fun x hx => h.1 x (List.mem_of_mem_take hx), h.2.sublist (List.take_sublist _ _)⟩
    obtain ⟨_, h2, h3⟩ := (unl_snoc e).1 hu
    have hok := (okE_iff e).1 h2
    have hi : e.1 = ((e.1.toNat : Nat) : Int) := by omega
    have h0 : tabE f (l.take n) e.1.toNat = none := by
      cases hc : tabE f (l.take n) e.1.toNat with
      | none => rfl
      | some t =>
        obtain ⟨x, q1, _, q3, _⟩ := tab_mem hc
        exact absurd (by rw [q3]; exact hi.symm) (h3 x q1)
    have hdel : cntT (delT (tabE f (l.take (n + 1))) e.1.toNat) 64 = cntT (tabE f (l.take n)) 64 := cnt_ext fun j hj => by
      unfold delT
      by_cases hji : j = e.1.toNat
      · rw [if_pos hji, hji, h0]
      · rw [if_neg hji, ht, tab_snoc]
        cases tabE f (l.take n) j with
        | some t => simp
        | none =>
          have : ¬ (okE e = true ∧ e.1 = (j : Int)) := fun hh => hji (by omega)
          simp [this]
    have hc := cnt_del (T := tabE f (l.take (n + 1))) (n := 64) (i := e.1.toNat) (by omega) (by rw [ht]; exact tab_has (by simp) h2 hi)
    rw [← hc, hdel, ih (by omega)]
end Go.Proofs.Ytocbdgkehgmahaa
