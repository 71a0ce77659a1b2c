/- Layer 23, plain: an entry fewer, a greater weight. Nothing is claimed of the program here. -/
import Derived.Test.YtocbdgkehgmahaaRkG
namespace Go.Proofs.Ytocbdgkehgmahaa
set_option linter.unusedVariables false
set_option linter.unusedSimpArgs false
section
variable {f : Int × Int → Nat} {a b l : List (Int × Int)} {e e' : Int × Int} {i k : Nat}
theorem unl_mid : unlP (a ++ e :: b) ↔ unlP (a ++ b) ∧ okE e = true ∧ ∀ x ∈ a ++ b, x.1 ≠ e.1 := by
  unfold unlP
  rw [List.pairwise_append, List.pairwise_append, List.pairwise_cons]
  constructor
  · rintro ⟨h1, h2, ⟨h3, h4⟩, h5⟩
    refine ⟨⟨fun x hx => h1 x ?_, h2, h4, fun x hx y hy => h5 x hx y (List.mem_cons_of_mem _ hy)⟩, h1 e (by simp), fun x hx => ?_⟩
    · rcases List.mem_append.1 hx with h | h
      · exact List.mem_append_left _ h
      · exact List.mem_append_right _ (List.mem_cons_of_mem _ h)
    · rcases List.mem_append.1 hx with h | h
      · exact h5 x h e (List.mem_cons_self ..)
      · exact fun q => h3 x h q.symm
  · rintro ⟨⟨h1, h2, h4, h5⟩, h6, h7⟩
    refine ⟨fun x hx => ?_, h2, ⟨fun x hx q => h7 x (List.mem_append_right _ hx) q.symm, h4⟩, fun x hx y hy => ?_⟩
    · rcases List.mem_append.1 hx with h | h
      · exact h1 x (List.mem_append_left _ h)
      · rcases List.mem_cons.1 h with h | h
        · rw [h]; exact h6
        · exact h1 x (List.mem_append_right _ h)
    · rcases List.mem_cons.1 hy with h | h
      · rw [h]; exact h7 x (List.mem_append_left _ hx)
      · exact h5 x hx y h
theorem tab_mid (h : unlP (a ++ e :: b)) (hi : e.1 = (i : Int)) (j : Nat) : tabE f (a ++ e :: b) j = if j = i then some (f e) else tabE f (a ++ b) j := by
  have hm := unl_mid.1 h
  have hin : ∀ x, x ∈ a ++ e :: b ↔ x ∈ a ++ b ∨ x = e := fun x => by
    simp only [List.mem_append, List.mem_cons]
    constructor
    · rintro (h | h | h)
      · exact .inl (.inl h)
      · exact .inr h
      · exact .inl (.inr h)
    · rintro ((h | h) | h)
      · exact .inl h
      · exact .inr (.inr h)
      · exact .inr (.inl h)
  by_cases hj : j = i
  · subst hj
    rw [if_pos rfl]
    exact tab_unl h ((hin e).2 (.inr rfl)) hi
  · rw [if_neg hj]
    cases ht : tabE f (a ++ b) j with
    | some t =>
      obtain ⟨x, h1, _, h3, h4⟩ := tab_mem ht
      rw [tab_unl h ((hin x).2 (.inl h1)) h3, h4]
    | none =>
      cases ht' : tabE f (a ++ e :: b) j with
      | none => rfl
      | some t =>
        obtain ⟨x, h1, h2, h3, _⟩ := tab_mem ht'
        rcases (hin x).1 h1 with h4 | h4
        · exact absurd ht (tab_has h4 h2 h3)
        · subst h4
          exact absurd (by omega) hj
theorem tab_gone (h : unlP (a ++ e :: b)) (hi : e.1 = (i : Int)) : tabE f (a ++ b) = delT (tabE f (a ++ e :: b)) i := by
  funext j
  unfold delT
  rw [tab_mid h hi]
  by_cases hj : j = i
  · subst hj
    rw [if_pos rfl]
    cases ht : tabE f (a ++ b) j with
    | none => rfl
    | some t =>
      obtain ⟨x, h1, _, h3, _⟩ := tab_mem ht
      exact absurd (by rw [h3, hi]) ((unl_mid.1 h).2.2 x h1)
  · rw [if_neg hj, if_neg hj]
theorem best_empty (h : unlP l) : (bestT (tabE f l) 64).isSome = decide (0 < l.length) := by
  cases hb : bestT (tabE f l) 64 with
  | some i =>
    obtain ⟨_, t, h2, _⟩ := best_is.1 i hb
    obtain ⟨x, h1, _⟩ := tab_mem h2
    have := List.length_pos_of_mem h1
    exact (decide_eq_true this).symm
  | none =>
    match l, h with
    | [], _ => rfl
    | x :: l, h =>
      have hok := h.1 x (List.mem_cons_self ..)
      have h1 := (okE_iff x).1 hok
      have h2 := best_none.1 hb x.1.toNat (by omega)
      exact absurd h2 (tab_has (List.mem_cons_self ..) hok (by omega))
theorem mid_at (h : l[k]? = some e) : l = l.take k ++ e :: l.drop (k + 1) := by
  obtain ⟨hk, hx⟩ := List.getElem?_eq_some_iff.1 h
  conv => lhs; rw [← List.take_append_drop k l, List.drop_eq_getElem_cons hk, hx]
theorem mid_set (h : l[k]? = some e) : l.set k e' = l.take k ++ e' :: l.drop (k + 1) := by
  obtain ⟨hk, _⟩ := List.getElem?_eq_some_iff.1 h
  rw [List.set_eq_take_append_cons_drop, if_pos hk]
end
theorem first_val {T : Nat → Option Nat} {p : Nat} (h : bestT T 64 = some p) : fstA T = p ∧ fstB T = true := by
  unfold fstA fstB
  rw [h]
  exact ⟨rfl, rfl⟩
theorem first_is (T : Nat → Option Nat) : fstB T = (bestT T 64).isSome := rfl
/-- What RankFew asks, of the tables. -/
theorem few_facts (s : Nat) (key : List UInt8) (l : List (Int × Int)) (k i m m' : Nat) (hu : unlP l) (he : l[k]? = some ((i : Int), (m : Int))) (hm : m ≤ m') (hm' : m' ≤ 16) :
    ∃ p r : Nat, bestT (tabE (scE s key) l) 64 = some p ∧ p < 64 ∧
      (bestT (tabE (scE s key) (l.take k ++ l.drop (k + 1))) 64).isSome = decide (0 < (l.take k ++ l.drop (k + 1)).length) ∧
      (p ≠ i → bestT (tabE (scE s key) (l.take k ++ l.drop (k + 1))) 64 = some p) ∧
      bestT (tabE (scE s key) (l.set k ((i : Int), (m' : Int)))) 64 = some r ∧ (r = p ∨ r = i) ∧ i < 64 := by
  have hl := mid_at he
  have hset := mid_set (e' := ((i : Int), (m' : Int))) he
  have hin : ((i : Int), (m : Int)) ∈ l := List.mem_of_getElem? he
  have hok := hu.1 _ hin
  have h1 := (okE_iff _).1 hok
  simp only at h1
  have hlen : 0 < l.length := List.length_pos_of_mem hin
  have hb0 := best_empty (f := scE s key) hu
  rw [decide_eq_true hlen] at hb0
  obtain ⟨p, hp⟩ := Option.isSome_iff_exists.1 hb0
  rw [hl] at hu
  have hmid := unl_mid.1 hu
  have hi2 : i < 64 := by omega
  have hokm : okE ((i : Int), (m' : Int)) = true := by rw [okE_iff]; simp only; omega
  have hu3 : unlP (l.take k ++ ((i : Int), (m' : Int)) :: l.drop (k + 1)) := unl_mid.2 ⟨hmid.1, hokm, hmid.2.2⟩
  have hT : ∀ j, tabE (scE s key) l j = if j = i then some (scE s key ((i : Int), (m : Int))) else tabE (scE s key) (l.take k ++ l.drop (k + 1)) j := fun j => by
    conv => lhs; rw [hl]
    exact tab_mid hu rfl j
  have hT3 : ∀ j, tabE (scE s key) (l.set k ((i : Int), (m' : Int))) j = if j = i then some (scE s key ((i : Int), (m' : Int))) else tabE (scE s key) (l.take k ++ l.drop (k + 1)) j := fun j => by
    rw [hset]
    exact tab_mid hu3 rfl j
  have hdel : tabE (scE s key) (l.take k ++ l.drop (k + 1)) = delT (tabE (scE s key) l) i := by
    conv => rhs; rw [hl]
    exact tab_gone hu rfl
  obtain ⟨r, hr, hor⟩ := best_up (T' := tabE (scE s key) (l.set k ((i : Int), (m' : Int)))) (j := i) hp (fun q hq => by rw [hT3 q, hT q, if_neg hq, if_neg hq]) (fun t ht => by
    rw [hT i, if_pos rfl] at ht
    injection ht with ht
    refine ⟨_, by rw [hT3 i, if_pos rfl], ?_⟩
    rw [← ht]
    exact scF_mono s key i hm) hi2 (by rw [hT i, if_pos rfl]; simp)
  exact ⟨p, r, hp, (best_is.1 p hp).1, best_empty hmid.1, fun hne => by rw [hdel]; exact best_del hp hne, hr, hor, hi2⟩
end Go.Proofs.Ytocbdgkehgmahaa
