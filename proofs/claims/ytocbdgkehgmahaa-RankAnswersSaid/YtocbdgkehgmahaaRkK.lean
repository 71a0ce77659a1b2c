/- Layer 23, plain: the entries that count; their ranked order by sorting, the first one as a least one. Nothing is claimed of the program here. -/
import Derived.Test.YtocbdgkehgmahaaRkP
namespace Go.Proofs.Ytocbdgkehgmahaa
set_option linter.unusedVariables false
set_option linter.unusedSimpArgs false
/-- One more entry, where it counts. -/
def kpE (l : List (Int × Int)) (e : Int × Int) : List (Int × Int) := if okE e = true ∧ ∀ x ∈ l, x.1 ≠ e.1 then l ++ [e] else l
/-- The entries that count. -/
def keepE (es : List (Int × Int)) : List (Int × Int) := es.foldl kpE []
section
variable {f : Int × Int → Nat} {l es : List (Int × Int)} {e : Int × Int}
theorem keep_nil : keepE [] = [] := rfl
theorem keep_snoc : keepE (es ++ [e]) = kpE (keepE es) e := by unfold keepE; rw [List.foldl_append]; rfl
theorem keep_yes (h1 : okE e = true) (h2 : ∀ x ∈ keepE es, x.1 ≠ e.1) : keepE (es ++ [e]) = keepE es ++ [e] := by rw [keep_snoc]; exact if_pos ⟨h1, h2⟩
theorem keep_bad (h1 : okE e = false) : keepE (es ++ [e]) = keepE es := by rw [keep_snoc]; exact if_neg fun h => by rw [h1] at h; cases h.1
theorem keep_twice {x : Int × Int} (h1 : x ∈ keepE es) (h2 : x.1 = e.1) : keepE (es ++ [e]) = keepE es := by rw [keep_snoc]; exact if_neg fun h => h.2 x h1 h2
theorem kp_unl (h : unlP l) : unlP (kpE l e) := by
  unfold kpE
  split
  · rename_i h1; exact (unl_snoc e).2 ⟨h, h1.1, h1.2⟩
  · exact h
theorem fold_unl : ∀ (es l : List (Int × Int)), unlP l → unlP (es.foldl kpE l)
  | [], l, h => h
  | e :: es, l, h => fold_unl es _ (kp_unl h)
theorem keep_unl : unlP (keepE es) := fold_unl es [] unl_nil
theorem kp_tab {pre : List (Int × Int)} (hu : unlP l) (h : tabE f l = tabE f pre) : tabE f (kpE l e) = tabE f (pre ++ [e]) := by
  funext i
  rw [tab_snoc, ← h]
  unfold kpE
  split
  · rw [tab_snoc]
  · rename_i hn
    cases ht : tabE f l i with
    | some t => rfl
    | none =>
      have : ¬ (okE e = true ∧ e.1 = (i : Int)) := fun ⟨h1, h2⟩ => hn ⟨h1, fun x hx hxe => tab_has hx (hu.1 x hx) (by rw [hxe, h2]) ht⟩
      simp only
      rw [if_neg this]
theorem fold_tab : ∀ (es l pre : List (Int × Int)), unlP l → tabE f l = tabE f pre → tabE f (es.foldl kpE l) = tabE f (pre ++ es)
  | [], l, pre, _, h => by rw [List.append_nil]; exact h
  | e :: es, l, pre, hu, h => by
    have := fold_tab es (kpE l e) (pre ++ [e]) (kp_unl hu) (kp_tab hu h)
    rw [List.append_assoc] at this
    exact this
theorem keep_tab : tabE f (keepE es) = tabE f es := fold_tab es [] [] unl_nil rfl
theorem keep_64 : (keepE es).length ≤ 64 := by
  rw [← tab_cnt (f := fun _ => 0) (keep_unl (es := es))]
  exact cnt_le _ _
end
/-- Ids with their scores. -/
def rowS (f : Int × Int → Nat) (l : List (Int × Int)) : List (Int × Int) := l.map fun e => (e.1, (f e : Int))
/-- Is a ranked ahead of b? -/
def ltS (a b : Int × Int) : Bool := decide (b.2 < a.2 ∨ b.2 = a.2 ∧ a.1 < b.1)
theorem ltS_iff {a b : Int × Int} : ltS a b = true ↔ b.2 < a.2 ∨ b.2 = a.2 ∧ a.1 < b.1 := decide_eq_true_iff
theorem ltS_no {a b : Int × Int} : ltS a b = false ↔ ¬ (b.2 < a.2 ∨ b.2 = a.2 ∧ a.1 < b.1) := decide_eq_false_iff_not
/-- Rows that say what a table says. -/
structure Says (T : Nat → Option Nat) (L : List (Int × Int)) : Prop where
  iff : ∀ i t : Nat, T i = some t ↔ ((i : Int), (t : Int)) ∈ L
  low : ∀ x ∈ L, ∃ i t : Nat, x = ((i : Int), (t : Int)) ∧ i < 64
  one : L.Pairwise fun a b => a.1 ≠ b.1
section
variable {T : Nat → Option Nat} {L M : List (Int × Int)} {f : Int × Int → Nat} {l : List (Int × Int)} {x m : Int × Int}
theorem says_rows (h : unlP l) : Says (tabE f l) (rowS f l) := by
  unfold rowS
  refine ⟨fun i t => ⟨fun ht => ?_, fun hm => ?_⟩, fun x hx => ?_, ?_⟩
  · obtain ⟨e, h1, _, h3, h4⟩ := tab_mem ht
    exact List.mem_map.2 ⟨e, h1, by rw [h3, h4]⟩
  · obtain ⟨e, h1, h2⟩ := List.mem_map.1 hm
    injection h2 with h2 h3
    rw [tab_unl h h1 h2]
    exact congrArg some (Int.ofNat.inj h3)
  · obtain ⟨e, h1, rfl⟩ := List.mem_map.1 hx
    have := (okE_iff e).1 (h.1 e h1)
    refine ⟨e.1.toNat, f e, ?_, by omega⟩
    rw [Int.toNat_of_nonneg this.1]
  · rw [List.pairwise_map]
    exact h.2
theorem Says.perm (h : Says T L) (hp : L.Perm M) : Says T M := ⟨fun i t => (h.iff i t).trans hp.mem_iff, fun x hx => h.low x (hp.mem_iff.2 hx), (hp.pairwise_iff (fun h => fun e => h e.symm)).1 h.one⟩
theorem says_best (h : Says T L) (hm : m ∈ L) (hl : ∀ y ∈ L, ltS y m = false) : ∃ i : Nat, m.1 = (i : Int) ∧ bestT T 64 = some i := by
  obtain ⟨i, t, rfl, hi⟩ := h.low m hm
  refine ⟨i, rfl, best_iff.2 ⟨hi, t, (h.iff i t).2 hm, fun j u hj hu => ?_⟩⟩
  have := ltS_no.1 (hl _ ((h.iff j u).1 hu))
  simp only at this
  omega
theorem says_none (h : Says T []) : bestT T 64 = none := best_none.2 fun j _ => by
  cases hT : T j with
  | none => rfl
  | some t => cases (h.iff j t).1 hT
theorem says_tail (h : Says T (x :: L)) {i : Nat} (hx : x.1 = (i : Int)) : Says (delT T i) L := by
  have h1 := h.one
  rw [List.pairwise_cons] at h1
  refine ⟨fun j u => ?_, fun y hy => h.low y (List.mem_cons_of_mem _ hy), h1.2⟩
  unfold delT
  by_cases hj : j = i
  · subst hj
    rw [if_pos rfl]
    exact ⟨fun e => (by cases e), fun hm => absurd hx (h1.1 _ hm)⟩
  · rw [if_neg hj, h.iff j u, List.mem_cons]
    exact ⟨fun e => e.elim (fun e => absurd (by rw [← e] at hx; simp only at hx; omega) hj) id, .inr⟩
/-- Rows that are sorted are in ranked order. -/
theorem says_order : ∀ (L : List (Int × Int)) (T : Nat → Option Nat), Says T L → L.Pairwise (fun a b => ltS b a = false) → L.map (·.1) = (ordA T).map fun i : Nat => (i : Int)
  | [], T, h, _ => by rw [ordA_nil (says_none h)]; rfl
  | x :: L, T, h, hs => by
    rw [List.pairwise_cons] at hs
    obtain ⟨i, h1, h2⟩ := says_best (m := x) h (List.mem_cons_self ..) fun y hy => by
      rcases List.mem_cons.1 hy with rfl | hy
      · rw [ltS_no]; omega
      · exact hs.1 y hy
    rw [ordA_cons h2, List.map_cons, List.map_cons, h1, says_order L _ (says_tail h h1) hs.2]
theorem says_len (h : Says T L) (hs : L.Pairwise fun a b => ltS b a = false) : (ordA T).length = L.length := by
  have := congrArg List.length (says_order L T h hs)
  rw [List.length_map, List.length_map] at this
  exact this.symm
/-- A least one of the rows. -/
def IsMin (L : List (Int × Int)) (m : Int × Int) : Prop := m ∈ L ∧ ∀ y ∈ L, ltS y m = false
theorem min_one : IsMin [m] m := ⟨List.mem_singleton.2 rfl, fun y hy => by rw [List.mem_singleton.1 hy, ltS_no]; omega⟩
theorem min_new (h : IsMin L m) (hl : ltS x m = true) : IsMin (L ++ [x]) x := by
  refine ⟨by simp, fun y hy => ?_⟩
  rw [List.mem_append, List.mem_singleton] at hy
  rcases hy with hy | rfl
  · have h1 := ltS_no.1 (h.2 y hy)
    have h2 := ltS_iff.1 hl
    rw [ltS_no]
    omega
  · rw [ltS_no]; omega
theorem min_old (h : IsMin L m) (hl : ltS x m = false) : IsMin (L ++ [x]) m := by
  refine ⟨List.mem_append_left _ h.1, fun y hy => ?_⟩
  rw [List.mem_append, List.mem_singleton] at hy
  rcases hy with hy | rfl
  · exact h.2 y hy
  · exact hl
end
/-- What compare answers. -/
def cmpI (x y : Int) : Int := if x < y then -1 else if y < x then 1 else 0
def cmpS (a b : Int × Int) : Int := if cmpI b.2 a.2 = 0 then cmpI a.1 b.1 else cmpI b.2 a.2
theorem cmpI_cases (x y : Int) : (x < y ∧ cmpI x y = -1) ∨ (x = y ∧ cmpI x y = 0) ∨ (y < x ∧ cmpI x y = 1) := by
  unfold cmpI
  by_cases h1 : x < y
  · exact .inl ⟨h1, if_pos h1⟩
  · by_cases h2 : y < x
    · exact .inr (.inr ⟨h2, by rw [if_neg h1, if_pos h2]⟩)
    · exact .inr (.inl ⟨by omega, by rw [if_neg h1, if_neg h2]⟩)
theorem cmpS_lt (a b : Int × Int) : decide (cmpS a b < 0) = ltS a b := by
  unfold cmpS ltS
  rcases cmpI_cases b.2 a.2 with ⟨h1, h2⟩ | ⟨h1, h2⟩ | ⟨h1, h2⟩
  · rw [h2, if_neg (by omega)]
    exact decide_eq_decide.2 ⟨fun _ => .inl h1, fun _ => by omega⟩
  · rw [h2, if_pos rfl]
    rcases cmpI_cases a.1 b.1 with ⟨h3, h4⟩ | ⟨h3, h4⟩ | ⟨h3, h4⟩ <;> rw [h4] <;> exact decide_eq_decide.2 (by omega)
  · rw [h2, if_neg (by omega)]
    exact decide_eq_decide.2 (by omega)
end Go.Proofs.Ytocbdgkehgmahaa
