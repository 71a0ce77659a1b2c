/- layer 4: Times. Conditions: numbers of 128 bits. -/
import Derived.Test.YtilpdojliaiokaaPolyCo
import Derived.Test.YtilpdojliaiokaaPolyNx
import Derived.Test.YtilpdojliaiokaaPolySum
namespace Go.Proofs.Ytilpdojliaiokaa
open Go.RowKit Go.Shelf
set_option linter.unusedVariables false

theorem hl_up (p q : Nat) (hq : q < 2 ^ 64) : hl p q / 2 ^ 64 = p ∧ hl p q % 2 ^ 64 = q := by unfold hl; omega
theorem gSum_nil (s : Nat) : gSum [] s = s := rfl
attribute [local irreducible] hl gSum
/-- Two elements that a call lays side by side. -/
theorem two_xe (ph pl eh el : Nat) (h1 : ph < 2 ^ 64) (h2 : pl < 2 ^ 64) (h3 : eh < 2 ^ 64) (h4 : el < 2 ^ 64) (w : World) :
    XE (w.alloc (.cells (es ph pl ++ es eh el).toArray 36)) (w.heap.size + 1) (some ⟨w.heap.size, 0, none⟩) 2 [hl ph pl, hl eh el] := by
  have up := hl_up ph pl h2
  have ue := hl_up eh el h4
  refine ⟨rfl, ?_, fun _ => ⟨w.heap.size, 0, rfl, Nat.lt_succ_self _, ?_⟩⟩
  · intro i x hx
    match i, hx with
    | 0, hx => injection hx with hx; rw [← hx]; exact hl_lt _ _ h1 h2
    | 1, hx => injection hx with hx; rw [← hx]; exact hl_lt _ _ h3 h4
  · intro i x hx j v hv
    rw [cell_of_row (w.alloc (.cells (es ph pl ++ es eh el).toArray 36)) w.heap.size _ _ 36 (0, 0) (heap_alloc_new w _)]
    match i, hx with
    | 0, hx =>
      injection hx with hx
      rw [← hx, up.1, up.2] at hv
      match j, hv with
      | 0, hv => exact hv
      | 1, hv => exact hv
    | 1, hx =>
      injection hx with hx
      rw [← hx, ue.1, ue.2] at hv
      match j, hv with
      | 0, hv => exact hv
      | 1, hv => exact hv
theorem gSum_two (ph pl eh el : Nat) (h2 : pl < 2 ^ 64) (h4 : el < 2 ^ 64) : gSum [hl ph pl, hl eh el] 0 = hl (ph ^^^ eh) (pl ^^^ el) := by
  have e1 : gSum [hl ph pl] 0 = gSum [] 0 ^^^ hl ph pl := gSum_snoc [] (hl ph pl) 0
  have e2 : gSum [hl ph pl, hl eh el] 0 = gSum [hl ph pl] 0 ^^^ hl eh el := gSum_snoc [hl ph pl] (hl eh el) 0
  rw [e2, e1, gSum_nil, Nat.zero_xor, hl_xor _ _ _ _ h2 h4]
theorem sum_two (ph pl eh el : Nat) (h1 : ph < 2 ^ 64) (h2 : pl < 2 ^ 64) (h3 : eh < 2 ^ 64) (h4 : el < 2 ^ 64) (w : World) :
    Calls Try.prog 23 #[.slice (some ⟨w.heap.size, 0, none⟩) 2 2] (w.alloc (.cells (es ph pl ++ es eh el).toArray 36)) fun e w' => e = .returned (EV (ph ^^^ eh) (pl ^^^ el)) ∧ Below w.heap.size w w' := by
  refine (sum_any (some ⟨w.heap.size, 0, none⟩) 2 2 [hl ph pl, hl eh el] _ (by unfold maxLen; omega) (by rw [World.size_alloc]; exact two_xe ph pl eh el h1 h2 h3 h4 w)).mono ?_
  rintro e w' ⟨rfl, hb⟩
  refine ⟨?_, (below_alloc w _).trans (hb.mono (by simp))⟩
  rw [gSum_two _ _ _ _ h2 h4, pe_hl _ _ (Nat.xor_lt_two_pow h2 h4)]
theorem own_ew (G h l : Nat) : Own (fun (_ : List Bool) W => Ew W G h l) := fun s A B row hs hg hr =>
  Ew.mk (cell_kept hs.at0 hg hr) (cell_kept hs.at1 hg hr) ((frozen_kept hs.at0 hg hr).trans hs.free0) ((frozen_kept hs.at1 hg hr).trans hs.free1)
/-- What Times holds between two rounds. -/
def TmI (w : World) (G a b : Nat) (pre : List Bool) (W : World) : Prop :=
  ∃ eh el ph pl, (hl eh el = gIter a pre.length ∧ eh < 2 ^ 64 ∧ el < 2 ^ 64 ∧ ph < 2 ^ 64 ∧ pl < 2 ^ 64 ∧ (pre = (co b).take pre.length → hl ph pl = gUp a b pre.length)) ∧ Ew W G eh el ∧ Ew W (G + 1 + 1) 0 0 ∧ Ew W (G + 1 + 1 + 1) ph pl ∧ Below w.heap.size w W
theorem tm_own (w : World) (G a b B : Nat) (hB : w.heap.size ≤ B) : OwnFrom B (TmI w G a b) := by
  intro s A C row hs hg hr
  obtain ⟨eh, el, ph, pl, hv, h1, h2, h3, h4⟩ := hs
  have hr' : ∀ r, row = some r → ∃ o : Obj, A.heap[r]? = some o ∧ o.isCells = false := fun r e => (hr r e).2
  exact ⟨eh, el, ph, pl, hv, own_ew _ _ _ s A C row h1 hg hr', own_ew _ _ _ s A C row h2 hg hr', own_ew _ _ _ s A C row h3 hg hr', ownFrom_below (Nat.le_refl _) hB s A C row h4 hg hr⟩
theorem keeps_of_below {W W' : World} (hb : Below W.heap.size W W') : KeepsOthers W W' := ⟨hb.size, fun k o hk _ => (hb.block k (Array.getElem?_eq_some_iff.1 hk).1).trans hk⟩
theorem keeps_es (W : World) (g h l : Nat) : KeepsOthers W (W.setCells g 0 (es h l)) := (KeepsOthers.setCell _ _ _).trans (KeepsOthers.setCell _ _ _)
theorem tm_done (a b p : Nat) (h : co b = (co b).take (co b).length → p = gUp a b (co b).length) : p = gMul a b := by
  rw [co_len] at h
  exact h (by rw [List.take_of_length_le (by rw [co_len]; omega)])
theorem tm_snoc (a b p p' : Nat) (pre : List Bool) (x : Bool) (hlen : pre.length < 128) (h : pre = (co b).take pre.length → p = gUp a b pre.length) (hp : p' = p ^^^ (bif x then gIter a pre.length else 0)) :
    pre ++ [x] = (co b).take (pre ++ [x]).length → p' = gUp a b (pre ++ [x]).length := by
  intro e
  rw [List.length_append, List.length_singleton] at e ⊢
  rw [co_take b _ hlen] at e
  obtain ⟨e1, e2⟩ := List.append_inj' e rfl
  have e3 : x = coF b pre.length := by injection e2
  rw [hp, h e1, gUp, e3]
  unfold coF
  rcases gBit01 b pre.length with k | k <;> rw [k] <;> simp
theorem gIter_succ (a k : Nat) : gIter a (k + 1) = gNext (gIter a k) := rfl
attribute [local irreducible] PE gMul gUp gIter gNext co coF
attribute [local go_sem] Oper.semAt_some

end Go.Proofs.Ytilpdojliaiokaa
