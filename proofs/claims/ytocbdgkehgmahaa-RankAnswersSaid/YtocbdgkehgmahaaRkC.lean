/- Layer 23: counts by Ids, plain; a map of counts in memory. Nothing is claimed of the program here. -/
import Derived.Test.YtocbdgkehgmahaaRkM
import Derived.Maps.Own
import Derived.Maps.OwnOps
import Derived.Maps.OwnSet
import Derived.Maps.Views
namespace Go.Proofs.Ytocbdgkehgmahaa
open Go.RowKit Go.Maps
set_option linter.unusedVariables false
set_option linter.unusedSimpArgs false
/-- One more at a place. -/
def upC (C : Nat → Nat) (i j : Nat) : Nat := if j = i then C j + 1 else C j
/-- How many of the keys each Id is the first for. -/
def cK (F : List UInt8 → Option Nat) (ks : List (List UInt8)) : Nat → Nat := ks.foldl (fun C k => match F k with | none => C | some i => upC C i) fun _ => 0
/-- How many Ids below n there are; all counts together. -/
def nzN (C : Nat → Nat) : Nat → Nat | 0 => 0 | n + 1 => nzN C n + if C n = 0 then 0 else 1
def sumN (C : Nat → Nat) : Nat → Nat | 0 => 0 | n + 1 => sumN C n + C n
section
variable {F : List UInt8 → Option Nat} {ks ps : List (List UInt8)} {k : List UInt8} {C : Nat → Nat} {i n : Nat}
theorem cK_none (h : F k = none) : cK F (ks ++ [k]) = cK F ks := by
  unfold cK
  rw [List.foldl_append]
  simp only [List.foldl_cons, List.foldl_nil, h]
theorem cK_some (h : F k = some i) : cK F (ks ++ [k]) = upC (cK F ks) i := by
  unfold cK
  rw [List.foldl_append]
  simp only [List.foldl_cons, List.foldl_nil, h]
theorem cK_from (C : Nat → Nat) (j : Nat) : (ks.foldl (fun C k => match F k with | none => C | some i => upC C i) C) j = C j + cK F ks j := by
  unfold cK
  induction ks generalizing C with
  | nil => rfl
  | cons k ks ih =>
    rw [List.foldl_cons, List.foldl_cons, ih, ih (match F k with | none => fun _ => 0 | some i => upC (fun _ => 0) i)]
    cases F k with
    | none => simp
    | some i =>
      simp only [upC]
      split <;> omega
theorem cK_app (j : Nat) : cK F (ks ++ ps) j = cK F ks j + cK F ps j := by
  have h := cK_from (F := F) (ks := ps) (cK F ks) j
  rw [← h]
  unfold cK
  rw [List.foldl_append]
theorem sum_ext {C' : Nat → Nat} (h : ∀ j, j < n → C j = C' j) : sumN C n = sumN C' n := by
  induction n with
  | zero => rfl
  | succ n ih => unfold sumN; rw [ih fun j hj => h j (by omega), h n (Nat.lt_succ_self _)]
theorem sum_up (i n : Nat) : sumN (upC C i) n = sumN C n + if i < n then 1 else 0 := by
  induction n with
  | zero => rfl
  | succ n ih =>
    unfold sumN
    rw [ih]
    unfold upC
    by_cases h1 : n = i
    · subst h1
      rw [if_pos rfl, if_neg (by omega), if_pos (by omega)]
      omega
    · rw [if_neg h1]
      by_cases h2 : i < n
      · rw [if_pos h2, if_pos (by omega)]; omega
      · rw [if_neg h2, if_neg (by omega)]; omega
theorem nz_ext {C' : Nat → Nat} (h : ∀ j, j < n → (C j = 0 ↔ C' j = 0)) : nzN C n = nzN C' n := by
  induction n with
  | zero => rfl
  | succ n ih =>
    unfold nzN
    rw [ih fun j hj => h j (by omega)]
    have := h n (Nat.lt_succ_self _)
    by_cases h0 : C n = 0
    · rw [if_pos h0, if_pos (this.1 h0)]
    · rw [if_neg h0, if_neg (fun e => h0 (this.2 e))]
theorem nz_up (h : i < n) : nzN (upC C i) n = if C i = 0 then nzN C n + 1 else nzN C n := by
  induction n with
  | zero => exact absurd h (Nat.not_lt_zero _)
  | succ n ih =>
    unfold nzN
    by_cases h1 : n = i
    · subst h1
      have e : nzN (upC C n) n = nzN C n := nz_ext fun j hj => by unfold upC; rw [if_neg (by omega)]
      have e2 : upC C n n = C n + 1 := by unfold upC; rw [if_pos rfl]
      rw [e, e2]
      split <;> simp_all
    · have e2 : upC C i n = C n := by unfold upC; rw [if_neg h1]
      rw [ih (by omega), e2]
      split <;> omega
theorem nz_zero (h : ∀ j, j < n → C j = 0) : nzN C n = 0 := by
  induction n with
  | zero => rfl
  | succ n ih => unfold nzN; rw [ih fun j hj => h j (by omega), if_pos (h n (Nat.lt_succ_self _))]
theorem nz_le_sum : nzN C n ≤ sumN C n := by
  induction n with
  | zero => exact Nat.le_refl _
  | succ n ih =>
    unfold nzN sumN
    split <;> omega
theorem sum_zero (h : ∀ j, j < n → C j = 0) : sumN C n = 0 := by
  induction n with
  | zero => rfl
  | succ n ih => unfold sumN; rw [ih fun j hj => h j (by omega), h n (Nat.lt_succ_self _)]
/-- Each key is counted for just one. -/
theorem sum_all (h : ∀ k ∈ ks, ∃ i, F k = some i ∧ i < 64) : sumN (cK F ks) 64 = ks.length := by
  suffices hs : ∀ n, n ≤ ks.length → sumN (cK F (ks.take n)) 64 = n by
    have := hs ks.length (Nat.le_refl _)
    rwa [List.take_length] at this
  intro n
  induction n with
  | zero => intro _; exact sum_zero fun j _ => rfl
  | succ n ih =>
    intro hn
    obtain ⟨k, hk⟩ : ∃ k, ks[n]? = some k := ⟨ks[n]'(by omega), List.getElem?_eq_getElem (by omega)⟩
    obtain ⟨i, h1, h2⟩ := h k (List.mem_of_getElem? hk)
    rw [List.take_add_one, hk]
    show sumN (cK F (ks.take n ++ [k])) 64 = _
    rw [cK_some h1, sum_up, if_pos h2, ih (by omega)]
theorem cK_noneall (h : ∀ k ∈ ks, F k = none) (j : Nat) : cK F ks j = 0 := by
  unfold cK
  induction ks with
  | nil => rfl
  | cons k ks ih =>
    rw [List.foldl_cons, h k (List.mem_cons_self ..)]
    exact ih fun x hx => h x (List.mem_cons_of_mem _ hx)
theorem cK_le (j : Nat) : cK F ks j ≤ ks.length := by
  suffices hs : ∀ n, n ≤ ks.length → cK F (ks.take n) j ≤ n by
    have := hs ks.length (Nat.le_refl _)
    rwa [List.take_length] at this
  intro n
  induction n with
  | zero => intro _; exact Nat.le_refl _
  | succ n ih =>
    intro hn
    obtain ⟨k, hk⟩ : ∃ k, ks[n]? = some k := ⟨ks[n]'(by omega), List.getElem?_eq_getElem (by omega)⟩
    have := ih (by omega)
    rw [List.take_add_one, hk]
    show cK F (ks.take n ++ [k]) j ≤ _
    cases hF : F k with
    | none => rw [cK_none hF]; omega
    | some i => rw [cK_some hF]; unfold upC; split <;> omega
end
theorem mlaw : Keyed Try.prog 3 := int_keyed Try.underlying3
theorem mzero (w : World) : (zeroValue 3).run Try.prog w = .ok (.int .i64 0) w := by kernel_rfl
theorem i64_wf {z : Int} (h : -9223372036854775808 ≤ z ∧ z ≤ 9223372036854775807) : (Lit.int .i64 z).wf = true := WalkArith.wf_i64 h
/-- Block b is a map of at most n entries: the counts C of the Ids below 64, z Ids in all. -/
def CM (w : World) (b n : Nat) (C : Nat → Nat) (z : Nat) : Prop :=
  ∃ D : DataW Unit, w.ownsMap Try.prog 3 (plainElem Try.prog 3) b n D ∧ Maps.size D = z ∧ ∀ i : Nat, i < 64 → D.atKey (.int .i64 (i : Int)) (.lit (.int .i64 0)) = .lit (.int .i64 (C i : Int)) ∧ Maps.has D (.int .i64 (i : Int)) = decide (0 < C i)
section
variable {w w' : World} {b n z : Nat} {C : Nat → Nat}
theorem CM.made (w : World) : CM (w.alloc (.map #[] 0)) w.heap.size 0 (fun _ => 0) 0 :=
  ⟨.map [], World.ownsMap_made w _ _ _, rfl, fun i _ => ⟨rfl, rfl⟩⟩
theorem CM.more {n' : Nat} (h : CM w b n C z) (hn : n ≤ n') : CM w b n' C z := by
  obtain ⟨D, h1, h2⟩ := h
  exact ⟨D, h1.mono hn, h2⟩
theorem CM.lt (h : CM w b n C z) : b < w.heap.size := by obtain ⟨D, h1, _⟩ := h; exact h1.lt
theorem CM.step (h : CM w b n C z) (hb : Below w.heap.size w w') : CM w' b n C z := by
  obtain ⟨D, h1, h2⟩ := h
  exact ⟨D, h1.kept (row := none) ⟨hb.os, hb.tape, hb.output, hb.size, fun i hi _ => hb.block i hi⟩ (by simp), h2⟩
theorem CM.drew (h : CM w b n C z) : CM w.drew b n C z := h
theorem CM.drewN (h : CM w b n C z) (q : Nat) : CM (w.drewN q) b n C z := h
theorem CM.look (h : CM w b n C z) {i : Nat} (hi : i < 64) (hc : C i ≤ 1000000) : (Instr.lookup 44 (.map (some b)) (.int .i64 (i : Int)) false).run Try.prog w = .ok (.int .i64 (C i : Int)) w := by
  obtain ⟨D, h1, h2, h3⟩ := h
  obtain ⟨c, hrun, hat, _⟩ := h1.lookup_int mlaw Try.underlying44 Try.underlying3 (mzero w) (key := .int .i64 (i : Int)) (kl := .int .i64 (i : Int)) (keyOf_int_mk Try.underlying3 (i64_wf (by omega)))
  rw [(h3 i hi).1] at hat
  injection hat with hat
  injection hat with _ hat
  rw [hrun, hat]
theorem CM.lookOk (h : CM w b n C z) {i : Nat} (hi : i < 64) (hc : C i ≤ 1000000) : (Instr.lookup 44 (.map (some b)) (.int .i64 (i : Int)) true).run Try.prog w = .ok (.tuple #[.int .i64 (C i : Int), .bool (decide (0 < C i))]) w := by
  obtain ⟨D, h1, h2, h3⟩ := h
  obtain ⟨v, ps, hrun, hv⟩ := h1.look_ok mlaw Try.underlying44 (mzero w) (plainElem_int Try.underlying3 (by decide)) (key := .int .i64 (i : Int)) (kl := .int .i64 (i : Int)) (keyOf_int_mk Try.underlying3 (i64_wf (by omega)))
  obtain ⟨c, rfl, hc2, _⟩ := plainElem_int_inv Try.underlying3 hv
  have hat := congrArg Prod.fst hc2
  simp only at hat
  rw [(h3 i hi).1] at hat
  injection hat with hat
  injection hat with _ hat
  rw [hrun, (h3 i hi).2, hat]
theorem CM.len (h : CM w b n C z) (ty : TypeId) : (Builtin.len_ #[44] ty #[.map (some b)]).run Try.prog w = .ok (.int .i64 (z : Int)) w := by
  obtain ⟨D, h1, h2, h3⟩ := h
  rw [h1.len Try.underlying44 ty, h2]
end
/-- 'm[k] = c' at the operation, c one more than what is there. -/
theorem wpList_bumpM {w : World} {ops : Array Oper} {rest : List Oper} {o : Oper} {a : Act} {Q : Exit → Act → World → Prop} (hgd : o.guard = none) (m x v : Operand) (hop : o.op = Op.mapUpdate 44 m x v)
    (b n z : Nat) (C : Nat → Nat) (hm : a.eval m = .map (some b)) (h : CM w b n C z) (hn : n < 1000000) (i : Nat) (hi : i < 64) (hx : a.eval x = .int .i64 (i : Int)) (hc : C i < 1000000) (hv : a.eval v = .int .i64 ((C i : Int) + 1))
    (hK : ∀ w', CM w' b (n + 1) (upC C i) (if C i = 0 then z + 1 else z) → w.grownBy w' (some b) → wpList Try.prog ops Q rest (a.put o.dst undef) w') : wpList Try.prog ops Q (o :: rest) a w := by
  obtain ⟨D, h1, h2, h3⟩ := h
  have hkey : keyOf Try.prog 3 (.int .i64 (i : Int)) = some (.int .i64 (i : Int)) := keyOf_int_mk Try.underlying3 (i64_wf (by omega))
  have hkl : WideAt.IsKeyLit (.int .i64 (i : Int)) := trivial
  refine wpList_mapUpdate_own w hgd m x v _ hop _ _ mlaw Try.underlying44 _ b n D hm h1 (by unfold maxLen; omega) (.int .i64 (i : Int)) (.int .i64 ((C i : Int) + 1)) _ hx hv hkey (.lit (.int .i64 ((C i : Int) + 1))) [] (plainElem_int Try.underlying3 (i64_wf (by omega))) fun w' k1 k2 => hK w' ⟨D.put (.int .i64 (i : Int)) (.lit (.int .i64 ((C i : Int) + 1))), k1, ?_, fun j hj => ?_⟩ k2
  · rw [size_put (h1.tidy mlaw), (h3 i hi).2, h2]
    by_cases h0 : C i = 0
    · rw [if_pos h0, h0]; rfl
    · rw [if_neg h0, decide_eq_true (by omega)]; rfl
  · by_cases hji : j = i
    · subst hji
      have e : upC C j j = C j + 1 := by unfold upC; rw [if_pos rfl]
      rw [atKey_put_same h1.isMap hkl, has_put_same h1.isMap hkl, e]
      exact ⟨by push_cast; rfl, (decide_eq_true (by omega)).symm⟩
    · have hne : (Lit.int .i64 (j : Int)) ≠ .int .i64 (i : Int) := fun e => by
        injection e with _ e
        omega
      have e : upC C i j = C j := by unfold upC; rw [if_neg hji]
      rw [atKey_put_other hne, has_put_other hne, e]
      exact h3 j hj
end Go.Proofs.Ytocbdgkehgmahaa
