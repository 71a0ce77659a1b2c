/- Layer 23: arrays of sixty-four cells that lie in variables. Nothing is claimed of the program here. -/
import Derived.Test.YtocbdgkehgmahaaRkM
import Derived.Laws.Tables
namespace Go.Proofs.Ytocbdgkehgmahaa
open Go.RowKit
set_option linter.unusedVariables false
set_option linter.unusedSimpArgs false
/-- Sixty-four cells, by a function of the place. -/
def fz (F : Nat → Value) : List Value := (List.range 64).map F
theorem fz_len (F : Nat → Value) : (fz F).length = 64 := by unfold fz; rw [List.length_map, List.length_range]
theorem fz_at {F : Nat → Value} {j : Nat} (h : j < 64) : (fz F)[j]? = some (F j) := by
  unfold fz
  rw [List.getElem?_map, List.getElem?_range h]
  rfl
def upF (F : Nat → Value) (k : Nat) (v : Value) : Nat → Value := fun j => if j = k then v else F j
theorem fz_set (F : Nat → Value) (k : Nat) (v : Value) : (fz F).set k v = fz (upF F k v) := by
  apply List.ext_getElem?
  intro j
  by_cases hj : j < 64
  · rw [fz_at hj]
    unfold upF
    by_cases he : j = k
    · subst he
      rw [if_pos rfl, List.getElem?_set_self (by rw [fz_len]; exact hj)]
    · rw [if_neg he, List.getElem?_set_ne (fun e => he e.symm), fz_at hj]
  · rw [List.getElem?_eq_none (by rw [List.length_set, fz_len]; omega), List.getElem?_eq_none (by rw [fz_len]; omega)]
theorem fz_ext {F G : Nat → Value} (h : ∀ j, j < 64 → F j = G j) : fz F = fz G := by
  unfold fz
  apply List.map_congr_left
  intro j hj
  exact h j (List.mem_range.1 hj)
theorem fz_ones {F : Nat → Value} (h : ∀ j, (F j).oneCell' = true) : ones (fz F) := fun v hv => by
  obtain ⟨j, _, rfl⟩ := List.mem_map.1 hv
  exact h j
/-- Block x is an array of the cells F. -/
def A64 (T : TypeId) (w : World) (x : Nat) (F : Nat → Value) : Prop := Blk T w x (fz F)
section
variable {T : TypeId} {w w' : World} {x j : Nat} {F G : Nat → Value} {S : List Nat}
theorem A64.cell (h : A64 T w x F) (hj : j < 64) : w.cell? ⟨x, j, none⟩ = some (F j) := by rw [Blk.cell h j, fz_at hj]
theorem A64.free (h : A64 T w x F) (j : Nat) : w.frozen? ⟨x, j, none⟩ = false := Blk.free h j
theorem A64.lt (h : A64 T w x F) : x < w.heap.size := Blk.lt h
theorem A64.step (h : A64 T w x F) (hb : Below w.heap.size w w') : A64 T w' x F := Blk.step h hb
theorem A64.oth (h : A64 T w x F) (ho : Oth S w w') (hx : x ∉ S) : A64 T w' x F := Blk.oth h ho hx
theorem A64.set (h : A64 T w x F) (j : Nat) (v : Value) : A64 T (w.setCell ⟨x, j, none⟩ v) x (upF F j v) := by
  have := Blk.set h j v
  rw [fz_set] at this
  exact this
theorem A64.ext (h : A64 T w x F) (e : ∀ j, j < 64 → F j = G j) : A64 T w x G := by
  unfold A64 at h ⊢
  rw [← fz_ext e]
  exact h
end
def u0 : Nat → Value := fun _ => .int .u64 0
def i0 : Nat → Value := fun _ => .int .i64 0
def b0 : Nat → Value := fun _ => .bool false
theorem u0_ones : ones (fz u0) := fz_ones fun _ => rfl
theorem i0_ones : ones (fz i0) := fz_ones fun _ => rfl
theorem b0_ones : ones (fz b0) := fz_ones fun _ => rfl
theorem rt_u64a : RT 64 (fz u0) := ⟨row_of (by kernel_rfl), by kernel_rfl⟩
theorem rt_boola : RT 65 (fz b0) := ⟨row_of (by kernel_rfl), by kernel_rfl⟩
theorem rt_inta : RT 29 (fz i0) := ⟨row_of (by kernel_rfl), by kernel_rfl⟩
theorem bz_u64a : Try.prog.built 64 [] = some (fz u0).toArray := by kernel_rfl
theorem bz_boola : Try.prog.built 65 [] = some (fz b0).toArray := by kernel_rfl
theorem bz_inta : Try.prog.built 29 [] = some (fz i0).toArray := by kernel_rfl
attribute [irreducible] fz
section
variable {T : TypeId} {F : Nat → Value} {w : World} {ops : Array Oper} {rest : List Oper} {o : Oper} {a : Act} {Q : Exit → Act → World → Prop}
/-- An array's zero, by a name; a variable of its own; the zero laid into it. -/
theorem wpList_bldZ (hb : Try.prog.built T [] = some (fz F).toArray) (hgd : o.guard = none) (hop : o.op = .build T #[])
    (h : ∀ V, Hid (V = .agg (fz F).toArray) → wpList Try.prog ops Q rest (a.put o.dst V) w) : wpList Try.prog ops Q (o :: rest) a w := by
  have h := h _ (Lib.hid rfl)
  refine wpList_plain hgd fun K hK => ?_
  unfold Oper.wp execOp
  simp only [hop, List.map_toArray, List.map_nil, Sem.run_bind, run_build (P := Try.prog) w T #[] _ hb, Result.andThen_ok]
  exact hK _ _ h
theorem wpList_newZ (rt : RT T (fz F)) (hgd : o.guard = none) (hop : o.op = .alloc T)
    (hk : ∀ w' q, A64 T w' q F → Below w.heap.size w w' → w.heap.size ≤ q → wpList Try.prog ops Q rest (a.put o.dst (.pointer (some ⟨q, 0, none⟩))) w') : wpList Try.prog ops Q (o :: rest) a w :=
  wpList_newB rt hgd hop hk
theorem puts_eq : ∀ (vs cs : List Value) (o : Nat), o + vs.length ≤ cs.length → putsL cs o vs = cs.take o ++ (vs ++ cs.drop (o + vs.length))
  | [], cs, o, h => by rw [putsL, List.length_nil, Nat.add_zero, List.nil_append, List.take_append_drop]
  | v :: r, cs, o, h => by
    rw [List.length_cons] at h
    rw [putsL, puts_eq r (cs.set o v) (o + 1) (by rw [List.length_set]; omega)]
    rw [List.take_set, List.drop_set_of_lt (by omega), List.take_add_one, List.getElem?_eq_getElem (by omega)]
    rw [List.set_append_right _ _ (by rw [List.length_take]; omega)]
    have e : o - (cs.take o).length = 0 := by rw [List.length_take]; omega
    rw [e, List.length_cons, show o + 1 + r.length = o + (r.length + 1) by omega]
    simp
theorem wpList_stZ (rt : RT T (fz F)) (h1 : ones (fz F)) (hgd : o.guard = none) (x y : Operand) (hop : o.op = .store T x y) (g : Nat) (hx : a.eval x = .pointer (some ⟨g, 0, none⟩)) (V : Value) (hy : a.eval y = V) (HV : Hid (V = .agg (fz F).toArray)) (hc : A64 T w g F)
    (hk : ∀ w', A64 T w' g F → Oth [g] w w' → w'.heap.size = w.heap.size → wpList Try.prog ops Q rest (a.put o.dst undef) w') : wpList Try.prog ops Q (o :: rest) a w := by
  refine wpList_stB rt hgd x y hop g 0 hx (fz F) (fz F) (by rw [hy, HV.out]) h1 rfl hc (by omega) fun w' h2 h3 h4 => hk w' ?_ h3 h4
  have e : putsL (fz F) 0 (fz F) = fz F := by
    rw [puts_eq _ _ _ (by omega), List.take_zero, Nat.zero_add, List.drop_of_length_le (Nat.le_refl _), List.append_nil, List.nil_append]
  rw [e] at h2
  exact h2
end
end Go.Proofs.Ytocbdgkehgmahaa
