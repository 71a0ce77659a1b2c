/- The cells of an object of field's tables as New builds it. No conditions. -/
import Derived.Test.YtbpbpkmjkbndbaaFieldRow
import Derived.Laws.Tables
namespace Go.Proofs.Ytbpbpkmjkbndbaa
open Go.RowKit
set_option linter.unusedVariables false

/-- The cells of an object as New builds it, of the slice (A, n, c). -/
def tabCells (A : Option Addr) (n c : Nat) : Array Value :=
  #[.slice A n c, .int .u32 0, .int .i32 0, .int .u32 0, .int .i64 0] ++ Array.replicate 512 (.int .u8 0) ++ Array.replicate 256 (.pointer none)
def tabF (A : Option Addr) (n c : Nat) : Nat → Value := fun j =>
  if j < 5 then (#[Value.slice A n c, .int .u32 0, .int .i32 0, .int .u32 0, .int .i64 0] : Array Value).getD j undef else if j < 517 then .int .u8 0 else .pointer none
theorem tab_built (A : Option Addr) (n c : Nat) : Try.prog.built 83 [(0, .slice A n c)] = some (tabCells A n c) := by kernel_rfl
theorem tabCells_at (A : Option Addr) (n c j : Nat) (hj : j < 773) : (tabCells A n c)[j]? = some (tabF A n c j) := by
  unfold tabCells tabF
  by_cases h : j < 5
  · rw [if_pos h, Array.getElem?_append_left (by simp; omega), Array.getElem?_append_left (by simp; omega)]
    rcases (show j = 0 ∨ j = 1 ∨ j = 2 ∨ j = 3 ∨ j = 4 by omega) with rfl | rfl | rfl | rfl | rfl <;> rfl
  · rw [if_neg h]
    by_cases h2 : j < 517
    · rw [if_pos h2, Array.getElem?_append_left (by simp; omega), Array.getElem?_append_right (by simp; omega), Array.getElem?_replicate, if_pos (by simp; omega)]
    · rw [if_neg h2, Array.getElem?_append_right (by simp; omega), Array.getElem?_replicate, if_pos (by simp; omega)]
theorem wpList_tab {w : World} {ops : Array Oper} {rest : List Oper} {o : Oper} {a : Act} {Q : Exit → Act → World → Prop} (hgd : o.guard = none) (x : Operand) (hop : o.op = .build 83 #[(0, x)])
    (A : Option Addr) (n c : Nat) (hx : a.eval x = .slice A n c) (h : wpList Try.prog ops Q rest (a.put o.dst (.agg (tabCells A n c))) w) : wpList Try.prog ops Q (o :: rest) a w := by
  refine wpList_plain hgd fun K hK => ?_
  unfold Oper.wp execOp
  simp only [hop, List.map_toArray, List.map_cons, List.map_nil, hx, Sem.run_bind, run_build w _ #[(0, .slice A n c)] _ (tab_built A n c), Result.andThen_ok]
  exact hK _ _ h

end Go.Proofs.Ytbpbpkmjkbndbaa
