/- layer 4: the coefficients of an element, one by one, as the iterator of Times hands them out. Conditions: the element's words are words; the loop's body keeps what it is told to keep. -/
import Derived.RangeFuncNested
import Derived.RangeFuncBound
import Derived.RangeFuncCalls
import Derived.RangeFuncLeaves
import Derived.Shelf.Abstract
import Derived.Shelf.RegionOpen
import Derived.OwnWalkIn
import Derived.TacticsInMore
import Derived.LoopNIn
import Derived.LoopIn
import Derived.Test.YtilpdojliaiokaaPolyPe
namespace Go.Proofs.Ytilpdojliaiokaa
open Go.RowKit Go.Shelf
set_option linter.unusedVariables false

/-- A coefficient as a word. -/
def bI (x : Bool) : Int := match x with | true => 1 | false => 0
/-- The multiplier moved by i within a word. -/
def wSh (v i : Nat) : Nat := v * 2 ^ i % 2 ^ 64
theorem wSh_zero (v : Nat) (hv : v < 2 ^ 64) : wSh v 0 = v := by unfold wSh; rw [Nat.pow_zero, Nat.mul_one]; exact Nat.mod_eq_of_lt hv
theorem wSh_lt (v i : Nat) : wSh v i < 2 ^ 64 := Nat.mod_lt _ (by omega)
theorem wSh_next (v i : Nat) : wSh v (i + 1) = wSh v i * 2 % 2 ^ 64 := by
  unfold wSh
  rw [Nat.pow_succ, ← Nat.mul_assoc]
  generalize v * 2 ^ i = x
  omega
theorem wSh_bit (v i : Nat) (hi : i < 64) : wSh v i / 2 ^ 63 = v / 2 ^ (63 - i) % 2 := by
  obtain ⟨d, hd⟩ : ∃ d, 63 = i + d := ⟨63 - i, by omega⟩
  unfold wSh
  have e1 : (2 : Nat) ^ 64 = 2 ^ d * 2 * 2 ^ i := by rw [show (64 : Nat) = d + 1 + i by omega, Nat.pow_add, Nat.pow_succ]
  have e2 : (2 : Nat) ^ 63 = 2 ^ d * 2 ^ i := by rw [hd, Nat.pow_add, Nat.mul_comm]
  rw [e1, e2, Nat.mul_mod_mul_right, Nat.mul_div_mul_right _ _ (Nat.pow_pos (by omega)), Nat.mod_mul_right_div_self, show 63 - i = d by omega]
theorem bit_hi (h l i : Nat) (hl0 : l < 2 ^ 64) (hi : i < 64) : coF (hl h l) i = (h / 2 ^ (63 - i) % 2 == 1) := by
  unfold coF gBit hl
  have e : (h * 2 ^ 64 + l) / 2 ^ (127 - i) = h / 2 ^ (63 - i) := by
    rw [show 127 - i = 64 + (63 - i) by omega, Nat.pow_add, ← Nat.div_div_eq_div_mul]
    congr 1
    omega
  rw [e]
theorem bit_lo (h l i : Nat) (hl0 : l < 2 ^ 64) (hi : i < 64) : coF (hl h l) (64 + i) = (l / 2 ^ (63 - i) % 2 == 1) := by
  unfold coF gBit hl
  have e : 127 - (64 + i) = 63 - i := by omega
  rw [e]
  obtain ⟨d, hd⟩ : ∃ d, 64 = d + 1 + (63 - i) := ⟨64 - (63 - i) - 1, by omega⟩
  have e3 : (h * 2 ^ 64 + l) / 2 ^ (63 - i) = h * 2 ^ (d + 1) + l / 2 ^ (63 - i) := by
    rw [hd, Nat.pow_add, ← Nat.mul_assoc, show 63 - i = 63 - i from rfl, Nat.add_comm, Nat.add_mul_div_right _ _ (Nat.pow_pos (by omega)), Nat.add_comm]
  have e4 : (h * 2 ^ (d + 1) + l / 2 ^ (63 - i)) % 2 = l / 2 ^ (63 - i) % 2 := by
    rw [Nat.pow_succ, ← Nat.mul_assoc]; omega
  rw [e3, e4]
theorem co_take (b k : Nat) (hk : k < 128) : (co b).take (k + 1) = (co b).take k ++ [coF b k] := by
  rw [List.take_add_one, co_at b k hk]; rfl
theorem up_two : Try.prog.underlying 90 = some (.array 2 34) := by kernel_rfl
theorem ix_two0 (a b : Int) (w : World) : (Instr.index 90 (.agg #[.int .u64 a, .int .u64 b]) (.int .i64 0)).run Try.prog w = .ok (.int .u64 a) w := by
  simp [Instr.index, run_underlying up_two, asIntOf, go_sem]
theorem ix_two1 (a b : Int) (w : World) : (Instr.index 90 (.agg #[.int .u64 a, .int .u64 b]) (.int .i64 1)).run Try.prog w = .ok (.int .u64 b) w := by
  simp [Instr.index, run_underlying up_two, asIntOf, go_sem]
attribute [local go_sem] ix_two0 ix_two1
attribute [local irreducible] co coF hl wSh
attribute [local go_sem] Oper.semAt_some

section
variable {F : Fence} {n : Nat} {w : World} {ops : Array Oper} {rest : List Oper} {o : Oper} {a : Act} {Q : Exit → Act → World → Prop}
theorem wpListIn_ldE (hgd : o.guard = none) (x : Operand) (hop : o.op = .load 36 x) (g : Nat) (hx : a.eval x = .pointer (some ⟨g, 0, none⟩)) (h l : Nat) (hc : Ew w g h l)
    (hk : wpListIn F n Try.prog ops Q rest (a.put o.dst (EV h l)) w) : wpListIn F n Try.prog ops Q (o :: rest) a w := by
  obtain ⟨d, hu, hd⟩ := row_elem
  refine wpListIn_plain hgd fun K hK => ⟨fun f hf => ?_, ?_⟩
  · simp [Oper.about, hop] at hf
  · rw [Oper.semAt_eq _ _ _ (by simp [hop])]
    unfold execOp
    simp only [hop, hx, Instr.loadAt, Instr.sureAddr, Sem.run_bind, Sem.run_pure, Result.andThen_ok, run_loadVar_mid (P := Try.prog) w g 0 _ (es h l) d hc.1 hu hd sz_elem]
    exact hK _ _ hk
theorem wpListIn_stE (hgd : o.guard = none) (x y : Operand) (hop : o.op = .store 36 x y) (g : Nat) (hx : a.eval x = .pointer (some ⟨g, 0, none⟩)) (h l h0 l0 : Nat) (hy : a.eval y = EV h l) (hc : Ew w g h0 l0)
    (hk : wpListIn F n Try.prog ops Q rest (a.put o.dst undef) (w.setCells g 0 (es h l))) : wpListIn F n Try.prog ops Q (o :: rest) a w := by
  refine wpListIn_plain hgd fun K hK => ⟨fun f hf => ?_, ?_⟩
  · simp [Oper.about, hop] at hf
  · rw [Oper.semAt_eq _ _ _ (by simp [hop])]
    unfold execOp
    have hy' : a.eval y = .agg (es h l).toArray := hy
    simp only [hop, hx, hy', Instr.storeAt, Instr.sureAddr, Sem.run_bind, Sem.run_pure, Result.andThen_ok, run_storeVar_mid (P := Try.prog) w g 0 _ (es h l).toArray hc.2 sz_elem (es_all h l)]
    exact hK _ _ (by simpa using hk)
theorem wpListIn_boxE (hgd : o.guard = none) (T : TypeId) (x : Operand) (hop : o.op = .box T x) (h l : Nat) (hx : a.eval x = EV h l)
    (hk : wpListIn F n Try.prog ops Q rest (a.put o.dst (.pointer (some ⟨w.heap.size, 0, none⟩))) (w.alloc (.cells (es h l).toArray T))) : wpListIn F n Try.prog ops Q (o :: rest) a w := by
  refine wpListIn_plain hgd fun K hK => ⟨fun f hf => ?_, ?_⟩
  · simp [Oper.about, hop] at hf
  · rw [Oper.semAt_eq _ _ _ (by simp [hop])]
    unfold execOp
    have hr : (Instr.box T (EV h l)).run Try.prog w = .ok (.pointer (some ⟨w.heap.size, 0, none⟩)) (w.alloc (.cells (es h l).toArray T)) := by unfold EV; rfl
    simp only [hop, hx, Sem.run_bind, hr, Result.andThen_ok]
    exact hK _ _ hk
/-- A slice of two elements that a call lays. -/
theorem run_two (w : World) (h l h' l' : Nat) : (Instr.buildSlice 29 2 #[(0, EV h l), (1, EV h' l')]).run Try.prog w = .ok (.slice (some ⟨w.heap.size, 0, none⟩) 2 2) (w.alloc (.cells (es h l ++ es h' l').toArray 36)) := by unfold EV es; go_simp
theorem wpListIn_twoE (hgd : o.guard = none) (x y : Operand) (hop : o.op = .buildSlice 29 2 #[(0, x), (1, y)]) (h l h' l' : Nat) (hx : a.eval x = EV h l) (hy : a.eval y = EV h' l')
    (hk : wpListIn F n Try.prog ops Q rest (a.put o.dst (.slice (some ⟨w.heap.size, 0, none⟩) 2 2)) (w.alloc (.cells (es h l ++ es h' l').toArray 36))) : wpListIn F n Try.prog ops Q (o :: rest) a w := by
  refine wpListIn_plain hgd fun K hK => ⟨fun f hf => ?_, ?_⟩
  · simp [Oper.about, hop] at hf
  · rw [Oper.semAt_eq _ _ _ (by simp [hop])]
    unfold execOp
    simp only [hop, List.map_toArray, List.map_cons, List.map_nil, hx, hy, Sem.run_bind, run_two, Result.andThen_ok]
    exact hK _ _ hk
end
end Go.Proofs.Ytilpdojliaiokaa
