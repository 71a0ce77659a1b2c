/- layer 4: the coefficients of an element, one by one, as the iterator of Times hands them out. Conditions: the element's words are words; the loop's body keeps what it is told to keep. -/
import Derived.RangeFuncNested
import Derived.RangeFuncBound
import Derived.RangeFuncCalls
import Derived.RangeFuncLeaves
import Derived.Shelf.Abstract
import Derived.Shelf.RegionOpen
import Derived.OwnWalkIn
import Derived.TacticsInMore
import Derived.LoopNIn
import Derived.LoopIn
import Derived.Test.YthllaoeioddddaaGreatPolyElem
namespace Go.Proofs.YthllaoeioddddaaGreat
open Go.RowKit Go.Shelf
set_option linter.unusedVariables false

/-- A coefficient as a word. -/
def bI (x : Bool) : Int := match x with | true => 1 | false => 0
/-- The multiplier moved by i within a word. -/
def wSh (v i : Nat) : Nat := v * 2 ^ i % 2 ^ 64
theorem up_two : Tryz.prog.underlying 225 = some (.array 2 22) := by kernel_rfl
theorem ix_two0 (a b : Int) (w : World) : (Instr.index 225 (.agg #[.int .u64 a, .int .u64 b]) (.int .i64 0)).run Tryz.prog w = .ok (.int .u64 a) w := by
  simp [Instr.index, run_underlying up_two, asIntOf, go_sem]
theorem ix_two1 (a b : Int) (w : World) : (Instr.index 225 (.agg #[.int .u64 a, .int .u64 b]) (.int .i64 1)).run Tryz.prog w = .ok (.int .u64 b) w := by
  simp [Instr.index, run_underlying up_two, asIntOf, go_sem]
attribute [local go_sem] ix_two0 ix_two1
attribute [local irreducible] co coF hl wSh
attribute [local go_sem] Oper.semAt_some

section
variable {F : Fence} {n : Nat} {w : World} {ops : Array Oper} {rest : List Oper} {o : Oper} {a : Act} {Q : Exit → Act → World → Prop}
theorem wpListIn_ldE (hgd : o.guard = none) (x : Operand) (hop : o.op = .load 158 x) (g : Nat) (hx : a.eval x = .pointer (some ⟨g, 0, none⟩)) (h l : Nat) (hc : Ew w g h l)
    (hk : wpListIn F n Tryz.prog ops Q rest (a.put o.dst (EV h l)) w) : wpListIn F n Tryz.prog ops Q (o :: rest) a w := by
  obtain ⟨d, hu, hd⟩ := row_elem
  refine wpListIn_plain hgd fun K hK => ⟨fun f hf => ?_, ?_⟩
  · simp [Oper.about, hop] at hf
  · rw [Oper.semAt_eq _ _ _ (by simp [hop])]
    unfold execOp
    simp only [hop, hx, Instr.loadAt, Instr.sureAddr, Sem.run_bind, Sem.run_pure, Result.andThen_ok, run_loadVar_mid (P := Tryz.prog) w g 0 _ (es h l) d hc.1 hu hd sz_elem]
    exact hK _ _ hk
theorem wpListIn_stE (hgd : o.guard = none) (x y : Operand) (hop : o.op = .store 158 x y) (g : Nat) (hx : a.eval x = .pointer (some ⟨g, 0, none⟩)) (h l h0 l0 : Nat) (hy : a.eval y = EV h l) (hc : Ew w g h0 l0)
    (hk : wpListIn F n Tryz.prog ops Q rest (a.put o.dst undef) (w.setCells g 0 (es h l))) : wpListIn F n Tryz.prog ops Q (o :: rest) a w := by
  refine wpListIn_plain hgd fun K hK => ⟨fun f hf => ?_, ?_⟩
  · simp [Oper.about, hop] at hf
  · rw [Oper.semAt_eq _ _ _ (by simp [hop])]
    unfold execOp
    have hy' : a.eval y = .agg (es h l).toArray := hy
    simp only [hop, hx, hy', Instr.storeAt, Instr.sureAddr, Sem.run_bind, Sem.run_pure, Result.andThen_ok, run_storeVar_mid (P := Tryz.prog) w g 0 _ (es h l).toArray hc.2 sz_elem (es_all h l)]
    exact hK _ _ (by simpa using hk)
/-- A slice of two elements that a call lays. -/
theorem run_two (w : World) (h l h' l' : Nat) : (Instr.buildSlice 160 2 #[(0, EV h l), (1, EV h' l')]).run Tryz.prog w = .ok (.slice (some ⟨w.heap.size, 0, none⟩) 2 2) (w.alloc (.cells (es h l ++ es h' l').toArray 158)) := by unfold EV es; go_simp
end
end Go.Proofs.YthllaoeioddddaaGreat

/- layer 4: Times. Conditions: numbers of 128 bits. -/
namespace Go.Proofs.YthllaoeioddddaaGreat
open Go.RowKit Go.Shelf
set_option linter.unusedVariables false

theorem hl_up (p q : Nat) (hq : q < 2 ^ 64) : hl p q / 2 ^ 64 = p ∧ hl p q % 2 ^ 64 = q := by unfold hl; omega
theorem gSum_nil (s : Nat) : gSum [] s = s := rfl
attribute [local irreducible] hl gSum
/-- Two elements that a call lays side by side. -/
theorem two_xe (ph pl eh el : Nat) (h1 : ph < 2 ^ 64) (h2 : pl < 2 ^ 64) (h3 : eh < 2 ^ 64) (h4 : el < 2 ^ 64) (w : World) :
    XE (w.alloc (.cells (es ph pl ++ es eh el).toArray 158)) (w.heap.size + 1) (some ⟨w.heap.size, 0, none⟩) 2 [hl ph pl, hl eh el] := by
  have up := hl_up ph pl h2
  have ue := hl_up eh el h4
  refine ⟨rfl, ?_, fun _ => ⟨w.heap.size, 0, rfl, Nat.lt_succ_self _, ?_⟩⟩
  · intro i x hx
    match i, hx with
    | 0, hx => injection hx with hx; rw [← hx]; exact hl_lt _ _ h1 h2
    | 1, hx => injection hx with hx; rw [← hx]; exact hl_lt _ _ h3 h4
  · intro i x hx j v hv
    rw [cell_of_row (w.alloc (.cells (es ph pl ++ es eh el).toArray 158)) w.heap.size _ _ 158 (0, 0) (heap_alloc_new w _)]
    match i, hx with
    | 0, hx =>
      injection hx with hx
      rw [← hx, up.1, up.2] at hv
      match j, hv with
      | 0, hv => exact hv
      | 1, hv => exact hv
    | 1, hx =>
      injection hx with hx
      rw [← hx, ue.1, ue.2] at hv
      match j, hv with
      | 0, hv => exact hv
      | 1, hv => exact hv
theorem gSum_two (ph pl eh el : Nat) (h2 : pl < 2 ^ 64) (h4 : el < 2 ^ 64) : gSum [hl ph pl, hl eh el] 0 = hl (ph ^^^ eh) (pl ^^^ el) := by
  have e1 : gSum [hl ph pl] 0 = gSum [] 0 ^^^ hl ph pl := gSum_snoc [] (hl ph pl) 0
  have e2 : gSum [hl ph pl, hl eh el] 0 = gSum [hl ph pl] 0 ^^^ hl eh el := gSum_snoc [hl ph pl] (hl eh el) 0
  rw [e2, e1, gSum_nil, Nat.zero_xor, hl_xor _ _ _ _ h2 h4]
theorem sum_two (ph pl eh el : Nat) (h1 : ph < 2 ^ 64) (h2 : pl < 2 ^ 64) (h3 : eh < 2 ^ 64) (h4 : el < 2 ^ 64) (w : World) :
    Calls Tryz.prog 132 #[.slice (some ⟨w.heap.size, 0, none⟩) 2 2] (w.alloc (.cells (es ph pl ++ es eh el).toArray 158)) fun e w' => e = .returned (EV (ph ^^^ eh) (pl ^^^ el)) ∧ Below w.heap.size w w' := by
  refine (psum_any (some ⟨w.heap.size, 0, none⟩) 2 2 [hl ph pl, hl eh el] _ (by unfold maxLen; omega) (by rw [World.size_alloc]; exact two_xe ph pl eh el h1 h2 h3 h4 w)).mono ?_
  rintro e w' ⟨rfl, hb⟩
  refine ⟨?_, (below_alloc w _).trans (hb.mono (by simp))⟩
  rw [gSum_two _ _ _ _ h2 h4, pe_hl _ _ (Nat.xor_lt_two_pow h2 h4)]
/-- What Times holds between two rounds. -/
def TmI (w : World) (G a b : Nat) (pre : List Bool) (W : World) : Prop :=
  ∃ eh el ph pl, (hl eh el = gIter a pre.length ∧ eh < 2 ^ 64 ∧ el < 2 ^ 64 ∧ ph < 2 ^ 64 ∧ pl < 2 ^ 64 ∧ (pre = (co b).take pre.length → hl ph pl = gUp a b pre.length)) ∧ Ew W G eh el ∧ Ew W (G + 1 + 1) 0 0 ∧ Ew W (G + 1 + 1 + 1) ph pl ∧ Below w.heap.size w W
theorem keeps_of_below {W W' : World} (hb : Below W.heap.size W W') : KeepsOthers W W' := ⟨hb.size, fun k o hk _ => (hb.block k (Array.getElem?_eq_some_iff.1 hk).1).trans hk⟩
theorem gIter_succ (a k : Nat) : gIter a (k + 1) = gNext (gIter a k) := rfl
attribute [local irreducible] PE gMul gUp gIter gNext co coF
attribute [local go_sem] Oper.semAt_some

end Go.Proofs.YthllaoeioddddaaGreat

