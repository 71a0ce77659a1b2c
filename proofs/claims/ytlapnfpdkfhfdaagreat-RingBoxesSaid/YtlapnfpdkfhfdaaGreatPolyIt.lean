/- layer 4: the coefficients of an element, one by one, as the iterator of Times hands them out. Conditions: the element's words are words; the loop's body keeps what it is told to keep. -/
import Derived.RangeFuncNested
import Derived.RangeFuncBound
import Derived.RangeFuncCalls
import Derived.RangeFuncLeaves
import Derived.Shelf.Abstract
import Derived.Shelf.RegionOpen
import Derived.OwnWalkIn
import Derived.TacticsInMore
import Derived.LoopNIn
import Derived.LoopIn
import Derived.Test.YtlapnfpdkfhfdaaGreatPolyElem
namespace Go.Proofs.YtlapnfpdkfhfdaaGreat
open Go.RowKit Go.Shelf
set_option linter.unusedVariables false

/-- A coefficient as a word. -/
def bI (x : Bool) : Int := match x with | true => 1 | false => 0
/-- The multiplier moved by i within a word. -/
def wSh (v i : Nat) : Nat := v * 2 ^ i % 2 ^ 64
theorem wSh_zero (v : Nat) (hv : v < 2 ^ 64) : wSh v 0 = v := by unfold wSh; rw [Nat.pow_zero, Nat.mul_one]; exact Nat.mod_eq_of_lt hv
theorem wSh_lt (v i : Nat) : wSh v i < 2 ^ 64 := Nat.mod_lt _ (by omega)
theorem wSh_next (v i : Nat) : wSh v (i + 1) = wSh v i * 2 % 2 ^ 64 := by
  unfold wSh
  rw [Nat.pow_succ, ← Nat.mul_assoc]
  generalize v * 2 ^ i = x
  omega
theorem wSh_bit (v i : Nat) (hi : i < 64) : wSh v i / 2 ^ 63 = v / 2 ^ (63 - i) % 2 := by
  obtain ⟨d, hd⟩ : ∃ d, 63 = i + d := ⟨63 - i, by omega⟩
  unfold wSh
  have e1 : (2 : Nat) ^ 64 = 2 ^ d * 2 * 2 ^ i := by rw [show (64 : Nat) = d + 1 + i by omega, Nat.pow_add, Nat.pow_succ]
  have e2 : (2 : Nat) ^ 63 = 2 ^ d * 2 ^ i := by rw [hd, Nat.pow_add, Nat.mul_comm]
  rw [e1, e2, Nat.mul_mod_mul_right, Nat.mul_div_mul_right _ _ (Nat.pow_pos (by omega)), Nat.mod_mul_right_div_self, show 63 - i = d by omega]
theorem bit_hi (h l i : Nat) (hl0 : l < 2 ^ 64) (hi : i < 64) : coF (hl h l) i = (h / 2 ^ (63 - i) % 2 == 1) := by
  unfold coF gBit hl
  have e : (h * 2 ^ 64 + l) / 2 ^ (127 - i) = h / 2 ^ (63 - i) := by
    rw [show 127 - i = 64 + (63 - i) by omega, Nat.pow_add, ← Nat.div_div_eq_div_mul]
    congr 1
    omega
  rw [e]
theorem bit_lo (h l i : Nat) (hl0 : l < 2 ^ 64) (hi : i < 64) : coF (hl h l) (64 + i) = (l / 2 ^ (63 - i) % 2 == 1) := by
  unfold coF gBit hl
  have e : 127 - (64 + i) = 63 - i := by omega
  rw [e]
  obtain ⟨d, hd⟩ : ∃ d, 64 = d + 1 + (63 - i) := ⟨64 - (63 - i) - 1, by omega⟩
  have e3 : (h * 2 ^ 64 + l) / 2 ^ (63 - i) = h * 2 ^ (d + 1) + l / 2 ^ (63 - i) := by
    rw [hd, Nat.pow_add, ← Nat.mul_assoc, show 63 - i = 63 - i from rfl, Nat.add_comm, Nat.add_mul_div_right _ _ (Nat.pow_pos (by omega)), Nat.add_comm]
  have e4 : (h * 2 ^ (d + 1) + l / 2 ^ (63 - i)) % 2 = l / 2 ^ (63 - i) % 2 := by
    rw [Nat.pow_succ, ← Nat.mul_assoc]; omega
  rw [e3, e4]
theorem co_take (b k : Nat) (hk : k < 128) : (co b).take (k + 1) = (co b).take k ++ [coF b k] := by
  rw [List.take_add_one, co_at b k hk]; rfl
theorem up_two : Tryz.prog.underlying 175 = some (.array 2 67) := by kernel_rfl
theorem ix_two0 (a b : Int) (w : World) : (Instr.index 175 (.agg #[.int .u64 a, .int .u64 b]) (.int .i64 0)).run Tryz.prog w = .ok (.int .u64 a) w := by
  simp [Instr.index, run_underlying up_two, asIntOf, go_sem]
theorem ix_two1 (a b : Int) (w : World) : (Instr.index 175 (.agg #[.int .u64 a, .int .u64 b]) (.int .i64 1)).run Tryz.prog w = .ok (.int .u64 b) w := by
  simp [Instr.index, run_underlying up_two, asIntOf, go_sem]
attribute [local go_sem] ix_two0 ix_two1
attribute [local irreducible] co coF hl wSh
attribute [local go_sem] Oper.semAt_some

section
variable {F : Fence} {n : Nat} {w : World} {ops : Array Oper} {rest : List Oper} {o : Oper} {a : Act} {Q : Exit → Act → World → Prop}
theorem wpListIn_ldE (hgd : o.guard = none) (x : Operand) (hop : o.op = .load 103 x) (g : Nat) (hx : a.eval x = .pointer (some ⟨g, 0, none⟩)) (h l : Nat) (hc : Ew w g h l)
    (hk : wpListIn F n Tryz.prog ops Q rest (a.put o.dst (EV h l)) w) : wpListIn F n Tryz.prog ops Q (o :: rest) a w := by
  obtain ⟨d, hu, hd⟩ := row_elem
  refine wpListIn_plain hgd fun K hK => ⟨fun f hf => ?_, ?_⟩
  · simp [Oper.about, hop] at hf
  · rw [Oper.semAt_eq _ _ _ (by simp [hop])]
    unfold execOp
    simp only [hop, hx, Instr.loadAt, Instr.sureAddr, Sem.run_bind, Sem.run_pure, Result.andThen_ok, run_loadVar_mid (P := Tryz.prog) w g 0 _ (es h l) d hc.1 hu hd sz_elem]
    exact hK _ _ hk
theorem wpListIn_stE (hgd : o.guard = none) (x y : Operand) (hop : o.op = .store 103 x y) (g : Nat) (hx : a.eval x = .pointer (some ⟨g, 0, none⟩)) (h l h0 l0 : Nat) (hy : a.eval y = EV h l) (hc : Ew w g h0 l0)
    (hk : wpListIn F n Tryz.prog ops Q rest (a.put o.dst undef) (w.setCells g 0 (es h l))) : wpListIn F n Tryz.prog ops Q (o :: rest) a w := by
  refine wpListIn_plain hgd fun K hK => ⟨fun f hf => ?_, ?_⟩
  · simp [Oper.about, hop] at hf
  · rw [Oper.semAt_eq _ _ _ (by simp [hop])]
    unfold execOp
    have hy' : a.eval y = .agg (es h l).toArray := hy
    simp only [hop, hx, hy', Instr.storeAt, Instr.sureAddr, Sem.run_bind, Sem.run_pure, Result.andThen_ok, run_storeVar_mid (P := Tryz.prog) w g 0 _ (es h l).toArray hc.2 sz_elem (es_all h l)]
    exact hK _ _ (by simpa using hk)
theorem wpListIn_boxE (hgd : o.guard = none) (T : TypeId) (x : Operand) (hop : o.op = .box T x) (h l : Nat) (hx : a.eval x = EV h l)
    (hk : wpListIn F n Tryz.prog ops Q rest (a.put o.dst (.pointer (some ⟨w.heap.size, 0, none⟩))) (w.alloc (.cells (es h l).toArray T))) : wpListIn F n Tryz.prog ops Q (o :: rest) a w := by
  refine wpListIn_plain hgd fun K hK => ⟨fun f hf => ?_, ?_⟩
  · simp [Oper.about, hop] at hf
  · rw [Oper.semAt_eq _ _ _ (by simp [hop])]
    unfold execOp
    have hr : (Instr.box T (EV h l)).run Tryz.prog w = .ok (.pointer (some ⟨w.heap.size, 0, none⟩)) (w.alloc (.cells (es h l).toArray T)) := by unfold EV; rfl
    simp only [hop, hx, Sem.run_bind, hr, Result.andThen_ok]
    exact hK _ _ hk
/-- A slice of two elements that a call lays. -/
theorem run_two (w : World) (h l h' l' : Nat) : (Instr.buildSlice 105 2 #[(0, EV h l), (1, EV h' l')]).run Tryz.prog w = .ok (.slice (some ⟨w.heap.size, 0, none⟩) 2 2) (w.alloc (.cells (es h l ++ es h' l').toArray 103)) := by unfold EV es; go_simp
theorem wpListIn_twoE (hgd : o.guard = none) (x y : Operand) (hop : o.op = .buildSlice 105 2 #[(0, x), (1, y)]) (h l h' l' : Nat) (hx : a.eval x = EV h l) (hy : a.eval y = EV h' l')
    (hk : wpListIn F n Tryz.prog ops Q rest (a.put o.dst (.slice (some ⟨w.heap.size, 0, none⟩) 2 2)) (w.alloc (.cells (es h l ++ es h' l').toArray 103))) : wpListIn F n Tryz.prog ops Q (o :: rest) a w := by
  refine wpListIn_plain hgd fun K hK => ⟨fun f hf => ?_, ?_⟩
  · simp [Oper.about, hop] at hf
  · rw [Oper.semAt_eq _ _ _ (by simp [hop])]
    unfold execOp
    simp only [hop, List.map_toArray, List.map_cons, List.map_nil, hx, hy, Sem.run_bind, run_two, Result.andThen_ok]
    exact hK _ _ hk
end
end Go.Proofs.YtlapnfpdkfhfdaaGreat

/- layer 4: Times. Conditions: numbers of 128 bits. -/
namespace Go.Proofs.YtlapnfpdkfhfdaaGreat
open Go.RowKit Go.Shelf
set_option linter.unusedVariables false

theorem hl_up (p q : Nat) (hq : q < 2 ^ 64) : hl p q / 2 ^ 64 = p ∧ hl p q % 2 ^ 64 = q := by unfold hl; omega
theorem gSum_nil (s : Nat) : gSum [] s = s := rfl
attribute [local irreducible] hl gSum
/-- Two elements that a call lays side by side. -/
theorem two_xe (ph pl eh el : Nat) (h1 : ph < 2 ^ 64) (h2 : pl < 2 ^ 64) (h3 : eh < 2 ^ 64) (h4 : el < 2 ^ 64) (w : World) :
    XE (w.alloc (.cells (es ph pl ++ es eh el).toArray 103)) (w.heap.size + 1) (some ⟨w.heap.size, 0, none⟩) 2 [hl ph pl, hl eh el] := by
  have up := hl_up ph pl h2
  have ue := hl_up eh el h4
  refine ⟨rfl, ?_, fun _ => ⟨w.heap.size, 0, rfl, Nat.lt_succ_self _, ?_⟩⟩
  · intro i x hx
    match i, hx with
    | 0, hx => injection hx with hx; rw [← hx]; exact hl_lt _ _ h1 h2
    | 1, hx => injection hx with hx; rw [← hx]; exact hl_lt _ _ h3 h4
  · intro i x hx j v hv
    rw [cell_of_row (w.alloc (.cells (es ph pl ++ es eh el).toArray 103)) w.heap.size _ _ 103 (0, 0) (heap_alloc_new w _)]
    match i, hx with
    | 0, hx =>
      injection hx with hx
      rw [← hx, up.1, up.2] at hv
      match j, hv with
      | 0, hv => exact hv
      | 1, hv => exact hv
    | 1, hx =>
      injection hx with hx
      rw [← hx, ue.1, ue.2] at hv
      match j, hv with
      | 0, hv => exact hv
      | 1, hv => exact hv
theorem gSum_two (ph pl eh el : Nat) (h2 : pl < 2 ^ 64) (h4 : el < 2 ^ 64) : gSum [hl ph pl, hl eh el] 0 = hl (ph ^^^ eh) (pl ^^^ el) := by
  have e1 : gSum [hl ph pl] 0 = gSum [] 0 ^^^ hl ph pl := gSum_snoc [] (hl ph pl) 0
  have e2 : gSum [hl ph pl, hl eh el] 0 = gSum [hl ph pl] 0 ^^^ hl eh el := gSum_snoc [hl ph pl] (hl eh el) 0
  rw [e2, e1, gSum_nil, Nat.zero_xor, hl_xor _ _ _ _ h2 h4]
theorem sum_two (ph pl eh el : Nat) (h1 : ph < 2 ^ 64) (h2 : pl < 2 ^ 64) (h3 : eh < 2 ^ 64) (h4 : el < 2 ^ 64) (w : World) :
    Calls Tryz.prog 86 #[.slice (some ⟨w.heap.size, 0, none⟩) 2 2] (w.alloc (.cells (es ph pl ++ es eh el).toArray 103)) fun e w' => e = .returned (EV (ph ^^^ eh) (pl ^^^ el)) ∧ Below w.heap.size w w' := by
  refine (psum_any (some ⟨w.heap.size, 0, none⟩) 2 2 [hl ph pl, hl eh el] _ (by unfold maxLen; omega) (by rw [World.size_alloc]; exact two_xe ph pl eh el h1 h2 h3 h4 w)).mono ?_
  rintro e w' ⟨rfl, hb⟩
  refine ⟨?_, (below_alloc w _).trans (hb.mono (by simp))⟩
  rw [gSum_two _ _ _ _ h2 h4, pe_hl _ _ (Nat.xor_lt_two_pow h2 h4)]
theorem own_ew (G h l : Nat) : Own (fun (_ : List Bool) W => Ew W G h l) := fun s A B row hs hg hr =>
  Ew.mk (cell_kept hs.at0 hg hr) (cell_kept hs.at1 hg hr) ((frozen_kept hs.at0 hg hr).trans hs.free0) ((frozen_kept hs.at1 hg hr).trans hs.free1)
/-- What Times holds between two rounds. -/
def TmI (w : World) (G a b : Nat) (pre : List Bool) (W : World) : Prop :=
  ∃ eh el ph pl, (hl eh el = gIter a pre.length ∧ eh < 2 ^ 64 ∧ el < 2 ^ 64 ∧ ph < 2 ^ 64 ∧ pl < 2 ^ 64 ∧ (pre = (co b).take pre.length → hl ph pl = gUp a b pre.length)) ∧ Ew W G eh el ∧ Ew W (G + 1 + 1) 0 0 ∧ Ew W (G + 1 + 1 + 1) ph pl ∧ Below w.heap.size w W
theorem tm_own (w : World) (G a b B : Nat) (hB : w.heap.size ≤ B) : OwnFrom B (TmI w G a b) := by
  intro s A C row hs hg hr
  obtain ⟨eh, el, ph, pl, hv, h1, h2, h3, h4⟩ := hs
  have hr' : ∀ r, row = some r → ∃ o : Obj, A.heap[r]? = some o ∧ o.isCells = false := fun r e => (hr r e).2
  exact ⟨eh, el, ph, pl, hv, own_ew _ _ _ s A C row h1 hg hr', own_ew _ _ _ s A C row h2 hg hr', own_ew _ _ _ s A C row h3 hg hr', ownFrom_below (Nat.le_refl _) hB s A C row h4 hg hr⟩
theorem keeps_of_below {W W' : World} (hb : Below W.heap.size W W') : KeepsOthers W W' := ⟨hb.size, fun k o hk _ => (hb.block k (Array.getElem?_eq_some_iff.1 hk).1).trans hk⟩
theorem keeps_es (W : World) (g h l : Nat) : KeepsOthers W (W.setCells g 0 (es h l)) := (KeepsOthers.setCell _ _ _).trans (KeepsOthers.setCell _ _ _)
theorem tm_done (a b p : Nat) (h : co b = (co b).take (co b).length → p = gUp a b (co b).length) : p = gMul a b := by
  rw [co_len] at h
  exact h (by rw [List.take_of_length_le (by rw [co_len]; omega)])
theorem tm_snoc (a b p p' : Nat) (pre : List Bool) (x : Bool) (hlen : pre.length < 128) (h : pre = (co b).take pre.length → p = gUp a b pre.length) (hp : p' = p ^^^ (bif x then gIter a pre.length else 0)) :
    pre ++ [x] = (co b).take (pre ++ [x]).length → p' = gUp a b (pre ++ [x]).length := by
  intro e
  rw [List.length_append, List.length_singleton] at e ⊢
  rw [co_take b _ hlen] at e
  obtain ⟨e1, e2⟩ := List.append_inj' e rfl
  have e3 : x = coF b pre.length := by injection e2
  rw [hp, h e1, gUp, e3]
  unfold coF
  rcases gBit01 b pre.length with k | k <;> rw [k] <;> simp
theorem gIter_succ (a k : Nat) : gIter a (k + 1) = gNext (gIter a k) := rfl
attribute [local irreducible] PE gMul gUp gIter gNext co coF
attribute [local go_sem] Oper.semAt_some

end Go.Proofs.YtlapnfpdkfhfdaaGreat

