/- layer 4: the coefficients of an element, one by one, as the iterator of Times hands them out. Conditions: the element's words are words; the loop's body keeps what it is told to keep. -/
import Derived.RangeFuncNested
import Derived.RangeFuncBound
import Derived.RangeFuncCalls
import Derived.RangeFuncLeaves
import Derived.Shelf.Abstract
import Derived.Shelf.RegionOpen
import Derived.OwnWalkIn
import Derived.TacticsInMore
import Derived.LoopNIn
import Derived.LoopIn
import Derived.Test.YtdhgofolcggleaaPolyPe
namespace Go.Proofs.Ytdhgofolcggleaa
open Go.RowKit Go.Shelf
set_option linter.unusedVariables false

/-- A coefficient as a word. -/
def bI (x : Bool) : Int := match x with | true => 1 | false => 0
/-- The multiplier moved by i within a word. -/
def wSh (v i : Nat) : Nat := v * 2 ^ i % 2 ^ 64
theorem wSh_zero (v : Nat) (hv : v < 2 ^ 64) : wSh v 0 = v := by unfold wSh; rw [Nat.pow_zero, Nat.mul_one]; exact Nat.mod_eq_of_lt hv
theorem wSh_lt (v i : Nat) : wSh v i < 2 ^ 64 := Nat.mod_lt _ (by omega)
theorem wSh_next (v i : Nat) : wSh v (i + 1) = wSh v i * 2 % 2 ^ 64 := by
  unfold wSh
  rw [Nat.pow_succ, ← Nat.mul_assoc]
  generalize v * 2 ^ i = x
  omega
theorem wSh_bit (v i : Nat) (hi : i < 64) : wSh v i / 2 ^ 63 = v / 2 ^ (63 - i) % 2 := by
  obtain ⟨d, hd⟩ : ∃ d, 63 = i + d := ⟨63 - i, by omega⟩
  unfold wSh
  have e1 : (2 : Nat) ^ 64 = 2 ^ d * 2 * 2 ^ i := by rw [show (64 : Nat) = d + 1 + i by omega, Nat.pow_add, Nat.pow_succ]
  have e2 : (2 : Nat) ^ 63 = 2 ^ d * 2 ^ i := by rw [hd, Nat.pow_add, Nat.mul_comm]
  rw [e1, e2, Nat.mul_mod_mul_right, Nat.mul_div_mul_right _ _ (Nat.pow_pos (by omega)), Nat.mod_mul_right_div_self, show 63 - i = d by omega]
theorem bit_hi (h l i : Nat) (hl0 : l < 2 ^ 64) (hi : i < 64) : coF (hl h l) i = (h / 2 ^ (63 - i) % 2 == 1) := by
  unfold coF gBit hl
  have e : (h * 2 ^ 64 + l) / 2 ^ (127 - i) = h / 2 ^ (63 - i) := by
    rw [show 127 - i = 64 + (63 - i) by omega, Nat.pow_add, ← Nat.div_div_eq_div_mul]
    congr 1
    omega
  rw [e]
theorem bit_lo (h l i : Nat) (hl0 : l < 2 ^ 64) (hi : i < 64) : coF (hl h l) (64 + i) = (l / 2 ^ (63 - i) % 2 == 1) := by
  unfold coF gBit hl
  have e : 127 - (64 + i) = 63 - i := by omega
  rw [e]
  obtain ⟨d, hd⟩ : ∃ d, 64 = d + 1 + (63 - i) := ⟨64 - (63 - i) - 1, by omega⟩
  have e3 : (h * 2 ^ 64 + l) / 2 ^ (63 - i) = h * 2 ^ (d + 1) + l / 2 ^ (63 - i) := by
    rw [hd, Nat.pow_add, ← Nat.mul_assoc, show 63 - i = 63 - i from rfl, Nat.add_comm, Nat.add_mul_div_right _ _ (Nat.pow_pos (by omega)), Nat.add_comm]
  have e4 : (h * 2 ^ (d + 1) + l / 2 ^ (63 - i)) % 2 = l / 2 ^ (63 - i) % 2 := by
    rw [Nat.pow_succ, ← Nat.mul_assoc]; omega
  rw [e3, e4]
theorem co_take (b k : Nat) (hk : k < 128) : (co b).take (k + 1) = (co b).take k ++ [coF b k] := by
  rw [List.take_add_one, co_at b k hk]; rfl
theorem up_two : Try.prog.underlying 62 = some (.array 2 22) := by kernel_rfl
theorem ix_two0 (a b : Int) (w : World) : (Instr.index 62 (.agg #[.int .u64 a, .int .u64 b]) (.int .i64 0)).run Try.prog w = .ok (.int .u64 a) w := by
  simp [Instr.index, run_underlying up_two, asIntOf, go_sem]
theorem ix_two1 (a b : Int) (w : World) : (Instr.index 62 (.agg #[.int .u64 a, .int .u64 b]) (.int .i64 1)).run Try.prog w = .ok (.int .u64 b) w := by
  simp [Instr.index, run_underlying up_two, asIntOf, go_sem]
attribute [local go_sem] ix_two0 ix_two1
attribute [local irreducible] co coF hl wSh
attribute [local go_sem] Oper.semAt_some

set_option maxRecDepth 100000 in
set_option maxHeartbeats 4000000 in
theorem coef1_in (F : Fence) (n : Nat) (hF : F.fn 28) (hro : F.round = none) (hn : 1 ≤ n) (l B h0 l0 n₀ : Nat) (hh : h0 < 2 ^ 64) (hl1 : l0 < 2 ^ 64) (J Jx : List Bool → World → Prop)
    (hY : ∀ pre x W, J pre W → pre.length < 128 → YieldAt F (n - 1) Try.prog l #[.int .u64 (bI x)] W fun e W' => (e = .returned (.bool true) ∧ J (pre ++ [x]) W' ∧ Below n₀ W W') ∨ (e = .returned (.bool false) ∧ Jx (pre ++ [x]) W'))
    (W : World) (hE : Ew W B h0 l0) (hJ0 : J [] W) :
    CallsIn F n Try.prog 28 #[.func (.yield l) #[] #[], .pointer (some ⟨B, 0, none⟩)] W fun e W' => (∃ v, e = .returned v) ∧
      ((∃ ys, ys = co (hl h0 l0) ∧ J ys W') ∨ (∃ pre, pre <+: co (hl h0 l0) ∧ Jx pre W')) := by
  have c0 := hE.at0
  have c1 := hE.at1
  clear hE
  obtain ⟨b, HB⟩ : ∃ b, Hid (b = hl h0 l0) := ⟨_, Lib.hid rfl⟩
  have HL := Lib.hid (⟨hh, hl1⟩ : h0 < 2 ^ 64 ∧ l0 < 2 ^ 64)
  have HT := Lib.hid (co_take b)
  have HLN := Lib.hid (co_len b)
  have HB0 : Hid (∀ i, i < 64 → coF b (64 * 0 + i) = (h0 / 2 ^ (63 - i) % 2 == 1)) := Lib.hid (fun i hi => by rw [HB.out]; rw [show 64 * 0 + i = i by omega]; exact bit_hi h0 l0 i hl1 hi)
  have HB1 : Hid (∀ i, i < 64 → coF b (64 * 1 + i) = (l0 / 2 ^ (63 - i) % 2 == 1)) := Lib.hid (fun i hi => by rw [HB.out]; exact bit_lo h0 l0 i hl1 hi)
  rw [← HB.out]
  obtain ⟨cs, HCS⟩ : ∃ cs, Hid (cs = co b) := ⟨_, Lib.hid rfl⟩
  rw [← HCS.out] at HT HLN ⊢
  clear hh hl1
  refine callsIn_of_wp Try.func28 rfl hF ?_ hro
  simp only [Try.ntmps28, List.size_toArray, List.length_cons, List.length_nil, Nat.reduceAdd, Nat.reduceSub, Array.replicate_succ, Array.replicate_zero, List.push_toArray, List.append_toArray, List.nil_append, List.cons_append]
  gi_wp2
  gi_loopw [10] (fun t wr => ∃ k : Nat, k ≤ 2 ∧ t = .int .i64 k ∧ Hid (J (cs.take (64 * k)) wr)) (fun t _ => 2 - (intOf t).toNat)
  case atStart => exact ⟨0, by omega, rfl, Lib.hid hJ0⟩
  case round =>
    obtain ⟨k, hk, rfl, hJ⟩ := hrel
    clear hJ0
    rcases (show k = 0 ∨ k = 1 ∨ k = 2 by omega) with rfl | rfl | rfl
    · have e4 : ((0 : Nat) : Int) = 0 := rfl
      rw [e4]
      clear e4
      have hvl := HL.out.1
      gi_wp2
      obtain ⟨wo, ewo⟩ : ∃ wo : World, wo = wr := ⟨_, rfl⟩
      subst ewo
      gi_loopw [4, 13] (fun s t wr => ∃ j v : Nat, j ≤ 64 ∧ s = .int .u64 v ∧ t = .int .i64 j ∧ Hid (v = wSh h0 j) ∧ Hid (J (cs.take (64 * 0 + j)) wr)) (fun _ t _ => 64 - (intOf t).toNat)
      case atStart => exact ⟨0, h0, by omega, rfl, rfl, Lib.hid (wSh_zero _ hvl).symm, hJ⟩
      case round =>
        obtain ⟨j, v, hj, rfl, rfl, hv, hJ2⟩ := hrel
        clear hJ
        by_cases hlt : j < 64
        · have hvb : v < 2 ^ 64 := by rw [hv.out]; exact wSh_lt _ _
          have hbit : v / 2 ^ 63 = h0 / 2 ^ (63 - j) % 2 := by rw [hv.out]; exact wSh_bit _ _ hlt
          have hco := HB0.out j hlt
          rw [← hbit] at hco
          obtain ⟨y, HY⟩ : ∃ y, Hid (y = v * 2 % 2 ^ 64) := ⟨_, Lib.hid rfl⟩
          have HYV : Hid (y = wSh h0 (j + 1)) := Lib.hid (by rw [HY.out, hv.out, wSh_next])
          have hys : IntKind.u64.wrap ((v : Int) * 2) = (y : Int) := by rw [HY.out, IntKind.wrap_u64]; omega
          have HTK := Lib.hid (HT.out (64 * 0 + j) (by omega))
          have hlen : (cs.take (64 * 0 + j)).length < 128 := by rw [List.length_take, HLN.out]; omega
          rcases (show v / 2 ^ 63 = 0 ∨ v / 2 ^ 63 = 1 by omega) with hm | hm
          · have ht : (v : Int) / 9223372036854775808 = 0 := by omega
            rw [hm] at hco
            have hcb : coF b (64 * 0 + j) = false := hco
            rw [hcb] at HTK
            clear hbit hco hm hcb
            obtain ⟨fn, tmps, assign, body, hy, hR⟩ := hY _ false wr hJ2.out hlen
            dsimp only [bI] at hy
            rw [show IntKind.u64.wrap ((v : Int) * 2) = (v : Int) * 2 by rw [IntKind.wrap_u64]; omega] at hys
            gi_wp2
            refine hR.mono ?_
            rintro e W3 (⟨rfl, hJ3, hk3⟩ | ⟨rfl, hJx3⟩)
            · gi_wp2
              go_roundw
              case rel => exact ⟨j + 1, y, by omega, rfl, by go_num, HYV, Lib.hid (by rw [show 64 * 0 + (j + 1) = 64 * 0 + j + 1 by omega, HTK.out]; exact hJ3)⟩
              case measure => simp [intOf]; omega
            · gi_wp2
              refine bodyPost_ret (results_none rfl _ _ _) rfl ?_
              exact ⟨⟨_, rfl⟩, .inr ⟨_, by rw [← HTK.out]; exact List.take_prefix _ _, hJx3⟩⟩
          · have ht : (v : Int) / 9223372036854775808 = 1 := by omega
            rw [hm] at hco
            have hcb : coF b (64 * 0 + j) = true := hco
            rw [hcb] at HTK
            clear hbit hco hm hcb
            obtain ⟨fn, tmps, assign, body, hy, hR⟩ := hY _ true wr hJ2.out hlen
            dsimp only [bI] at hy
            gi_wp2
            refine hR.mono ?_
            rintro e W3 (⟨rfl, hJ3, hk3⟩ | ⟨rfl, hJx3⟩)
            · gi_wp2
              go_roundw
              case rel => exact ⟨j + 1, y, by omega, rfl, by go_num, HYV, Lib.hid (by rw [show 64 * 0 + (j + 1) = 64 * 0 + j + 1 by omega, HTK.out]; exact hJ3)⟩
              case measure => simp [intOf]; omega
            · gi_wp2
              refine bodyPost_ret (results_none rfl _ _ _) rfl ?_
              exact ⟨⟨_, rfl⟩, .inr ⟨_, by rw [← HTK.out]; exact List.take_prefix _ _, hJx3⟩⟩
        · obtain rfl : j = 64 := by omega
          have e4 : ((64 : Nat) : Int) = 64 := rfl
          rw [e4]
          clear e4
          gi_wp2
          go_roundw
          case rel => exact ⟨0 + 1, by omega, by go_num, Lib.hid hJ2.out⟩
          case measure => simp [intOf]
    · have e4 : ((1 : Nat) : Int) = 1 := rfl
      rw [e4]
      clear e4
      have hvl := HL.out.2
      gi_wp2
      obtain ⟨wo, ewo⟩ : ∃ wo : World, wo = wr := ⟨_, rfl⟩
      subst ewo
      gi_loopw [4, 13] (fun s t wr => ∃ j v : Nat, j ≤ 64 ∧ s = .int .u64 v ∧ t = .int .i64 j ∧ Hid (v = wSh l0 j) ∧ Hid (J (cs.take (64 * 1 + j)) wr)) (fun _ t _ => 64 - (intOf t).toNat)
      case atStart => exact ⟨0, l0, by omega, rfl, rfl, Lib.hid (wSh_zero _ hvl).symm, hJ⟩
      case round =>
        obtain ⟨j, v, hj, rfl, rfl, hv, hJ2⟩ := hrel
        clear hJ
        by_cases hlt : j < 64
        · have hvb : v < 2 ^ 64 := by rw [hv.out]; exact wSh_lt _ _
          have hbit : v / 2 ^ 63 = l0 / 2 ^ (63 - j) % 2 := by rw [hv.out]; exact wSh_bit _ _ hlt
          have hco := HB1.out j hlt
          rw [← hbit] at hco
          obtain ⟨y, HY⟩ : ∃ y, Hid (y = v * 2 % 2 ^ 64) := ⟨_, Lib.hid rfl⟩
          have HYV : Hid (y = wSh l0 (j + 1)) := Lib.hid (by rw [HY.out, hv.out, wSh_next])
          have hys : IntKind.u64.wrap ((v : Int) * 2) = (y : Int) := by rw [HY.out, IntKind.wrap_u64]; omega
          have HTK := Lib.hid (HT.out (64 * 1 + j) (by omega))
          have hlen : (cs.take (64 * 1 + j)).length < 128 := by rw [List.length_take, HLN.out]; omega
          rcases (show v / 2 ^ 63 = 0 ∨ v / 2 ^ 63 = 1 by omega) with hm | hm
          · have ht : (v : Int) / 9223372036854775808 = 0 := by omega
            rw [hm] at hco
            have hcb : coF b (64 * 1 + j) = false := hco
            rw [hcb] at HTK
            clear hbit hco hm hcb
            obtain ⟨fn, tmps, assign, body, hy, hR⟩ := hY _ false wr hJ2.out hlen
            dsimp only [bI] at hy
            rw [show IntKind.u64.wrap ((v : Int) * 2) = (v : Int) * 2 by rw [IntKind.wrap_u64]; omega] at hys
            gi_wp2
            refine hR.mono ?_
            rintro e W3 (⟨rfl, hJ3, hk3⟩ | ⟨rfl, hJx3⟩)
            · gi_wp2
              go_roundw
              case rel => exact ⟨j + 1, y, by omega, rfl, by go_num, HYV, Lib.hid (by rw [show 64 * 1 + (j + 1) = 64 * 1 + j + 1 by omega, HTK.out]; exact hJ3)⟩
              case measure => simp [intOf]; omega
            · gi_wp2
              refine bodyPost_ret (results_none rfl _ _ _) rfl ?_
              exact ⟨⟨_, rfl⟩, .inr ⟨_, by rw [← HTK.out]; exact List.take_prefix _ _, hJx3⟩⟩
          · have ht : (v : Int) / 9223372036854775808 = 1 := by omega
            rw [hm] at hco
            have hcb : coF b (64 * 1 + j) = true := hco
            rw [hcb] at HTK
            clear hbit hco hm hcb
            obtain ⟨fn, tmps, assign, body, hy, hR⟩ := hY _ true wr hJ2.out hlen
            dsimp only [bI] at hy
            gi_wp2
            refine hR.mono ?_
            rintro e W3 (⟨rfl, hJ3, hk3⟩ | ⟨rfl, hJx3⟩)
            · gi_wp2
              go_roundw
              case rel => exact ⟨j + 1, y, by omega, rfl, by go_num, HYV, Lib.hid (by rw [show 64 * 1 + (j + 1) = 64 * 1 + j + 1 by omega, HTK.out]; exact hJ3)⟩
              case measure => simp [intOf]; omega
            · gi_wp2
              refine bodyPost_ret (results_none rfl _ _ _) rfl ?_
              exact ⟨⟨_, rfl⟩, .inr ⟨_, by rw [← HTK.out]; exact List.take_prefix _ _, hJx3⟩⟩
        · obtain rfl : j = 64 := by omega
          have e4 : ((64 : Nat) : Int) = 64 := rfl
          rw [e4]
          clear e4
          gi_wp2
          go_roundw
          case rel => exact ⟨1 + 1, by omega, by go_num, Lib.hid hJ2.out⟩
          case measure => simp [intOf]
    · have e4 : ((2 : Nat) : Int) = 2 := rfl
      rw [e4]
      clear e4
      gi_wp2
      go_end0
      exact ⟨⟨_, rfl⟩, .inl ⟨_, rfl, by have h := hJ.out; rw [List.take_of_length_le (by rw [HLN.out]; omega)] at h; exact h⟩⟩

set_option maxRecDepth 100000 in
theorem coefs_any (h l : Nat) (w : World) : Calls Try.prog 24 #[EV h l] w fun e w' => e = .returned (.func (.func 28) #[] #[.pointer (some ⟨w.heap.size, 0, none⟩)]) ∧ w' = w.alloc (.cells (es h l).toArray 24) := by
  unfold EV
  go_enter Try.func24, Try.ntmps24
  go_wp2_with fail
  go_ret
  exact ⟨rfl, rfl⟩
section
variable {F : Fence} {n : Nat} {w : World} {ops : Array Oper} {rest : List Oper} {o : Oper} {a : Act} {Q : Exit → Act → World → Prop}
theorem wpListIn_ldE (hgd : o.guard = none) (x : Operand) (hop : o.op = .load 24 x) (g : Nat) (hx : a.eval x = .pointer (some ⟨g, 0, none⟩)) (h l : Nat) (hc : Ew w g h l)
    (hk : wpListIn F n Try.prog ops Q rest (a.put o.dst (EV h l)) w) : wpListIn F n Try.prog ops Q (o :: rest) a w := by
  obtain ⟨d, hu, hd⟩ := row_elem
  refine wpListIn_plain hgd fun K hK => ⟨fun f hf => ?_, ?_⟩
  · simp [Oper.about, hop] at hf
  · rw [Oper.semAt_eq _ _ _ (by simp [hop])]
    unfold execOp
    simp only [hop, hx, Instr.loadAt, Instr.sureAddr, Sem.run_bind, Sem.run_pure, Result.andThen_ok, run_loadVar_mid (P := Try.prog) w g 0 _ (es h l) d hc.1 hu hd sz_elem]
    exact hK _ _ hk
theorem wpListIn_stE (hgd : o.guard = none) (x y : Operand) (hop : o.op = .store 24 x y) (g : Nat) (hx : a.eval x = .pointer (some ⟨g, 0, none⟩)) (h l h0 l0 : Nat) (hy : a.eval y = EV h l) (hc : Ew w g h0 l0)
    (hk : wpListIn F n Try.prog ops Q rest (a.put o.dst undef) (w.setCells g 0 (es h l))) : wpListIn F n Try.prog ops Q (o :: rest) a w := by
  refine wpListIn_plain hgd fun K hK => ⟨fun f hf => ?_, ?_⟩
  · simp [Oper.about, hop] at hf
  · rw [Oper.semAt_eq _ _ _ (by simp [hop])]
    unfold execOp
    have hy' : a.eval y = .agg (es h l).toArray := hy
    simp only [hop, hx, hy', Instr.storeAt, Instr.sureAddr, Sem.run_bind, Sem.run_pure, Result.andThen_ok, run_storeVar_mid (P := Try.prog) w g 0 _ (es h l).toArray hc.2 sz_elem (es_all h l)]
    exact hK _ _ (by simpa using hk)
theorem wpListIn_boxE (hgd : o.guard = none) (T : TypeId) (x : Operand) (hop : o.op = .box T x) (h l : Nat) (hx : a.eval x = EV h l)
    (hk : wpListIn F n Try.prog ops Q rest (a.put o.dst (.pointer (some ⟨w.heap.size, 0, none⟩))) (w.alloc (.cells (es h l).toArray T))) : wpListIn F n Try.prog ops Q (o :: rest) a w := by
  refine wpListIn_plain hgd fun K hK => ⟨fun f hf => ?_, ?_⟩
  · simp [Oper.about, hop] at hf
  · rw [Oper.semAt_eq _ _ _ (by simp [hop])]
    unfold execOp
    have hr : (Instr.box T (EV h l)).run Try.prog w = .ok (.pointer (some ⟨w.heap.size, 0, none⟩)) (w.alloc (.cells (es h l).toArray T)) := by unfold EV; rfl
    simp only [hop, hx, Sem.run_bind, hr, Result.andThen_ok]
    exact hK _ _ hk
/-- A slice of two elements that a call lays. -/
theorem run_two (w : World) (h l h' l' : Nat) : (Instr.buildSlice 25 2 #[(0, EV h l), (1, EV h' l')]).run Try.prog w = .ok (.slice (some ⟨w.heap.size, 0, none⟩) 2 2) (w.alloc (.cells (es h l ++ es h' l').toArray 24)) := by unfold EV es; go_simp
theorem wpListIn_twoE (hgd : o.guard = none) (x y : Operand) (hop : o.op = .buildSlice 25 2 #[(0, x), (1, y)]) (h l h' l' : Nat) (hx : a.eval x = EV h l) (hy : a.eval y = EV h' l')
    (hk : wpListIn F n Try.prog ops Q rest (a.put o.dst (.slice (some ⟨w.heap.size, 0, none⟩) 2 2)) (w.alloc (.cells (es h l ++ es h' l').toArray 24))) : wpListIn F n Try.prog ops Q (o :: rest) a w := by
  refine wpListIn_plain hgd fun K hK => ⟨fun f hf => ?_, ?_⟩
  · simp [Oper.about, hop] at hf
  · rw [Oper.semAt_eq _ _ _ (by simp [hop])]
    unfold execOp
    simp only [hop, List.map_toArray, List.map_cons, List.map_nil, hx, hy, Sem.run_bind, run_two, Result.andThen_ok]
    exact hK _ _ hk
end
end Go.Proofs.Ytdhgofolcggleaa
