/- Layer 16: ways, run, Turn and Back. Condition: the slice's cells are readable, it has at most a million bytes; the key has sixteen bytes, the numbers are words. -/
import Derived.Test.YtfipdaekfdbaeaaGreatMdA
import Derived.Test.YtfipdaekfdbaeaaGreatFsD
namespace Go.Proofs.YtfipdaekfdbaeaaGreat
open Go.RowKit
set_option linter.unusedVariables false
set_option linter.unusedSimpArgs false
def fnV (f : Nat) : Value := .func (.func f) #[] #[]
/-- How a mode turns bytes. -/
def stepV (m : Int) (back : Bool) : Value :=
  if m = 1 then (if back then fnV 40 else fnV 39)
  else if m = 2 then (if back then fnV 42 else fnV 41) else .nilFunc
theorem rt_way : RT 62 [.nilFunc, .nilFunc] := ⟨row_of (by kernel_rfl), by kernel_rfl⟩
attribute [local irreducible] Cfg.val Cfg.cells rtB Rt zK sizeC AV bytC rawC zeroC turnC wayC encL decL tableL backL passesR cntP
attribute [local go_sem ↓] ex_ldC
set_option maxRecDepth 100000 in
set_option maxHeartbeats 2000000 in
theorem mways_1 (m : Int) (h : m = 1) (w : World) :
    Calls Tryz.prog 35 #[.int .i64 m] w fun e w' => e = .returned (.agg #[fnV 39, fnV 40]) ∧ Below w.heap.size w w' := by
  subst h
  go_enter Tryz.func35, Tryz.ntmps35
  go_wp2_with (first
    | (refine wpList_newB rt_way rfl rfl ?_; intro w1 q hc1 hb1 hx1; have K1 := Lib.hid (And.intro hc1 (And.intro hb1 hx1)); clear hc1 hb1 hx1)
    | (refine wpList_stB rt_way rfl (.tmp 2) (.tmp 6) rfl q 0 rfl [.nilFunc, .nilFunc] [fnV 39, fnV 40] rfl (by intro v hv; simp at hv; first | (subst hv; rfl) | (rcases hv with rfl | rfl <;> rfl)) rfl (by exact K1.out.1) (by decide) ?_; intro w2 hc2 ho2 hs2; have K2 := Lib.hid (And.intro hc2 (K1.out.2.1.trans (ho2.below (fun k hk => by rw [List.mem_singleton.1 hk]; exact K1.out.2.2) K1.out.2.1.size))); clear hc2 ho2 hs2))
  refine bodyPost_ret (res_rec rt_way rfl _ _ q [fnV 39, fnV 40] rfl (by exact K2.out.1) rfl) rfl ⟨rfl, K2.out.2⟩
set_option maxRecDepth 100000 in
set_option maxHeartbeats 2000000 in
theorem mways_2 (m : Int) (h : m = 2) (w : World) :
    Calls Tryz.prog 35 #[.int .i64 m] w fun e w' => e = .returned (.agg #[fnV 41, fnV 42]) ∧ Below w.heap.size w w' := by
  subst h
  go_enter Tryz.func35, Tryz.ntmps35
  go_wp2_with (first
    | (refine wpList_newB rt_way rfl rfl ?_; intro w1 q hc1 hb1 hx1; have K1 := Lib.hid (And.intro hc1 (And.intro hb1 hx1)); clear hc1 hb1 hx1)
    | (refine wpList_stB rt_way rfl (.tmp 2) (.tmp 9) rfl q 0 rfl [.nilFunc, .nilFunc] [fnV 41, fnV 42] rfl (by intro v hv; simp at hv; first | (subst hv; rfl) | (rcases hv with rfl | rfl <;> rfl)) rfl (by exact K1.out.1) (by decide) ?_; intro w2 hc2 ho2 hs2; have K2 := Lib.hid (And.intro hc2 (K1.out.2.1.trans (ho2.below (fun k hk => by rw [List.mem_singleton.1 hk]; exact K1.out.2.2) K1.out.2.1.size))); clear hc2 ho2 hs2))
  refine bodyPost_ret (res_rec rt_way rfl _ _ q [fnV 41, fnV 42] rfl (by exact K2.out.1) rfl) rfl ⟨rfl, K2.out.2⟩
set_option maxRecDepth 100000 in
set_option maxHeartbeats 2000000 in
theorem mways_0 (m : Int) (h1 : m ≠ 1) (h2 : m ≠ 2) (w : World) :
    Calls Tryz.prog 35 #[.int .i64 m] w fun e w' => e = .returned (.agg #[.nilFunc, .nilFunc]) ∧ Below w.heap.size w w' := by
  have d1 : (m == 1) = false := by rw [beq_eq_false_iff_ne]; exact h1
  have d2 : (m == 2) = false := by rw [beq_eq_false_iff_ne]; exact h2
  clear h1 h2
  go_enter Tryz.func35, Tryz.ntmps35
  go_wp2_with (first
    | (refine wpList_newB rt_way rfl rfl ?_; intro w1 q hc1 hb1 hx1; have K1 := Lib.hid (And.intro hc1 (And.intro hb1 hx1)); clear hc1 hb1 hx1)
    | (refine wpList_stB rt_way rfl (.tmp 2) (.tmp 10) rfl q 0 rfl [.nilFunc, .nilFunc] [.nilFunc, .nilFunc] rfl (by intro v hv; simp at hv; first | (subst hv; rfl) | (rcases hv with rfl | rfl <;> rfl)) rfl (by exact K1.out.1) (by decide) ?_; intro w2 hc2 ho2 hs2; have K2 := Lib.hid (And.intro hc2 (K1.out.2.1.trans (ho2.below (fun k hk => by rw [List.mem_singleton.1 hk]; exact K1.out.2.2) K1.out.2.1.size))); clear hc2 ho2 hs2))
  refine bodyPost_ret (res_rec rt_way rfl _ _ q [.nilFunc, .nilFunc] rfl (by exact K2.out.1) rfl) rfl ⟨rfl, K2.out.2⟩
theorem mways_any (m : Int) (w : World) :
    Calls Tryz.prog 35 #[.int .i64 m] w fun e w' => e = .returned (.agg #[stepV m false, stepV m true]) ∧ Below w.heap.size w w' := by
  by_cases h1 : m = 1
  · have h := mways_1 m h1 w
    unfold stepV
    rw [if_pos h1, if_pos h1]
    exact h
  by_cases h2 : m = 2
  · have h := mways_2 m h2 w
    unfold stepV
    rw [if_neg h1, if_neg h1, if_pos h2, if_pos h2]
    exact h
  · have h := mways_0 m h1 h2 w
    unfold stepV
    rw [if_neg h1, if_neg h1, if_neg h2, if_neg h2]
    exact h
end Go.Proofs.YtfipdaekfdbaeaaGreat
