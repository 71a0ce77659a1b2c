/- Layer 16's both, Right and Size, and the reference's Right and Size. Condition: the key has sixteen bytes, the numbers are words. -/
import Derived.Test.YtfipdaekfdbaeaaGreatMdM
namespace Go.Proofs.YtfipdaekfdbaeaaGreat
open Go.RowKit
set_option linter.unusedVariables false
set_option linter.unusedSimpArgs false
attribute [local irreducible] Cfg.val Cfg.cells rtB Rt zK sizeC AV
attribute [local go_sem ↓] ex_ldC ex_ldR ex_ldK
theorem zK_lit : AV zK = .agg #[.int .u8 0, .int .u8 0, .int .u8 0, .int .u8 0, .int .u8 0, .int .u8 0, .int .u8 0, .int .u8 0, .int .u8 0, .int .u8 0, .int .u8 0, .int .u8 0, .int .u8 0, .int .u8 0, .int .u8 0, .int .u8 0] := by unfold AV zK; rfl
theorem key_zero (l : List UInt8) (h : l.length = 16) (v : Bool) (hv : (l == zK) = v) : ∀ w : World, (binOp .eql 22 (AV l) (.agg #[.int .u8 0, .int .u8 0, .int .u8 0, .int .u8 0, .int .u8 0, .int .u8 0, .int .u8 0, .int .u8 0, .int .u8 0, .int .u8 0, .int .u8 0, .int .u8 0, .int .u8 0, .int .u8 0, .int .u8 0, .int .u8 0])).run Tryz.prog w = .ok (.bool v) w := fun w => by
  rw [← zK_lit, eql_key l zK h (by unfold zK; rfl), hv]
theorem key_guard (op : BinOp) (x y : Operand) (l : List UInt8) (cs : Array Value) (w : World) : (eqGuard op 22 x y (AV l) (.agg cs)).run Tryz.prog w = .ok () w := by unfold AV; exact run_eqGuard_agg w op _ x y _ _ (by kernel_rfl)
theorem rt_false {c : Cfg} (h : ¬ Rt c) : rtB c = false := by unfold rtB; exact decide_eq_false h
theorem rt_true {c : Cfg} (h : Rt c) : rtB c = true := by unfold rtB; exact decide_eq_true h

set_option maxRecDepth 100000 in
theorem mboth_any (c : Cfg) (h : c.ok) (hs : 1 ≤ c.s ∧ c.s ≤ 15) (hn : 4 ≤ c.n ∧ c.n ≤ 18) (w : World) :
    Calls Tryz.prog 33 #[c.val] w fun e w' => e = .returned (.int .i64 (c.s + c.n)) ∧ Below w.heap.size w w' := by
  have HC := Lib.hid h
  go_enter Tryz.func33, Tryz.ntmps33
  go_wp2_with (first | (refine wpList_boxB rfl 24 (.tmp 0) rfl c.cells (val_agg c) ?_; intro w1 q hc1 hb1 hx1; have K1 := Lib.hid (And.intro hc1 (And.intro hb1 hx1)); have c0 := cf0 (K1.out.1); have c1 := cf1 (K1.out.1); have c2 := cf2 (K1.out.1); have ql := ld_cfg rt_cfg (K1.out.1) HC.out; have qk := ld_key (K1.out.1) HC.out; clear hc1 hb1 hx1))
  go_ret
  exact ⟨rfl, K1.out.2.1⟩

set_option maxRecDepth 100000 in
set_option maxHeartbeats 4000000 in
theorem mright_any (c : Cfg) (h : c.ok) (v : Bool) (hv : rtB c = v) (w : World) :
    Calls Tryz.prog 23 #[c.val] w fun e w' => e = .returned (.bool v) ∧ Below w.heap.size w w' := by
  have HC := Lib.hid h
  have HV := Lib.hid hv
  clear hv
  by_cases h1 : c.s < 1
  · have d1 : decide (c.s < 1) = true := decide_eq_true h1
    obtain rfl : v = false := by rw [← HV.out]; exact rt_false (fun e => by obtain ⟨⟨e1, e2⟩, ⟨e3, e4⟩, ⟨e5, e6⟩, e7, e8, e9⟩ := rt_unf e; omega)
    clear h h1
    go_enter Tryz.func23, Tryz.ntmps23
    go_wp2_with (first | (refine wpList_boxB rfl 24 (.tmp 0) rfl c.cells (val_agg c) ?_; intro w1 q hc1 hb1 hx1; have K1 := Lib.hid (And.intro hc1 (And.intro hb1 hx1)); have c0 := cf0 (K1.out.1); have c1 := cf1 (K1.out.1); have c2 := cf2 (K1.out.1); have ql := ld_cfg rt_cfg (K1.out.1) HC.out; have qk := ld_key (K1.out.1) HC.out; clear hc1 hb1 hx1))
    go_ret
    exact ⟨rfl, K1.out.2.1⟩
  have d1 : decide (c.s < 1) = false := decide_eq_false h1
  by_cases h2 : 15 < c.s
  · have d2 : decide (15 < c.s) = true := decide_eq_true h2
    obtain rfl : v = false := by rw [← HV.out]; exact rt_false (fun e => by obtain ⟨⟨e1, e2⟩, ⟨e3, e4⟩, ⟨e5, e6⟩, e7, e8, e9⟩ := rt_unf e; omega)
    clear h h1 h2
    go_enter Tryz.func23, Tryz.ntmps23
    go_wp2_with (first | (refine wpList_boxB rfl 24 (.tmp 0) rfl c.cells (val_agg c) ?_; intro w1 q hc1 hb1 hx1; have K1 := Lib.hid (And.intro hc1 (And.intro hb1 hx1)); have c0 := cf0 (K1.out.1); have c1 := cf1 (K1.out.1); have c2 := cf2 (K1.out.1); have ql := ld_cfg rt_cfg (K1.out.1) HC.out; have qk := ld_key (K1.out.1) HC.out; clear hc1 hb1 hx1))
    go_ret
    exact ⟨rfl, K1.out.2.1⟩
  have d2 : decide (15 < c.s) = false := decide_eq_false h2
  by_cases h3 : c.n < 4
  · have d3 : decide (c.n < 4) = true := decide_eq_true h3
    obtain rfl : v = false := by rw [← HV.out]; exact rt_false (fun e => by obtain ⟨⟨e1, e2⟩, ⟨e3, e4⟩, ⟨e5, e6⟩, e7, e8, e9⟩ := rt_unf e; omega)
    clear h h1 h2 h3
    go_enter Tryz.func23, Tryz.ntmps23
    go_wp2_with (first | (refine wpList_boxB rfl 24 (.tmp 0) rfl c.cells (val_agg c) ?_; intro w1 q hc1 hb1 hx1; have K1 := Lib.hid (And.intro hc1 (And.intro hb1 hx1)); have c0 := cf0 (K1.out.1); have c1 := cf1 (K1.out.1); have c2 := cf2 (K1.out.1); have ql := ld_cfg rt_cfg (K1.out.1) HC.out; have qk := ld_key (K1.out.1) HC.out; clear hc1 hb1 hx1))
    go_ret
    exact ⟨rfl, K1.out.2.1⟩
  have d3 : decide (c.n < 4) = false := decide_eq_false h3
  by_cases h4 : 18 < c.n
  · have d4 : decide (18 < c.n) = true := decide_eq_true h4
    obtain rfl : v = false := by rw [← HV.out]; exact rt_false (fun e => by obtain ⟨⟨e1, e2⟩, ⟨e3, e4⟩, ⟨e5, e6⟩, e7, e8, e9⟩ := rt_unf e; omega)
    clear h h1 h2 h3 h4
    go_enter Tryz.func23, Tryz.ntmps23
    go_wp2_with (first | (refine wpList_boxB rfl 24 (.tmp 0) rfl c.cells (val_agg c) ?_; intro w1 q hc1 hb1 hx1; have K1 := Lib.hid (And.intro hc1 (And.intro hb1 hx1)); have c0 := cf0 (K1.out.1); have c1 := cf1 (K1.out.1); have c2 := cf2 (K1.out.1); have ql := ld_cfg rt_cfg (K1.out.1) HC.out; have qk := ld_key (K1.out.1) HC.out; clear hc1 hb1 hx1))
    go_ret
    exact ⟨rfl, K1.out.2.1⟩
  have d4 : decide (18 < c.n) = false := decide_eq_false h4
  by_cases h5 : 19 < c.s + c.n
  · have d5 : decide (19 < c.s + c.n) = true := decide_eq_true h5
    obtain rfl : v = false := by rw [← HV.out]; exact rt_false (fun e => by obtain ⟨⟨e1, e2⟩, ⟨e3, e4⟩, ⟨e5, e6⟩, e7, e8, e9⟩ := rt_unf e; omega)
    have hs : 1 ≤ c.s ∧ c.s ≤ 15 := ⟨by omega, by omega⟩
    have hn : 4 ≤ c.n ∧ c.n ≤ 18 := ⟨by omega, by omega⟩
    have HB := Lib.hid (mboth_any c h ⟨by omega, by omega⟩ ⟨by omega, by omega⟩)
    clear h h1 h2 h3 h4 h5
    go_enter Tryz.func23, Tryz.ntmps23
    go_wp2_with (first | (refine wpList_boxB rfl 24 (.tmp 0) rfl c.cells (val_agg c) ?_; intro w1 q hc1 hb1 hx1; have K1 := Lib.hid (And.intro hc1 (And.intro hb1 hx1)); have c0 := cf0 (K1.out.1); have c1 := cf1 (K1.out.1); have c2 := cf2 (K1.out.1); have ql := ld_cfg rt_cfg (K1.out.1) HC.out; have qk := ld_key (K1.out.1) HC.out; clear hc1 hb1 hx1))
    refine (HB.out _).mono ?_
    rintro e w2 ⟨rfl, hb⟩
    have K2 := Lib.hid (bel_next K1.out.2.1 hb)
    clear hb
    go_wp2_with fail
    go_ret
    exact ⟨rfl, K2.out⟩
  have d5 : decide (19 < c.s + c.n) = false := decide_eq_false h5
  have HB := Lib.hid (mboth_any c h ⟨by omega, by omega⟩ ⟨by omega, by omega⟩)
  by_cases e0 : c.m = 0
  · have f0 : (c.m == 0) = true := by rw [e0]; rfl
    have kz := key_zero c.k h.k v (by
      rw [← HV.out, Bool.eq_iff_iff, beq_iff_eq, rt_iff]
      exact ⟨fun e => ⟨by omega, by omega, by omega, by omega, fun e1 => by omega, fun _ => e⟩, fun e => e.2.2.2.2.2 e0⟩)
    have kg := fun (x y : Operand) (cs : Array Value) (w : World) => key_guard .eql x y c.k cs w
    clear h h1 h2 h3 h4 h5 e0
    go_enter Tryz.func23, Tryz.ntmps23
    go_wp2_with (first | (refine wpList_boxB rfl 24 (.tmp 0) rfl c.cells (val_agg c) ?_; intro w1 q hc1 hb1 hx1; have K1 := Lib.hid (And.intro hc1 (And.intro hb1 hx1)); have c0 := cf0 (K1.out.1); have c1 := cf1 (K1.out.1); have c2 := cf2 (K1.out.1); have ql := ld_cfg rt_cfg (K1.out.1) HC.out; have qk := ld_key (K1.out.1) HC.out; clear hc1 hb1 hx1))
    have KB := Lib.hid K1.out.1
    refine (HB.out _).mono ?_
    rintro e w2 ⟨rfl, hb⟩
    have K2 := Lib.hid (And.intro (K1.out.1.step hb) (bel_next K1.out.2.1 hb))
    clear hb c0 c1 c2 ql qk
    have c0 := cf0 (K2.out.1)
    have c1 := cf1 (K2.out.1)
    have c2 := cf2 (K2.out.1)
    have ql := ld_cfg rt_cfg (K2.out.1) HC.out
    have qk := ld_key (K2.out.1) HC.out
    go_wp2_with fail
    go_ret
    exact ⟨rfl, K2.out.2⟩
  have f0 : (c.m == 0) = false := by rw [beq_eq_false_iff_ne]; exact e0
  by_cases e1 : c.m = 1
  · have f1 : (c.m == 1) = true := by rw [e1]; rfl
    have f3 : (c.s + c.n == 16) = v := by
      rw [← HV.out, Bool.eq_iff_iff, beq_iff_eq, rt_iff]
      exact ⟨fun e => ⟨by omega, by omega, by omega, by omega, fun _ => e, fun e9 => absurd e9 e0⟩, fun e => e.2.2.2.2.1 e1⟩
    clear h h1 h2 h3 h4 h5 e0 e1
    go_enter Tryz.func23, Tryz.ntmps23
    go_wp2_with (first | (refine wpList_boxB rfl 24 (.tmp 0) rfl c.cells (val_agg c) ?_; intro w1 q hc1 hb1 hx1; have K1 := Lib.hid (And.intro hc1 (And.intro hb1 hx1)); have c0 := cf0 (K1.out.1); have c1 := cf1 (K1.out.1); have c2 := cf2 (K1.out.1); have ql := ld_cfg rt_cfg (K1.out.1) HC.out; have qk := ld_key (K1.out.1) HC.out; clear hc1 hb1 hx1))
    have KB := Lib.hid K1.out.1
    refine (HB.out _).mono ?_
    rintro e w2 ⟨rfl, hb⟩
    have K2 := Lib.hid (And.intro (K1.out.1.step hb) (bel_next K1.out.2.1 hb))
    clear hb c0 c1 c2 ql qk
    have c0 := cf0 (K2.out.1)
    have c1 := cf1 (K2.out.1)
    have c2 := cf2 (K2.out.1)
    have ql := ld_cfg rt_cfg (K2.out.1) HC.out
    have qk := ld_key (K2.out.1) HC.out
    go_wp2_with fail
    refine (HB.out _).mono ?_
    rintro e w3 ⟨rfl, hb⟩
    have K3 := Lib.hid (bel_next K2.out.2 hb)
    clear hb
    go_wp2_with fail
    go_ret
    exact ⟨by first | rfl | rw [f3], K3.out⟩
  have f1 : (c.m == 1) = false := by rw [beq_eq_false_iff_ne]; exact e1
  have f2 : (c.m == 2) = v := by
    rw [← HV.out, Bool.eq_iff_iff, beq_iff_eq, rt_iff]
    exact ⟨fun e => ⟨by omega, by omega, by omega, by omega, fun e9 => absurd e9 e1, fun e9 => absurd e9 e0⟩, fun e => by obtain ⟨⟨q1, q2⟩, _⟩ := e; omega⟩
  clear h h1 h2 h3 h4 h5 e0 e1
  go_enter Tryz.func23, Tryz.ntmps23
  go_wp2_with (first | (refine wpList_boxB rfl 24 (.tmp 0) rfl c.cells (val_agg c) ?_; intro w1 q hc1 hb1 hx1; have K1 := Lib.hid (And.intro hc1 (And.intro hb1 hx1)); have c0 := cf0 (K1.out.1); have c1 := cf1 (K1.out.1); have c2 := cf2 (K1.out.1); have ql := ld_cfg rt_cfg (K1.out.1) HC.out; have qk := ld_key (K1.out.1) HC.out; clear hc1 hb1 hx1))
  have KB := Lib.hid K1.out.1
  refine (HB.out _).mono ?_
  rintro e w2 ⟨rfl, hb⟩
  have K2 := Lib.hid (And.intro (K1.out.1.step hb) (bel_next K1.out.2.1 hb))
  clear hb c0 c1 c2 ql qk
  have c0 := cf0 (K2.out.1)
  have c1 := cf1 (K2.out.1)
  have c2 := cf2 (K2.out.1)
  have ql := ld_cfg rt_cfg (K2.out.1) HC.out
  have qk := ld_key (K2.out.1) HC.out
  go_wp2_with fail
  go_ret
  exact ⟨by first | rfl | rw [f2], K2.out.2⟩
set_option maxRecDepth 100000 in
set_option maxHeartbeats 4000000 in
theorem msize_any (c : Cfg) (h : c.ok) (z : Int) (hz : sizeC c = z) (w : World) :
    Calls Tryz.prog 24 #[c.val] w fun e w' => e = .returned (.int .i64 z) ∧ Below w.heap.size w w' := by
  have HC := Lib.hid h
  cases hr : rtB c
  · obtain rfl : z = 0 := by rw [← hz, size_no hr]
    have HR := Lib.hid (fun u => mright_any c h false hr u)
    clear h hr hz
    go_enter Tryz.func24, Tryz.ntmps24
    go_wp2_with (first | (refine wpList_boxB rfl 24 (.tmp 0) rfl c.cells (val_agg c) ?_; intro w1 q hc1 hb1 hx1; have K1 := Lib.hid (And.intro hc1 (And.intro hb1 hx1)); have c0 := cf0 (K1.out.1); have c1 := cf1 (K1.out.1); have c2 := cf2 (K1.out.1); have ql := ld_cfg rt_cfg (K1.out.1) HC.out; have qk := ld_key (K1.out.1) HC.out; clear hc1 hb1 hx1))
    refine (HR.out _).mono ?_
    rintro e w2 ⟨rfl, hb⟩
    have K2 := Lib.hid (bel_next K1.out.2.1 hb)
    clear hb
    go_wp2_with fail
    go_ret
    exact ⟨rfl, K2.out⟩
  · have HZ : Hid (1 + (c.s + c.n) = z) := Lib.hid (by rw [← hz, size_ok hr])
    obtain ⟨r1, r2, r3, r4, _, _⟩ := rt_unf (rt_of hr)
    have HR := Lib.hid (fun u => mright_any c h true hr u)
    have HB := Lib.hid (fun u => mboth_any c h r2 r3 u)
    clear h hr hz
    go_enter Tryz.func24, Tryz.ntmps24
    go_wp2_with (first | (refine wpList_boxB rfl 24 (.tmp 0) rfl c.cells (val_agg c) ?_; intro w1 q hc1 hb1 hx1; have K1 := Lib.hid (And.intro hc1 (And.intro hb1 hx1)); have c0 := cf0 (K1.out.1); have c1 := cf1 (K1.out.1); have c2 := cf2 (K1.out.1); have ql := ld_cfg rt_cfg (K1.out.1) HC.out; have qk := ld_key (K1.out.1) HC.out; clear hc1 hb1 hx1))
    refine (HR.out _).mono ?_
    rintro e w2 ⟨rfl, hb⟩
    have K2 := Lib.hid (And.intro (K1.out.1.step hb) (bel_next K1.out.2.1 hb))
    clear hb c0 c1 c2 ql qk
    have c0 := cf0 (K2.out.1)
    have c1 := cf1 (K2.out.1)
    have c2 := cf2 (K2.out.1)
    have ql := ld_cfg rt_cfg (K2.out.1) HC.out
    have qk := ld_key (K2.out.1) HC.out
    go_wp2_with fail
    refine (HB.out _).mono ?_
    rintro e w3 ⟨rfl, hb⟩
    have K3 := Lib.hid (bel_next K2.out.2 hb)
    clear hb
    go_wp2_with fail
    go_ret
    exact ⟨by rw [← HZ.out]; rfl, K3.out⟩
end Go.Proofs.YtfipdaekfdbaeaaGreat
