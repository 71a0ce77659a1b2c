/- Layer 16: the reference's Right, Size. Condition: the key has sixteen bytes, the numbers are words. -/
import Derived.Test.YtkcchidklcnnnaaGreatMdL
namespace Go.Proofs.YtkcchidklcnnnaaGreat
open Go.RowKit
set_option linter.unusedVariables false
set_option linter.unusedSimpArgs false
attribute [local irreducible] Cfg.val Cfg.cells rtB Rt zK sizeC AV
attribute [local go_sem ↓] ex_ldC ex_ldR ex_ldK

set_option maxRecDepth 100000 in
set_option maxHeartbeats 4000000 in
theorem rmright_any (c : Cfg) (h : c.ok) (v : Bool) (hv : rtB c = v) (w : World) :
    Calls Tryz.prog 44 #[c.val] w fun e w' => e = .returned (.bool v) ∧ Below w.heap.size w w' := by
  have HC := Lib.hid h
  have HV := Lib.hid hv
  clear hv
  by_cases h1 : c.m < 0
  · have d1 : decide (c.m < 0) = true := decide_eq_true h1
    obtain rfl : v = false := by rw [← HV.out]; exact rt_false (fun e => by obtain ⟨⟨e1, e2⟩, ⟨e3, e4⟩, ⟨e5, e6⟩, e7, e8, e9⟩ := rt_unf e; omega)
    clear h h1
    go_enter Tryz.func44, Tryz.ntmps44
    go_wp2_with (first | (refine wpList_boxB rfl 29 (.tmp 0) rfl c.cells (val_agg c) ?_; intro w1 q hc1 hb1 hx1; have K1 := Lib.hid (And.intro hc1 (And.intro hb1 hx1)); have c0 := cf0 (K1.out.1); have c1 := cf1 (K1.out.1); have c2 := cf2 (K1.out.1); have ql := ld_cfg rt_rcfg (K1.out.1) HC.out; have qk := ld_key (K1.out.1) HC.out; clear hc1 hb1 hx1))
    go_ret
    exact ⟨rfl, K1.out.2.1⟩
  have d1 : decide (c.m < 0) = false := decide_eq_false h1
  by_cases h2 : 2 < c.m
  · have d2 : decide (2 < c.m) = true := decide_eq_true h2
    obtain rfl : v = false := by rw [← HV.out]; exact rt_false (fun e => by obtain ⟨⟨e1, e2⟩, ⟨e3, e4⟩, ⟨e5, e6⟩, e7, e8, e9⟩ := rt_unf e; omega)
    clear h h1 h2
    go_enter Tryz.func44, Tryz.ntmps44
    go_wp2_with (first | (refine wpList_boxB rfl 29 (.tmp 0) rfl c.cells (val_agg c) ?_; intro w1 q hc1 hb1 hx1; have K1 := Lib.hid (And.intro hc1 (And.intro hb1 hx1)); have c0 := cf0 (K1.out.1); have c1 := cf1 (K1.out.1); have c2 := cf2 (K1.out.1); have ql := ld_cfg rt_rcfg (K1.out.1) HC.out; have qk := ld_key (K1.out.1) HC.out; clear hc1 hb1 hx1))
    go_ret
    exact ⟨rfl, K1.out.2.1⟩
  have d2 : decide (2 < c.m) = false := decide_eq_false h2
  by_cases h3 : c.s < 1
  · have d3 : decide (c.s < 1) = true := decide_eq_true h3
    obtain rfl : v = false := by rw [← HV.out]; exact rt_false (fun e => by obtain ⟨⟨e1, e2⟩, ⟨e3, e4⟩, ⟨e5, e6⟩, e7, e8, e9⟩ := rt_unf e; omega)
    clear h h1 h2 h3
    go_enter Tryz.func44, Tryz.ntmps44
    go_wp2_with (first | (refine wpList_boxB rfl 29 (.tmp 0) rfl c.cells (val_agg c) ?_; intro w1 q hc1 hb1 hx1; have K1 := Lib.hid (And.intro hc1 (And.intro hb1 hx1)); have c0 := cf0 (K1.out.1); have c1 := cf1 (K1.out.1); have c2 := cf2 (K1.out.1); have ql := ld_cfg rt_rcfg (K1.out.1) HC.out; have qk := ld_key (K1.out.1) HC.out; clear hc1 hb1 hx1))
    go_ret
    exact ⟨rfl, K1.out.2.1⟩
  have d3 : decide (c.s < 1) = false := decide_eq_false h3
  by_cases h4 : 15 < c.s
  · have d4 : decide (15 < c.s) = true := decide_eq_true h4
    obtain rfl : v = false := by rw [← HV.out]; exact rt_false (fun e => by obtain ⟨⟨e1, e2⟩, ⟨e3, e4⟩, ⟨e5, e6⟩, e7, e8, e9⟩ := rt_unf e; omega)
    clear h h1 h2 h3 h4
    go_enter Tryz.func44, Tryz.ntmps44
    go_wp2_with (first | (refine wpList_boxB rfl 29 (.tmp 0) rfl c.cells (val_agg c) ?_; intro w1 q hc1 hb1 hx1; have K1 := Lib.hid (And.intro hc1 (And.intro hb1 hx1)); have c0 := cf0 (K1.out.1); have c1 := cf1 (K1.out.1); have c2 := cf2 (K1.out.1); have ql := ld_cfg rt_rcfg (K1.out.1) HC.out; have qk := ld_key (K1.out.1) HC.out; clear hc1 hb1 hx1))
    go_ret
    exact ⟨rfl, K1.out.2.1⟩
  have d4 : decide (15 < c.s) = false := decide_eq_false h4
  by_cases h5 : c.n < 4
  · have d5 : decide (c.n < 4) = true := decide_eq_true h5
    obtain rfl : v = false := by rw [← HV.out]; exact rt_false (fun e => by obtain ⟨⟨e1, e2⟩, ⟨e3, e4⟩, ⟨e5, e6⟩, e7, e8, e9⟩ := rt_unf e; omega)
    clear h h1 h2 h3 h4 h5
    go_enter Tryz.func44, Tryz.ntmps44
    go_wp2_with (first | (refine wpList_boxB rfl 29 (.tmp 0) rfl c.cells (val_agg c) ?_; intro w1 q hc1 hb1 hx1; have K1 := Lib.hid (And.intro hc1 (And.intro hb1 hx1)); have c0 := cf0 (K1.out.1); have c1 := cf1 (K1.out.1); have c2 := cf2 (K1.out.1); have ql := ld_cfg rt_rcfg (K1.out.1) HC.out; have qk := ld_key (K1.out.1) HC.out; clear hc1 hb1 hx1))
    go_ret
    exact ⟨rfl, K1.out.2.1⟩
  have d5 : decide (c.n < 4) = false := decide_eq_false h5
  by_cases h6 : 18 < c.n
  · have d6 : decide (18 < c.n) = true := decide_eq_true h6
    obtain rfl : v = false := by rw [← HV.out]; exact rt_false (fun e => by obtain ⟨⟨e1, e2⟩, ⟨e3, e4⟩, ⟨e5, e6⟩, e7, e8, e9⟩ := rt_unf e; omega)
    clear h h1 h2 h3 h4 h5 h6
    go_enter Tryz.func44, Tryz.ntmps44
    go_wp2_with (first | (refine wpList_boxB rfl 29 (.tmp 0) rfl c.cells (val_agg c) ?_; intro w1 q hc1 hb1 hx1; have K1 := Lib.hid (And.intro hc1 (And.intro hb1 hx1)); have c0 := cf0 (K1.out.1); have c1 := cf1 (K1.out.1); have c2 := cf2 (K1.out.1); have ql := ld_cfg rt_rcfg (K1.out.1) HC.out; have qk := ld_key (K1.out.1) HC.out; clear hc1 hb1 hx1))
    go_ret
    exact ⟨rfl, K1.out.2.1⟩
  have d6 : decide (18 < c.n) = false := decide_eq_false h6
  by_cases h7 : 19 < c.s + c.n
  · have d7 : decide (19 < c.s + c.n) = true := decide_eq_true h7
    obtain rfl : v = false := by rw [← HV.out]; exact rt_false (fun e => by obtain ⟨⟨e1, e2⟩, ⟨e3, e4⟩, ⟨e5, e6⟩, e7, e8, e9⟩ := rt_unf e; omega)
    have hs : 1 ≤ c.s ∧ c.s ≤ 15 := ⟨by omega, by omega⟩
    have hn : 4 ≤ c.n ∧ c.n ≤ 18 := ⟨by omega, by omega⟩
    clear h h1 h2 h3 h4 h5 h6 h7
    go_enter Tryz.func44, Tryz.ntmps44
    go_wp2_with (first | (refine wpList_boxB rfl 29 (.tmp 0) rfl c.cells (val_agg c) ?_; intro w1 q hc1 hb1 hx1; have K1 := Lib.hid (And.intro hc1 (And.intro hb1 hx1)); have c0 := cf0 (K1.out.1); have c1 := cf1 (K1.out.1); have c2 := cf2 (K1.out.1); have ql := ld_cfg rt_rcfg (K1.out.1) HC.out; have qk := ld_key (K1.out.1) HC.out; clear hc1 hb1 hx1))
    go_ret
    exact ⟨rfl, K1.out.2.1⟩
  have d7 : decide (19 < c.s + c.n) = false := decide_eq_false h7
  have hs : 1 ≤ c.s ∧ c.s ≤ 15 := ⟨by omega, by omega⟩
  have hn : 4 ≤ c.n ∧ c.n ≤ 18 := ⟨by omega, by omega⟩
  by_cases e1 : c.m = 1
  · have f1 : (c.m == 1) = true := by rw [e1]; rfl
    have f0 : (c.m != 0) = true := by rw [e1]; rfl
    by_cases e3 : c.s + c.n = 16
    · have f3 : (c.s + c.n != 16) = false := by rw [e3]; rfl
      obtain rfl : v = true := by rw [← HV.out]; exact rt_iff.2 ⟨by omega, by omega, by omega, by omega, fun _ => e3, fun e9 => by omega⟩
      clear h h1 h2 h3 h4 h5 h6 h7 e1 e3
      go_enter Tryz.func44, Tryz.ntmps44
      go_wp2_with (first | (refine wpList_boxB rfl 29 (.tmp 0) rfl c.cells (val_agg c) ?_; intro w1 q hc1 hb1 hx1; have K1 := Lib.hid (And.intro hc1 (And.intro hb1 hx1)); have c0 := cf0 (K1.out.1); have c1 := cf1 (K1.out.1); have c2 := cf2 (K1.out.1); have ql := ld_cfg rt_rcfg (K1.out.1) HC.out; have qk := ld_key (K1.out.1) HC.out; clear hc1 hb1 hx1))
      go_ret
      exact ⟨by first | rfl | simp [*], K1.out.2.1⟩
    · have f3 : (c.s + c.n != 16) = true := by rw [bne_iff_ne]; exact e3
      obtain rfl : v = false := by rw [← HV.out]; exact rt_false (fun e => e3 ((rt_unf e).2.2.2.2.1 e1))
      clear h h1 h2 h3 h4 h5 h6 h7 e1 e3
      go_enter Tryz.func44, Tryz.ntmps44
      go_wp2_with (first | (refine wpList_boxB rfl 29 (.tmp 0) rfl c.cells (val_agg c) ?_; intro w1 q hc1 hb1 hx1; have K1 := Lib.hid (And.intro hc1 (And.intro hb1 hx1)); have c0 := cf0 (K1.out.1); have c1 := cf1 (K1.out.1); have c2 := cf2 (K1.out.1); have ql := ld_cfg rt_rcfg (K1.out.1) HC.out; have qk := ld_key (K1.out.1) HC.out; clear hc1 hb1 hx1))
      go_ret
      exact ⟨by first | rfl | simp [*], K1.out.2.1⟩
  have f1 : (c.m == 1) = false := by rw [beq_eq_false_iff_ne]; exact e1
  by_cases e0 : c.m = 0
  · have f0 : (c.m != 0) = false := by rw [e0]; rfl
    have kz := key_zero c.k h.k v (by
      rw [← HV.out, Bool.eq_iff_iff, beq_iff_eq, rt_iff]
      exact ⟨fun e => ⟨by omega, by omega, by omega, by omega, fun e1 => by omega, fun _ => e⟩, fun e => e.2.2.2.2.2 e0⟩)
    have kg := fun (x y : Operand) (cs : Array Value) (w : World) => key_guard .eql x y c.k cs w
    clear h h1 h2 h3 h4 h5 h6 h7 e0 e1
    go_enter Tryz.func44, Tryz.ntmps44
    go_wp2_with (first | (refine wpList_boxB rfl 29 (.tmp 0) rfl c.cells (val_agg c) ?_; intro w1 q hc1 hb1 hx1; have K1 := Lib.hid (And.intro hc1 (And.intro hb1 hx1)); have c0 := cf0 (K1.out.1); have c1 := cf1 (K1.out.1); have c2 := cf2 (K1.out.1); have ql := ld_cfg rt_rcfg (K1.out.1) HC.out; have qk := ld_key (K1.out.1) HC.out; clear hc1 hb1 hx1))
    go_ret
    exact ⟨by first | rfl | simp [*], K1.out.2.1⟩
  have f0 : (c.m != 0) = true := by rw [bne_iff_ne]; exact e0
  obtain rfl : v = true := by rw [← HV.out]; exact rt_iff.2 ⟨by omega, by omega, by omega, by omega, fun e9 => absurd e9 e1, fun e9 => absurd e9 e0⟩
  clear h h1 h2 h3 h4 h5 h6 h7 e0 e1
  go_enter Tryz.func44, Tryz.ntmps44
  go_wp2_with (first | (refine wpList_boxB rfl 29 (.tmp 0) rfl c.cells (val_agg c) ?_; intro w1 q hc1 hb1 hx1; have K1 := Lib.hid (And.intro hc1 (And.intro hb1 hx1)); have c0 := cf0 (K1.out.1); have c1 := cf1 (K1.out.1); have c2 := cf2 (K1.out.1); have ql := ld_cfg rt_rcfg (K1.out.1) HC.out; have qk := ld_key (K1.out.1) HC.out; clear hc1 hb1 hx1))
  go_ret
  exact ⟨by first | rfl | simp [*], K1.out.2.1⟩
set_option maxRecDepth 100000 in
set_option maxHeartbeats 4000000 in
theorem rmsize_any (c : Cfg) (h : c.ok) (z : Int) (hz : sizeC c = z) (w : World) :
    Calls Tryz.prog 36 #[c.val] w fun e w' => e = .returned (.int .i64 z) ∧ Below w.heap.size w w' := by
  have HC := Lib.hid h
  cases hr : rtB c
  · obtain rfl : z = 0 := by rw [← hz, size_no hr]
    have HR := Lib.hid (fun u => rmright_any c h false hr u)
    clear h hr hz
    go_enter Tryz.func36, Tryz.ntmps36
    go_wp2_with (first | (refine wpList_boxB rfl 29 (.tmp 0) rfl c.cells (val_agg c) ?_; intro w1 q hc1 hb1 hx1; have K1 := Lib.hid (And.intro hc1 (And.intro hb1 hx1)); have c0 := cf0 (K1.out.1); have c1 := cf1 (K1.out.1); have c2 := cf2 (K1.out.1); have ql := ld_cfg rt_rcfg (K1.out.1) HC.out; have qk := ld_key (K1.out.1) HC.out; clear hc1 hb1 hx1))
    refine (HR.out _).mono ?_
    rintro e w2 ⟨rfl, hb⟩
    have K2 := Lib.hid (bel_next K1.out.2.1 hb)
    clear hb
    go_wp2_with fail
    go_ret
    exact ⟨rfl, K2.out⟩
  · have HZ : Hid (1 + (c.s + c.n) = z) := Lib.hid (by rw [← hz, size_ok hr])
    obtain ⟨r1, r2, r3, r4, _, _⟩ := rt_unf (rt_of hr)
    have HR := Lib.hid (fun u => rmright_any c h true hr u)
    skip
    clear h hr hz
    go_enter Tryz.func36, Tryz.ntmps36
    go_wp2_with (first | (refine wpList_boxB rfl 29 (.tmp 0) rfl c.cells (val_agg c) ?_; intro w1 q hc1 hb1 hx1; have K1 := Lib.hid (And.intro hc1 (And.intro hb1 hx1)); have c0 := cf0 (K1.out.1); have c1 := cf1 (K1.out.1); have c2 := cf2 (K1.out.1); have ql := ld_cfg rt_rcfg (K1.out.1) HC.out; have qk := ld_key (K1.out.1) HC.out; clear hc1 hb1 hx1))
    refine (HR.out _).mono ?_
    rintro e w2 ⟨rfl, hb⟩
    have K2 := Lib.hid (And.intro (K1.out.1.step hb) (bel_next K1.out.2.1 hb))
    clear hb c0 c1 c2 ql qk
    have c0 := cf0 (K2.out.1)
    have c1 := cf1 (K2.out.1)
    have c2 := cf2 (K2.out.1)
    have ql := ld_cfg rt_rcfg (K2.out.1) HC.out
    have qk := ld_key (K2.out.1) HC.out
    go_wp2_with fail
    go_ret
    exact ⟨by rw [← HZ.out, ← Int.add_assoc]; rfl, K2.out.2⟩
end Go.Proofs.YtkcchidklcnnnaaGreat
