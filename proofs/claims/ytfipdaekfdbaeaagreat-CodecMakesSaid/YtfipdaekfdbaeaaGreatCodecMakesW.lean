/- Layer 17: the walk of the statement CodecMakes. No condition. -/
import Derived.Test.YtfipdaekfdbaeaaGreatCdV
import Derived.Test.YtfipdaekfdbaeaaGreatOpen
import Derived.Test.YtfipdaekfdbaeaaGreatCdR
import Derived.Test.YtfipdaekfdbaeaaGreatUseBytes
namespace Go.Proofs.YtfipdaekfdbaeaaGreat
open Go.RowKit
set_option linter.unusedVariables false
set_option linter.unusedSimpArgs false
attribute [local irreducible] Cfg.val Cfg.cells rtB Rt zK sizeC AV bytC rawC zeroC turnC wayC encL decL tableL backL passesR cntP idB codM codB prtC plnL pcel zcel cU pntB tldB
attribute [local go_sem ↓] ex_ldC ex_ldR ex_ldP ex_ldPr
set_option maxRecDepth 100000 in
set_option maxHeartbeats 8000000 in
theorem makes_long2 (x0 : Cfg) (x1 : Int) (A2 : Option Addr) (n2 c2 : Nat) (l2 : List UInt8) (A3 : Option Addr) (n3 c3 : Nat) (l3 : List UInt8) (y4 : UInt8) (w : World) (h0 : x0.ok) (h1 : (Lit.int .i64 x1).wf = true) (h2 : RB w w.heap.size A2 n2 l2) (m2 : n2 ≤ c2 ∧ c2 ≤ maxLen) (h3 : RB w w.heap.size A3 n3 l3) (m3 : n3 ≤ c3 ∧ c3 ≤ maxLen) (h : n2 > 100) :
    Calls Tryz.prog 3 #[x0.val, .int .i64 x1, .slice A2 n2 c2, .slice A3 n3 c3, .int .u8 (y4.toNat : Int)] w fun e w' => e = .returned (.bool true) ∧ Below w.heap.size w w' := by
  have d1 : decide ((100 : Int) < (n2 : Int)) = true := decide_eq_true (by omega)
  have HC := Lib.hid h0
  have K0 := Lib.hid (((DK.start w).add h2 m2.1 m2.2).add h3 m3.1 m3.2)
  have HL2 := Lib.hid h2.len
  have HM2 := Lib.hid m2
  have HL3 := Lib.hid h3.len
  have HM3 := Lib.hid m3
  clear h0 h1 h2 m2 h3 m3 h
  go_enter Tryz.func3, Tryz.ntmps3
  go_wp2_with (first | (refine wpList_boxB rfl 24 (.tmp 0) rfl x0.cells (val_agg _) ?_; intro w1 p_c hc1 hb1 hx1; have K1 := Lib.hid (K0.out.boxed hb1 hc1 HC.out); clear hc1 hb1 hx1; have q_c := ld_cfg rt_cfg (K1.out.cf _ (.head _)).1 (K1.out.cf _ (.head _)).2))
  refine (calive_any _).mono ?_
  rintro e w2 ⟨rfl, hb⟩
  have K2 := Lib.hid (K1.out.step hb)
  clear K1
  clear hb
  (try clear q_c)
  (try clear f0_c)
  (try clear f1_c)
  (try clear f2_c)
  have q_c := ld_cfg rt_cfg (K2.out.cf _ (.head _)).1 (K2.out.cf _ (.head _)).2
  go_wp2_with fail
  go_ret
  exact ⟨rfl, K2.out.hw.bel⟩
set_option maxRecDepth 100000 in
set_option maxHeartbeats 8000000 in
theorem makes_long3 (x0 : Cfg) (x1 : Int) (A2 : Option Addr) (n2 c2 : Nat) (l2 : List UInt8) (A3 : Option Addr) (n3 c3 : Nat) (l3 : List UInt8) (y4 : UInt8) (w : World) (h0 : x0.ok) (h1 : (Lit.int .i64 x1).wf = true) (h2 : RB w w.heap.size A2 n2 l2) (m2 : n2 ≤ c2 ∧ c2 ≤ maxLen) (h3 : RB w w.heap.size A3 n3 l3) (m3 : n3 ≤ c3 ∧ c3 ≤ maxLen) (h : n2 ≤ 100) (hh : n3 > 100) :
    Calls Tryz.prog 3 #[x0.val, .int .i64 x1, .slice A2 n2 c2, .slice A3 n3 c3, .int .u8 (y4.toNat : Int)] w fun e w' => e = .returned (.bool true) ∧ Below w.heap.size w w' := by
  have d1 : decide ((100 : Int) < (n2 : Int)) = false := decide_eq_false (by omega)
  have d2 : decide ((100 : Int) < (n3 : Int)) = true := decide_eq_true (by omega)
  have HC := Lib.hid h0
  have K0 := Lib.hid (((DK.start w).add h2 m2.1 m2.2).add h3 m3.1 m3.2)
  have HL2 := Lib.hid h2.len
  have HM2 := Lib.hid m2
  have HL3 := Lib.hid h3.len
  have HM3 := Lib.hid m3
  clear h0 h1 h2 m2 h3 m3 h hh
  go_enter Tryz.func3, Tryz.ntmps3
  go_wp2_with (first | (refine wpList_boxB rfl 24 (.tmp 0) rfl x0.cells (val_agg _) ?_; intro w1 p_c hc1 hb1 hx1; have K1 := Lib.hid (K0.out.boxed hb1 hc1 HC.out); clear hc1 hb1 hx1; have q_c := ld_cfg rt_cfg (K1.out.cf _ (.head _)).1 (K1.out.cf _ (.head _)).2))
  refine (calive_any _).mono ?_
  rintro e w2 ⟨rfl, hb⟩
  have K2 := Lib.hid (K1.out.step hb)
  clear K1
  clear hb
  (try clear q_c)
  (try clear f0_c)
  (try clear f1_c)
  (try clear f2_c)
  have q_c := ld_cfg rt_cfg (K2.out.cf _ (.head _)).1 (K2.out.cf _ (.head _)).2
  go_wp2_with fail
  go_ret
  exact ⟨rfl, K2.out.hw.bel⟩
set_option maxRecDepth 100000 in
set_option maxHeartbeats 8000000 in
theorem makes_ok (x0 : Cfg) (x1 : Int) (A2 : Option Addr) (n2 c2 : Nat) (l2 : List UInt8) (A3 : Option Addr) (n3 c3 : Nat) (l3 : List UInt8) (y4 : UInt8) (w : World) (h0 : x0.ok) (h1 : (Lit.int .i64 x1).wf = true) (h2 : RB w w.heap.size A2 n2 l2) (m2 : n2 ≤ c2 ∧ c2 ≤ maxLen) (h3 : RB w w.heap.size A3 n3 l3) (m3 : n3 ≤ c3 ∧ c3 ≤ maxLen) (h : n2 ≤ 100) (hh : n3 ≤ 100) :
    Calls Tryz.prog 3 #[x0.val, .int .i64 x1, .slice A2 n2 c2, .slice A3 n3 c3, .int .u8 (y4.toNat : Int)] w fun e w' => e = .returned (.bool true) ∧ Below w.heap.size w w' := by
  have d1 : decide ((100 : Int) < (n2 : Int)) = false := decide_eq_false (by omega)
  have d2 : decide ((100 : Int) < (n3 : Int)) = false := decide_eq_false (by omega)
  obtain ⟨X, q, hX⟩ : ∃ X q, codM x0 x1 l2 l3 = (X, q) := ⟨_, _, rfl⟩
  obtain ⟨Y, r, hY⟩ : ∃ Y r, plnL x1 l3 = (Y, r) := ⟨_, _, rfl⟩
  have HX := Lib.hid hX
  have HY := Lib.hid hY
  obtain ⟨nX, hnX⟩ : ∃ n, X.length = n := ⟨_, rfl⟩
  obtain ⟨nY, hnY⟩ : ∃ n, Y.length = n := ⟨_, rfl⟩
  have HNX := Lib.hid hnX
  have HNY := Lib.hid hnY
  have hyl := byte_lt y4
  have b1 : (q == q) = true := beq_self_eq_true _
  have b2 : (r == r) = true := beq_self_eq_true _
  have b3 : (pntB y4 == pntB y4) = true := beq_self_eq_true _
  have b4 : (tldB y4 == tldB y4) = true := beq_self_eq_true _
  have HC := Lib.hid h0
  have K0 := Lib.hid (((DK.start w).add h2 m2.1 m2.2).add h3 m3.1 m3.2)
  have HL2 := Lib.hid h2.len
  have HM2 := Lib.hid m2
  have HL3 := Lib.hid h3.len
  have HM3 := Lib.hid m3
  clear h0 h1 h2 m2 h3 m3 hX hY hnX hnY
  go_enter Tryz.func3, Tryz.ntmps3
  go_wp2_with (first | (refine wpList_boxB rfl 24 (.tmp 0) rfl x0.cells (val_agg _) ?_; intro w1 p_c hc1 hb1 hx1; have K1 := Lib.hid (K0.out.boxed hb1 hc1 HC.out); clear hc1 hb1 hx1; have q_c := ld_cfg rt_cfg (K1.out.cf _ (.head _)).1 (K1.out.cf _ (.head _)).2))
  refine (calive_any _).mono ?_
  rintro e w2 ⟨rfl, hb⟩
  have K2 := Lib.hid (K1.out.step hb)
  clear K1
  clear hb
  (try clear q_c)
  (try clear f0_c)
  (try clear f1_c)
  (try clear f2_c)
  have q_c := ld_cfg rt_cfg (K2.out.cf _ (.head _)).1 (K2.out.cf _ (.head _)).2
  go_wp2_with fail
  refine (copy_any A3 n3 c3 0 l3 _ (by exact (K2.out.hw.row _ (.head _)).1) (by omega)).mono ?_
  rintro e w3 ⟨Ao, co, rfl, ho, hb⟩
  have K3 := Lib.hid (K2.out.own hb ho)
  clear K2
  clear ho hb
  (try clear q_c)
  (try clear f0_c)
  (try clear f1_c)
  (try clear f2_c)
  have q_c := ld_cfg rt_cfg (K3.out.cf _ (.head _)).1 (K3.out.cf _ (.head _)).2
  go_wp2_with fail
  refine (cmake_any x0 HC.out x1 _ n2 c2 l2 _ n3 co l3 _ (by exact (K3.out.hw.row _ (.tail _ (.tail _ (.head _)))).1) (by exact (K3.out.hw.row _ (.head _)).1)).mono ?_
  rw [HX.out]
  (try dsimp only)
  rw [HNX.out]
  rintro e w4 ⟨Aa, ca, rfl, ho, hb⟩
  have K4 := Lib.hid (K3.out.own hb ho)
  clear K3
  clear ho hb
  (try clear q_c)
  (try clear f0_c)
  (try clear f1_c)
  (try clear f2_c)
  have q_c := ld_cfg rt_cfg (K4.out.cf _ (.head _)).1 (K4.out.cf _ (.head _)).2
  go_wp2_with fail
  refine (mof_any x0 HC.out _).mono ?_
  rintro e w5 ⟨rfl, hb⟩
  have K5 := Lib.hid (K4.out.step hb)
  clear K4
  clear hb
  (try clear q_c)
  (try clear f0_c)
  (try clear f1_c)
  (try clear f2_c)
  have q_c := ld_cfg rt_cfg (K5.out.cf _ (.head _)).1 (K5.out.cf _ (.head _)).2
  go_wp2_with fail
  refine (rcmake_any x0 HC.out x1 _ n2 c2 l2 _ n3 c3 l3 _ (by exact (K5.out.hw.row _ (.tail _ (.tail _ (.tail _ (.head _))))).1) (by exact (K5.out.hw.row _ (.tail _ (.tail _ (.head _)))).1)).mono ?_
  rw [HX.out]
  (try dsimp only)
  rw [HNX.out]
  rintro e w6 ⟨Ab, cb, rfl, ho, hb⟩
  have K6 := Lib.hid (K5.out.own hb ho)
  clear K5
  clear ho hb
  (try clear q_c)
  (try clear f0_c)
  (try clear f1_c)
  (try clear f2_c)
  have q_c := ld_cfg rt_cfg (K6.out.cf _ (.head _)).1 (K6.out.cf _ (.head _)).2
  go_wp2_with fail
  refine (cplain_any x1 _ n3 co l3 _ (by exact (K6.out.hw.row _ (.tail _ (.tail _ (.head _)))).1)).mono ?_
  rw [HY.out]
  (try dsimp only)
  rw [HNY.out]
  rintro e w7 ⟨Ax, cx, rfl, ho, hb⟩
  have K7 := Lib.hid (K6.out.own hb ho)
  clear K6
  clear ho hb
  (try clear q_c)
  (try clear f0_c)
  (try clear f1_c)
  (try clear f2_c)
  have q_c := ld_cfg rt_cfg (K7.out.cf _ (.head _)).1 (K7.out.cf _ (.head _)).2
  go_wp2_with fail
  refine (rcplain_any x1 _ n3 c3 l3 _ (by exact (K7.out.hw.row _ (.tail _ (.tail _ (.tail _ (.tail _ (.head _)))))).1)).mono ?_
  rw [HY.out]
  (try dsimp only)
  rw [HNY.out]
  rintro e w8 ⟨Ay, cy, rfl, ho, hb⟩
  have K8 := Lib.hid (K7.out.own hb ho)
  clear K7
  clear ho hb
  (try clear q_c)
  (try clear f0_c)
  (try clear f1_c)
  (try clear f2_c)
  have q_c := ld_cfg rt_cfg (K8.out.cf _ (.head _)).1 (K8.out.cf _ (.head _)).2
  go_wp2_with fail
  refine (al_same _ _ _ _ _ _ X X _ (by exact (K8.out.hw.row _ (.tail _ (.tail _ (.tail _ (.head _))))).1) (by exact (K8.out.hw.row _ (.tail _ (.tail _ (.head _)))).1) (by exact Nat.le_trans (K8.out.hw.row _ (.tail _ (.tail _ (.tail _ (.head _))))).2.1 (K8.out.hw.row _ (.tail _ (.tail _ (.tail _ (.head _))))).2.2) (by exact Nat.le_trans (K8.out.hw.row _ (.tail _ (.tail _ (.head _)))).2.1 (K8.out.hw.row _ (.tail _ (.tail _ (.head _)))).2.2) true (beq_self_eq_true _)).mono ?_
  rintro e w9 ⟨rfl, hb⟩
  have K9 := Lib.hid (K8.out.step hb)
  clear K8
  clear hb
  (try clear q_c)
  (try clear f0_c)
  (try clear f1_c)
  (try clear f2_c)
  have q_c := ld_cfg rt_cfg (K9.out.cf _ (.head _)).1 (K9.out.cf _ (.head _)).2
  go_wp2_with fail
  refine (al_same _ _ _ _ _ _ Y Y _ (by exact (K9.out.hw.row _ (.tail _ (.head _))).1) (by exact (K9.out.hw.row _ (.head _)).1) (by exact Nat.le_trans (K9.out.hw.row _ (.tail _ (.head _))).2.1 (K9.out.hw.row _ (.tail _ (.head _))).2.2) (by exact Nat.le_trans (K9.out.hw.row _ (.head _)).2.1 (K9.out.hw.row _ (.head _)).2.2) true (beq_self_eq_true _)).mono ?_
  rintro e w10 ⟨rfl, hb⟩
  have K10 := Lib.hid (K9.out.step hb)
  clear K9
  clear hb
  (try clear q_c)
  (try clear f0_c)
  (try clear f1_c)
  (try clear f2_c)
  have q_c := ld_cfg rt_cfg (K10.out.cf _ (.head _)).1 (K10.out.cf _ (.head _)).2
  go_wp2_with fail
  refine (al_same _ _ _ _ _ _ l3 l3 _ (by exact (K10.out.hw.row _ (.tail _ (.tail _ (.tail _ (.tail _ (.head _)))))).1) (by exact (K10.out.hw.row _ (.tail _ (.tail _ (.tail _ (.tail _ (.tail _ (.head _))))))).1) (by exact Nat.le_trans (K10.out.hw.row _ (.tail _ (.tail _ (.tail _ (.tail _ (.head _)))))).2.1 (K10.out.hw.row _ (.tail _ (.tail _ (.tail _ (.tail _ (.head _)))))).2.2) (by exact Nat.le_trans (K10.out.hw.row _ (.tail _ (.tail _ (.tail _ (.tail _ (.tail _ (.head _))))))).2.1 (K10.out.hw.row _ (.tail _ (.tail _ (.tail _ (.tail _ (.tail _ (.head _))))))).2.2) true (beq_self_eq_true _)).mono ?_
  rintro e w11 ⟨rfl, hb⟩
  have K11 := Lib.hid (K10.out.step hb)
  clear K10
  clear hb
  (try clear q_c)
  (try clear f0_c)
  (try clear f1_c)
  (try clear f2_c)
  have q_c := ld_cfg rt_cfg (K11.out.cf _ (.head _)).1 (K11.out.cf _ (.head _)).2
  go_wp2_with fail
  refine (cpoint_any y4 _).mono ?_
  rintro e w1046 ⟨rfl, rfl⟩
  go_wp2_with fail
  refine (rcpoint_any y4 _).mono ?_
  rintro e w1049 ⟨rfl, rfl⟩
  go_wp2_with fail
  refine (ctold_any y4 _).mono ?_
  rintro e w1052 ⟨rfl, rfl⟩
  go_wp2_with fail
  refine (rctold_any y4 _).mono ?_
  rintro e w1055 ⟨rfl, rfl⟩
  go_wp2_with fail
  go_ret
  exact ⟨rfl, K11.out.hw.bel⟩
theorem CodecMakes_walk (x0 : Cfg) (x1 : Int) (A2 : Option Addr) (n2 c2 : Nat) (l2 : List UInt8) (A3 : Option Addr) (n3 c3 : Nat) (l3 : List UInt8) (x4 : Int) (w : World) (h0 : x0.ok) (h1 : (Lit.int .i64 x1).wf = true) (h2 : RB w w.heap.size A2 n2 l2) (m2 : n2 ≤ c2 ∧ c2 ≤ maxLen) (h3 : RB w w.heap.size A3 n3 l3) (m3 : n3 ≤ c3 ∧ c3 ≤ maxLen) (h4 : (Lit.int .u8 x4).wf = true) :
    Calls Tryz.prog 3 #[x0.val, .int .i64 x1, .slice A2 n2 c2, .slice A3 n3 c3, .int .u8 x4] w fun e w' => e = .returned (.bool true) ∧ Below w.heap.size w w' := by
  obtain ⟨y, rfl⟩ := byte_of h4
  by_cases h : n2 > 100
  · exact makes_long2 x0 x1 A2 n2 c2 l2 A3 n3 c3 l3 y w h0 h1 h2 m2 h3 m3 h
  by_cases hh : n3 > 100
  · exact makes_long3 x0 x1 A2 n2 c2 l2 A3 n3 c3 l3 y w h0 h1 h2 m2 h3 m3 (by omega) hh
  exact makes_ok x0 x1 A2 n2 c2 l2 A3 n3 c3 l3 y w h0 h1 h2 m2 h3 m3 (by omega) (by omega)
end Go.Proofs.YtfipdaekfdbaeaaGreat
