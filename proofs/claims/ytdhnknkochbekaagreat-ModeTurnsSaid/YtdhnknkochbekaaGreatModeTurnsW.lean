/- Layer 16: the walk of the statement ModeTurns. No condition. -/
import Derived.Test.YtdhnknkochbekaaGreatMdV
import Derived.Test.YtdhnknkochbekaaGreatMdUr
import Derived.Test.YtdhnknkochbekaaGreatUseBytes
namespace Go.Proofs.YtdhnknkochbekaaGreat
open Go.RowKit
set_option linter.unusedVariables false
set_option linter.unusedSimpArgs false
attribute [local irreducible] Cfg.val Cfg.cells rtB Rt zK sizeC AV bytC rawC zeroC turnC wayC encL decL tableL backL passesR cntP readC cU dU bU
attribute [local go_sem ↓] ex_ldC ex_ldR
set_option maxRecDepth 100000 in
set_option maxHeartbeats 8000000 in
theorem turns_long (x0 : Cfg) (A1 : Option Addr) (n1 c1 : Nat) (l1 : List UInt8) (w : World) (h0 : x0.ok) (h1 : RB w w.heap.size A1 n1 l1) (m1 : n1 ≤ c1 ∧ c1 ≤ maxLen) (h : n1 > 100) :
    Calls Tryz.prog 4 #[x0.val, .slice A1 n1 c1] w fun e w' => e = .returned (.bool true) ∧ Below w.heap.size w w' := by
  have d1 : decide ((100 : Int) < (n1 : Int)) = true := decide_eq_true (by omega)
  have HC := Lib.hid h0
  have K0 := Lib.hid ((MK.start w).add h1 m1.1 m1.2)
  have HM := Lib.hid m1
  clear h0 h1 m1 h
  go_enter Tryz.func4, Tryz.ntmps4
  go_wp2_with (first | (refine wpList_boxB rfl 24 (.tmp 0) rfl x0.cells (val_agg _) ?_; intro w1 p_c hc1 hb1 hx1; have K1 := Lib.hid (K0.out.boxed hb1 hc1 HC.out); clear hc1 hb1 hx1; have q_c := ld_cfg rt_cfg (K1.out.cf _ (.head _)).1 (K1.out.cf _ (.head _)).2))
  refine (malive_any _).mono ?_
  rintro e w2 ⟨rfl, hb⟩
  have K2 := Lib.hid (K1.out.step hb)
  clear K1
  clear hb
  (try clear q_c)
  (try clear f0_c)
  (try clear f1_c)
  (try clear f2_c)
  have q_c := ld_cfg rt_cfg (K2.out.cf _ (.head _)).1 (K2.out.cf _ (.head _)).2
  go_wp2_with fail
  go_ret
  exact ⟨rfl, K2.out.hw.bel⟩
set_option maxRecDepth 100000 in
set_option maxHeartbeats 8000000 in
theorem turns_ok (x0 : Cfg) (A1 : Option Addr) (n1 c1 : Nat) (l1 : List UInt8) (w : World) (h0 : x0.ok) (h1 : RB w w.heap.size A1 n1 l1) (m1 : n1 ≤ c1 ∧ c1 ≤ maxLen) (h : n1 ≤ 100) :
    Calls Tryz.prog 4 #[x0.val, .slice A1 n1 c1] w fun e w' => e = .returned (.bool true) ∧ Below w.heap.size w w' := by
  obtain ⟨X, q, hX⟩ : ∃ X q, turnC x0 false l1 = (X, q) := ⟨_, _, rfl⟩
  obtain ⟨Y, r, hY⟩ : ∃ Y r, turnC x0 true l1 = (Y, r) := ⟨_, _, rfl⟩
  have HX := Lib.hid hX
  have HY := Lib.hid hY
  obtain ⟨nX, hnX⟩ : ∃ n, X.length = n := ⟨_, rfl⟩
  obtain ⟨nY, hnY⟩ : ∃ n, Y.length = n := ⟨_, rfl⟩
  have HNX := Lib.hid hnX
  have HNY := Lib.hid hnY
  clear hnX hnY
  have HC := Lib.hid h0
  have K0 := Lib.hid ((MK.start w).add h1 m1.1 m1.2)
  have HM := Lib.hid m1
  clear h0 h1 m1 hX hY
  go_enter Tryz.func4, Tryz.ntmps4
  go_wp2_with (first | (refine wpList_boxB rfl 24 (.tmp 0) rfl x0.cells (val_agg _) ?_; intro w1 p_c hc1 hb1 hx1; have K1 := Lib.hid (K0.out.boxed hb1 hc1 HC.out); clear hc1 hb1 hx1; have q_c := ld_cfg rt_cfg (K1.out.cf _ (.head _)).1 (K1.out.cf _ (.head _)).2))
  refine (malive_any _).mono ?_
  rintro e w2 ⟨rfl, hb⟩
  have K2 := Lib.hid (K1.out.step hb)
  clear K1
  clear hb
  (try clear q_c)
  (try clear f0_c)
  (try clear f1_c)
  (try clear f2_c)
  have q_c := ld_cfg rt_cfg (K2.out.cf _ (.head _)).1 (K2.out.cf _ (.head _)).2
  go_wp2_with fail
  refine (copy_any A1 n1 c1 0 l1 _ (by exact (K2.out.hw.row _ (.head _)).1) (by omega)).mono ?_
  rintro e w3 ⟨Ao, co, rfl, ho, hb⟩
  have K3 := Lib.hid (K2.out.own hb ho)
  clear K2
  clear ho hb
  (try clear q_c)
  (try clear f0_c)
  (try clear f1_c)
  (try clear f2_c)
  have q_c := ld_cfg rt_cfg (K3.out.cf _ (.head _)).1 (K3.out.cf _ (.head _)).2
  go_wp2_with fail
  refine (mturn_any x0 HC.out Ao n1 co l1 _ (by exact (K3.out.hw.row _ (.head _)).1) (by exact (K3.out.hw.row _ (.head _)).2.1) (by omega)).mono ?_
  rw [HX.out]
  dsimp only
  rw [HNX.out]
  rintro e w4 ⟨Aa, ca, rfl, ho, hb⟩
  have K4 := Lib.hid (K3.out.own hb ho)
  clear K3
  clear ho hb
  (try clear q_c)
  (try clear f0_c)
  (try clear f1_c)
  (try clear f2_c)
  have q_c := ld_cfg rt_cfg (K4.out.cf _ (.head _)).1 (K4.out.cf _ (.head _)).2
  go_wp2_with fail
  refine (mof_any x0 HC.out _).mono ?_
  rintro e w5 ⟨rfl, hb⟩
  have K5 := Lib.hid (K4.out.step hb)
  clear K4
  clear hb
  (try clear q_c)
  (try clear f0_c)
  (try clear f1_c)
  (try clear f2_c)
  have q_c := ld_cfg rt_cfg (K5.out.cf _ (.head _)).1 (K5.out.cf _ (.head _)).2
  go_wp2_with fail
  refine (rmturn_any x0 HC.out A1 n1 c1 l1 _ (by exact (K5.out.hw.row _ (.tail _ (.tail _ (.head _)))).1) (by exact (K5.out.hw.row _ (.tail _ (.tail _ (.head _)))).2.1) (by omega)).mono ?_
  rw [HX.out]
  dsimp only
  rw [HNX.out]
  rintro e w6 ⟨Ab, cb, rfl, ho, hb⟩
  have K6 := Lib.hid (K5.out.own hb ho)
  clear K5
  clear ho hb
  (try clear q_c)
  (try clear f0_c)
  (try clear f1_c)
  (try clear f2_c)
  have q_c := ld_cfg rt_cfg (K6.out.cf _ (.head _)).1 (K6.out.cf _ (.head _)).2
  go_wp2_with fail
  refine (mback_any x0 HC.out Ao n1 co l1 _ (by exact (K6.out.hw.row _ (.tail _ (.tail _ (.head _)))).1) (by exact (K6.out.hw.row _ (.tail _ (.tail _ (.head _)))).2.1) (by omega)).mono ?_
  rw [HY.out]
  dsimp only
  rw [HNY.out]
  rintro e w7 ⟨Ax, cx, rfl, ho, hb⟩
  have K7 := Lib.hid (K6.out.own hb ho)
  clear K6
  clear ho hb
  (try clear q_c)
  (try clear f0_c)
  (try clear f1_c)
  (try clear f2_c)
  have q_c := ld_cfg rt_cfg (K7.out.cf _ (.head _)).1 (K7.out.cf _ (.head _)).2
  go_wp2_with fail
  refine (mof_any x0 HC.out _).mono ?_
  rintro e w8 ⟨rfl, hb⟩
  have K8 := Lib.hid (K7.out.step hb)
  clear K7
  clear hb
  (try clear q_c)
  (try clear f0_c)
  (try clear f1_c)
  (try clear f2_c)
  have q_c := ld_cfg rt_cfg (K8.out.cf _ (.head _)).1 (K8.out.cf _ (.head _)).2
  go_wp2_with fail
  refine (rmback_any x0 HC.out A1 n1 c1 l1 _ (by exact (K8.out.hw.row _ (.tail _ (.tail _ (.tail _ (.tail _ (.head _)))))).1) (by exact (K8.out.hw.row _ (.tail _ (.tail _ (.tail _ (.tail _ (.head _)))))).2.1) (by omega)).mono ?_
  rw [HY.out]
  dsimp only
  rw [HNY.out]
  rintro e w9 ⟨Ay, cy, rfl, ho, hb⟩
  have K9 := Lib.hid (K8.out.own hb ho)
  clear K8
  clear ho hb
  (try clear q_c)
  (try clear f0_c)
  (try clear f1_c)
  (try clear f2_c)
  have q_c := ld_cfg rt_cfg (K9.out.cf _ (.head _)).1 (K9.out.cf _ (.head _)).2
  go_wp2_with fail
  refine (al_same _ _ _ _ _ _ X X _ (by exact (K9.out.hw.row _ (.tail _ (.tail _ (.tail _ (.head _))))).1) (by exact (K9.out.hw.row _ (.tail _ (.tail _ (.head _)))).1) (by exact Nat.le_trans (K9.out.hw.row _ (.tail _ (.tail _ (.tail _ (.head _))))).2.1 (K9.out.hw.row _ (.tail _ (.tail _ (.tail _ (.head _))))).2.2) (by exact Nat.le_trans (K9.out.hw.row _ (.tail _ (.tail _ (.head _)))).2.1 (K9.out.hw.row _ (.tail _ (.tail _ (.head _)))).2.2) true (beq_self_eq_true _)).mono ?_
  rintro e w10 ⟨rfl, hb⟩
  have K10 := Lib.hid (K9.out.step hb)
  clear K9
  clear hb
  (try clear q_c)
  (try clear f0_c)
  (try clear f1_c)
  (try clear f2_c)
  have q_c := ld_cfg rt_cfg (K10.out.cf _ (.head _)).1 (K10.out.cf _ (.head _)).2
  go_wp2_with fail
  refine (al_same _ _ _ _ _ _ Y Y _ (by exact (K10.out.hw.row _ (.tail _ (.head _))).1) (by exact (K10.out.hw.row _ (.head _)).1) (by exact Nat.le_trans (K10.out.hw.row _ (.tail _ (.head _))).2.1 (K10.out.hw.row _ (.tail _ (.head _))).2.2) (by exact Nat.le_trans (K10.out.hw.row _ (.head _)).2.1 (K10.out.hw.row _ (.head _)).2.2) true (beq_self_eq_true _)).mono ?_
  rintro e w11 ⟨rfl, hb⟩
  have K11 := Lib.hid (K10.out.step hb)
  clear K10
  clear hb
  (try clear q_c)
  (try clear f0_c)
  (try clear f1_c)
  (try clear f2_c)
  have q_c := ld_cfg rt_cfg (K11.out.cf _ (.head _)).1 (K11.out.cf _ (.head _)).2
  go_wp2_with fail
  refine (al_same _ _ _ _ _ _ l1 l1 _ (by exact (K11.out.hw.row _ (.tail _ (.tail _ (.tail _ (.tail _ (.head _)))))).1) (by exact (K11.out.hw.row _ (.tail _ (.tail _ (.tail _ (.tail _ (.tail _ (.head _))))))).1) (by exact Nat.le_trans (K11.out.hw.row _ (.tail _ (.tail _ (.tail _ (.tail _ (.head _)))))).2.1 (K11.out.hw.row _ (.tail _ (.tail _ (.tail _ (.tail _ (.head _)))))).2.2) (by exact Nat.le_trans (K11.out.hw.row _ (.tail _ (.tail _ (.tail _ (.tail _ (.tail _ (.head _))))))).2.1 (K11.out.hw.row _ (.tail _ (.tail _ (.tail _ (.tail _ (.tail _ (.head _))))))).2.2) true (beq_self_eq_true _)).mono ?_
  rintro e w12 ⟨rfl, hb⟩
  have K12 := Lib.hid (K11.out.step hb)
  clear K11
  clear hb
  (try clear q_c)
  (try clear f0_c)
  (try clear f1_c)
  (try clear f2_c)
  have q_c := ld_cfg rt_cfg (K12.out.cf _ (.head _)).1 (K12.out.cf _ (.head _)).2
  go_wp2_with fail
  go_ret
  exact ⟨rfl, K12.out.hw.bel⟩
theorem ModeTurns_walk (x0 : Cfg) (A1 : Option Addr) (n1 c1 : Nat) (l1 : List UInt8) (w : World) (h0 : x0.ok) (h1 : RB w w.heap.size A1 n1 l1) (m1 : n1 ≤ c1 ∧ c1 ≤ maxLen) :
    Calls Tryz.prog 4 #[x0.val, .slice A1 n1 c1] w fun e w' => e = .returned (.bool true) ∧ Below w.heap.size w w' := by
  by_cases h : n1 > 100
  · exact turns_long x0 A1 n1 c1 l1 w h0 h1 m1 h
  · exact turns_ok x0 A1 n1 c1 l1 w h0 h1 m1 (by omega)
end Go.Proofs.YtdhnknkochbekaaGreat
