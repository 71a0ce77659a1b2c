/- Layer 15's statement FeistPasses, walked. No condition. -/
import Derived.Test.YtgmedeldjlmlmaaGreatFsV
import Derived.Test.YtgmedeldjlmlmaaGreatFsB
import Derived.Test.YtgmedeldjlmlmaaGreatOpen
namespace Go.Proofs.YtgmedeldjlmlmaaGreat
open Go.RowKit
set_option linter.unusedVariables false
set_option linter.unusedSimpArgs false
attribute [local irreducible] foursL pairsL cutR trimL joinL blockL joinR trimR blockR maskB edgeN szI szN encL tableL xorL addL passP passesP mixL ontoR passR passesR atP carR cntM cntP okP
set_option maxRecDepth 100000 in
set_option maxHeartbeats 8000000 in
theorem FeistPasses_walk (A0 : Option Addr) (n0 c0 : Nat) (l0 : List UInt8) (A1 : Option Addr) (n1 c1 : Nat) (l1 : List UInt8) (A2 : Option Addr) (n2 c2 : Nat) (l2 : List UInt8) (x3 : Int) (x4 : Int) (A5 : Option Addr) (n5 c5 : Nat) (l5 : List UInt8) (A6 : Option Addr) (n6 c6 : Nat) (l6 : List Int) (w : World) (h0 : RB w w.heap.size A0 n0 l0) (m0 : n0 ≤ c0 ∧ c0 ≤ maxLen) (h1 : RB w w.heap.size A1 n1 l1) (m1 : n1 ≤ c1 ∧ c1 ≤ maxLen) (h2 : RB w w.heap.size A2 n2 l2) (m2 : n2 ≤ c2 ∧ c2 ≤ maxLen) (h3 : (Lit.int .i64 x3).wf = true) (h4 : (Lit.int .i64 x4).wf = true) (h5 : RB w w.heap.size A5 n5 l5) (m5 : n5 ≤ c5 ∧ c5 ≤ maxLen) (h6 : ZL w w.heap.size A6 n6 l6) (m6 : n6 ≤ c6 ∧ c6 ≤ maxLen) :
    Calls Tryz.prog 4 #[.slice A0 n0 c0, .slice A1 n1 c1, .slice A2 n2 c2, .int .i64 x3, .int .i64 x4, .slice A5 n5 c5, .slice A6 n6 c6] w fun e w' => e = .returned (.bool true) ∧ Below w.heap.size w w' := by
  have HZ := Lib.hid h6
  have HX3 := Lib.hid (bounds_i64 h3)
  have HX4 := Lib.hid (bounds_i64 h4)
  have K0 := Lib.hid (((((HW.start w).add h5 m5.1 m5.2).add h2 m2.1 m2.2).add h1 m1.1 m1.2).add h0 m0.1 m0.2)
  obtain ⟨E, HE⟩ : ∃ E, Hid (encL l0 tableL = E) := ⟨_, Lib.hid rfl⟩
  obtain ⟨u, HU⟩ : ∃ u, Hid (passR E l1 l2 x3 x4 = u) := ⟨_, Lib.hid rfl⟩
  obtain ⟨v, HV⟩ : ∃ v, Hid (passesR E l5 l6 = v) := ⟨_, Lib.hid rfl⟩
  clear h0 h1 h2 h3 h4 h5 h6
  by_cases t0 : ¬ n0 = 16
  · have d0 : ((n0 : Int) != 16) = true := by rw [bne_iff_ne]; omega
    go_enter Tryz.func4, Tryz.ntmps4
    go_wp2_with fail
    refine (falive_any _).mono ?_
    rintro e w1 ⟨rfl, hb⟩
    have K1 := Lib.hid (K0.out.step hb)
    clear K0
    clear hb
    go_wp2_with fail
    go_ret
    exact ⟨rfl, K1.out.bel⟩
  replace t0 := Decidable.not_not.1 t0
  subst t0
  by_cases t1 : 100 < n5
  · have d1 : decide (100 < (n5 : Int)) = true := decide_eq_true (by omega)
    go_enter Tryz.func4, Tryz.ntmps4
    go_wp2_with fail
    refine (falive_any _).mono ?_
    rintro e w1 ⟨rfl, hb⟩
    have K1 := Lib.hid (K0.out.step hb)
    clear K0
    clear hb
    go_wp2_with fail
    go_ret
    exact ⟨rfl, K1.out.bel⟩
  have d1 : decide (100 < (n5 : Int)) = false := decide_eq_false (by omega)
  by_cases t2 : 100 < n1
  · have d2 : decide (100 < (n1 : Int)) = true := decide_eq_true (by omega)
    go_enter Tryz.func4, Tryz.ntmps4
    go_wp2_with fail
    refine (falive_any _).mono ?_
    rintro e w1 ⟨rfl, hb⟩
    have K1 := Lib.hid (K0.out.step hb)
    clear K0
    clear hb
    go_wp2_with fail
    go_ret
    exact ⟨rfl, K1.out.bel⟩
  have d2 : decide (100 < (n1 : Int)) = false := decide_eq_false (by omega)
  by_cases t3 : 100 < n2
  · have d3 : decide (100 < (n2 : Int)) = true := decide_eq_true (by omega)
    go_enter Tryz.func4, Tryz.ntmps4
    go_wp2_with fail
    refine (falive_any _).mono ?_
    rintro e w1 ⟨rfl, hb⟩
    have K1 := Lib.hid (K0.out.step hb)
    clear K0
    clear hb
    go_wp2_with fail
    go_ret
    exact ⟨rfl, K1.out.bel⟩
  have d3 : decide (100 < (n2 : Int)) = false := decide_eq_false (by omega)
  by_cases t4 : 8 < n6
  · have d4 : decide (8 < (n6 : Int)) = true := decide_eq_true (by omega)
    go_enter Tryz.func4, Tryz.ntmps4
    go_wp2_with fail
    refine (falive_any _).mono ?_
    rintro e w1 ⟨rfl, hb⟩
    have K1 := Lib.hid (K0.out.step hb)
    clear K0
    clear hb
    go_wp2_with fail
    go_ret
    exact ⟨rfl, K1.out.bel⟩
  have d4 : decide (8 < (n6 : Int)) = false := decide_eq_false (by omega)
  go_enter Tryz.func4, Tryz.ntmps4
  go_wp2_with fail
  refine (falive_any _).mono ?_
  rintro e w1 ⟨rfl, hb⟩
  have K1 := Lib.hid (K0.out.step hb)
  clear K0
  clear hb
  go_wp2_with fail
  refine (anew_any c0 A0 l0 _ (by exact (K1.out.row _ (.head _)).1) (m0.1)).mono ?_
  rintro e w2 ⟨cb, b0, lo, rfl, hb, hcb, _, hob⟩
  have U0 := Lib.hid (And.intro (K1.out.bel.trans (hb.mono K1.out.bel.size)) (Nat.le_trans K1.out.bel.size hcb))
  have K2 := Lib.hid (K1.out.cip hb hcb hob)
  clear K1
  clear hb hcb hob
  go_wp2_with fail
  refine (copy_any A1 n1 c1 0 l1 _ (by exact (K2.out.row _ (.tail _ (.head _))).1) (by omega)).mono ?_
  rintro e w3 ⟨Ao, co, rfl, ho, hb⟩
  have K3 := Lib.hid (K2.out.own hb ho)
  clear K2
  clear ho hb
  go_wp2_with fail
  refine (fpass_any cb b0 lo 0 n1 co n2 c2 l0 l1 l2 Ao A2 x3 x4 _ (by exact K3.out.ob) (by decide) (by exact (K3.out.row _ (.head _)).1) (by exact (K3.out.row _ (.tail _ (.tail _ (.tail _ (.head _))))).1) (by exact (K3.out.row _ (.head _)).2.2) (by exact (K3.out.row _ (.tail _ (.tail _ (.tail _ (.head _))))).2.2) (by omega) (by omega) HX3.out.2 HX4.out).mono ?_
  rw [HE.out, HU.out]
  rintro e w4 ⟨Ap, np, cp, Aq, nq, cq, rfl, ho1, ho2, hbu, hob⟩
  have K4 := Lib.hid (K3.out.ret2 hbu hob ho1 ho2)
  clear K3
  clear ho1 ho2 hbu hob
  go_wp2_with fail
  refine (rfpass_any A0 A1 A2 c0 n1 c1 n2 c2 l0 l1 l2 x3 x4 _ (by exact (K4.out.row _ (.tail _ (.tail _ (.tail _ (.head _))))).1) (by exact m0.1) (by exact (K4.out.row _ (.tail _ (.tail _ (.tail _ (.tail _ (.head _)))))).1) (by exact (K4.out.row _ (.tail _ (.tail _ (.tail _ (.tail _ (.tail _ (.head _))))))).1) (by omega) (by omega)).mono ?_
  rw [HE.out, HU.out]
  rintro e w5 ⟨Ax, nx, cx, Ay, ny, cy, rfl, ho1, ho2, hb⟩
  have K5 := Lib.hid (K4.out.own2 hb ho1 ho2)
  clear K4
  clear ho1 ho2 hb
  go_wp2_with fail
  refine (fpasses_any cb b0 lo (cntM 0 u.2.2) n5 c5 n6 c6 l0 l5 l6 A5 A6 _ (by exact K5.out.ob) (by have := cntM_le 0 u.2.2; omega) (by exact (K5.out.row _ (.tail _ (.tail _ (.tail _ (.tail _ (.tail _ (.tail _ (.tail _ (.tail _ (.head _)))))))))).1) (by exact (HZ.out.step U0.out.1).asd K5.out.but (fun hn => HZ.out.far hn U0.out.2)) (by exact (K5.out.row _ (.tail _ (.tail _ (.tail _ (.tail _ (.tail _ (.tail _ (.tail _ (.tail _ (.head _)))))))))).2.2) (fun hn => HZ.out.far hn U0.out.2) (by omega) (by exact m5.1) (by omega)).mono ?_
  rw [HE.out, HV.out]
  rintro e w6 ⟨Aa, ca, rfl, ho, hbu, hob⟩
  have K6 := Lib.hid (K5.out.ret hbu hob ho)
  clear K5
  clear ho hbu hob
  go_wp2_with fail
  refine (rfpasses_any A0 A5 A6 c0 n5 c5 n6 c6 l0 l5 l6 _ (by exact (K6.out.row _ (.tail _ (.tail _ (.tail _ (.tail _ (.tail _ (.tail _ (.head _)))))))).1) (by exact m0.1) (by exact (K6.out.row _ (.tail _ (.tail _ (.tail _ (.tail _ (.tail _ (.tail _ (.tail _ (.tail _ (.tail _ (.head _))))))))))).1) (by exact (HZ.out.step U0.out.1).asd K6.out.but (fun hn => HZ.out.far hn U0.out.2)) (by omega) (by omega)).mono ?_
  rw [HE.out, HV.out]
  rintro e w7 ⟨Abx, cbx, rfl, ho, hb⟩
  have K7 := Lib.hid (K6.out.own hb ho)
  clear K6
  clear ho hb
  go_wp2_with fail
  refine (al_same _ _ _ _ _ _ u.1 u.1 _ (by exact (K7.out.row _ (.tail _ (.tail _ (.tail _ (.tail _ (.tail _ (.head _))))))).1) (by exact (K7.out.row _ (.tail _ (.tail _ (.tail _ (.head _))))).1) (by exact Nat.le_trans (K7.out.row _ (.tail _ (.tail _ (.tail _ (.tail _ (.tail _ (.head _))))))).2.1.1 (K7.out.row _ (.tail _ (.tail _ (.tail _ (.tail _ (.tail _ (.head _))))))).2.1.2) (by exact Nat.le_trans (K7.out.row _ (.tail _ (.tail _ (.tail _ (.head _))))).2.1.1 (K7.out.row _ (.tail _ (.tail _ (.tail _ (.head _))))).2.1.2) true (beq_self_eq_true _)).mono ?_
  rintro e w8 ⟨rfl, hb⟩
  have K8 := Lib.hid (K7.out.step hb)
  clear K7
  clear hb
  go_wp2_with fail
  refine (al_same _ _ _ _ _ _ u.2.1 u.2.1 _ (by exact (K8.out.row _ (.tail _ (.tail _ (.tail _ (.tail _ (.head _)))))).1) (by exact (K8.out.row _ (.tail _ (.tail _ (.head _)))).1) (by exact Nat.le_trans (K8.out.row _ (.tail _ (.tail _ (.tail _ (.tail _ (.head _)))))).2.1.1 (K8.out.row _ (.tail _ (.tail _ (.tail _ (.tail _ (.head _)))))).2.1.2) (by exact Nat.le_trans (K8.out.row _ (.tail _ (.tail _ (.head _)))).2.1.1 (K8.out.row _ (.tail _ (.tail _ (.head _)))).2.1.2) true (beq_self_eq_true _)).mono ?_
  rintro e w9 ⟨rfl, hb⟩
  have K9 := Lib.hid (K8.out.step hb)
  clear K8
  clear hb
  go_wp2_with fail
  refine (al_same _ _ _ _ _ _ l1 l1 _ (by exact (K9.out.row _ (.tail _ (.tail _ (.tail _ (.tail _ (.tail _ (.tail _ (.head _)))))))).1) (by exact (K9.out.row _ (.tail _ (.tail _ (.tail _ (.tail _ (.tail _ (.tail _ (.tail _ (.tail _ (.head _)))))))))).1) (by exact Nat.le_trans (K9.out.row _ (.tail _ (.tail _ (.tail _ (.tail _ (.tail _ (.tail _ (.head _)))))))).2.1.1 (K9.out.row _ (.tail _ (.tail _ (.tail _ (.tail _ (.tail _ (.tail _ (.head _)))))))).2.1.2) (by exact Nat.le_trans (K9.out.row _ (.tail _ (.tail _ (.tail _ (.tail _ (.tail _ (.tail _ (.tail _ (.tail _ (.head _)))))))))).2.1.1 (K9.out.row _ (.tail _ (.tail _ (.tail _ (.tail _ (.tail _ (.tail _ (.tail _ (.tail _ (.head _)))))))))).2.1.2) true (beq_self_eq_true _)).mono ?_
  rintro e w10 ⟨rfl, hb⟩
  have K10 := Lib.hid (K9.out.step hb)
  clear K9
  clear hb
  go_wp2_with fail
  refine (al_same _ _ _ _ _ _ v.1 v.1 _ (by exact (K10.out.row _ (.tail _ (.head _))).1) (by exact (K10.out.row _ (.head _)).1) (by exact Nat.le_trans (K10.out.row _ (.tail _ (.head _))).2.1.1 (K10.out.row _ (.tail _ (.head _))).2.1.2) (by exact Nat.le_trans (K10.out.row _ (.head _)).2.1.1 (K10.out.row _ (.head _)).2.1.2) true (beq_self_eq_true _)).mono ?_
  rintro e w11 ⟨rfl, hb⟩
  have K11 := Lib.hid (K10.out.step hb)
  clear K10
  clear hb
  go_wp2_with fail
  go_ret
  exact ⟨rfl, K11.out.bel U0.out.1 U0.out.2⟩
end Go.Proofs.YtgmedeldjlmlmaaGreat
