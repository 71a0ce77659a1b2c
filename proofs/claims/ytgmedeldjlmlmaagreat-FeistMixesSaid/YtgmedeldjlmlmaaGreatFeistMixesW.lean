/- Layer 15's statement FeistMixes, walked. No condition. -/
import Derived.Test.YtgmedeldjlmlmaaGreatFsV
import Derived.Test.YtgmedeldjlmlmaaGreatFsB
import Derived.Test.YtgmedeldjlmlmaaGreatOpen
namespace Go.Proofs.YtgmedeldjlmlmaaGreat
open Go.RowKit
set_option linter.unusedVariables false
set_option linter.unusedSimpArgs false
attribute [local irreducible] foursL pairsL cutR trimL joinL blockL joinR trimR blockR maskB edgeN szI szN encL tableL xorL addL passP passesP mixL ontoR passR passesR atP carR cntM cntP okP
set_option maxRecDepth 100000 in
set_option maxHeartbeats 8000000 in
theorem FeistMixes_walk (A0 : Option Addr) (n0 c0 : Nat) (l0 : List UInt8) (A1 : Option Addr) (n1 c1 : Nat) (l1 : List UInt8) (w : World) (h0 : RB w w.heap.size A0 n0 l0) (m0 : n0 ≤ c0 ∧ c0 ≤ maxLen) (h1 : RB w w.heap.size A1 n1 l1) (m1 : n1 ≤ c1 ∧ c1 ≤ maxLen) :
    Calls Tryz.prog 3 #[.slice A0 n0 c0, .slice A1 n1 c1] w fun e w' => e = .returned (.bool true) ∧ Below w.heap.size w w' := by
  have K0 := Lib.hid (((HW.start w).add h1 m1.1 m1.2).add h0 m0.1 m0.2)
  obtain ⟨E, HE⟩ : ∃ E, Hid (encL l0 tableL = E) := ⟨_, Lib.hid rfl⟩
  obtain ⟨u, HU⟩ : ∃ u, Hid (passesR E l1 [1, 2, 3, 4] = u) := ⟨_, Lib.hid rfl⟩
  obtain ⟨v, HV⟩ : ∃ v, Hid (passesR E l1 [4, 3, 2, 1] = v) := ⟨_, Lib.hid rfl⟩
  clear h0 h1
  by_cases t0 : ¬ n0 = 16
  · have d0 : ((n0 : Int) != 16) = true := by rw [bne_iff_ne]; omega
    go_enter Tryz.func3, Tryz.ntmps3
    go_wp2_with fail
    refine (falive_any _).mono ?_
    rintro e w1 ⟨rfl, hb⟩
    have K1 := Lib.hid (K0.out.step hb)
    clear K0
    clear hb
    go_wp2_with fail
    go_ret
    exact ⟨rfl, K1.out.bel⟩
  replace t0 := Decidable.not_not.1 t0
  subst t0
  by_cases t1 : 100 < n1
  · have d1 : decide (100 < (n1 : Int)) = true := decide_eq_true (by omega)
    go_enter Tryz.func3, Tryz.ntmps3
    go_wp2_with fail
    refine (falive_any _).mono ?_
    rintro e w1 ⟨rfl, hb⟩
    have K1 := Lib.hid (K0.out.step hb)
    clear K0
    clear hb
    go_wp2_with fail
    go_ret
    exact ⟨rfl, K1.out.bel⟩
  have d1 : decide (100 < (n1 : Int)) = false := decide_eq_false (by omega)
  go_enter Tryz.func3, Tryz.ntmps3
  go_wp2_with fail
  refine (falive_any _).mono ?_
  rintro e w1 ⟨rfl, hb⟩
  have K1 := Lib.hid (K0.out.step hb)
  clear K0
  clear hb
  go_wp2_with fail
  refine (anew_any c0 A0 l0 _ (by exact (K1.out.row _ (.head _)).1) (m0.1)).mono ?_
  rintro e w2 ⟨cb, b0, lo, rfl, hb, hcb, _, hob⟩
  have U0 := Lib.hid (And.intro (K1.out.bel.trans (hb.mono K1.out.bel.size)) (Nat.le_trans K1.out.bel.size hcb))
  have K2 := Lib.hid (K1.out.cip hb hcb hob)
  clear K1
  clear hb hcb hob
  go_wp2_with fail
  refine (copy_any A1 n1 c1 0 l1 _ (by exact (K2.out.row _ (.tail _ (.head _))).1) (by omega)).mono ?_
  rintro e w3 ⟨Ao, co, rfl, ho, hb⟩
  have K3 := Lib.hid (K2.out.own hb ho)
  clear K2
  clear ho hb
  go_wp2_with fail
  refine (fmix_any cb b0 lo 0 n1 co l0 l1 Ao _ (by exact K3.out.ob) (by decide) (by exact (K3.out.row _ (.head _)).1) (by exact (K3.out.row _ (.head _)).2.2) (by omega) (by exact (K3.out.row _ (.head _)).2.1.1)).mono ?_
  rw [HE.out, HU.out]
  rintro e w4 ⟨Aa, ca, rfl, ho, hbu, hob⟩
  have K4 := Lib.hid (K3.out.ret hbu hob ho)
  clear K3
  clear ho hbu hob
  go_wp2_with fail
  have Z1 := Lib.hid (ZL.lit w4 [1, 2, 3, 4] #[.int .i64 1, .int .i64 2, .int .i64 3, .int .i64 4] 4 w4.heap.size 3 rfl rfl rfl (by decide))
  have K5 := Lib.hid (K4.out.step (below_alloc w4 (.cells #[.int .i64 1, .int .i64 2, .int .i64 3, .int .i64 4] 3)))
  clear K4
  refine (rfpasses_any A0 A1 (some ⟨w4.heap.size, 0, none⟩) c0 n1 c1 4 4 l0 l1 [1, 2, 3, 4] _ (by exact (K5.out.row _ (.tail _ (.tail _ (.head _)))).1) (by exact m0.1) (by exact (K5.out.row _ (.tail _ (.tail _ (.tail _ (.head _))))).1) (by exact Z1.out) (by omega) (by decide)).mono ?_
  rw [HE.out, HU.out]
  rintro e w5 ⟨Abx, cbx, rfl, ho, hb⟩
  have K6 := Lib.hid (K5.out.own hb ho)
  clear K5
  clear ho hb
  go_wp2_with fail
  refine (funmix_any cb b0 lo (cntP 0 4 u.2) n1 co l0 l1 Ao _ (by exact K6.out.ob) (by have := cntP_le 0 4 u.2; omega) (by exact (K6.out.row _ (.tail _ (.tail _ (.head _)))).1) (by exact (K6.out.row _ (.tail _ (.tail _ (.head _)))).2.2) (by omega) (by exact (K6.out.row _ (.tail _ (.tail _ (.head _)))).2.1.1)).mono ?_
  rw [HE.out, HV.out]
  rintro e w6 ⟨Ad, cd, rfl, ho, hbu, hob⟩
  have K7 := Lib.hid (K6.out.ret hbu hob ho)
  clear K6
  clear ho hbu hob
  go_wp2_with fail
  have Z2 := Lib.hid (ZL.lit w6 [4, 3, 2, 1] #[.int .i64 4, .int .i64 3, .int .i64 2, .int .i64 1] 4 w6.heap.size 3 rfl rfl rfl (by decide))
  have K8 := Lib.hid (K7.out.step (below_alloc w6 (.cells #[.int .i64 4, .int .i64 3, .int .i64 2, .int .i64 1] 3)))
  clear K7
  refine (rfpasses_any A0 A1 (some ⟨w6.heap.size, 0, none⟩) c0 n1 c1 4 4 l0 l1 [4, 3, 2, 1] _ (by exact (K8.out.row _ (.tail _ (.tail _ (.tail _ (.tail _ (.head _)))))).1) (by exact m0.1) (by exact (K8.out.row _ (.tail _ (.tail _ (.tail _ (.tail _ (.tail _ (.head _))))))).1) (by exact Z2.out) (by omega) (by decide)).mono ?_
  rw [HE.out, HV.out]
  rintro e w7 ⟨Ax, cx, rfl, ho, hb⟩
  have K9 := Lib.hid (K8.out.own hb ho)
  clear K8
  clear ho hb
  go_wp2_with fail
  refine (al_same _ _ _ _ _ _ u.1 u.1 _ (by exact (K9.out.row _ (.tail _ (.tail _ (.tail _ (.head _))))).1) (by exact (K9.out.row _ (.tail _ (.tail _ (.head _)))).1) (by exact Nat.le_trans (K9.out.row _ (.tail _ (.tail _ (.tail _ (.head _))))).2.1.1 (K9.out.row _ (.tail _ (.tail _ (.tail _ (.head _))))).2.1.2) (by exact Nat.le_trans (K9.out.row _ (.tail _ (.tail _ (.head _)))).2.1.1 (K9.out.row _ (.tail _ (.tail _ (.head _)))).2.1.2) true (beq_self_eq_true _)).mono ?_
  rintro e w8 ⟨rfl, hb⟩
  have K10 := Lib.hid (K9.out.step hb)
  clear K9
  clear hb
  go_wp2_with fail
  refine (al_same _ _ _ _ _ _ v.1 v.1 _ (by exact (K10.out.row _ (.tail _ (.head _))).1) (by exact (K10.out.row _ (.head _)).1) (by exact Nat.le_trans (K10.out.row _ (.tail _ (.head _))).2.1.1 (K10.out.row _ (.tail _ (.head _))).2.1.2) (by exact Nat.le_trans (K10.out.row _ (.head _)).2.1.1 (K10.out.row _ (.head _)).2.1.2) true (beq_self_eq_true _)).mono ?_
  rintro e w9 ⟨rfl, hb⟩
  have K11 := Lib.hid (K10.out.step hb)
  clear K10
  clear hb
  go_wp2_with fail
  refine (al_same _ _ _ _ _ _ l1 l1 _ (by exact (K11.out.row _ (.tail _ (.tail _ (.tail _ (.tail _ (.head _)))))).1) (by exact (K11.out.row _ (.tail _ (.tail _ (.tail _ (.tail _ (.tail _ (.tail _ (.head _)))))))).1) (by exact Nat.le_trans (K11.out.row _ (.tail _ (.tail _ (.tail _ (.tail _ (.head _)))))).2.1.1 (K11.out.row _ (.tail _ (.tail _ (.tail _ (.tail _ (.head _)))))).2.1.2) (by exact Nat.le_trans (K11.out.row _ (.tail _ (.tail _ (.tail _ (.tail _ (.tail _ (.tail _ (.head _)))))))).2.1.1 (K11.out.row _ (.tail _ (.tail _ (.tail _ (.tail _ (.tail _ (.tail _ (.head _)))))))).2.1.2) true (beq_self_eq_true _)).mono ?_
  rintro e w10 ⟨rfl, hb⟩
  have K12 := Lib.hid (K11.out.step hb)
  clear K11
  clear hb
  go_wp2_with fail
  go_ret
  exact ⟨rfl, K12.out.bel U0.out.1 U0.out.2⟩
end Go.Proofs.YtgmedeldjlmlmaaGreat
