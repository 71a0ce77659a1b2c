/- Layer 14's statement HalvesJoins, walked. No condition. -/
import Derived.Test.YtcobklcokffbdaaHvV
import Derived.Test.YtcobklcokffbdaaOpen
namespace Go.Proofs.Ytcobklcokffbdaa
open Go.RowKit
set_option linter.unusedVariables false
set_option linter.unusedSimpArgs false
attribute [local irreducible] foursL pairsL cutR trimL joinL blockL joinR trimR blockR maskB edgeN layN stL szI
set_option maxRecDepth 100000 in
set_option maxHeartbeats 8000000 in
theorem HalvesJoins_walk (A0 : Option Addr) (n0 c0 : Nat) (l0 : List UInt8) (A1 : Option Addr) (n1 c1 : Nat) (l1 : List UInt8) (x2 : Int) (x3 : Int) (b4 : Bool) (w : World) (h0 : RB w w.heap.size A0 n0 l0) (m0 : n0 ≤ c0 ∧ c0 ≤ maxLen) (h1 : RB w w.heap.size A1 n1 l1) (m1 : n1 ≤ c1 ∧ c1 ≤ maxLen) (h2 : (Lit.int .i64 x2).wf = true) (h3 : (Lit.int .i64 x3).wf = true) :
    Calls Try.prog 4 #[.slice A0 n0 c0, .slice A1 n1 c1, .int .i64 x2, .int .i64 x3, .bool b4] w fun e w' => e = .returned (.bool true) ∧ Below w.heap.size w w' := by
  have hx2 : x2 ≤ 9223372036854775807 := (bounds_i64 h2).2
  have K0 := Lib.hid (((HW.start w).add h1 m1.1 m1.2).add h0 m0.1 m0.2)
  obtain ⟨u, HU⟩ : ∃ u, Hid (joinR l0 l1 x2 = u) := ⟨_, Lib.hid rfl⟩
  obtain ⟨t, HT⟩ : ∃ t, Hid (trimR l0 x2 b4 = t) := ⟨_, Lib.hid rfl⟩
  obtain ⟨b, HB⟩ : ∃ b, Hid (blockR l0 x2 x3 = b) := ⟨_, Lib.hid rfl⟩
  have HX2 := Lib.hid hx2
  clear h0 h1 h2 h3 hx2
  by_cases t0 : 300 < n0
  · have d0 : decide (300 < (n0 : Int)) = true := decide_eq_true (by omega)
    go_enter Try.func4, Try.ntmps4
    go_wp2_with fail
    refine (halive_any _).mono ?_
    rintro e w1 ⟨rfl, hb⟩
    have K1 := Lib.hid (K0.out.step hb)
    clear K0
    clear hb
    go_wp2_with fail
    go_ret
    exact ⟨rfl, K1.out.bel⟩
  have d0 : decide (300 < (n0 : Int)) = false := decide_eq_false (by omega)
  by_cases t1 : 300 < n1
  · have d1 : decide (300 < (n1 : Int)) = true := decide_eq_true (by omega)
    go_enter Try.func4, Try.ntmps4
    go_wp2_with fail
    refine (halive_any _).mono ?_
    rintro e w1 ⟨rfl, hb⟩
    have K1 := Lib.hid (K0.out.step hb)
    clear K0
    clear hb
    go_wp2_with fail
    go_ret
    exact ⟨rfl, K1.out.bel⟩
  have d1 : decide (300 < (n1 : Int)) = false := decide_eq_false (by omega)
  go_enter Try.func4, Try.ntmps4
  go_wp2_with fail
  refine (halive_any _).mono ?_
  rintro e w1 ⟨rfl, hb⟩
  have K1 := Lib.hid (K0.out.step hb)
  clear K0
  clear hb
  go_wp2_with fail
  refine (copy_any A0 n0 c0 w1.heap.size l0 _ (by exact (K1.out.row _ (.head _)).1) (by omega)).mono ?_
  rintro e w2 ⟨Ao, co, rfl, ho, hb⟩
  have K2 := Lib.hid (K1.out.own hb ho)
  clear K1
  clear ho hb
  go_wp2_with fail
  refine (hjoin_any Ao A1 n0 co n1 c1 l0 l1 x2 _ (by exact (K2.out.row _ (.head _)).1) (by exact (K2.out.row _ (.tail _ (.tail _ (.head _)))).1) (by omega) (by omega) HX2.out).mono ?_
  rw [HU.out]
  rintro e w3 ⟨Aja, cja, rfl, ho, hb⟩
  have K3 := Lib.hid (K2.out.own hb ho)
  clear K2
  clear ho hb
  go_wp2_with fail
  refine (rjoin_any A0 A1 n0 c0 n1 c1 l0 l1 x2 _ (by exact (K3.out.row _ (.tail _ (.tail _ (.head _)))).1) (by exact (K3.out.row _ (.tail _ (.tail _ (.tail _ (.head _))))).1) (by omega) (by omega)).mono ?_
  rw [HU.out]
  rintro e w4 ⟨Ajb, cjb, rfl, ho, hb⟩
  have K4 := Lib.hid (K3.out.own hb ho)
  clear K3
  clear ho hb
  go_wp2_with fail
  refine (htrimT_any Ao n0 co l0 x2 b4 _ (by exact (K4.out.row _ (.tail _ (.tail _ (.head _)))).1) (by omega) HX2.out).mono ?_
  rw [HT.out]
  rintro e w5 ⟨Ata, cta, rfl, ho, hb⟩
  have K5 := Lib.hid (K4.out.own hb ho)
  clear K4
  clear ho hb
  go_wp2_with fail
  refine (rtrim_any A0 n0 c0 l0 x2 b4 _ (by exact (K5.out.row _ (.tail _ (.tail _ (.tail _ (.tail _ (.head _)))))).1) (by omega)).mono ?_
  rw [HT.out]
  rintro e w6 ⟨Atb, ctb, rfl, ho, hb⟩
  have K6 := Lib.hid (K5.out.own hb ho)
  clear K5
  clear ho hb
  go_wp2_with fail
  refine (hblock_any Ao n0 co l0 x2 x3 _ (by exact (K6.out.row _ (.tail _ (.tail _ (.tail _ (.tail _ (.head _)))))).1) (by omega) HX2.out).mono ?_
  rw [HB.out]
  rintro e w7 ⟨Aba, cba, rfl, ho, hb⟩
  have K7 := Lib.hid (K6.out.own hb ho)
  clear K6
  clear ho hb
  go_wp2_with fail
  refine (rblock_any A0 n0 c0 l0 x2 x3 _ (by exact (K7.out.row _ (.tail _ (.tail _ (.tail _ (.tail _ (.tail _ (.tail _ (.head _)))))))).1) (by omega)).mono ?_
  rw [HB.out]
  rintro e w8 ⟨Abb, cbb, rfl, ho, hb⟩
  have K8 := Lib.hid (K7.out.own hb ho)
  clear K7
  clear ho hb
  go_wp2_with fail
  refine (al_same _ _ _ _ _ _ u.1 u.1 _ (by exact (K8.out.row _ (.tail _ (.tail _ (.tail _ (.tail _ (.tail _ (.head _))))))).1) (by exact (K8.out.row _ (.tail _ (.tail _ (.tail _ (.tail _ (.head _)))))).1) (by exact Nat.le_trans (K8.out.row _ (.tail _ (.tail _ (.tail _ (.tail _ (.tail _ (.head _))))))).2.1 (K8.out.row _ (.tail _ (.tail _ (.tail _ (.tail _ (.tail _ (.head _))))))).2.2) (by exact Nat.le_trans (K8.out.row _ (.tail _ (.tail _ (.tail _ (.tail _ (.head _)))))).2.1 (K8.out.row _ (.tail _ (.tail _ (.tail _ (.tail _ (.head _)))))).2.2) true (beq_self_eq_true _)).mono ?_
  rintro e w9 ⟨rfl, hb⟩
  have K9 := Lib.hid (K8.out.step hb)
  clear K8
  clear hb
  go_wp2_with fail
  refine (al_same _ _ _ _ _ _ t.1 t.1 _ (by exact (K9.out.row _ (.tail _ (.tail _ (.tail _ (.head _))))).1) (by exact (K9.out.row _ (.tail _ (.tail _ (.head _)))).1) (by exact Nat.le_trans (K9.out.row _ (.tail _ (.tail _ (.tail _ (.head _))))).2.1 (K9.out.row _ (.tail _ (.tail _ (.tail _ (.head _))))).2.2) (by exact Nat.le_trans (K9.out.row _ (.tail _ (.tail _ (.head _)))).2.1 (K9.out.row _ (.tail _ (.tail _ (.head _)))).2.2) true (beq_self_eq_true _)).mono ?_
  rintro e w10 ⟨rfl, hb⟩
  have K10 := Lib.hid (K9.out.step hb)
  clear K9
  clear hb
  go_wp2_with fail
  refine (al_same _ _ _ _ _ _ b.1 b.1 _ (by exact (K10.out.row _ (.tail _ (.head _))).1) (by exact (K10.out.row _ (.head _)).1) (by exact Nat.le_trans (K10.out.row _ (.tail _ (.head _))).2.1 (K10.out.row _ (.tail _ (.head _))).2.2) (by exact Nat.le_trans (K10.out.row _ (.head _)).2.1 (K10.out.row _ (.head _)).2.2) true (beq_self_eq_true _)).mono ?_
  rintro e w11 ⟨rfl, hb⟩
  have K11 := Lib.hid (K10.out.step hb)
  clear K10
  clear hb
  go_wp2_with fail
  refine (al_same _ _ _ _ _ _ l0 l0 _ (by exact (K11.out.row _ (.tail _ (.tail _ (.tail _ (.tail _ (.tail _ (.tail _ (.head _)))))))).1) (by exact (K11.out.row _ (.tail _ (.tail _ (.tail _ (.tail _ (.tail _ (.tail _ (.tail _ (.head _))))))))).1) (by exact Nat.le_trans (K11.out.row _ (.tail _ (.tail _ (.tail _ (.tail _ (.tail _ (.tail _ (.head _)))))))).2.1 (K11.out.row _ (.tail _ (.tail _ (.tail _ (.tail _ (.tail _ (.tail _ (.head _)))))))).2.2) (by exact Nat.le_trans (K11.out.row _ (.tail _ (.tail _ (.tail _ (.tail _ (.tail _ (.tail _ (.tail _ (.head _))))))))).2.1 (K11.out.row _ (.tail _ (.tail _ (.tail _ (.tail _ (.tail _ (.tail _ (.tail _ (.head _))))))))).2.2) true (beq_self_eq_true _)).mono ?_
  rintro e w12 ⟨rfl, hb⟩
  have K12 := Lib.hid (K11.out.step hb)
  clear K11
  clear hb
  go_wp2_with fail
  go_ret
  exact ⟨rfl, K12.out.bel⟩
end Go.Proofs.Ytcobklcokffbdaa
