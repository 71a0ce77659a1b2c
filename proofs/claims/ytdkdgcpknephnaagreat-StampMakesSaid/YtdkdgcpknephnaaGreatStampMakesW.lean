/- Layer 12's statement StampMakes, walked. No condition. -/
import Derived.Test.YtdkdgcpknephnaaGreatStV
import Derived.Test.YtdkdgcpknephnaaGreatStS
import Derived.Test.YtdkdgcpknephnaaGreatStC
import Derived.Test.YtdkdgcpknephnaaGreatOpen
namespace Go.Proofs.YtdkdgcpknephnaaGreat
open Go.RowKit
set_option linter.unusedVariables false
set_option linter.unusedSimpArgs false
attribute [local irreducible] sprs smakeR stampR scheckR aheadL iprs stL
attribute [local go_sem ↓] ex_ldHd ex_stHd ex_ldHr ex_stHr ex_ldS ex_ldSr ex_stS ex_stSr ex_ldI ex_stI
set_option maxRecDepth 100000 in
set_option maxHeartbeats 8000000 in
theorem StampMakes_walk (A0 : Option Addr) (n0 c0 : Nat) (l0 : List UInt8) (A1 : Option Addr) (n1 c1 : Nat) (l1 : List UInt8) (A2 : Option Addr) (n2 c2 : Nat) (l2 : List UInt8) (A3 : Option Addr) (n3 c3 : Nat) (l3 : List UInt8) (w : World) (h0 : RB w w.heap.size A0 n0 l0) (m0 : n0 ≤ c0 ∧ c0 ≤ maxLen) (h1 : RB w w.heap.size A1 n1 l1) (m1 : n1 ≤ c1 ∧ c1 ≤ maxLen) (h2 : RB w w.heap.size A2 n2 l2) (m2 : n2 ≤ c2 ∧ c2 ≤ maxLen) (h3 : RB w w.heap.size A3 n3 l3) (m3 : n3 ≤ c3 ∧ c3 ≤ maxLen) :
    Calls Tryz.prog 3 #[.slice A0 n0 c0, .slice A1 n1 c1, .slice A2 n2 c2, .slice A3 n3 c3] w fun e w' => e = .returned (.bool true) ∧ Below w.heap.size w w' := by
  have hl0 := h0.len
  subst hl0
  have hl1 := h1.len
  subst hl1
  have hl2 := h2.len
  subst hl2
  have hl3 := h3.len
  subst hl3
  have K0 := Lib.hid (((((IW.start w).add h0 m0.1 m0.2).add h1 m1.1 m1.2).add h2 m2.1 m2.2).add h3 m3.1 m3.2)
  clear h0 m0 h1 m1 h2 m2 h3 m3
  by_cases t0 : 100 < l0.length
  · have d0 : decide (100 < (l0.length : Int)) = true := decide_eq_true (by omega)
    go_enter Tryz.func3, Tryz.ntmps3
    go_wp2_with fail
    refine (salive_any _).mono ?_
    rintro e w1 ⟨rfl, hb1⟩
    have K1 := Lib.hid (K0.out.step hb1)
    clear hb1 K0
    go_wp2_with fail
    go_ret
    exact ⟨rfl, K1.out.bel⟩
  have d0 : decide (100 < (l0.length : Int)) = false := decide_eq_false (by omega)
  by_cases t1 : 100 < l1.length
  · have d1 : decide (100 < (l1.length : Int)) = true := decide_eq_true (by omega)
    go_enter Tryz.func3, Tryz.ntmps3
    go_wp2_with fail
    refine (salive_any _).mono ?_
    rintro e w1 ⟨rfl, hb1⟩
    have K1 := Lib.hid (K0.out.step hb1)
    clear hb1 K0
    go_wp2_with fail
    go_ret
    exact ⟨rfl, K1.out.bel⟩
  have d1 : decide (100 < (l1.length : Int)) = false := decide_eq_false (by omega)
  by_cases t2 : 100 < l2.length
  · have d2 : decide (100 < (l2.length : Int)) = true := decide_eq_true (by omega)
    go_enter Tryz.func3, Tryz.ntmps3
    go_wp2_with fail
    refine (salive_any _).mono ?_
    rintro e w1 ⟨rfl, hb1⟩
    have K1 := Lib.hid (K0.out.step hb1)
    clear hb1 K0
    go_wp2_with fail
    go_ret
    exact ⟨rfl, K1.out.bel⟩
  have d2 : decide (100 < (l2.length : Int)) = false := decide_eq_false (by omega)
  by_cases t3 : 200 < l3.length ∧ l3.length ≤ 4096
  · have d3 : decide (200 < (l3.length : Int)) = true := decide_eq_true (by omega)
    have d4 : decide ((l3.length : Int) ≤ 4096) = true := decide_eq_true (by omega)
    go_enter Tryz.func3, Tryz.ntmps3
    go_wp2_with fail
    refine (salive_any _).mono ?_
    rintro e w1 ⟨rfl, hb1⟩
    have K1 := Lib.hid (K0.out.step hb1)
    clear hb1 K0
    go_wp2_with fail
    go_ret
    exact ⟨rfl, K1.out.bel⟩
  by_cases t4 : 5000 < l3.length
  · have d3 : decide (200 < (l3.length : Int)) = true := decide_eq_true (by omega)
    have d4 : decide ((l3.length : Int) ≤ 4096) = false := decide_eq_false (by omega)
    have d5 : decide (5000 < (l3.length : Int)) = true := decide_eq_true (by omega)
    go_enter Tryz.func3, Tryz.ntmps3
    go_wp2_with fail
    refine (salive_any _).mono ?_
    rintro e w1 ⟨rfl, hb1⟩
    have K1 := Lib.hid (K0.out.step hb1)
    clear hb1 K0
    go_wp2_with fail
    go_ret
    exact ⟨rfl, K1.out.bel⟩
  have d5 : decide (5000 < (l3.length : Int)) = false := decide_eq_false (by omega)
  obtain ⟨v, hv⟩ : ∃ v, decide (200 < (l3.length : Int)) = v := ⟨_, rfl⟩
  have d4 : v = true → decide ((l3.length : Int) ≤ 4096) = false := fun k => decide_eq_false (by rw [k] at hv; have := of_decide_eq_true hv; omega)
  have hb3 : l3.length ≤ 5000 := by omega
  clear t0 t1 t2 t3 t4
  rcases v with _ | _
  · clear d4
    go_enter Tryz.func3, Tryz.ntmps3
    go_wp2_with fail
    refine (salive_any _).mono ?_
    rintro e w1 ⟨rfl, hb1⟩
    have K1 := Lib.hid (K0.out.step hb1)
    clear hb1 K0
    go_wp2_with fail
    refine (copy_any A3 l3.length c3 0 l3 _ (by exact (K1.out.row (A3, l3.length, c3, l3) (by simp)).1) (by omega)).mono ?_
    rintro e w2 ⟨A5, c5, rfl, ho, hb⟩
    have K2 := Lib.hid (K1.out.own hb ho)
    clear ho hb K1
    go_wp2_with fail
    obtain ⟨X, HX⟩ : ∃ X, Hid (X = smakeR l0 l1 l2 l3) := ⟨_, Lib.hid rfl⟩
    refine (smake_any A0 A1 A2 A5 c0 c1 c2 c5 l0 l1 l2 l3 _ (by exact (K2.out.row (A0, l0.length, c0, l0) (by simp)).1) (by exact (K2.out.row (A1, l1.length, c1, l1) (by simp)).1) (by exact (K2.out.row (A2, l2.length, c2, l2) (by simp)).1) (by exact (K2.out.row _ (.head _)).1) (by exact (K2.out.row (A0, l0.length, c0, l0) (by simp)).2) (by exact (K2.out.row (A1, l1.length, c1, l1) (by simp)).2)).mono ?_
    rw [← HX.out]
    rintro e w3 ⟨A6, c6, rfl, ho, hb⟩
    have K3 := Lib.hid (K2.out.own hb ho)
    clear ho hb K2
    go_wp2_with fail
    refine (rsmake_any A0 A1 A2 A3 c0 c1 c2 c3 l0 l1 l2 l3 _ (by exact (K3.out.row (A0, l0.length, c0, l0) (by simp)).1) (by exact (K3.out.row (A1, l1.length, c1, l1) (by simp)).1) (by exact (K3.out.row (A2, l2.length, c2, l2) (by simp)).1) (by exact (K3.out.row (A3, l3.length, c3, l3) (by simp)).1) (by exact (K3.out.row (A0, l0.length, c0, l0) (by simp)).2) (by exact (K3.out.row (A1, l1.length, c1, l1) (by simp)).2)).mono ?_
    rw [← HX.out]
    rintro e w4 ⟨A7, c7, rfl, ho, hb⟩
    have K4 := Lib.hid (K3.out.own hb ho)
    clear ho hb K3
    obtain ⟨L, E⟩ := X
    simp only at K4 ⊢
    go_wp2_with fail
    refine (al_same _ _ _ _ _ _ L L _ (by exact (K4.out.row (A6, L.length, c6, L) (by simp)).1) (by exact (K4.out.row (A7, L.length, c7, L) (by simp)).1) (Nat.le_trans (K4.out.row (A6, L.length, c6, L) (by simp)).2.1 (K4.out.row (A6, L.length, c6, L) (by simp)).2.2) (Nat.le_trans (K4.out.row (A6, L.length, c6, L) (by simp)).2.1 (K4.out.row (A6, L.length, c6, L) (by simp)).2.2) true (by simp)).mono ?_
    rintro e w5 ⟨rfl, hb⟩
    have K5 := Lib.hid (K4.out.step hb)
    clear hb K4
    go_wp2_with fail
    refine (al_same _ _ _ _ _ _ l3 l3 _ (by exact (K5.out.row (A5, l3.length, c5, l3) (by simp)).1) (by exact (K5.out.row (A3, l3.length, c3, l3) (by simp)).1) (by unfold maxLen; omega) (by unfold maxLen; omega) true (by simp)).mono ?_
    rintro e w6 ⟨rfl, hb⟩
    have K6 := Lib.hid (K5.out.step hb)
    clear hb K5
    go_wp2_with fail
    obtain ⟨Y, HY⟩ : ∃ X, Hid (X = stampR l2 l3) := ⟨_, Lib.hid rfl⟩
    refine (stamp_any A2 A5 l2.length c2 l3.length c5 l2 l3 _ (by exact (K6.out.row (A2, l2.length, c2, l2) (by simp)).1) (by exact (K6.out.row (A5, l3.length, c5, l3) (by simp)).1)).mono ?_
    rw [← HY.out]
    rintro e w7 ⟨A8, c8, rfl, ho, hb⟩
    have K7 := Lib.hid (K6.out.own hb ho)
    clear ho hb K6
    go_wp2_with fail
    refine (rstamp_any A2 A3 l2.length c2 l3.length c3 l2 l3 _ (by exact (K7.out.row (A2, l2.length, c2, l2) (by simp)).1) (by exact (K7.out.row (A3, l3.length, c3, l3) (by simp)).1)).mono ?_
    rw [← HY.out]
    rintro e w8 ⟨A9, c9, rfl, ho, hb⟩
    have K8 := Lib.hid (K7.out.own hb ho)
    clear ho hb K7
    obtain ⟨M, E2⟩ := Y
    simp only at K8 ⊢
    go_wp2_with fail
    refine (al_same _ _ _ _ _ _ M M _ (by exact (K8.out.row (A8, M.length, c8, M) (by simp)).1) (by exact (K8.out.row (A9, M.length, c9, M) (by simp)).1) (Nat.le_trans (K8.out.row (A8, M.length, c8, M) (by simp)).2.1 (K8.out.row (A8, M.length, c8, M) (by simp)).2.2) (Nat.le_trans (K8.out.row (A8, M.length, c8, M) (by simp)).2.1 (K8.out.row (A8, M.length, c8, M) (by simp)).2.2) true (by simp)).mono ?_
    rintro e w9 ⟨rfl, hb⟩
    have K9 := Lib.hid (K8.out.step hb)
    clear hb K8
    go_wp2_with fail
    go_ret
    exact ⟨rfl, K9.out.bel⟩
  · have d4' := d4 rfl
    clear d4
    go_enter Tryz.func3, Tryz.ntmps3
    go_wp2_with fail
    refine (salive_any _).mono ?_
    rintro e w1 ⟨rfl, hb1⟩
    have K1 := Lib.hid (K0.out.step hb1)
    clear hb1 K0
    go_wp2_with fail
    refine (copy_any A3 l3.length c3 0 l3 _ (by exact (K1.out.row (A3, l3.length, c3, l3) (by simp)).1) (by omega)).mono ?_
    rintro e w2 ⟨A5, c5, rfl, ho, hb⟩
    have K2 := Lib.hid (K1.out.own hb ho)
    clear ho hb K1
    go_wp2_with fail
    obtain ⟨X, HX⟩ : ∃ X, Hid (X = smakeR l0 l1 l2 l3) := ⟨_, Lib.hid rfl⟩
    refine (smake_any A0 A1 A2 A5 c0 c1 c2 c5 l0 l1 l2 l3 _ (by exact (K2.out.row (A0, l0.length, c0, l0) (by simp)).1) (by exact (K2.out.row (A1, l1.length, c1, l1) (by simp)).1) (by exact (K2.out.row (A2, l2.length, c2, l2) (by simp)).1) (by exact (K2.out.row _ (.head _)).1) (by exact (K2.out.row (A0, l0.length, c0, l0) (by simp)).2) (by exact (K2.out.row (A1, l1.length, c1, l1) (by simp)).2)).mono ?_
    rw [← HX.out]
    rintro e w3 ⟨A6, c6, rfl, ho, hb⟩
    have K3 := Lib.hid (K2.out.own hb ho)
    clear ho hb K2
    go_wp2_with fail
    refine (rsmake_any A0 A1 A2 A3 c0 c1 c2 c3 l0 l1 l2 l3 _ (by exact (K3.out.row (A0, l0.length, c0, l0) (by simp)).1) (by exact (K3.out.row (A1, l1.length, c1, l1) (by simp)).1) (by exact (K3.out.row (A2, l2.length, c2, l2) (by simp)).1) (by exact (K3.out.row (A3, l3.length, c3, l3) (by simp)).1) (by exact (K3.out.row (A0, l0.length, c0, l0) (by simp)).2) (by exact (K3.out.row (A1, l1.length, c1, l1) (by simp)).2)).mono ?_
    rw [← HX.out]
    rintro e w4 ⟨A7, c7, rfl, ho, hb⟩
    have K4 := Lib.hid (K3.out.own hb ho)
    clear ho hb K3
    obtain ⟨L, E⟩ := X
    simp only at K4 ⊢
    go_wp2_with fail
    refine (al_same _ _ _ _ _ _ L L _ (by exact (K4.out.row (A6, L.length, c6, L) (by simp)).1) (by exact (K4.out.row (A7, L.length, c7, L) (by simp)).1) (Nat.le_trans (K4.out.row (A6, L.length, c6, L) (by simp)).2.1 (K4.out.row (A6, L.length, c6, L) (by simp)).2.2) (Nat.le_trans (K4.out.row (A6, L.length, c6, L) (by simp)).2.1 (K4.out.row (A6, L.length, c6, L) (by simp)).2.2) true (by simp)).mono ?_
    rintro e w5 ⟨rfl, hb⟩
    have K5 := Lib.hid (K4.out.step hb)
    clear hb K4
    go_wp2_with fail
    refine (al_same _ _ _ _ _ _ l3 l3 _ (by exact (K5.out.row (A5, l3.length, c5, l3) (by simp)).1) (by exact (K5.out.row (A3, l3.length, c3, l3) (by simp)).1) (by unfold maxLen; omega) (by unfold maxLen; omega) true (by simp)).mono ?_
    rintro e w6 ⟨rfl, hb⟩
    have K6 := Lib.hid (K5.out.step hb)
    clear hb K5
    go_wp2_with fail
    go_ret
    exact ⟨rfl, K6.out.bel⟩
end Go.Proofs.YtdkdgcpknephnaaGreat
