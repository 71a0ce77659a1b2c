/- Layer 14's statement HalvesCuts, walked. No condition. -/
import Derived.Test.YtcobklcokffbdaaHvV
import Derived.Test.YtcobklcokffbdaaOpen
namespace Go.Proofs.Ytcobklcokffbdaa
open Go.RowKit
set_option linter.unusedVariables false
set_option linter.unusedSimpArgs false
attribute [local irreducible] foursL pairsL cutR trimL joinL blockL joinR trimR blockR maskB edgeN layN stL szI
set_option maxRecDepth 100000 in
set_option maxHeartbeats 8000000 in
theorem HalvesCuts_walk (A0 : Option Addr) (n0 c0 : Nat) (l0 : List UInt8) (x1 : Int) (w : World) (h0 : RB w w.heap.size A0 n0 l0) (m0 : n0 ≤ c0 ∧ c0 ≤ maxLen) (h1 : (Lit.int .i64 x1).wf = true) :
    Calls Try.prog 3 #[.slice A0 n0 c0, .int .i64 x1] w fun e w' => e = .returned (.bool true) ∧ Below w.heap.size w w' := by
  have hx1 : x1 ≤ 9223372036854775807 := (bounds_i64 h1).2
  have K0 := Lib.hid ((HW.start w).add h0 m0.1 m0.2)
  obtain ⟨u, HU⟩ : ∃ u, Hid (cutR l0 = u) := ⟨_, Lib.hid rfl⟩
  have HS1 := Lib.hid (fun v => hsize_any x1 hx1 v)
  have HS2 := Lib.hid (fun v => rhsize_any x1 hx1 v)
  clear h0 h1
  by_cases t0 : 300 < n0
  · have d0 : decide (300 < (n0 : Int)) = true := decide_eq_true (by omega)
    go_enter Try.func3, Try.ntmps3
    go_wp2_with fail
    refine (halive_any _).mono ?_
    rintro e w1 ⟨rfl, hb⟩
    have K1 := Lib.hid (K0.out.step hb)
    clear K0
    clear hb
    go_wp2_with fail
    go_ret
    exact ⟨rfl, K1.out.bel⟩
  have d0 : decide (300 < (n0 : Int)) = false := decide_eq_false (by omega)
  go_enter Try.func3, Try.ntmps3
  go_wp2_with fail
  refine (halive_any _).mono ?_
  rintro e w1 ⟨rfl, hb⟩
  have K1 := Lib.hid (K0.out.step hb)
  clear K0
  clear hb
  go_wp2_with fail
  refine (copy_any A0 n0 c0 w1.heap.size l0 _ (by exact (K1.out.row _ (.head _)).1) (by omega)).mono ?_
  rintro e w2 ⟨Ao, co, rfl, ho, hb⟩
  have K2 := Lib.hid (K1.out.own hb ho)
  clear K1
  clear ho hb
  go_wp2_with fail
  refine (hcut_any Ao n0 co l0 _ (by exact (K2.out.row _ (.head _)).1) (by exact (K2.out.row _ (.head _)).2.1) (by omega)).mono ?_
  rw [HU.out]
  rintro e w3 ⟨Al, nl, cl, Ar, nr, cr, rfl, ho1, ho2, hb⟩
  have K3 := Lib.hid (K2.out.own2 hb ho1 ho2)
  clear K2
  clear ho1 ho2 hb
  go_wp2_with fail
  refine (rcut_any A0 n0 c0 l0 _ (by exact (K3.out.row _ (.tail _ (.tail _ (.tail _ (.head _))))).1) (by omega)).mono ?_
  rw [HU.out]
  rintro e w4 ⟨Ax, nx, cx, Ay, ny, cy, rfl, ho1, ho2, hb⟩
  have K4 := Lib.hid (K3.out.own2 hb ho1 ho2)
  clear K3
  clear ho1 ho2 hb
  go_wp2_with fail
  refine (al_same _ _ _ _ _ _ u.1 u.1 _ (by exact (K4.out.row _ (.tail _ (.tail _ (.tail _ (.head _))))).1) (by exact (K4.out.row _ (.tail _ (.head _))).1) (by exact Nat.le_trans (K4.out.row _ (.tail _ (.tail _ (.tail _ (.head _))))).2.1 (K4.out.row _ (.tail _ (.tail _ (.tail _ (.head _))))).2.2) (by exact Nat.le_trans (K4.out.row _ (.tail _ (.head _))).2.1 (K4.out.row _ (.tail _ (.head _))).2.2) true (beq_self_eq_true _)).mono ?_
  rintro e w5 ⟨rfl, hb⟩
  have K5 := Lib.hid (K4.out.step hb)
  clear K4
  clear hb
  go_wp2_with fail
  refine (al_same _ _ _ _ _ _ u.2.1 u.2.1 _ (by exact (K5.out.row _ (.tail _ (.tail _ (.head _)))).1) (by exact (K5.out.row _ (.head _)).1) (by exact Nat.le_trans (K5.out.row _ (.tail _ (.tail _ (.head _)))).2.1 (K5.out.row _ (.tail _ (.tail _ (.head _)))).2.2) (by exact Nat.le_trans (K5.out.row _ (.head _)).2.1 (K5.out.row _ (.head _)).2.2) true (beq_self_eq_true _)).mono ?_
  rintro e w6 ⟨rfl, hb⟩
  have K6 := Lib.hid (K5.out.step hb)
  clear K5
  clear hb
  go_wp2_with fail
  refine (al_same _ _ _ _ _ _ l0 l0 _ (by exact (K6.out.row _ (.tail _ (.tail _ (.tail _ (.tail _ (.head _)))))).1) (by exact (K6.out.row _ (.tail _ (.tail _ (.tail _ (.tail _ (.tail _ (.head _))))))).1) (by exact Nat.le_trans (K6.out.row _ (.tail _ (.tail _ (.tail _ (.tail _ (.head _)))))).2.1 (K6.out.row _ (.tail _ (.tail _ (.tail _ (.tail _ (.head _)))))).2.2) (by exact Nat.le_trans (K6.out.row _ (.tail _ (.tail _ (.tail _ (.tail _ (.tail _ (.head _))))))).2.1 (K6.out.row _ (.tail _ (.tail _ (.tail _ (.tail _ (.tail _ (.head _))))))).2.2) true (beq_self_eq_true _)).mono ?_
  rintro e w7 ⟨rfl, hb⟩
  have K7 := Lib.hid (K6.out.step hb)
  clear K6
  clear hb
  go_wp2_with fail
  refine (HS1.out _).mono ?_
  rintro e w91 ⟨rfl, rfl⟩
  go_wp2_with fail
  refine (HS2.out _).mono ?_
  rintro e w92 ⟨rfl, rfl⟩
  go_wp2_with fail
  go_ret
  exact ⟨rfl, K7.out.bel⟩
end Go.Proofs.Ytcobklcokffbdaa
