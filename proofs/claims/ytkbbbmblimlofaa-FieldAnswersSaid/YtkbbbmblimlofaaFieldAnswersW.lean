/- FieldAnswers' walk: Mul, Inv and Pow answer as the references do. No conditions. -/
import Derived.Test.YtkbbbmblimlofaaFieldAlive
import Derived.Test.YtkbbbmblimlofaaRefField
import Derived.Test.YtkbbbmblimlofaaOpen
namespace Go.Proofs.Ytkbbbmblimlofaa
open Go.RowKit
set_option linter.unusedVariables false

set_option maxRecDepth 100000 in
set_option maxHeartbeats 1000000 in
theorem FieldAnswers_in (x y : UInt8) (n : Nat) (w : World) (hn : n ≤ 18446744073709551615) :
    Calls Try.prog 3 #[.int .u8 (x.toNat : Int), .int .u8 (y.toNat : Int), .int .u64 (n : Int)] w fun e w' => e = .returned (.bool true) ∧ Below w.heap.size w w' := by
  obtain ⟨p, HP⟩ : ∃ p, Hid (p = powN x n) := ⟨_, Lib.hid rfl⟩
  obtain ⟨i, HI⟩ : ∃ i, Hid (i = invB x) := ⟨_, Lib.hid rfl⟩
  obtain ⟨m, HM⟩ : ∃ m, Hid (m = mulB x y) := ⟨_, Lib.hid rfl⟩
  go_enter Try.func3, Try.ntmps3
  go_wp2_with fail
  refine (alive_any _).mono ?_
  rintro e w1 ⟨rfl, HB⟩
  go_wp2_with fail
  refine (mul_lit _ _ (m.toNat : Int) x y rfl rfl (by rw [HM.out]) _).mono ?_
  rintro e w2 ⟨rfl, rfl⟩
  go_wp2_with fail
  refine (rmul_any _ _ _).mono ?_
  rintro e w2 ⟨rfl, rfl⟩
  rw [← HM.out]
  go_wp2_with fail
  refine (inv_lit _ (i.toNat : Int) x rfl (by rw [HI.out]) _).mono ?_
  rintro e w2 ⟨rfl, rfl⟩
  go_wp2_with fail
  refine (rinv_any _ _).mono ?_
  rintro e w2 ⟨rfl, rfl⟩
  rw [← HI.out]
  go_wp2_with fail
  refine (pow_lit _ _ (p.toNat : Int) x n rfl rfl hn (by rw [HP.out]) _).mono ?_
  rintro e w2 ⟨rfl, rfl⟩
  go_wp2_with fail
  refine (rpow_any _ _ _ hn).mono ?_
  rintro e w2 ⟨rfl, rfl⟩
  rw [powB_eq, ← HP.out]
  go_wp2_with fail
  go_ret
  exact ⟨rfl, HB⟩

theorem FieldAnswers_walk (x0 : Int) (x1 : Int) (x2 : Int) (w : World) (h0 : (Lit.int .u8 x0).wf = true) (h1 : (Lit.int .u8 x1).wf = true) (h2 : (Lit.int .u64 x2).wf = true) :
    Calls Try.prog 3 #[.int .u8 x0, .int .u8 x1, .int .u64 x2] w fun e w' => e = .returned (.bool true) ∧ Below w.heap.size w w' := by
  obtain ⟨x, rfl⟩ := byte_of h0
  obtain ⟨y, rfl⟩ := byte_of h1
  have hb : 0 ≤ x2 ∧ x2 ≤ 18446744073709551615 := bounds_u64 h2
  obtain ⟨n, rfl⟩ := Int.eq_ofNat_of_zero_le hb.1
  exact FieldAnswers_in x y n w (by omega)
end Go.Proofs.Ytkbbbmblimlofaa
