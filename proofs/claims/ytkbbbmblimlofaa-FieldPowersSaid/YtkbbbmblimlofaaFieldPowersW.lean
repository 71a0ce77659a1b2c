/- FieldPowers' walk: powers of a byte are multiplied by adding their numbers, and go round behind 255. No conditions. -/
import Derived.Test.YtkbbbmblimlofaaFieldLawsW
namespace Go.Proofs.Ytkbbbmblimlofaa
open Go.RowKit
set_option linter.unusedVariables false

set_option maxRecDepth 100000 in
set_option maxHeartbeats 4000000 in
theorem FieldPowers_in (x : UInt8) (n m : Nat) (w : World) (hn : n ≤ 4294967295) (hm : m ≤ 4294967295) (zx : Bool) (hzx : ((x.toNat : Int) == 0) = zx) (hturn : zx = false → powN x (n + 255) = powN x n) :
    Calls Try.prog 7 #[.int .u8 (x.toNat : Int), .int .u32 (n : Int), .int .u32 (m : Int)] w fun e w' => e = .returned (.bool true) ∧ Below w.heap.size w w' := by
  obtain ⟨p, HP⟩ : ∃ p, Hid (p = powN x n) := ⟨_, Lib.hid rfl⟩
  obtain ⟨q, HQ⟩ : ∃ q, Hid (q = powN x m) := ⟨_, Lib.hid rfl⟩
  obtain ⟨c, HC⟩ : ∃ c, Hid (c = powN x (n + m)) := ⟨_, Lib.hid rfl⟩
  obtain ⟨r, HR, hr1⟩ : ∃ r : Nat, Hid (r = n % 999) ∧ r < 999 := ⟨_, Lib.hid rfl, Nat.mod_lt _ (by omega)⟩
  obtain ⟨s, HS, hs1⟩ : ∃ s : Nat, Hid (s = m % 999) ∧ s < 999 := ⟨_, Lib.hid rfl, Nat.mod_lt _ (by omega)⟩
  have hr : (n : Int) % 999 = (r : Int) := by rw [HR.out]; simp
  have hs : (m : Int) % 999 = (s : Int) := by rw [HS.out]; simp
  obtain ⟨t, HT⟩ : ∃ t : Nat, Hid (t = r * s) := ⟨_, Lib.hid rfl⟩
  have ht : (r : Int) * (s : Int) = (t : Int) := by rw [HT.out]; simp
  have ht1 : t ≤ 996004 := by
    rw [HT.out]
    exact Nat.le_trans (Nat.mul_le_mul (show r ≤ 998 by omega) (show s ≤ 998 by omega)) (by omega)
  obtain ⟨d, HD⟩ : ∃ d, Hid (d = powN x r) := ⟨_, Lib.hid rfl⟩
  obtain ⟨g, HG⟩ : ∃ g, Hid (g = powN x t) := ⟨_, Lib.hid rfl⟩
  have HTURN := Lib.hid hturn
  clear hturn
  rcases zx with _ | _
  all_goals
    go_enter Try.func7, Try.ntmps7
    go_wp2_with fail
    refine (alive_any _).mono ?_
    rintro e w1 ⟨rfl, HB⟩
    go_wp2_with fail
    refine (pow_lit _ _ (p.toNat : Int) x n rfl rfl (by omega) (by rw [HP.out]) _).mono ?_
    rintro e w2 ⟨rfl, rfl⟩
    go_wp2_with fail
    refine (pow_lit _ _ (q.toNat : Int) x m rfl rfl (by omega) (by rw [HQ.out]) _).mono ?_
    rintro e w2 ⟨rfl, rfl⟩
    go_wp2_with fail
    refine (mul_lit _ _ (c.toNat : Int) p q rfl rfl (by rw [HP.out, HQ.out, HC.out, powN_add]) _).mono ?_
    rintro e w2 ⟨rfl, rfl⟩
    go_wp2_with fail
    refine (pow_lit _ _ (c.toNat : Int) x (n + m) rfl (by omega) (by omega) (by rw [HC.out]) _).mono ?_
    rintro e w2 ⟨rfl, rfl⟩
    go_wp2_with fail
    refine (pow_lit _ 1 (x.toNat : Int) x 1 rfl rfl (by omega) (by rw [powN_one]) _).mono ?_
    rintro e w2 ⟨rfl, rfl⟩
    go_wp2_with fail
    refine (pow_lit _ _ (d.toNat : Int) x r rfl rfl (by omega) (by rw [HD.out]) _).mono ?_
    rintro e w2 ⟨rfl, rfl⟩
    go_wp2_with fail
    refine (pow_lit _ _ (g.toNat : Int) d s rfl rfl (by omega) (by rw [HD.out, HG.out, HT.out, powN_mul]) _).mono ?_
    rintro e w2 ⟨rfl, rfl⟩
    go_wp2_with fail
    refine (pow_lit _ _ (g.toNat : Int) x t rfl rfl (by omega) (by rw [HG.out]) _).mono ?_
    rintro e w2 ⟨rfl, rfl⟩
    go_wp2_with fail
  · refine (pow_lit _ _ (p.toNat : Int) x (n + 255) rfl (by omega) (by omega) (by rw [HTURN.out (by simp), HP.out]) _).mono ?_
    rintro e w2 ⟨rfl, rfl⟩
    go_wp2_with fail
    refine (pow_lit _ _ (p.toNat : Int) x n rfl rfl (by omega) (by rw [HP.out]) _).mono ?_
    rintro e w2 ⟨rfl, rfl⟩
    go_wp2_with fail
    go_ret
    exact ⟨rfl, HB⟩
  · go_ret
    exact ⟨rfl, HB⟩

theorem FieldPowers_walk (x0 : Int) (x1 : Int) (x2 : Int) (w : World) (h0 : (Lit.int .u8 x0).wf = true) (h1 : (Lit.int .u32 x1).wf = true) (h2 : (Lit.int .u32 x2).wf = true) :
    Calls Try.prog 7 #[.int .u8 x0, .int .u32 x1, .int .u32 x2] w fun e w' => e = .returned (.bool true) ∧ Below w.heap.size w w' := by
  obtain ⟨x, rfl⟩ := byte_of h0
  have hb1 : 0 ≤ x1 ∧ x1 ≤ 4294967295 := bounds_u32 h1
  have hb2 : 0 ≤ x2 ∧ x2 ≤ 4294967295 := bounds_u32 h2
  obtain ⟨n, rfl⟩ := Int.eq_ofNat_of_zero_le hb1.1
  obtain ⟨m, rfl⟩ := Int.eq_ofNat_of_zero_le hb2.1
  by_cases hx : x = 0
  · exact FieldPowers_in x n m w (by omega) (by omega) true (z_byte hx) (fun h => absurd h (by simp))
  · exact FieldPowers_in x n m w (by omega) (by omega) false (nz_byte hx) (fun _ => by rw [powN_add, powN_255 x hx, mulB_one])
end Go.Proofs.Ytkbbbmblimlofaa
