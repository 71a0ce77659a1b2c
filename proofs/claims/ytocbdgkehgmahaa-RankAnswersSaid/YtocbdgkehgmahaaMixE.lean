/- Layer 22: End. Conditions: the slices' cells are readable. -/
import Derived.Test.YtocbdgkehgmahaaMixL
namespace Go.Proofs.Ytocbdgkehgmahaa
open Go.RowKit
set_option linter.unusedVariables false
set_option linter.unusedSimpArgs false

theorem u64_in {n : Nat} (h : n < 18446744073709551616) : (n : Int) ≤ 18446744073709551615 := by omega
theorem mulA (a : Nat) : IntKind.u64.wrap ((a : Int) * 18397679294719823053) = ((a * 18397679294719823053 % 18446744073709551616 : Nat) : Int) := mul64 a 18397679294719823053
theorem mulB (a : Nat) : IntKind.u64.wrap ((a : Int) * 14181476777654086739) = ((a * 14181476777654086739 % 18446744073709551616 : Nat) : Int) := mul64 a 14181476777654086739
theorem shT (n : Nat) (hn : n < 18446744073709551616) : bits .xor .u64 (n : Int) (IntKind.u64.wrap ((n : Int).tdiv 8589934592)) = (shF n : Int) := by
  have e : IntKind.u64.wrap ((n : Int).tdiv 8589934592) = (n : Int) / 8589934592 := by
    rw [Int.tdiv_eq_ediv_of_nonneg (by omega), IntKind.wrap_u64]; omega
  rw [e, sh64 n hn]
theorem mod_lt64 (n : Nat) : n % 18446744073709551616 < 18446744073709551616 := Nat.mod_lt _ (by decide)
set_option maxHeartbeats 1000000 in
theorem rend_any (n : Nat) (w : World) (hn : n < 18446744073709551616) :
    Calls Try.prog 32 #[.int .u64 (n : Int)] w fun e w' => e = .returned (.int .u64 (endF n : Int)) ∧ w = w' := by
  have hs := sh64 n hn
  go_enter Try.func32, Try.ntmps32
  go_wp2
  go_ret
  exact ⟨ret1i (by unfold endF; rw [mulA, shT _ (mod_lt64 _), mulB, shT _ (mod_lt64 _)]), rfl⟩
/-- What End has behind none, one, two rounds. -/
theorem rounds (n : Nat) (hn : n < 18446744073709551616) : ∃ g : Nat → Nat, bits .xor .u64 (n : Int) ((n : Int) / 8589934592) = (g 0 : Int) ∧ (∀ k, g k < 18446744073709551616) ∧
    bits .xor .u64 (IntKind.u64.wrap ((g 0 : Int) * 18397679294719823053)) (IntKind.u64.wrap ((g 0 : Int) * 18397679294719823053) / 8589934592) = (g 1 : Int) ∧
    bits .xor .u64 (IntKind.u64.wrap ((g 1 : Int) * 14181476777654086739)) (IntKind.u64.wrap ((g 1 : Int) * 14181476777654086739) / 8589934592) = (g 2 : Int) ∧ g 2 = endF n := by
  obtain ⟨a, ha⟩ : ∃ a, a = shF n := ⟨_, rfl⟩
  obtain ⟨b, hb⟩ : ∃ b, b = shF (a * 18397679294719823053 % 18446744073709551616) := ⟨_, rfl⟩
  obtain ⟨c, hc⟩ : ∃ c, c = shF (b * 14181476777654086739 % 18446744073709551616) := ⟨_, rfl⟩
  have la : a < 18446744073709551616 := by rw [ha]; exact sh_lt hn
  have lb : b < 18446744073709551616 := by rw [hb]; exact sh_lt (mod_lt64 _)
  have lc : c < 18446744073709551616 := by rw [hc]; exact sh_lt (mod_lt64 _)
  have ec : c = endF n := by unfold endF; rw [← ha, ← hb, ← hc]
  have e1 : bits .xor .u64 (IntKind.u64.wrap ((a : Int) * 18397679294719823053)) (IntKind.u64.wrap ((a : Int) * 18397679294719823053) / 8589934592) = (b : Int) := by rw [mulA, sh64 _ (mod_lt64 _), ← hb]
  have e2 : bits .xor .u64 (IntKind.u64.wrap ((b : Int) * 14181476777654086739)) (IntKind.u64.wrap ((b : Int) * 14181476777654086739) / 8589934592) = (c : Int) := by rw [mulB, sh64 _ (mod_lt64 _), ← hc]
  refine ⟨fun k => match k with | 0 => a | 1 => b | _ => c, by show _ = (a : Int); rw [sh64 n hn, ha], ?_, e1, e2, ec⟩
  intro k
  match k with
  | 0 => exact la
  | 1 => exact lb
  | k + 2 => exact lc
theorem fac0 (a b : Value) (W : World) : (Instr.index 80 (.agg #[a, b]) (.int .i64 0)).run Try.prog W = .ok a W := by kernel_rfl
theorem fac1 (a b : Value) (W : World) : (Instr.index 80 (.agg #[a, b]) (.int .i64 1)).run Try.prog W = .ok b W := by kernel_rfl
set_option maxHeartbeats 1000000 in
theorem end_any (n : Nat) (w : World) (hn : n < 18446744073709551616) :
    Calls Try.prog 30 #[.int .u64 (n : Int)] w fun e w' => e = .returned (.int .u64 (endF n : Int)) ∧ w = w' := by
  obtain ⟨g, g0, gl, g1, g2, ge⟩ := rounds n hn
  rw [← ge]
  have G1 := Lib.hid g1
  have G2 := Lib.hid g2
  have GL := Lib.hid gl
  clear gl ge g1 g2
  go_enter Try.func30, Try.ntmps30
  go_wp2
  go_loop [0, 4, 10] (fun v _ i => ∃ k : Nat, k ≤ 2 ∧ i = .int .i64 k ∧ v = .int .u64 (g k : Int)) (fun _ _ i => 2 - (intOf i).toNat)
  case atStart => exact ⟨0, Nat.zero_le _, rfl, rfl⟩
  case round =>
    obtain ⟨k, hk, rfl, rfl⟩ := hrel
    have hl := GL.out k
    match k, hk with
    | 0, _ =>
      have e1 := G1.out
      have hi := fac0
      have hl0 : (g 0 : Int) < 18446744073709551616 := by omega
      go_wp2
      go_round
      case rel => exact ⟨1, by omega, by go_num, rfl⟩
      case measure => simp [intOf]
    | 1, _ =>
      have e1 := G2.out
      have hi := fac1
      go_wp2
      go_round
      case rel => exact ⟨2, by omega, by go_num, rfl⟩
      case measure => simp [intOf]
    | 2, _ =>
      go_wp2
      go_ret
      exact ⟨rfl, rfl⟩
end Go.Proofs.Ytocbdgkehgmahaa
