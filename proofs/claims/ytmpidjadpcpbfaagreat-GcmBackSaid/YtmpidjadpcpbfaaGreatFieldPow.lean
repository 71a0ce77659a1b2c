/- field.Pow, Inv, Sum, sign and bits.RotateLeft8, each as a plain function of bytes. No conditions but that a list's cells are readable. -/
import Derived.Test.YtmpidjadpcpbfaaGreatFieldPlain
namespace Go.Proofs.YtmpidjadpcpbfaaGreat
open Go.RowKit
set_option linter.unusedVariables false

theorem powN_half (a : UInt8) (n : Nat) : powN a n = mulB (powN a (n % 2)) (powN (mulB a a) (n / 2)) := by
  have h2 : mulB a a = powN a 2 := by rw [powN_two a 1, powN_one]
  rw [h2, powN_mul, ← powN_add, Nat.add_comm, Nat.div_add_mod]
theorem and_one (n : Nat) (hn : n < 18446744073709551616) : bits .and .u64 (n : Int) 1 = ((n % 2 : Nat) : Int) := by
  have h := u64_and_nat n 1 hn (by omega)
  rw [show n &&& 1 = n % 2 from Nat.and_one_is_mod n] at h
  exact h

set_option maxRecDepth 100000 in
set_option maxHeartbeats 1000000 in
theorem pow_any (x : UInt8) (n : Nat) (w : World) (hn : n ≤ 18446744073709551615) :
    Calls Tryz.prog 88 #[.int .u8 (x.toNat : Int), .int .u64 (n : Int)] w fun e w' => e = .returned (.int .u8 ((powN x n).toNat : Int)) ∧ w = w' := by
  obtain ⟨V, HV⟩ : ∃ V, Hid (V = powN x n) := ⟨_, Lib.hid rfl⟩
  rw [← HV.out]
  go_enter Tryz.func88, Tryz.ntmps88
  go_wp2
  go_loop [0, 1, 5] (fun A N P => ∃ (a p : UInt8) (m : Nat), m ≤ 18446744073709551615 ∧ A = .int .u8 (a.toNat : Int) ∧ N = .int .u64 (m : Int) ∧ P = .int .u8 (p.toNat : Int) ∧ Hid (V = mulB p (powN a m))) (fun _ N _ => (intOf N).toNat)
  case atStart => exact ⟨x, 1, n, hn, rfl, rfl, rfl, Lib.hid (by rw [HV.out, mulB_one'])⟩
  case round =>
    obtain ⟨a, p, m, hm, rfl, rfl, rfl, hv⟩ := hrel
    by_cases h0 : m = 0
    · subst h0
      have h1 := hv.out
      rw [show powN a 0 = 1 from rfl, mulB_one] at h1
      have HV1 := Lib.hid h1
      clear h1
      go_wp2
      go_ret
      exact ⟨ret1i (by rw [HV1.out]), rfl⟩
    · have hb0 : ((m : Int) != 0) = true := by rw [bne_iff_ne]; omega
      have hm0 : 0 < m := by omega
      have hand := and_one m (by omega)
      have hstep := powN_half a m
      by_cases hbit : m % 2 = 1
      · rw [hbit, powN_one] at hstep
        have HM := Lib.hid hstep
        have hd : (bits .and .u64 (m : Int) 1 != 0) = true := by rw [hand, hbit]; rfl
        clear hand hstep hbit h0
        go_wp2_with fail
        refine (mul_any _ _ _).mono ?_
        rintro e w' ⟨rfl, rfl⟩
        go_wp2_with fail
        refine (mul_any _ _ _).mono ?_
        rintro e w' ⟨rfl, rfl⟩
        go_wp2
        go_round
        case rel => exact ⟨mulB a a, mulB p a, m / 2, by omega, rfl, by go_num, rfl, Lib.hid (by rw [hv.out, HM.out, mulB_assoc])⟩
        case measure => simp [intOf]; omega
      · rw [show m % 2 = 0 by omega, show powN a 0 = 1 from rfl, mulB_one'] at hstep
        have HM := Lib.hid hstep
        have hd : (bits .and .u64 (m : Int) 1 != 0) = false := by rw [hand, show m % 2 = 0 by omega]; rfl
        clear hand hstep hbit h0
        go_wp2_with fail
        refine (mul_any _ _ _).mono ?_
        rintro e w' ⟨rfl, rfl⟩
        go_wp2
        go_round
        case rel => exact ⟨mulB a a, p, m / 2, by omega, rfl, by go_num, rfl, Lib.hid (by rw [hv.out, HM.out])⟩
        case measure => simp [intOf]; omega

set_option maxHeartbeats 400000 in
theorem inv_any (x : UInt8) (w : World) :
    Calls Tryz.prog 110 #[.int .u8 (x.toNat : Int)] w fun e w' => e = .returned (.int .u8 ((invB x).toNat : Int)) ∧ w = w' := by
  have hp := invB_pow x
  have HP := Lib.hid hp
  clear hp
  go_enter Tryz.func110, Tryz.ntmps110
  go_wp2_with fail
  refine (pow_any x 254 _ (by omega)).mono ?_
  rintro e w1 ⟨rfl, rfl⟩
  go_wp2_with fail
  go_ret
  exact ⟨ret1i (by rw [HP.out]), rfl⟩

/-- A byte turned left by k. -/
def rotB (x : UInt8) (k : Nat) : UInt8 := UInt8.ofNat (x.toNat * 2 ^ k % 256 + x.toNat / 2 ^ (8 - k))
theorem rot_or1 (x : UInt8) : bits .or .u8 ((x.toNat : Int) * 2 % 256) ((x.toNat : Int) / 128) = ((rotB x 1).toNat : Int) := each_byte (p := fun x => bits .or .u8 ((x.toNat : Int) * 2 % 256) ((x.toNat : Int) / 128) = ((rotB x 1).toNat : Int)) (by decide +kernel) x
set_option maxRecDepth 100000 in
set_option maxHeartbeats 1000000 in
theorem rot1 (x : UInt8) (w : World) :
    Calls Tryz.prog 111 #[.int .u8 (x.toNat : Int), .int .i64 1] w fun e w' => e = .returned (.int .u8 ((rotB x 1).toNat : Int)) ∧ w = w' := by
  have hx := byte_lt x
  have hb : bits .and .u64 1 7 = 1 := by decide +kernel
  go_enter Tryz.func111, Tryz.ntmps111
  go_wp2
  go_ret
  exact ⟨ret1i (rot_or1 x), rfl⟩
theorem rot_or2 (x : UInt8) : bits .or .u8 ((x.toNat : Int) * 4 % 256) ((x.toNat : Int) / 64) = ((rotB x 2).toNat : Int) := each_byte (p := fun x => bits .or .u8 ((x.toNat : Int) * 4 % 256) ((x.toNat : Int) / 64) = ((rotB x 2).toNat : Int)) (by decide +kernel) x
set_option maxRecDepth 100000 in
set_option maxHeartbeats 1000000 in
theorem rot2 (x : UInt8) (w : World) :
    Calls Tryz.prog 111 #[.int .u8 (x.toNat : Int), .int .i64 2] w fun e w' => e = .returned (.int .u8 ((rotB x 2).toNat : Int)) ∧ w = w' := by
  have hx := byte_lt x
  have hb : bits .and .u64 2 7 = 2 := by decide +kernel
  go_enter Tryz.func111, Tryz.ntmps111
  go_wp2
  go_ret
  exact ⟨ret1i (rot_or2 x), rfl⟩
theorem rot_or3 (x : UInt8) : bits .or .u8 ((x.toNat : Int) * 8 % 256) ((x.toNat : Int) / 32) = ((rotB x 3).toNat : Int) := each_byte (p := fun x => bits .or .u8 ((x.toNat : Int) * 8 % 256) ((x.toNat : Int) / 32) = ((rotB x 3).toNat : Int)) (by decide +kernel) x
set_option maxRecDepth 100000 in
set_option maxHeartbeats 1000000 in
theorem rot3 (x : UInt8) (w : World) :
    Calls Tryz.prog 111 #[.int .u8 (x.toNat : Int), .int .i64 3] w fun e w' => e = .returned (.int .u8 ((rotB x 3).toNat : Int)) ∧ w = w' := by
  have hx := byte_lt x
  have hb : bits .and .u64 3 7 = 3 := by decide +kernel
  go_enter Tryz.func111, Tryz.ntmps111
  go_wp2
  go_ret
  exact ⟨ret1i (rot_or3 x), rfl⟩
theorem rot_or4 (x : UInt8) : bits .or .u8 ((x.toNat : Int) * 16 % 256) ((x.toNat : Int) / 16) = ((rotB x 4).toNat : Int) := each_byte (p := fun x => bits .or .u8 ((x.toNat : Int) * 16 % 256) ((x.toNat : Int) / 16) = ((rotB x 4).toNat : Int)) (by decide +kernel) x
set_option maxRecDepth 100000 in
set_option maxHeartbeats 1000000 in
theorem rot4 (x : UInt8) (w : World) :
    Calls Tryz.prog 111 #[.int .u8 (x.toNat : Int), .int .i64 4] w fun e w' => e = .returned (.int .u8 ((rotB x 4).toNat : Int)) ∧ w = w' := by
  have hx := byte_lt x
  have hb : bits .and .u64 4 7 = 4 := by decide +kernel
  go_enter Tryz.func111, Tryz.ntmps111
  go_wp2
  go_ret
  exact ⟨ret1i (rot_or4 x), rfl⟩

/-- The sum of bytes. -/
def sumL (l : List UInt8) : UInt8 := l.foldl (· ^^^ ·) 0
theorem sumL_snoc (l : List UInt8) (x : UInt8) : sumL (l ++ [x]) = sumL l ^^^ x := by simp [sumL]
set_option maxRecDepth 100000 in
set_option maxHeartbeats 1000000 in
theorem sum_any (A : Option Addr) (n c B : Nat) (l : List UInt8) (w : World) (h : RB w B A n l) (hn : n ≤ maxLen) :
    Calls Tryz.prog 87 #[.slice A n c] w fun e w' => e = .returned (.int .u8 ((sumL l).toNat : Int)) ∧ w = w' := by
  unfold maxLen at hn
  go_enter Tryz.func87, Tryz.ntmps87
  go_wp2
  go_loop [3, 5, 8] (fun v _ i => ∃ k : Nat, k ≤ n ∧ i = .int .i64 k ∧ v = .int .u8 ((sumL (l.take k)).toNat : Int)) (fun _ _ i => n - (intOf i).toNat)
  case atStart => exact ⟨0, Nat.zero_le _, rfl, rfl⟩
  case round =>
    obtain ⟨k, hk, rfl, rfl⟩ := hrel
    by_cases hlt : k < n
    · obtain ⟨b, o, rfl, hb, x, hx, hc⟩ := h.at_ hlt
      have hs := sumL_snoc (l.take k) x
      rw [← take_snoc hx] at hs
      have HS := Lib.hid hs
      have hxb := xor_byte (sumL (l.take k)) x
      clear hs hx
      go_wp2
      go_round
      case rel => exact ⟨k + 1, by omega, by go_num, by rw [HS.out, UInt8.toNat_xor]⟩
      case measure => simp [intOf]; omega
    · obtain rfl : k = n := by omega
      have hl : l.take k = l := List.take_of_length_le (by have := h.len; omega)
      have HL := Lib.hid hl
      clear hl
      go_wp2
      go_ret
      exact ⟨ret1i (by rw [HL.out]), rfl⟩

theorem sign_sum (b : UInt8) : sumL [b, rotB b 1, rotB b 2, rotB b 3, rotB b 4, 99] = signB b := each_byte (p := fun b => sumL [b, rotB b 1, rotB b 2, rotB b 3, rotB b 4, 99] = signB b) (by decide +kernel) b
/-- A call whose one answer is v and that lays new memory only. -/
def RetV (v : Value) (w : World) (e : Ending) (w' : World) : Prop := e = .returned v ∧ Below w.heap.size w w'
set_option maxRecDepth 100000 in
set_option maxHeartbeats 1000000 in
theorem sign_any (x : UInt8) (w : World) :
    Calls Tryz.prog 100 #[.int .u8 (x.toNat : Int)] w (RetV (.int .u8 ((subB x).toNat : Int)) w) := by
  obtain ⟨b, HB⟩ : ∃ b, Hid (b = invB x) := ⟨_, Lib.hid rfl⟩
  go_enter Tryz.func100, Tryz.ntmps100
  go_wp2_with fail
  refine (inv_any _ _).mono ?_
  rintro e w1 ⟨rfl, rfl⟩
  rw [← HB.out]
  go_wp2_with fail
  refine (rot1 _ _).mono ?_
  rintro e w1 ⟨rfl, rfl⟩
  go_wp2_with fail
  refine (rot2 _ _).mono ?_
  rintro e w1 ⟨rfl, rfl⟩
  go_wp2_with fail
  refine (rot3 _ _).mono ?_
  rintro e w1 ⟨rfl, rfl⟩
  go_wp2_with fail
  refine (rot4 _ _).mono ?_
  rintro e w1 ⟨rfl, rfl⟩
  go_wp2_with fail
  refine (sum_any _ _ _ _ [b, rotB b 1, rotB b 2, rotB b 3, rotB b 4, 99] _ (by exact RB.lit w _ _ 6 _ rfl rfl rfl) (by unfold maxLen; omega)).mono ?_
  rintro e w1 ⟨rfl, rfl⟩
  go_wp2_with fail
  go_ret
  exact ⟨ret1i (by rw [sign_sum, HB.out]; rfl), below_alloc _ _⟩
end Go.Proofs.YtmpidjadpcpbfaaGreat
