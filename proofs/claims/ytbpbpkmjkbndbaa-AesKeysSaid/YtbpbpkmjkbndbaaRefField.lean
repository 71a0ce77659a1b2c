/- The references of layer 2 (field): Mul, Inv, Sign, Sub, Unsub, Pow, each as a plain function of bytes. No conditions. -/
import Derived.Test.YtbpbpkmjkbndbaaBase
import Derived.Test.YtbpbpkmjkbndbaaFieldFn
import Derived.Test.YtbpbpkmjkbndbaaChecked
namespace Go.Proofs.Ytbpbpkmjkbndbaa
open Go.RowKit
set_option linter.unusedVariables false

theorem i64_xor_nat (a b : Nat) (ha : a < 4611686018427387904) (hb : b < 4611686018427387904) : bits .xor .i64 (a : Int) (b : Int) = ((a ^^^ b : Nat) : Int) := by
  have hx : a ^^^ b < 2 ^ 62 := Nat.xor_lt_two_pow (by omega) (by omega)
  show IntKind.i64.wrap ((BitVec.ofInt 64 (a : Int) ^^^ BitVec.ofInt 64 (b : Int)).toNat : Int) = _
  rw [BitVec.toNat_xor, ofInt_u64 a (by omega), ofInt_u64 b (by omega), IntKind.wrap_i64]
  omega
/-- A power of two as the walk meets it. -/
theorem two_pow (k : Nat) (hk : k < 8) : ∃ P : Nat, Hid (P = 2 ^ k) ∧ (2 : Int) ^ k = (P : Int) ∧ 1 ≤ P ∧ P ≤ 128 := by
  refine ⟨2 ^ k, Lib.hid rfl, by simp, Nat.one_le_two_pow, ?_⟩
  have : 2 ^ k ≤ 2 ^ 7 := Nat.pow_le_pow_right (by omega) (by omega)
  simpa using this
theorem mulUp_lt (a b : Nat) (ha : a < 256) : ∀ k, k ≤ 8 → mulUp a b k < 32768
  | 0, _ => by simp [mulUp]
  | k + 1, hk => by
    have ih := mulUp_lt a b ha k (by omega)
    unfold mulUp
    split
    · have h1 : 2 ^ k ≤ 2 ^ 7 := Nat.pow_le_pow_right (by omega) (by omega)
      have h2 : a * 2 ^ k ≤ 255 * 128 := Nat.mul_le_mul (by omega) (by simpa using h1)
      exact Nat.xor_lt_two_pow (n := 15) (by omega) (by omega)
    · exact ih

set_option maxRecDepth 100000 in
set_option maxHeartbeats 1000000 in
theorem rmul_any (x y : UInt8) (w : World) :
    Calls Try.prog 25 #[.int .u8 (x.toNat : Int), .int .u8 (y.toNat : Int)] w fun e w' => e = .returned (.int .u8 ((mulB x y).toNat : Int)) ∧ w = w' := by
  have hx := byte_lt x
  have hy := byte_lt y
  go_enter Try.func25, Try.ntmps25
  go_wp2
  go_loop [5, 6] (fun v i => ∃ k : Nat, k ≤ 8 ∧ i = .int .i64 k ∧ v = .int .i64 (mulUp x.toNat y.toNat k : Int)) (fun _ i => 8 - (intOf i).toNat)
  case atStart => exact ⟨0, by omega, rfl, rfl⟩
  case round =>
    obtain ⟨k, hk, rfl, rfl⟩ := hrel
    have hb := mulUp_lt x.toNat y.toNat (by omega) k hk
    by_cases hlt : k < 8
    · obtain ⟨P, HP, hpi, hp1, hp2⟩ := two_pow k hlt
      obtain ⟨M, HM⟩ : ∃ M, Hid (M = mulUp x.toNat y.toNat k) := ⟨_, Lib.hid rfl⟩
      rw [← HM.out] at hb ⊢
      obtain ⟨Q, HQ⟩ : ∃ Q, Hid (Q = y.toNat / P) := ⟨_, Lib.hid rfl⟩
      have hq : (y.toNat : Int) / (P : Int) = (Q : Int) := by rw [HQ.out]; simp
      have hQ : Q ≤ 255 := by rw [HQ.out]; exact Nat.le_trans (Nat.div_le_self _ _) (by omega)
      obtain ⟨S, HS⟩ : ∃ S, Hid (S = x.toNat * P) := ⟨_, Lib.hid rfl⟩
      have hS : S ≤ 32640 := by
        rw [HS.out]
        have := Nat.mul_le_mul (show x.toNat ≤ 255 by omega) hp2
        omega
      have hs : (x.toNat : Int) * (P : Int) = (S : Int) := by rw [HS.out]; simp
      by_cases hbit : Q % 2 = 1
      · have hb1 : ((Q : Int) % 2 == 1) = true := by rw [beq_iff_eq]; omega
        have hfin : mulUp x.toNat y.toNat (k + 1) = M ^^^ S := by
          unfold mulUp
          rw [← HP.out, ← HQ.out, if_pos hbit, ← HM.out, ← HS.out]
        have HF := Lib.hid hfin
        clear hfin hbit
        go_wp2
        go_round
        case rel => exact ⟨k + 1, by omega, by go_num, by rw [HF.out, i64_xor_nat _ _ (by omega) (by omega)]⟩
        case measure => simp [intOf]; omega
      · have hb1 : ((Q : Int) % 2 == 1) = false := by rw [beq_eq_false_iff_ne]; omega
        have hfin : mulUp x.toNat y.toNat (k + 1) = M := by
          unfold mulUp
          rw [← HP.out, ← HQ.out, if_neg hbit, ← HM.out]
        have HF := Lib.hid hfin
        clear hfin hbit
        go_wp2
        go_round
        case rel => exact ⟨k + 1, by omega, by go_num, by rw [HF.out]⟩
        case measure => simp [intOf]; omega
    · go_wp2
      have hk8 : k = 8 := by omega
      subst hk8
      obtain ⟨D, HD⟩ : ∃ D, Hid (D = mulDown (mulUp x.toNat y.toNat 8) 7) := ⟨_, Lib.hid rfl⟩
      obtain ⟨n0, HN⟩ : ∃ n0, Hid (n0 = mulUp x.toNat y.toNat 8) := ⟨_, Lib.hid rfl⟩
      rw [← HN.out] at hb ⊢
      go_loop [5, 7] (fun v i => ∃ j n : Nat, j ≤ 7 ∧ i = .int .i64 ((j : Int) + 7) ∧ v = .int .i64 (n : Int) ∧ n < 65536 ∧ Hid (mulDown n j = D)) (fun _ i => (intOf i).toNat)
      case atStart => exact ⟨7, n0, by omega, rfl, rfl, by omega, Lib.hid (by rw [HD.out, HN.out])⟩
      case round =>
        obtain ⟨j, n, hj, rfl, rfl, hn, hd⟩ := hrel
        rcases j with _ | j
        · have e : ((0 : Nat) : Int) + 7 = 7 := rfl
          rw [e]
          clear e
          go_wp2
          go_ret
          refine ⟨ret1i ?_, rfl⟩
          have h1 : n = D := hd.out
          unfold mulB
          rw [← HD.out, ← h1]
          simp
        · have e : ((j + 1 : Nat) : Int) + 7 = (j : Int) + 8 := by omega
          rw [e]
          clear e
          obtain ⟨P, HP, hpi, hp1, hp2⟩ := two_pow j (by omega)
          obtain ⟨P2, HP2⟩ : ∃ P2, Hid (P2 = 256 * P) := ⟨_, Lib.hid rfl⟩
          have hp3 : (2 : Int) ^ (j + 8) = (P2 : Int) := by rw [HP2.out, HP.out, Int.pow_add]; simp; omega
          have hp4 : 256 ≤ P2 ∧ P2 ≤ 32768 := by rw [HP2.out]; omega
          obtain ⟨Q, HQ⟩ : ∃ Q, Hid (Q = n / P2) := ⟨_, Lib.hid rfl⟩
          have hq : (n : Int) / (P2 : Int) = (Q : Int) := by rw [HQ.out]; simp
          have hQ : Q ≤ 65536 := by rw [HQ.out]; exact Nat.le_trans (Nat.div_le_self _ _) (by omega)
          obtain ⟨S, HS⟩ : ∃ S, Hid (S = 283 * P) := ⟨_, Lib.hid rfl⟩
          have hS : S ≤ 36224 := by rw [HS.out]; omega
          have hs : (283 : Int) * (P : Int) = (S : Int) := by rw [HS.out]; simp
          have hP2 : n / 2 ^ (8 + j) = Q := by rw [HQ.out, HP2.out, HP.out, Nat.pow_add]
          have hstep := hd.out
          unfold mulDown at hstep
          rw [hP2, ← HP.out, ← HS.out] at hstep
          clear hP2
          by_cases hbit : Q % 2 = 1
          · have hb1 : ((Q : Int) % 2 == 1) = true := by rw [beq_iff_eq]; omega
            rw [if_pos hbit] at hstep
            have HT := Lib.hid hstep
            clear hstep hbit
            go_wp2
            go_round
            case rel => exact ⟨j, n ^^^ S, by omega, by go_num, by rw [i64_xor_nat _ _ (by omega) (by omega)], Nat.xor_lt_two_pow (n := 16) (by omega) (by omega), HT⟩
            case measure => simp [intOf]; omega
          · have hb1 : ((Q : Int) % 2 == 1) = false := by rw [beq_eq_false_iff_ne]; omega
            rw [if_neg hbit] at hstep
            have HT := Lib.hid hstep
            clear hstep hbit
            go_wp2
            go_round
            case rel => exact ⟨j, n, by omega, by go_num, rfl, hn, HT⟩
            case measure => simp [intOf]; omega

theorem ofNat_cast (k : Nat) (hk : k < 256) : (k : Int) = ((UInt8.ofNat k).toNat : Int) := by simp; omega
theorem rmul_k (x : UInt8) (k : Nat) (hk : k < 256) (z : UInt8) (hz : z = mulB x (UInt8.ofNat k)) (w : World) :
    Calls Try.prog 25 #[.int .u8 (x.toNat : Int), .int .u8 (k : Int)] w fun e w' => e = .returned (.int .u8 (z.toNat : Int)) ∧ w = w' := by
  rw [ofNat_cast k hk, hz]
  exact rmul_any x _ w

set_option maxRecDepth 100000 in
set_option maxHeartbeats 1000000 in
theorem rpow_any (x : UInt8) (n : Nat) (w : World) (hn : n ≤ 18446744073709551615) :
    Calls Try.prog 29 #[.int .u8 (x.toNat : Int), .int .u64 (n : Int)] w fun e w' => e = .returned (.int .u8 ((powB x n).toNat : Int)) ∧ w = w' := by
  have hx := byte_lt x
  by_cases h0 : n = 0
  · subst h0
    go_enter Try.func29, Try.ntmps29
    go_wp2
    go_ret
    exact ⟨ret1i rfl, rfl⟩
  · have hb0 : ((n : Int) == 0) = false := by rw [beq_eq_false_iff_ne]; omega
    by_cases hx0 : x = 0
    · have hbx : ((x.toNat : Int) == 0) = true := by rw [hx0]; rfl
      have HX := Lib.hid hx0
      have H0 := Lib.hid h0
      clear hx0 h0
      go_enter Try.func29, Try.ntmps29
      go_wp2
      go_ret
      exact ⟨ret1i (by unfold powB; rw [if_neg H0.out, if_pos HX.out]; rfl), rfl⟩
    · have hbx : ((x.toNat : Int) == 0) = false := by
        rw [beq_eq_false_iff_ne]; intro e; exact hx0 (UInt8.toNat_inj.1 (by simp; omega))
      have HX := Lib.hid hx0
      have H0 := Lib.hid h0
      clear hx0 h0
      obtain ⟨r, HR, hr1⟩ : ∃ r : Nat, Hid (r = n % 255) ∧ r < 255 := ⟨_, Lib.hid rfl, Nat.mod_lt _ (by omega)⟩
      have hr : (n : Int) % 255 = (r : Int) := by rw [HR.out]; simp
      go_enter Try.func29, Try.ntmps29
      go_wp2
      go_loop [5, 6] (fun v i => ∃ k : Nat, k ≤ r ∧ i = .int .u64 k ∧ v = .int .u8 ((powN x k).toNat : Int)) (fun _ i => r - (intOf i).toNat)
      case atStart => exact ⟨0, by omega, rfl, rfl⟩
      case round =>
        obtain ⟨k, hk, rfl, rfl⟩ := hrel
        by_cases hlt : k < r
        · go_wp2_with (go_at_call 25; refine (rmul_any _ _ _).mono ?_; rintro e w' ⟨rfl, rfl⟩)
          go_round
          case rel => exact ⟨k + 1, by omega, by go_num, rfl⟩
          case measure => simp [intOf]; omega
        · have hkr : k = r := by omega
          have HK := Lib.hid hkr
          clear hkr
          go_wp2_with fail
          go_ret
          exact ⟨ret1i (by unfold powB; rw [if_neg H0.out, if_neg HX.out, HK.out, HR.out]), rfl⟩

theorem signN_le (b k : Nat) : ∀ m, signN b k m ≤ 2 + m
  | 0 => by unfold signN; omega
  | m + 1 => by have := signN_le b k m; unfold signN; omega
theorem signUp_lt (b : Nat) : ∀ k, signUp b k < 2 ^ k
  | 0 => by simp [signUp]
  | k + 1 => by
    have ih := signUp_lt b k
    unfold signUp
    have h2 : signN b k 4 % 2 ≤ 1 := by omega
    have h3 := Nat.mul_le_mul_right (2 ^ k) h2
    rw [Nat.pow_succ]
    omega

theorem sign_step (U N P : Nat) (hu : U < P) (hp : P ≤ 128) : wrap64 ((U : Int) + wrap64 ((N : Int) % 2 * (P : Int))) = ((U + N % 2 * P : Nat) : Int) := by
  have h1 : N % 2 = 0 ∨ N % 2 = 1 := by omega
  have e : (N : Int) % 2 = ((N % 2 : Nat) : Int) := by simp
  rw [e]
  rcases h1 with h | h <;> rw [h]
  · rw [IntWalk.wrap64_in (((0 : Nat) : Int) * (P : Int)) (by simp), IntWalk.wrap64_in _ (by simp; omega)]
    simp
  · rw [IntWalk.wrap64_in (((1 : Nat) : Int) * (P : Int)) (by simp; omega), IntWalk.wrap64_in _ (by simp; omega)]
    simp
set_option maxRecDepth 100000 in
set_option maxHeartbeats 1000000 in
theorem rsign_any (x : UInt8) (w : World) :
    Calls Try.prog 26 #[.int .u8 (x.toNat : Int)] w fun e w' => e = .returned (.int .u8 ((signB x).toNat : Int)) ∧ w = w' := by
  have hx := byte_lt x
  go_enter Try.func26, Try.ntmps26
  go_wp2
  go_loop [4, 5, 6, 7] (fun v i _ _ => ∃ k : Nat, k ≤ 8 ∧ i = .int .i64 k ∧ v = .int .i64 (signUp x.toNat k : Int)) (fun _ i _ _ => 8 - (intOf i).toNat)
  case atStart => exact ⟨0, by omega, rfl, rfl⟩
  case round =>
    obtain ⟨k, hk, rfl, rfl⟩ := hrel
    have hub := signUp_lt x.toNat k
    by_cases hlt : k < 8
    · obtain ⟨P, HP, hpi, hp1, hp2⟩ := two_pow k hlt
      rw [← HP.out] at hub
      obtain ⟨U, HU⟩ : ∃ U, Hid (U = signUp x.toNat k) := ⟨_, Lib.hid rfl⟩
      rw [← HU.out] at hub ⊢
      obtain ⟨Q, HQ⟩ : ∃ Q, Hid (Q = x.toNat / P) := ⟨_, Lib.hid rfl⟩
      have hq : (x.toNat : Int) / (P : Int) = (Q : Int) := by rw [HQ.out]; simp
      have hQ : Q ≤ 255 := by rw [HQ.out]; exact Nat.le_trans (Nat.div_le_self _ _) (by omega)
      obtain ⟨R, HR⟩ : ∃ R, Hid (R = 99 / P) := ⟨_, Lib.hid rfl⟩
      have hr : (99 : Int) / (P : Int) = (R : Int) := by rw [HR.out]; simp
      have hR : R ≤ 99 := by rw [HR.out]; exact Nat.div_le_self _ _
      have hN0 : signN x.toNat k 0 = R % 2 + Q % 2 := by unfold signN; rw [HR.out, HQ.out, HP.out]
      have HN0 := Lib.hid hN0
      clear hN0
      go_wp2
      go_loop [6, 7] (fun v j => ∃ m : Nat, m ≤ 4 ∧ j = .int .i64 ((m : Int) + 4) ∧ v = .int .i64 (signN x.toNat k m : Int)) (fun _ j => 8 - (intOf j).toNat)
      case atStart => exact ⟨0, by omega, rfl, by rw [HN0.out]; go_num⟩
      case round =>
        obtain ⟨m, hm, rfl, rfl⟩ := hrel
        have hsn := signN_le x.toNat k m
        by_cases hlt2 : m < 4
        · obtain ⟨t, HT, ht8⟩ : ∃ t : Nat, Hid (t = (k + (4 + m)) % 8) ∧ t < 8 := ⟨_, Lib.hid rfl, Nat.mod_lt _ (by omega)⟩
          have ht : ((k : Int) + ((m : Int) + 4)) % 8 = (t : Int) := by rw [HT.out]; omega
          obtain ⟨P2, HP2, hpi2, hp12, hp22⟩ := two_pow t ht8
          obtain ⟨Q2, HQ2⟩ : ∃ Q2, Hid (Q2 = x.toNat / P2) := ⟨_, Lib.hid rfl⟩
          have hq2 : (x.toNat : Int) / (P2 : Int) = (Q2 : Int) := by rw [HQ2.out]; simp
          have hQ2 : Q2 ≤ 255 := by rw [HQ2.out]; exact Nat.le_trans (Nat.div_le_self _ _) (by omega)
          have hN1 : signN x.toNat k (m + 1) = signN x.toNat k m + Q2 % 2 := by
            show signN x.toNat k m + x.toNat / 2 ^ ((k + (4 + m)) % 8) % 2 = _
            rw [← HT.out, ← HP2.out, ← HQ2.out]
          have HN1 := Lib.hid hN1
          clear hN1
          go_wp2
          go_round
          case rel => exact ⟨m + 1, by omega, by go_num, by rw [HN1.out]; go_num⟩
          case measure => simp [intOf]; omega
        · have hm4 : m = 4 := by omega
          have HM := Lib.hid hm4
          clear hm4
          go_wp2
          go_round
          case rel => exact ⟨k + 1, by omega, by go_num, by
            rw [sign_step U _ P hub hp2, HU.out, HM.out, HP.out]
            rfl⟩
          case measure => simp [intOf]; omega
    · have hk8 : k = 8 := by omega
      subst hk8
      go_wp2
      go_ret
      have h8 : ((signB x).toNat : Int) = (signUp x.toNat 8 : Int) := by
        unfold signB
        simp only [UInt8.toNat_ofNat']
        rw [Nat.mod_eq_of_lt hub]
      exact ⟨ret1i (by rw [h8]), rfl⟩

end Go.Proofs.Ytbpbpkmjkbndbaa
