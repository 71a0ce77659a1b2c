/- VariOrder's walk: the least forms' order. -/
import Derived.Test.YtmbimhiddcbfhaaVariAlive
import Derived.OpenShut
namespace Go.Proofs.Ytmbimhiddcbfhaa
open Go.RowKit
set_option linter.unusedVariables false

theorem numL_consV (x : UInt8) (l : List UInt8) : numL (x :: l) = x.toNat * 256 ^ l.length + numL l := by
  have h : ∀ (l : List UInt8) (a : Nat), l.foldl (fun n b => n * 256 + b.toNat) a = a * 256 ^ l.length + numL l := by
    intro l
    induction l with
    | nil => intro a; simp [numL]
    | cons y l ih =>
      intro a
      have e : numL (y :: l) = y.toNat * 256 ^ l.length + numL l := by
        show l.foldl _ (0 * 256 + y.toNat) = _
        rw [ih]
        simp
      rw [List.foldl_cons, ih, e, List.length_cons, Nat.pow_succ, Nat.add_mul]
      have : a * 256 * 256 ^ l.length = a * (256 ^ l.length * 256) := by rw [Nat.mul_assoc, Nat.mul_comm 256]
      omega
  show l.foldl _ (0 * 256 + x.toNat) = _
  rw [h]
  simp
theorem less_numV : ∀ (a b : List UInt8), a.length = b.length → Op.bytesLess a b = decide (numL a < numL b)
  | [], [], _ => by simp [Op.bytesLess]
  | x :: a, y :: b, h => by
    have hl : a.length = b.length := by simpa using h
    have h1 := numL_lt _ a rfl
    have h2 := numL_lt _ b rfl
    rw [hl] at h1
    rw [Op.bytesLess, less_numV a b hl, numL_consV, numL_consV, hl]
    rw [Bool.eq_iff_iff]
    simp only [Bool.or_eq_true, Bool.and_eq_true, decide_eq_true_eq, beq_iff_eq]
    rw [UInt8.lt_iff_toNat_lt, ← UInt8.toNat_inj]
    generalize 256 ^ b.length = P at *
    generalize numL a = p at *
    generalize numL b = q at *
    constructor
    · rintro (hlt | ⟨heq, hlt⟩)
      · have := Nat.mul_le_mul_right P (Nat.succ_le_of_lt hlt)
        rw [Nat.succ_mul] at this
        omega
      · rw [heq]; omega
    · intro hh
      rcases Nat.lt_trichotomy x.toNat y.toNat with h3 | h3 | h3
      · exact .inl h3
      · rw [h3] at hh; exact .inr ⟨h3, by omega⟩
      · have := Nat.mul_le_mul_right P (Nat.succ_le_of_lt h3)
        rw [Nat.succ_mul] at this
        omega
theorem clsL_mono {v w : Nat} (h : v ≤ w) : clsL v ≤ clsL w := by
  rcases Nat.lt_or_ge 3 (clsL w) with h4 | h4
  · have := clsL_le v; omega
  · exact clsL_of_fit h4 (Nat.lt_of_le_of_lt h (clsL_fit rfl h4))

set_option maxRecDepth 100000 in
set_option maxHeartbeats 1000000 in
theorem order_in (v w kv kw m1 m2 : Nat) (a b : List UInt8) (W : World)
    (hp1 : Hid (∀ U : World, Calls Try.prog 8 #[.int .u64 (v : Int)] U (RetBE m1 a 0 U)))
    (hp2 : Hid (∀ U : World, Calls Try.prog 8 #[.int .u64 (w : Int)] U (RetBE m2 b 0 U)))
    (hcut : Hid (∀ j, j < m1 → tkV (a.take j) = 0 ∧ tkN (a.take j) = 0 ∧ tkE (a.take j) = 12))
    (hm1 : m1 ≤ 8) (hm2 : m2 ≤ 8)
    (hle : v < w → m1 ≤ m2) (hless : v < w → m1 = m2 → Op.bytesLess a b = true) :
    Calls Try.prog 6 #[.int .u64 (v : Int), .int .u64 (w : Int)] W fun e w' => e = .returned (.bool true) ∧ Below W.heap.size W w' := by
  have HLE := Lib.hid hle
  have HLS := Lib.hid hless
  clear hle hless
  go_enter Try.func6, Try.ntmps6
  go_wp2_with fail
  refine (alive_any _).mono ?_
  rintro e w1 ⟨rfl, hb1⟩
  have HB1 := hb1
  clear hb1
  go_wp2_with fail
  refine (hp1.out _).mono ?_
  rintro e w2 ⟨A1, c1, rfl, ho, hb⟩
  have R1 := ho.rb
  have hc1 := ho.cap.1
  have HB2 := bel_next HB1 hb
  clear ho hb HB1
  go_wp2_with fail
  refine (hp2.out _).mono ?_
  rintro e w3 ⟨A2, c2, rfl, ho, hb⟩
  have R2 := ho.rb
  have R13 := R1.step hb
  have HB3 := bel_next HB2 hb
  have HRR := Lib.hid (And.intro R13 R2)
  clear ho hb HB2 R1 R13 R2
  go_wp2_with fail
  go_loopw [9, 10, 11, 12] (fun i _ _ _ wr => ∃ k : Nat, k ≤ m1 ∧ i = .int .i64 k ∧ wr = w3) (fun i _ _ _ _ => m1 - (intOf i).toNat)
  case atStart => exact ⟨0, Nat.zero_le _, rfl, rfl⟩
  case round =>
    obtain ⟨k, hk, rfl, rfl⟩ := hrel
    by_cases hlt : k < m1
    · have hq := cut_h A1 m1 c1 k (by omega)
      have hpart := HRR.out.1.part (Nat.zero_le k) (by omega : k ≤ m1) hc1
      rw [Nat.sub_zero, List.drop_zero] at hpart
      have htk := take_any _ k c1 _ _ hpart (by omega) (by omega)
      obtain ⟨e1, e2, e3⟩ := hcut.out k hlt
      rw [e1, e2, e3] at htk
      have HT := Lib.hid htk
      clear htk hpart e1 e2 e3
      go_wp2_with fail
      refine HT.out.mono ?_
      rintro e w4 ⟨rfl, rfl⟩
      go_wp2_with fail
      go_roundw
      case rel => exact ⟨k + 1, by omega, by go_num, trivial⟩
      case measure => simp [intOf]; omega
    · obtain rfl : k = m1 := by omega
      by_cases hvw : v < w
      · have hle := HLE.out hvw
        have hs0 := run_str HRR.out.1 c1
        have hs1 := run_str HRR.out.2 c2
        by_cases hml : k < m2
        · go_wp2
          go_ret
          exact ⟨rfl, HB3⟩
        · obtain rfl : k = m2 := by omega
          have hless : Op.bytesLess (strL a).toList (strL b).toList = true := by
            rw [Lib.toList_data, Lib.toList_data]
            exact HLS.out hvw rfl
          go_wp2
          go_ret
          exact ⟨rfl, HB3⟩
      · go_wp2
        go_ret
        exact ⟨rfl, HB3⟩

set_option maxRecDepth 100000 in
set_option maxHeartbeats 1000000 in
theorem order_bad (v w : Nat) (W : World) (h : clsL v = 4 ∨ clsL w = 4) :
    Calls Try.prog 6 #[.int .u64 (v : Int), .int .u64 (w : Int)] W fun e w' => e = .returned (.bool true) ∧ Below W.heap.size W w' := by
  have hp1 := least_any v
  have hp2 := least_any w
  have hc1 := clsL_le v
  have hc2 := clsL_le w
  have hv4 := clsL_four (n := v)
  have hw4 := clsL_four (n := w)
  unfold codeL at hp1 hp2
  obtain ⟨a, HA⟩ : ∃ x, Hid (x = leastL v) := ⟨_, Lib.hid rfl⟩
  obtain ⟨b, HB⟩ : ∃ x, Hid (x = leastL w) := ⟨_, Lib.hid rfl⟩
  rw [← HA.out] at hp1
  rw [← HB.out] at hp2
  generalize a.length = m1 at hp1
  generalize b.length = m2 at hp2
  by_cases h1 : clsL v ≤ 3
  · have hv : v < 4611686018427387904 := by omega
    have h2 : clsL w = 4 := by omega
    have hw : ¬ w < 4611686018427387904 := by omega
    have hdv : decide ((v : Int) < 4611686018427387904) = true := decide_eq_true (by omega)
    have hdw : decide ((w : Int) < 4611686018427387904) = false := decide_eq_false (by omega)
    clear hv hw
    rw [if_pos h1] at hp1
    rw [if_neg (by omega)] at hp2
    have P1 := Lib.hid hp1
    have P2 := Lib.hid hp2
    clear hp1 hp2 hv4 hw4 h
    go_enter Try.func6, Try.ntmps6
    go_wp2_with fail
    refine (alive_any _).mono ?_
    rintro e w1 ⟨rfl, hb1⟩
    go_wp2_with fail
    refine (P1.out _).mono ?_
    rintro e w2 ⟨A1, c1, rfl, ho, hb2⟩
    go_wp2_with fail
    refine (P2.out _).mono ?_
    rintro e w3 ⟨A2, c2, rfl, ho2, hb3⟩
    go_wp2_with fail
    go_ret
    exact ⟨rfl, bel_next (bel_next hb1 hb2) hb3⟩
  · have hv : ¬ v < 4611686018427387904 := by omega
    have hdv : decide ((v : Int) < 4611686018427387904) = false := decide_eq_false (by omega)
    clear hv
    rw [if_neg h1] at hp1
    have P1 := Lib.hid hp1
    clear hp1 hv4 h
    by_cases h2 : clsL w ≤ 3
    · have hdw : decide ((w : Int) < 4611686018427387904) = true := decide_eq_true (by omega)
      rw [if_pos h2] at hp2
      have P2 := Lib.hid hp2
      clear hp2 hw4
      go_enter Try.func6, Try.ntmps6
      go_wp2_with fail
      refine (alive_any _).mono ?_
      rintro e w1 ⟨rfl, hb1⟩
      go_wp2_with fail
      refine (P1.out _).mono ?_
      rintro e w2 ⟨A1, c1, rfl, ho, hb2⟩
      go_wp2_with fail
      refine (P2.out _).mono ?_
      rintro e w3 ⟨A2, c2, rfl, ho2, hb3⟩
      go_wp2_with fail
      go_ret
      exact ⟨rfl, bel_next (bel_next hb1 hb2) hb3⟩
    · have hdw : decide ((w : Int) < 4611686018427387904) = false := decide_eq_false (by omega)
      rw [if_neg h2] at hp2
      have P2 := Lib.hid hp2
      clear hp2 hw4
      go_enter Try.func6, Try.ntmps6
      go_wp2_with fail
      refine (alive_any _).mono ?_
      rintro e w1 ⟨rfl, hb1⟩
      go_wp2_with fail
      refine (P1.out _).mono ?_
      rintro e w2 ⟨A1, c1, rfl, ho, hb2⟩
      go_wp2_with fail
      refine (P2.out _).mono ?_
      rintro e w3 ⟨A2, c2, rfl, ho2, hb3⟩
      go_wp2_with fail
      go_ret
      exact ⟨rfl, bel_next (bel_next hb1 hb2) hb3⟩

theorem VariOrder_walk (x0 : Int) (x1 : Int) (w : World) (h0 : (Lit.int .u64 x0).wf = true) (h1 : (Lit.int .u64 x1).wf = true) :
    Calls Try.prog 6 #[.int .u64 x0, .int .u64 x1] w fun e w' => e = .returned (.bool true) ∧ Below w.heap.size w w' := by
  have hb0 : 0 ≤ x0 ∧ x0 ≤ 18446744073709551615 := bounds_u64 h0
  have hb1 : 0 ≤ x1 ∧ x1 ≤ 18446744073709551615 := bounds_u64 h1
  obtain ⟨n, rfl⟩ := Int.eq_ofNat_of_zero_le hb0.1
  obtain ⟨m, rfl⟩ := Int.eq_ofNat_of_zero_le hb1.1
  have hc0 := clsL_le n
  have hc1 := clsL_le m
  by_cases hbad : clsL n = 4 ∨ clsL m = 4
  · exact order_bad n m w hbad
  · have hn : clsL n ≤ 3 := by omega
    have hm : clsL m ≤ 3 := by omega
    have hfn := clsL_fit (n := n) rfl hn
    have hfm := clsL_fit (n := m) rfl hm
    have hpn := least_any n
    have hpm := least_any m
    rw [leastL_len] at hpn hpm
    unfold leastL codeL at hpn hpm
    rw [if_pos hn, if_pos hn] at hpn
    rw [if_pos hm, if_pos hm] at hpm
    refine order_in n m (clsL n) (clsL m) (sz (clsL n)) (sz (clsL m)) _ _ w (Lib.hid hpn) (Lib.hid hpm) (Lib.hid fun j hj => tk_cut hn hfn hj) (sz_le _) (sz_le _) (fun h => ?_) (fun h he => ?_)
    · have := clsL_mono (Nat.le_of_lt h)
      rcases Nat.lt_or_ge (clsL n) (clsL m) with h2 | h2
      · exact Nat.le_of_lt (sz_lt h2 hm)
      · rw [show clsL n = clsL m from by omega]; exact Nat.le_refl _
    · have hmo := clsL_mono (Nat.le_of_lt h)
      have hcc : clsL n = clsL m := by
        rcases Nat.lt_or_ge (clsL n) (clsL m) with h2 | h2
        · have := sz_lt h2 hm; omega
        · omega
      rw [less_numV _ _ (by rw [formL_len, formL_len, hcc]), num_form hn hfn, num_form hm hfm, hcc]
      exact decide_eq_true (by omega)
end Go.Proofs.Ytmbimhiddcbfhaa
