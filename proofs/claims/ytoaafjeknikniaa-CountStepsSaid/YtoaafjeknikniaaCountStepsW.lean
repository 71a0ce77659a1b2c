/- CountSteps' walk: every Next and After answers what the document says. No condition. -/
import Derived.Test.YtoaafjeknikniaaCountAlive
import Derived.Test.YtoaafjeknikniaaOpen
namespace Go.Proofs.Ytoaafjeknikniaa
attribute [local irreducible] wsW keyUpTo keyF lastW turn0 encUp decUp aftL encL tableL blksL blkL strmL putL numL
open Go.RowKit
set_option linter.unusedVariables false

theorem big_len {n c : Nat} (h : n ≤ c ∧ c ≤ maxLen) : n ≤ 9223372036854775807 := by unfold maxLen at h; omega
set_option maxRecDepth 100000 in
set_option maxHeartbeats 4000000 in
theorem CountSteps_walk (A0 : Option Addr) (n0 c0 : Nat) (l0 : List UInt8) (x1 : Int) (w : World) (h0 : RB w w.heap.size A0 n0 l0) (m0 : n0 ≤ c0 ∧ c0 ≤ maxLen) (h1 : (Lit.int .u64 x1).wf = true) :
    Calls Try.prog 3 #[.slice A0 n0 c0, .int .u64 x1] w fun e w' => e = .returned (.bool true) ∧ Below w.heap.size w w' := by
  have b1 := bounds_u64 h1
  obtain ⟨k, rfl⟩ : ∃ k : Nat, x1 = (k : Int) := ⟨x1.toNat, by omega⟩
  have hk : k < 2 ^ 64 := by omega
  have HM := Lib.hid m0
  have hbn := big_len m0
  have H0 := Lib.hid h0
  have HL := Lib.hid h0.len
  clear h0 m0 h1 b1
  by_cases hlong : 100 < n0
  · have hd : decide (100 < (n0 : Int)) = true := decide_eq_true (by omega)
    go_enter Try.func3, Try.ntmps3
    go_wp2_with fail
    refine (alive_any _).mono ?_
    rintro e w1 ⟨rfl, hb1⟩
    go_wp2_with fail
    go_ret
    exact ⟨rfl, hb1⟩
  · have hd : decide (100 < (n0 : Int)) = false := decide_eq_false (by omega)
    by_cases h16 : n0 = 16
    · subst h16
      go_enter Try.func3, Try.ntmps3
      go_wp2_with fail
      refine (alive_any _).mono ?_
      rintro e w1 ⟨rfl, hb1⟩
      have HB1 := Lib.hid hb1
      clear hb1
      go_wp2_with fail
      refine (copy_any A0 16 c0 0 l0 _ (by exact H0.out.step HB1.out) (by omega)).mono ?_
      rintro e w2 ⟨A2, c2, rfl, ho2, hb2⟩
      have HR2 := Lib.hid ho2.rb
      have hc2 := Lib.hid ho2.cap
      have HB2 := Lib.hid (bel_next HB1.out hb2)
      clear ho2 hb2
      go_wp2_with fail
      refine (next_any A2 c2 l0 _ (by exact HR2.out) hc2.out.1).mono ?_
      rintro e w3 ⟨A3, c3, rfl, ho3, hb3⟩
      have HR3 := Lib.hid ho3.rb
      have hc3 := Lib.hid ho3.cap
      have HB3 := Lib.hid (bel_next HB2.out hb3)
      have HR23 := Lib.hid (HR2.out.step hb3)
      clear ho3 hb3 HR2
      go_wp2_with fail
      refine (after_any A2 c2 l0 k _ (by exact HR23.out) hc2.out.1 hk).mono ?_
      rintro e w4 ⟨A4, c4, rfl, ho4, hb4⟩
      have HR4 := Lib.hid ho4.rb
      have hc4 := Lib.hid ho4.cap
      have HB4 := Lib.hid (bel_next HB3.out hb4)
      have HR24 := Lib.hid (HR23.out.step hb4)
      have HR34 := Lib.hid (HR3.out.step hb4)
      clear ho4 hb4 HR23 HR3
      go_wp2_with fail
      refine (rafter_any A0 c0 l0 1 _ (by exact H0.out.step HB4.out) (by omega)).mono ?_
      rintro e w5 ⟨A5, c5, rfl, ho5, hb5⟩
      have HR5 := Lib.hid ho5.rb
      have HB5 := Lib.hid (bel_next HB4.out hb5)
      have HR25 := Lib.hid (HR24.out.step hb5)
      have HR35 := Lib.hid (HR34.out.step hb5)
      have HR45 := Lib.hid (HR4.out.step hb5)
      clear ho5 hb5 HR24 HR34 HR4
      go_wp2_with fail
      refine (al_same A3 A5 16 c3 16 c5 (aftL l0 1) (aftL l0 1) _ (by exact HR35.out) (by exact HR5.out) (by unfold maxLen; omega) (by unfold maxLen; omega) true (by simp)).mono ?_
      rintro e w6 ⟨rfl, hb6⟩
      have HB6 := Lib.hid (bel_next HB5.out hb6)
      have HR26 := Lib.hid (HR25.out.step hb6)
      have HR46 := Lib.hid (HR45.out.step hb6)
      clear hb6 HR25 HR35 HR45 HR5
      go_wp2_with fail
      refine (rafter_any A0 c0 l0 k _ (by exact H0.out.step HB6.out) hk).mono ?_
      rintro e w7 ⟨A7, c7, rfl, ho7, hb7⟩
      have HR7 := Lib.hid ho7.rb
      have HB7 := Lib.hid (bel_next HB6.out hb7)
      have HR27 := Lib.hid (HR26.out.step hb7)
      have HR47 := Lib.hid (HR46.out.step hb7)
      clear ho7 hb7 HR26 HR46
      go_wp2_with fail
      refine (al_same A4 A7 16 c4 16 c7 (aftL l0 k) (aftL l0 k) _ (by exact HR47.out) (by exact HR7.out) (by unfold maxLen; omega) (by unfold maxLen; omega) true (by simp)).mono ?_
      rintro e w8 ⟨rfl, hb8⟩
      have HB8 := Lib.hid (bel_next HB7.out hb8)
      have HR28 := Lib.hid (HR27.out.step hb8)
      clear hb8 HR27 HR47 HR7
      go_wp2_with fail
      refine (al_same A2 A0 16 c2 16 c0 l0 l0 _ (by exact HR28.out) (by exact H0.out.step HB8.out) (by unfold maxLen; omega) (by unfold maxLen; omega) true (by simp)).mono ?_
      rintro e w9 ⟨rfl, hb9⟩
      have HB9 := Lib.hid (bel_next HB8.out hb9)
      clear hb9 HR28
      go_wp2_with fail
      go_ret
      exact ⟨rfl, HB9.out⟩
    · have hq : ((n0 : Int) == 16) = false := by rw [beq_eq_false_iff_ne]; omega
      have hq2 : ((n0 : Int) != 16) = true := by simp [bne, hq]
      go_enter Try.func3, Try.ntmps3
      go_wp2_with fail
      refine (alive_any _).mono ?_
      rintro e w1 ⟨rfl, hb1⟩
      have HB1 := Lib.hid hb1
      clear hb1
      go_wp2_with fail
      refine (copy_any A0 n0 c0 0 l0 _ (by exact H0.out.step HB1.out) (by omega)).mono ?_
      rintro e w2 ⟨A2, c2, rfl, ho2, hb2⟩
      have HB2 := Lib.hid (bel_next HB1.out hb2)
      clear ho2 hb2
      go_wp2_with fail
      refine (next_bad A2 n0 c2 _ h16).mono ?_
      rintro e w3 ⟨rfl, rfl⟩
      go_wp2_with fail
      refine (after_bad A2 n0 c2 k _ h16).mono ?_
      rintro e w3 ⟨rfl, rfl⟩
      go_wp2_with fail
      go_ret
      exact ⟨rfl, HB2.out⟩
end Go.Proofs.Ytoaafjeknikniaa
