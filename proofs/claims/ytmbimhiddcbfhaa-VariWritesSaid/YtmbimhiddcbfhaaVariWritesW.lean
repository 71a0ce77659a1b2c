/- VariWrites' walk. Condition: the slice's cells are readable. -/
import Derived.Test.YtmbimhiddcbfhaaVariAlive
import Derived.OpenShut
namespace Go.Proofs.Ytmbimhiddcbfhaa
open Go.RowKit
set_option linter.unusedVariables false

set_option maxRecDepth 100000 in
set_option maxHeartbeats 1000000 in
theorem writes_in (n : Nat) (x1 : Int) (A2 : Option Addr) (n2 c2 : Nat) (l2 : List Nat) (w : World) (h2 : UL w w.heap.size A2 n2 l2) (hn : n2 ≤ 100) :
    Calls Try.prog 3 #[.int .u64 (n : Int), .int .i64 x1, .slice A2 n2 c2] w fun e w' => e = .returned (.bool true) ∧ Below w.heap.size w w' := by
  obtain ⟨wm, wr, wc, hwm, hw1, hw2⟩ := wide_both n x1
  have hp1 := least_any n
  have hp2 := rleast_any n
  have hpl : (leastL n).length ≤ 8 := by rw [leastL_len]; exact sz_le _
  obtain ⟨pr, HPR⟩ : ∃ v, Hid (v = leastL n) := ⟨_, Lib.hid rfl⟩
  obtain ⟨pc, HPC⟩ : ∃ v, Hid (v = codeL n) := ⟨_, Lib.hid rfl⟩
  rw [← HPR.out, ← HPC.out] at hp1 hp2
  rw [← HPR.out] at hpl
  obtain ⟨pm, HPM⟩ : ∃ v, Hid (v = pr.length) := ⟨_, Lib.hid rfl⟩
  rw [← HPM.out] at hp1 hp2 hpl
  have hr1 := fun W h => row_any A2 n2 c2 l2 W h (by omega)
  have hr2 := fun W h => rrow_any A2 n2 c2 l2 W h (by omega)
  have hrl : (rowR l2).length ≤ 800 := by
    unfold rowR
    split
    · have := rowL_le l2
      rw [h2.len] at this
      omega
    · simp
  obtain ⟨rr, HRR⟩ : ∃ v, Hid (v = rowR l2) := ⟨_, Lib.hid rfl⟩
  obtain ⟨rc, HRC⟩ : ∃ v, Hid (v = rowC l2) := ⟨_, Lib.hid rfl⟩
  rw [← HRR.out, ← HRC.out] at hr1 hr2
  rw [← HRR.out] at hrl
  obtain ⟨rm, HRM⟩ : ∃ v, Hid (v = rr.length) := ⟨_, Lib.hid rfl⟩
  rw [← HRM.out] at hr1 hr2 hrl
  have hs1 := size_any n
  have hs2 := rsize_any n
  obtain ⟨s, HS⟩ : ∃ v, Hid (v = sz (clsL n)) := ⟨_, Lib.hid rfl⟩
  rw [← HS.out] at hs1 hs2
  have P1 := Lib.hid hp1
  have P2 := Lib.hid hp2
  have S1 := Lib.hid hs1
  have S2 := Lib.hid hs2
  have Q1 := Lib.hid hr1
  have Q2 := Lib.hid hr2
  clear hp1 hp2 hr1 hr2 hs1 hs2
  go_enter Try.func3, Try.ntmps3
  go_wp2_with fail
  refine (alive_any _).mono ?_
  rintro e w1 ⟨rfl, hb1⟩
  have U1 := h2.step hb1
  have HB1 := hb1
  clear hb1
  go_wp2_with fail
  refine (P1.out _).mono ?_
  rintro e w2 ⟨A3, c3, rfl, ho, hb⟩
  have R1 := ho.rb
  have U2 := U1.step hb
  have HB2 := bel_next HB1 hb
  clear ho hb U1 HB1
  go_wp2_with fail
  refine (P2.out _).mono ?_
  rintro e w3 ⟨A4, c4, rfl, ho, hb⟩
  have R2 := ho.rb
  have R13 := R1.step hb
  have U3 := U2.step hb
  have HB3 := bel_next HB2 hb
  clear ho hb U2 HB2 R1
  go_wp2_with fail
  refine (hw1.out _).mono ?_
  rintro e w4 ⟨A5, c5, rfl, ho, hb⟩
  have R3 := ho.rb
  have R14 := R13.step hb
  have R24 := R2.step hb
  have U4 := U3.step hb
  have HB4 := bel_next HB3 hb
  clear ho hb U3 HB3 R13 R2
  go_wp2_with fail
  refine (hw2.out _).mono ?_
  rintro e w5 ⟨A6, c6, rfl, ho, hb⟩
  have R4 := ho.rb
  have R15 := R14.step hb
  have R25 := R24.step hb
  have R35 := R3.step hb
  have U5 := U4.step hb
  have HB5 := bel_next HB4 hb
  clear ho hb U4 HB4 R14 R24 R3
  go_wp2_with fail
  refine (Q1.out _ (by exact U5)).mono ?_
  rintro e w6 ⟨A7, c7, rfl, ho, hb⟩
  have R5 := ho.rb
  have R16 := R15.step hb
  have R26 := R25.step hb
  have R36 := R35.step hb
  have R46 := R4.step hb
  have U6 := U5.step hb
  have HB6 := bel_next HB5 hb
  clear ho hb U5 HB5 R15 R25 R35 R4
  go_wp2_with fail
  refine (Q2.out _ (by exact U6)).mono ?_
  rintro e w7 ⟨A8, c8, rfl, ho, hb⟩
  have R6 := ho.rb
  have R17 := R16.step hb
  have R27 := R26.step hb
  have R37 := R36.step hb
  have R47 := R46.step hb
  have R57 := R5.step hb
  have HB7 := bel_next HB6 hb
  clear ho hb U6 HB6 R16 R26 R36 R46 R5
  go_wp2_with fail
  refine (S1.out _).mono ?_
  rintro e w8 ⟨rfl, rfl⟩
  go_wp2_with fail
  refine (S2.out _).mono ?_
  rintro e w8 ⟨rfl, rfl⟩
  go_wp2_with fail
  refine (al_same _ _ _ _ _ _ pr pr _ (by exact R17) (by exact R27) (by unfold maxLen; omega) (by unfold maxLen; omega) true (by simp)).mono ?_
  rintro e w8 ⟨rfl, hb⟩
  have R37' := R37.step hb
  have R47' := R47.step hb
  have R57' := R57.step hb
  have R6' := R6.step hb
  have HB8 := bel_next HB7 hb
  clear hb HB7 R17 R27
  clear R37
  have R37 := R37'
  clear R37'
  clear R47
  have R47 := R47'
  clear R47'
  clear R57
  have R57 := R57'
  clear R57'
  clear R6
  have R6 := R6'
  clear R6'
  go_wp2_with fail
  refine (al_same _ _ _ _ _ _ wr wr _ (by exact R37) (by exact R47) (by unfold maxLen; omega) (by unfold maxLen; omega) true (by simp)).mono ?_
  rintro e w9 ⟨rfl, hb⟩
  have R57' := R57.step hb
  have R6' := R6.step hb
  have HB9 := bel_next HB8 hb
  clear hb HB8 R37 R47
  clear R57
  have R57 := R57'
  clear R57'
  clear R6
  have R6 := R6'
  clear R6'
  go_wp2_with fail
  refine (al_same _ _ _ _ _ _ rr rr _ (by exact R57) (by exact R6) (by unfold maxLen; omega) (by unfold maxLen; omega) true (by simp)).mono ?_
  rintro e w10 ⟨rfl, hb⟩
  have HB10 := bel_next HB9 hb
  clear hb HB9 R57 R6
  go_wp2_with fail
  go_ret
  exact ⟨rfl, HB10⟩

theorem writes_long (x0 x1 : Int) (A2 : Option Addr) (n2 c2 : Nat) (w : World) (hn : 100 < n2) (hm : n2 ≤ 9223372036854775807) :
    Calls Try.prog 3 #[.int .u64 x0, .int .i64 x1, .slice A2 n2 c2] w fun e w' => e = .returned (.bool true) ∧ Below w.heap.size w w' := by
  go_enter Try.func3, Try.ntmps3
  go_wp2_with fail
  refine (alive_any _).mono ?_
  rintro e w1 ⟨rfl, hb1⟩
  go_wp2_with fail
  go_ret
  exact ⟨rfl, hb1⟩

theorem VariWrites_walk (x0 : Int) (x1 : Int) (A2 : Option Addr) (n2 c2 : Nat) (l2 : List Nat) (w : World) (h0 : (Lit.int .u64 x0).wf = true) (h1 : (Lit.int .i64 x1).wf = true) (h2 : UL w w.heap.size A2 n2 l2) (m2 : n2 ≤ c2 ∧ c2 ≤ maxLen) :
    Calls Try.prog 3 #[.int .u64 x0, .int .i64 x1, .slice A2 n2 c2] w fun e w' => e = .returned (.bool true) ∧ Below w.heap.size w w' := by
  have b2 : n2 ≤ 9223372036854775807 := by have := m2; unfold maxLen at this; omega
  have hb : 0 ≤ x0 ∧ x0 ≤ 18446744073709551615 := bounds_u64 h0
  obtain ⟨n, rfl⟩ := Int.eq_ofNat_of_zero_le hb.1
  by_cases hlong : 100 < n2
  · exact writes_long n x1 A2 n2 c2 w hlong b2
  · exact writes_in n x1 A2 n2 c2 l2 w h2 (by omega)
end Go.Proofs.Ytmbimhiddcbfhaa
