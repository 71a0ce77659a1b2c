/- VariTakes' walk. Condition: the slice's cells are readable. -/
import Derived.Test.YtmbimhiddcbfhaaVariAlive
namespace Go.Proofs.Ytmbimhiddcbfhaa
open Go.RowKit
set_option linter.unusedVariables false

set_option maxRecDepth 100000 in
set_option maxHeartbeats 1000000 in
theorem VariTakes_walk (A0 : Option Addr) (n0 c0 : Nat) (l0 : List UInt8) (w : World) (h0 : RB w w.heap.size A0 n0 l0) (m0 : n0 ≤ c0 ∧ c0 ≤ maxLen) :
    Calls Try.prog 4 #[.slice A0 n0 c0] w fun e w' => e = .returned (.bool true) ∧ Below w.heap.size w w' := by
  have b0 : n0 ≤ 9223372036854775807 := by have := m0; unfold maxLen at this; omega
  have m1 := m0.1
  clear m0
  by_cases hlong : 3000 < n0
  · go_enter Try.func4, Try.ntmps4
    go_wp2_with (go_at_call 7; refine (alive_any _).mono ?_; rintro e w1 ⟨rfl, hb1⟩)
    go_ret
    exact ⟨rfl, hb1⟩
  · have htk := fun A c W h hc => take_any A n0 c l0 W h hc b0
    have hrt := fun A c W h hc => rtake_any A n0 c l0 W h hc b0
    obtain ⟨v1, HV1⟩ : ∃ v, Hid (v = tkV l0) := ⟨_, Lib.hid rfl⟩
    obtain ⟨v2, HV2⟩ : ∃ v, Hid (v = tkN l0) := ⟨_, Lib.hid rfl⟩
    obtain ⟨v3, HV3⟩ : ∃ v, Hid (v = tkE l0) := ⟨_, Lib.hid rfl⟩
    rw [← HV1.out, ← HV2.out, ← HV3.out] at htk hrt
    have H1 := Lib.hid htk
    have H2 := Lib.hid hrt
    clear htk hrt
    go_enter Try.func4, Try.ntmps4
    go_wp2_with fail
    refine (alive_any _).mono ?_
    rintro e w1 ⟨rfl, hb1⟩
    have h01 := h0.step hb1
    have HB1 := hb1
    clear hb1
    go_wp2_with fail
    refine (copy_any _ _ _ 0 l0 _ (by exact h01) (by omega)).mono ?_
    rintro e w2 ⟨A2, c2, rfl, ho2, hb2⟩
    have h02 := h01.step hb2
    have HB2 := bel_next HB1 hb2
    have R2 := ho2.rb
    have hc2 := ho2.cap.1
    clear hb2 ho2 HB1 h01
    go_wp2_with fail
    refine (H1.out _ _ _ (by exact R2) hc2).mono ?_
    rintro e w3 ⟨rfl, rfl⟩
    go_wp2_with fail
    refine (H2.out _ _ _ (by exact h02) m1).mono ?_
    rintro e w3 ⟨rfl, hb3⟩
    have h03 := h02.step hb3
    have R3 := R2.step hb3
    have HB3 := bel_next HB2 hb3
    clear hb3 h02 R2 HB2
    go_wp2_with fail
    refine (al_same _ _ _ _ _ _ l0 l0 _ (by exact R3) (by exact h03) (by unfold maxLen; omega) (by unfold maxLen; omega) true (by simp)).mono ?_
    rintro e w4 ⟨rfl, hb4⟩
    have HB4 := bel_next HB3 hb4
    clear hb4
    go_wp2_with fail
    go_ret
    exact ⟨rfl, HB4⟩
end Go.Proofs.Ytmbimhiddcbfhaa
