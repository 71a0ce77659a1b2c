/- The reference of layer 5 (ghash): a length in bits, in eight bytes. Condition: the length is small. -/
import Derived.Test.YtilpdojliaiokaaPut
namespace Go.Proofs.Ytilpdojliaiokaa
open Go.RowKit
set_option linter.unusedVariables false

/-- Eight bytes of n bytes' bits. -/
def longL (n : Nat) : List UInt8 := putL (n * 8) 8
theorem longL_len (n : Nat) : (longL n).length = 8 := putL_len _ _
attribute [local irreducible] putAt
set_option maxHeartbeats 1000000 in
theorem long_any (n : Nat) (w : World) (hn : n ≤ 1000000000000) :
    Calls Try.prog 31 #[.int .i64 (n : Int)] w (RetB 8 (longL n) w) := by
  obtain ⟨N, HN⟩ : ∃ N, Hid (N = n * 8 ∧ N ≤ 8000000000000) := ⟨_, Lib.hid ⟨rfl, by omega⟩⟩
  have hw : IntKind.i64.wrap ((n : Int) * 8) = (N : Int) := by rw [IntWalk.i64_in _ (by omega), HN.out.1]; omega
  have hz : putAt N 8 8 = List.replicate 8 0 := putAt_full N 8
  have hl : longL n = putL N 8 := by unfold longL; rw [HN.out.1]
  rw [hl]
  go_enter Try.func31, Try.ntmps31
  go_wp2_with (at_make; refine wpList_mk rfl _ _ rfl w.heap.size .i64 .i64 _ _ 8 rfl rfl rfl rfl (by omega) (Nat.le_refl _) ?_; intro w1 hown1 hs1 hb1)
  go_loopw [0, 4] (fun v i wr => ∃ j : Nat, j ≤ 8 ∧ i = .int .i64 ((j : Int) - 1) ∧ v = .int .i64 (downL N (8 - j) : Int) ∧ OwnB wr w.heap.size (some ⟨w.heap.size, 0, none⟩) 8 8 (putAt N 8 j) ∧ Below w.heap.size w wr) (fun _ i _ => (intOf i + 1).toNat)
  case atStart => exact ⟨8, Nat.le_refl _, rfl, by simp [downL], by rw [hz]; exact hown1, hb1⟩
  case round =>
    obtain ⟨j, hj, rfl, rfl, hown, hbel⟩ := hrel
    have hdl := downL_le N (8 - j)
    rcases j with _ | j
    · rw [show ((0 : Nat) : Int) - 1 = -1 from rfl, Nat.sub_zero]
      rw [putAt_zero] at hown
      go_wp2
      go_ret
      exact ⟨_, _, rfl, hown, hbel⟩
    · have e : ((j + 1 : Nat) : Int) - 1 = (j : Int) := by omega
      rw [e]
      clear e
      have hc0 := hown.cellAt (putAt_get N 8 j)
      have hf0 := hown.freeAt j
      obtain ⟨m, HM⟩ : ∃ m, Hid (m = downL N (8 - (j + 1))) := ⟨_, Lib.hid rfl⟩
      rw [← HM.out] at hdl ⊢
      have hm2 : m ≤ 8000000000000 := by have := HN.out.2; omega
      go_wp2
      go_roundw
      case rel =>
        refine ⟨j, by omega, rfl, ?_, ?_, hbel.setCell (Nat.le_refl _) _⟩
        · rw [show 8 - j = (8 - (j + 1)) + 1 from by omega, downL_succ, ← HM.out]
          go_num
        · rw [← putAt_next N 8 j (by omega)]
          exact hown.stored j _ _ (by unfold bv; rw [convert_u8, show 8 - 1 - j = 8 - (j + 1) from by omega, ← HM.out])
      case measure => simp [intOf]
end Go.Proofs.Ytilpdojliaiokaa
