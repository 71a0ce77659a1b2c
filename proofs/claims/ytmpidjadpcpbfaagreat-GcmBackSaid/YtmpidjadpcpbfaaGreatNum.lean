/- octet.Num and the reference's Num give the number of at most eight bytes, and refuse more. Condition: the slice's cells are readable. -/
import Derived.Test.YtmpidjadpcpbfaaGreatBase
import Derived.Test.YtmpidjadpcpbfaaGreatChecked
namespace Go.Proofs.YtmpidjadpcpbfaaGreat
open Go.RowKit
set_option linter.unusedVariables false

set_option maxHeartbeats 400000 in
theorem num_few (A : Option Addr) (n c B : Nat) (l : List UInt8) (w : World) (h : RB w B A n l) (hn : n ≤ 8) :
    Calls Tryz.prog 68 #[.slice A n c] w fun e w' => e = .returned (.tuple #[.int .u64 (numL l : Int), .int .i64 0]) ∧ w = w' := by
  go_enter Tryz.func68, Tryz.ntmps68
  go_wp2
  go_loop [4, 6, 12] (fun v _ i => ∃ k : Nat, k ≤ n ∧ i = .int .i64 k ∧ v = .int .u64 (numL (l.take k) : Int)) (fun _ _ i => n - (intOf i).toNat)
  case atStart => exact ⟨0, Nat.zero_le _, rfl, rfl⟩
  case round =>
    obtain ⟨k, hk, rfl, rfl⟩ := hrel
    by_cases hlt : k < n
    · obtain ⟨b, o, rfl, hb, x, hx, hc⟩ := h.at_ hlt
      have h1 := numL_lt7 l k (by omega)
      have h2 := byte_lt x
      have HX := Lib.hid hx
      clear hx
      go_wp2
      go_round
      case rel => exact ⟨k + 1, by omega, by go_num, by rw [take_snoc HX.out, numL_snoc, or_byte _ _ h1]⟩
      case measure => simp [intOf]; omega
    · go_wp2
      go_ret2
      exact ⟨ret2 (by rw [List.take_of_length_le (by have := h.len; omega)]) rfl, rfl⟩

set_option maxHeartbeats 400000 in
theorem num_many (A : Option Addr) (n c : Nat) (w : World) (hn : 8 < n) (hm : n ≤ maxLen) :
    Calls Tryz.prog 68 #[.slice A n c] w fun e w' => e = .returned (.tuple #[.int .u64 0, .int .i64 11]) ∧ w = w' := by
  unfold maxLen at hm
  go_enter Tryz.func68, Tryz.ntmps68
  go_wp2
  go_ret2
  exact ⟨rfl, rfl⟩

end Go.Proofs.YtmpidjadpcpbfaaGreat
