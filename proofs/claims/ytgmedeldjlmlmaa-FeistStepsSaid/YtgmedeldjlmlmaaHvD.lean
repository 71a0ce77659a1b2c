/- Layer 14's references Trim and Block. Conditions: the slices' cells are readable, lengths are at most a million. -/
import Derived.Test.YtgmedeldjlmlmaaHvC
namespace Go.Proofs.Ytgmedeldjlmlmaa
open Go.RowKit
set_option linter.unusedVariables false
set_option linter.unusedSimpArgs false
theorem trimR_no {l : List UInt8} {z : Int} {left : Bool} (h : fitB z l.length = false) : trimR l z left = ([], 11) := by unfold trimR; rw [h]; rfl
theorem blockR_no {l : List UInt8} {z p : Int} (h : (fitB z l.length && decide (0 ≤ p ∧ p ≤ 255)) = false) : blockR l z p = ([], 11) := by unfold blockR; rw [h]; rfl
theorem rep_snoc (k : Nat) : List.replicate (k + 1) (0 : UInt8) = List.replicate k 0 ++ [0] := List.replicate_succ'
theorem by_of (k : Nat) (h : k ≤ 255) : bv (UInt8.ofNat k) = .int .u8 (k : Int) := by
  unfold bv
  rw [UInt8.toNat_ofNat']
  congr 1
  omega
attribute [local irreducible] foursL pairsL cutR trimL joinL blockL
end Go.Proofs.Ytgmedeldjlmlmaa
