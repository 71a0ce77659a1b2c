/- Layer 16's text that is shown, in numbers: three blocks by the key 1, 0, 0 .. No conditions; nothing is claimed of the program here. -/
import Derived.Test.YtdhnknkochbekaaGreatFsP
import Derived.Test.YtdhnknkochbekaaGreatAesTab
import Derived.Test.YtdhnknkochbekaaGreatAesInvW
namespace Go.Proofs.YtdhnknkochbekaaGreat
open Go.RowKit
set_option linter.unusedVariables false
def keyU : List UInt8 := [1, 0, 0, 0, 0, 0, 0, 0, 0, 0, 0, 0, 0, 0, 0, 0]
set_option maxRecDepth 100000 in
theorem mn_blocks_v : encL keyU tabV [1, 2, 3, 0, 0, 0, 0, 0, 0, 0, 0, 0, 0, 0, 7, 1] = [118, 55, 37, 25, 250, 174, 187, 64, 127, 197, 76, 30, 125, 185, 207, 89] ∧ encL keyU tabV [2, 50, 35, 30, 0, 0, 0, 0, 0, 0, 0, 0, 0, 0, 7, 2] = [192, 152, 18, 121, 229, 111, 79, 242, 17, 227, 248, 152, 225, 26, 20, 67] ∧ encL keyU tabV [193, 154, 17, 112, 0, 0, 0, 0, 0, 0, 0, 0, 0, 0, 7, 3] = [48, 87, 232, 255, 214, 132, 150, 151, 74, 107, 162, 90, 41, 103, 140, 170] := by decide +kernel
theorem mn_blocks : encL keyU tableL [1, 2, 3, 0, 0, 0, 0, 0, 0, 0, 0, 0, 0, 0, 7, 1] = [118, 55, 37, 25, 250, 174, 187, 64, 127, 197, 76, 30, 125, 185, 207, 89] ∧ encL keyU tableL [2, 50, 35, 30, 0, 0, 0, 0, 0, 0, 0, 0, 0, 0, 7, 2] = [192, 152, 18, 121, 229, 111, 79, 242, 17, 227, 248, 152, 225, 26, 20, 67] ∧ encL keyU tableL [193, 154, 17, 112, 0, 0, 0, 0, 0, 0, 0, 0, 0, 0, 7, 3] = [48, 87, 232, 255, 214, 132, 150, 151, 74, 107, 162, 90, 41, 103, 140, 170] := by
  rw [tab_eq]
  exact mn_blocks_v
theorem mn_cut : cutR [1, 2, 3, 4, 5, 6, 7] = ([1, 2, 3, 0], [4, 5, 6, 7], 0) := by decide +kernel
theorem mn_b1 : blockL [1, 2, 3, 0] 7 1 = [1, 2, 3, 0, 0, 0, 0, 0, 0, 0, 0, 0, 0, 0, 7, 1] := by decide +kernel
theorem mn_b2 : blockL [2, 50, 35, 30] 7 2 = [2, 50, 35, 30, 0, 0, 0, 0, 0, 0, 0, 0, 0, 0, 7, 2] := by decide +kernel
theorem mn_b3 : blockL [193, 154, 17, 112] 7 3 = [193, 154, 17, 112, 0, 0, 0, 0, 0, 0, 0, 0, 0, 0, 7, 3] := by decide +kernel
theorem mn_t1 : trimL (xorL [4, 5, 6, 7] [118, 55, 37, 25, 250, 174, 187, 64, 127, 197, 76, 30, 125, 185, 207, 89]) 7 false = [2, 50, 35, 30] := by decide +kernel
theorem mn_t2 : trimL (xorL [1, 2, 3, 0] [192, 152, 18, 121, 229, 111, 79, 242, 17, 227, 248, 152, 225, 26, 20, 67]) 7 true = [193, 154, 17, 112] := by decide +kernel
theorem mn_t3 : trimL (xorL [2, 50, 35, 30] [48, 87, 232, 255, 214, 132, 150, 151, 74, 107, 162, 90, 41, 103, 140, 170]) 7 false = [2, 101, 203, 225] := by decide +kernel
attribute [local irreducible] encL tableL cutR blockL trimL xorL joinL keyU
theorem mn_p1 {E : List UInt8 → List UInt8} (h : E [1, 2, 3, 0, 0, 0, 0, 0, 0, 0, 0, 0, 0, 0, 7, 1] = [118, 55, 37, 25, 250, 174, 187, 64, 127, 197, 76, 30, 125, 185, 207, 89]) : passP E 7 ([1, 2, 3, 0], [4, 5, 6, 7]) 1 = ([1, 2, 3, 0], [2, 50, 35, 30]) := by
  have a1 : addL E [1, 2, 3, 0] [4, 5, 6, 7] 7 1 false = [2, 50, 35, 30] := by unfold addL; rw [mn_b1, h, mn_t1]
  unfold passP
  rw [if_neg (by decide)]
  simp only
  rw [a1]
theorem mn_p2 {E : List UInt8 → List UInt8} (h : E [2, 50, 35, 30, 0, 0, 0, 0, 0, 0, 0, 0, 0, 0, 7, 2] = [192, 152, 18, 121, 229, 111, 79, 242, 17, 227, 248, 152, 225, 26, 20, 67]) : passP E 7 ([1, 2, 3, 0], [2, 50, 35, 30]) 2 = ([193, 154, 17, 112], [2, 50, 35, 30]) := by
  have a1 : addL E [2, 50, 35, 30] [1, 2, 3, 0] 7 2 true = [193, 154, 17, 112] := by unfold addL; rw [mn_b2, h, mn_t2]
  unfold passP
  rw [if_pos (by decide)]
  simp only
  rw [a1]
theorem mn_p3 {E : List UInt8 → List UInt8} (h : E [193, 154, 17, 112, 0, 0, 0, 0, 0, 0, 0, 0, 0, 0, 7, 3] = [48, 87, 232, 255, 214, 132, 150, 151, 74, 107, 162, 90, 41, 103, 140, 170]) : passP E 7 ([193, 154, 17, 112], [2, 50, 35, 30]) 3 = ([193, 154, 17, 112], [2, 101, 203, 225]) := by
  have a1 : addL E [193, 154, 17, 112] [2, 50, 35, 30] 7 3 false = [2, 101, 203, 225] := by unfold addL; rw [mn_b3, h, mn_t3]
  unfold passP
  rw [if_neg (by decide)]
  simp only
  rw [a1]
theorem mn_p4 (E : List UInt8 → List UInt8) (s : List UInt8 × List UInt8) : (passP E 7 s 4).2 = s.2 := by
  unfold passP
  rw [if_pos (by decide)]
theorem mn_four {E : List UInt8 → List UInt8} (h1 : E [1, 2, 3, 0, 0, 0, 0, 0, 0, 0, 0, 0, 0, 0, 7, 1] = [118, 55, 37, 25, 250, 174, 187, 64, 127, 197, 76, 30, 125, 185, 207, 89]) (h2 : E [2, 50, 35, 30, 0, 0, 0, 0, 0, 0, 0, 0, 0, 0, 7, 2] = [192, 152, 18, 121, 229, 111, 79, 242, 17, 227, 248, 152, 225, 26, 20, 67]) (h3 : E [193, 154, 17, 112, 0, 0, 0, 0, 0, 0, 0, 0, 0, 0, 7, 3] = [48, 87, 232, 255, 214, 132, 150, 151, 74, 107, 162, 90, 41, 103, 140, 170]) : (passesP E 7 ([1, 2, 3, 0], [4, 5, 6, 7]) [1, 2, 3, 4]).2 = [2, 101, 203, 225] := by
  unfold passesP
  rw [List.foldl_cons, mn_p1 h1, List.foldl_cons, mn_p2 h2, List.foldl_cons, mn_p3 h3, List.foldl_cons, List.foldl_nil, mn_p4]
/-- The text that is shown is not mixed to itself. -/
theorem mn_mixed_of {E : List UInt8 → List UInt8} (h1 : E [1, 2, 3, 0, 0, 0, 0, 0, 0, 0, 0, 0, 0, 0, 7, 1] = [118, 55, 37, 25, 250, 174, 187, 64, 127, 197, 76, 30, 125, 185, 207, 89]) (h2 : E [2, 50, 35, 30, 0, 0, 0, 0, 0, 0, 0, 0, 0, 0, 7, 2] = [192, 152, 18, 121, 229, 111, 79, 242, 17, 227, 248, 152, 225, 26, 20, 67]) (h3 : E [193, 154, 17, 112, 0, 0, 0, 0, 0, 0, 0, 0, 0, 0, 7, 3] = [48, 87, 232, 255, 214, 132, 150, 151, 74, 107, 162, 90, 41, 103, 140, 170]) (hE : ∀ b : List UInt8, b.length = 16 → (E b).length = 16) : mixL E [1, 2, 3, 4, 5, 6, 7] [1, 2, 3, 4] ≠ [1, 2, 3, 4, 5, 6, 7] := by
  intro h
  have hc := mix_cut hE [1, 2, 3, 4, 5, 6, 7] [1, 2, 3, 4] (by decide) (by decide)
  rw [h, mn_cut] at hc
  have hc2 : [4, 5, 6, 7] = (passesP E 7 ([1, 2, 3, 0], [4, 5, 6, 7]) [1, 2, 3, 4]).2 := congrArg (fun x : List UInt8 × List UInt8 × Int => x.2.1) hc
  rw [mn_four h1 h2 h3] at hc2
  exact absurd hc2 (by decide)
theorem mn_mixed : mixL (encL keyU tableL) [1, 2, 3, 4, 5, 6, 7] [1, 2, 3, 4] ≠ [1, 2, 3, 4, 5, 6, 7] :=
  mn_mixed_of mn_blocks.1 mn_blocks.2.1 mn_blocks.2.2 (fun b hb => encL_len keyU tableL b (by unfold keyU; rfl) hb)
end Go.Proofs.YtdhnknkochbekaaGreat
