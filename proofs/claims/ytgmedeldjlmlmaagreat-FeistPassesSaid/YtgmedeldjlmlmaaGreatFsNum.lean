/- Layer 15's text that is shown, in numbers: three blocks by the key of zeros. No conditions; nothing is claimed of the program here. -/
import Derived.Test.YtgmedeldjlmlmaaGreatFsP
import Derived.Test.YtgmedeldjlmlmaaGreatAesTab
import Derived.Test.YtgmedeldjlmlmaaGreatAesInvW
namespace Go.Proofs.YtgmedeldjlmlmaaGreat
open Go.RowKit
set_option linter.unusedVariables false
set_option maxRecDepth 100000 in
theorem fn_blocks_v : encL (List.replicate 16 0) tabV [1, 2, 0, 0, 0, 0, 0, 0, 0, 0, 0, 0, 0, 0, 5, 1] = [22, 6, 27, 237, 187, 250, 196, 214, 80, 54, 44, 199, 229, 238, 174, 214]
    ∧ encL (List.replicate 16 0) tabV [5, 2, 30, 0, 0, 0, 0, 0, 0, 0, 0, 0, 0, 0, 5, 2] = [136, 73, 167, 229, 14, 194, 217, 134, 59, 142, 106, 53, 181, 212, 191, 123]
    ∧ encL (List.replicate 16 0) tabV [137, 75, 160, 0, 0, 0, 0, 0, 0, 0, 0, 0, 0, 0, 5, 3] = [64, 128, 200, 55, 122, 132, 107, 4, 90, 40, 97, 186, 117, 184, 124, 192] := by decide +kernel
theorem fn_blocks : encL (List.replicate 16 0) tableL [1, 2, 0, 0, 0, 0, 0, 0, 0, 0, 0, 0, 0, 0, 5, 1] = [22, 6, 27, 237, 187, 250, 196, 214, 80, 54, 44, 199, 229, 238, 174, 214]
    ∧ encL (List.replicate 16 0) tableL [5, 2, 30, 0, 0, 0, 0, 0, 0, 0, 0, 0, 0, 0, 5, 2] = [136, 73, 167, 229, 14, 194, 217, 134, 59, 142, 106, 53, 181, 212, 191, 123]
    ∧ encL (List.replicate 16 0) tableL [137, 75, 160, 0, 0, 0, 0, 0, 0, 0, 0, 0, 0, 0, 5, 3] = [64, 128, 200, 55, 122, 132, 107, 4, 90, 40, 97, 186, 117, 184, 124, 192] := by
  rw [tab_eq]
  exact fn_blocks_v
theorem fn_cut : cutR [1, 2, 3, 4, 5] = ([1, 2, 0], [3, 4, 5], 0) := by decide +kernel
theorem fn_b1 : blockL [1, 2, 0] 5 1 = [1, 2, 0, 0, 0, 0, 0, 0, 0, 0, 0, 0, 0, 0, 5, 1] := by decide +kernel
theorem fn_b2 : blockL [5, 2, 30] 5 2 = [5, 2, 30, 0, 0, 0, 0, 0, 0, 0, 0, 0, 0, 0, 5, 2] := by decide +kernel
theorem fn_b3 : blockL [137, 75, 160] 5 3 = [137, 75, 160, 0, 0, 0, 0, 0, 0, 0, 0, 0, 0, 0, 5, 3] := by decide +kernel
theorem fn_t1 : trimL (xorL [3, 4, 5] [22, 6, 27, 237, 187, 250, 196, 214, 80, 54, 44, 199, 229, 238, 174, 214]) 5 false = [5, 2, 30] := by decide +kernel
theorem fn_t2 : trimL (xorL [1, 2, 0] [136, 73, 167, 229, 14, 194, 217, 134, 59, 142, 106, 53, 181, 212, 191, 123]) 5 true = [137, 75, 160] := by decide +kernel
theorem fn_t3 : trimL (xorL [5, 2, 30] [64, 128, 200, 55, 122, 132, 107, 4, 90, 40, 97, 186, 117, 184, 124, 192]) 5 false = [5, 130, 214] := by decide +kernel
attribute [local irreducible] encL tableL cutR blockL trimL xorL joinL
theorem fn_p1 {E : List UInt8 → List UInt8} (h1 : E [1, 2, 0, 0, 0, 0, 0, 0, 0, 0, 0, 0, 0, 0, 5, 1] = [22, 6, 27, 237, 187, 250, 196, 214, 80, 54, 44, 199, 229, 238, 174, 214]) : passP E 5 ([1, 2, 0], [3, 4, 5]) 1 = ([1, 2, 0], [5, 2, 30]) := by
  have a1 : addL E [1, 2, 0] [3, 4, 5] 5 1 false = [5, 2, 30] := by unfold addL; rw [fn_b1, h1, fn_t1]
  unfold passP
  rw [if_neg (by decide)]
  simp only
  rw [a1]
theorem fn_p2 {E : List UInt8 → List UInt8} (h2 : E [5, 2, 30, 0, 0, 0, 0, 0, 0, 0, 0, 0, 0, 0, 5, 2] = [136, 73, 167, 229, 14, 194, 217, 134, 59, 142, 106, 53, 181, 212, 191, 123]) : passP E 5 ([1, 2, 0], [5, 2, 30]) 2 = ([137, 75, 160], [5, 2, 30]) := by
  have a1 : addL E [5, 2, 30] [1, 2, 0] 5 2 true = [137, 75, 160] := by unfold addL; rw [fn_b2, h2, fn_t2]
  unfold passP
  rw [if_pos (by decide)]
  simp only
  rw [a1]
theorem fn_p3 {E : List UInt8 → List UInt8} (h3 : E [137, 75, 160, 0, 0, 0, 0, 0, 0, 0, 0, 0, 0, 0, 5, 3] = [64, 128, 200, 55, 122, 132, 107, 4, 90, 40, 97, 186, 117, 184, 124, 192]) : passP E 5 ([137, 75, 160], [5, 2, 30]) 3 = ([137, 75, 160], [5, 130, 214]) := by
  have a1 : addL E [137, 75, 160] [5, 2, 30] 5 3 false = [5, 130, 214] := by unfold addL; rw [fn_b3, h3, fn_t3]
  unfold passP
  rw [if_neg (by decide)]
  simp only
  rw [a1]
theorem fn_p4 (E : List UInt8 → List UInt8) (s : List UInt8 × List UInt8) : (passP E 5 s 4).2 = s.2 := by
  unfold passP
  rw [if_pos (by decide)]
theorem fn_four {E : List UInt8 → List UInt8} (h1 : E [1, 2, 0, 0, 0, 0, 0, 0, 0, 0, 0, 0, 0, 0, 5, 1] = [22, 6, 27, 237, 187, 250, 196, 214, 80, 54, 44, 199, 229, 238, 174, 214]) (h2 : E [5, 2, 30, 0, 0, 0, 0, 0, 0, 0, 0, 0, 0, 0, 5, 2] = [136, 73, 167, 229, 14, 194, 217, 134, 59, 142, 106, 53, 181, 212, 191, 123]) (h3 : E [137, 75, 160, 0, 0, 0, 0, 0, 0, 0, 0, 0, 0, 0, 5, 3] = [64, 128, 200, 55, 122, 132, 107, 4, 90, 40, 97, 186, 117, 184, 124, 192]) : (passesP E 5 ([1, 2, 0], [3, 4, 5]) [1, 2, 3, 4]).2 = [5, 130, 214] := by
  unfold passesP
  rw [List.foldl_cons, fn_p1 h1, List.foldl_cons, fn_p2 h2, List.foldl_cons, fn_p3 h3, List.foldl_cons, List.foldl_nil, fn_p4]
/-- The text that is shown is not mixed to itself. -/
theorem fn_mixed_of {E : List UInt8 → List UInt8} (h1 : E [1, 2, 0, 0, 0, 0, 0, 0, 0, 0, 0, 0, 0, 0, 5, 1] = [22, 6, 27, 237, 187, 250, 196, 214, 80, 54, 44, 199, 229, 238, 174, 214]) (h2 : E [5, 2, 30, 0, 0, 0, 0, 0, 0, 0, 0, 0, 0, 0, 5, 2] = [136, 73, 167, 229, 14, 194, 217, 134, 59, 142, 106, 53, 181, 212, 191, 123]) (h3 : E [137, 75, 160, 0, 0, 0, 0, 0, 0, 0, 0, 0, 0, 0, 5, 3] = [64, 128, 200, 55, 122, 132, 107, 4, 90, 40, 97, 186, 117, 184, 124, 192]) (hE : ∀ b : List UInt8, b.length = 16 → (E b).length = 16) : mixL E [1, 2, 3, 4, 5] [1, 2, 3, 4] ≠ [1, 2, 3, 4, 5] := by
  intro h
  have hc := mix_cut hE [1, 2, 3, 4, 5] [1, 2, 3, 4] (by decide) (by decide)
  rw [h, fn_cut] at hc
  have hc2 : [3, 4, 5] = (passesP E 5 ([1, 2, 0], [3, 4, 5]) [1, 2, 3, 4]).2 := congrArg (fun x : List UInt8 × List UInt8 × Int => x.2.1) hc
  rw [fn_four h1 h2 h3] at hc2
  exact absurd hc2 (by decide)
theorem fn_mixed : mixL (encL (List.replicate 16 0) tableL) [1, 2, 3, 4, 5] [1, 2, 3, 4] ≠ [1, 2, 3, 4, 5] :=
  fn_mixed_of fn_blocks.1 fn_blocks.2.1 fn_blocks.2.2 (fun b hb => encL_len (List.replicate 16 0) tableL b (by simp) hb)
end Go.Proofs.YtgmedeldjlmlmaaGreat
