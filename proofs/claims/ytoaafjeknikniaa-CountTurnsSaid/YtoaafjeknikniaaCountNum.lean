/- layer 6's stream that is often shown, in numbers. No conditions; nothing is claimed of the program here. -/
import Derived.Test.YtoaafjeknikniaaCountLaw
namespace Go.Proofs.Ytoaafjeknikniaa
set_option linter.unusedVariables false
def zer16 : List UInt8 := List.replicate 16 0
def full16 : List UInt8 := [1, 2, 3, 4, 5, 6, 7, 8, 9, 10, 11, 12, 255, 255, 255, 255]
theorem full_next : aftL full16 1 = [1, 2, 3, 4, 5, 6, 7, 8, 9, 10, 11, 12, 0, 0, 0, 0] := by decide +kernel
theorem zer_258 : aftL zer16 258 = [0, 0, 0, 0, 0, 0, 0, 0, 0, 0, 0, 0, 0, 0, 1, 2] := by decide +kernel
set_option maxRecDepth 100000 in
theorem strm_shown : strmL zer16 zer16 3 = [0x66, 0xe9, 0x4b] := by decide +kernel
theorem turn_shown : xorL [0x66, 0xe9, 0x4b] [0x66, 0xe9, 0x4b] = [0, 0, 0] := by decide +kernel
end Go.Proofs.Ytoaafjeknikniaa
