/- layer 7's text that is often shown, in numbers. No conditions; nothing is claimed of the program here. -/
import Derived.Test.YtmpidjadpcpbfaaGreatGcmBox
namespace Go.Proofs.YtmpidjadpcpbfaaGreat
set_option linter.unusedVariables false
def zr16 : List UInt8 := List.replicate 16 0
def zr12 : List UInt8 := List.replicate 12 0
def e1L : List UInt8 := [0x58, 0xe2, 0xfc, 0xce, 0xfa, 0x7e, 0x30, 0x61, 0x36, 0x7f, 0x1d, 0x57, 0xa4, 0xe7, 0x45, 0x5a]
def tgL : List UInt8 := [0xab, 0x6e, 0x47, 0xd4, 0x2c, 0xec, 0x13, 0xbd, 0xf5, 0x3a, 0x67, 0xb2, 0x12, 0x57, 0xbd, 0xdf]
def tg1L : List UInt8 := [0xb6, 0x90, 0xd3, 0x4d, 0xcd, 0x5a, 0xf3, 0x0c, 0xa2, 0x9b, 0x1b, 0x5c, 0xa5, 0x7e, 0x85, 0x44]
def wantG : List UInt8 := textL ++ tgL
set_option maxRecDepth 100000 in
theorem enc_shown : (encL zr16 tableL zr16, encL zr16 tableL (fstL zr12), strmL zr16 (aftL (fstL zr12) 1) 16) = (keyL, e1L, textL) := by decide +kernel
theorem hk_shown : hkL zr16 = keyL := by
  have h := congrArg (fun r => r.1) enc_shown
  unfold hkL
  exact h
theorem e1_shown : encL zr16 tableL (fstL zr12) = e1L := congrArg (fun r => r.2.1) enc_shown
theorem strm16_shown : strmL zr16 (aftL (fstL zr12) 1) 16 = textL := congrArg (fun r => r.2.2) enc_shown
theorem trn_shown : trnL zr16 zr12 zr16 = textL := by
  rw [← trn_eq zr16 zr12 zr16 16 rfl, strm16_shown]
  decide +kernel
theorem trn_shown2 : trnL zr16 zr12 textL = zr16 := by
  rw [← trn_eq zr16 zr12 textL 16 rfl, strm16_shown]
  decide +kernel
theorem tag_shown : tagL zr16 zr12 textL [] = tgL := by
  rw [← tag_eq, hk_shown, sum_shown, e1_shown]
  decide +kernel
theorem sum_nums1 : sumN [1] textL = [1329227995784915872903807060280344576, 4698274276341916077299333525606170232, 147573952589676413056] := by decide +kernel
set_option maxRecDepth 100000 in
theorem fold_num1 : gFold 136792598789324718765670228683992083246 0 [1329227995784915872903807060280344576, 4698274276341916077299333525606170232, 147573952589676413056] = 316949148507889728850464783105275838494 := by decide +kernel
theorem tag_shown1 : tagL zr16 zr12 textL [1] = tg1L := by
  rw [← tag_eq, hk_shown, e1_shown]
  unfold sumG
  rw [sum_nums1, key_num, fold_num1]
  decide +kernel
theorem seal_shown : sealR zr16 zr12 zr16 [] = (wantG, 0) := by
  unfold sealR
  rw [if_pos (show zr12.length = 12 from rfl), trn_shown, tag_shown]
  rfl
theorem want_cut : wantG.length = 32 ∧ wantG.take 16 = textL ∧ wantG.drop 16 = tgL := by decide +kernel
theorem open_shown : openR zr16 zr12 wantG [] = (zr16, 0) := by
  unfold openR
  rw [if_pos (show zr12.length = 12 from rfl), if_neg (by decide), show wantG.length - 16 = 16 by decide, want_cut.2.1, want_cut.2.2, tag_shown, if_pos rfl, trn_shown2]
theorem open_shown1 : openR zr16 zr12 wantG [1] = ([], 13) := by
  unfold openR
  rw [if_pos (show zr12.length = 12 from rfl), if_neg (by decide), show wantG.length - 16 = 16 by decide, want_cut.2.1, want_cut.2.2, tag_shown1, if_neg (by decide)]
theorem open_shown2 : openR zr16 zr12 (wantG.take 15) [] = ([], 12) := by
  unfold openR
  rw [if_pos (show zr12.length = 12 from rfl), if_pos (by decide)]
theorem want_cells : (bvs wantG).toArray = (#[.int .u8 3, .int .u8 136, .int .u8 218, .int .u8 206, .int .u8 96, .int .u8 182, .int .u8 163, .int .u8 146, .int .u8 243, .int .u8 40, .int .u8 194, .int .u8 185, .int .u8 113, .int .u8 178, .int .u8 254, .int .u8 120, .int .u8 171, .int .u8 110, .int .u8 71, .int .u8 212, .int .u8 44, .int .u8 236, .int .u8 19, .int .u8 189, .int .u8 245, .int .u8 58, .int .u8 103, .int .u8 178, .int .u8 18, .int .u8 87, .int .u8 189, .int .u8 223] : Array Value) := rfl
theorem shown_lens : zr16.length = 16 ∧ zr12.length = 12 ∧ tgL.length = 16 ∧ wantG.length = 32 := ⟨rfl, rfl, rfl, rfl⟩
end Go.Proofs.YtmpidjadpcpbfaaGreat
