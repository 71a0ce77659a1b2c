/- Layer 12's packet that is often shown, in numbers. No condition; nothing is claimed of the program here. -/
import Derived.Test.YtdkdgcpknephnaaGreatStA
import Derived.Test.YtdkdgcpknephnaaGreatUnhex
namespace Go.Proofs.YtdkdgcpknephnaaGreat
open Go.RowKit
set_option linter.unusedVariables false
def shB : List UInt8 := [255, 0, 0, 0, 1, 0, 8, 240, 103, 165, 80, 42, 66, 98, 181, 116, 111, 107, 101, 110, 4, 162, 101, 186, 46, 255, 77, 130, 144, 88, 251, 63, 15, 36, 150, 186]
def shId : List UInt8 := [131, 148, 200, 240, 62, 81, 87, 8]
def shFr : List UInt8 := [240, 103, 165, 80, 42, 66, 98, 181]
def shTok : List UInt8 := [116, 111, 107, 101, 110]
def shAh : List UInt8 := [255, 0, 0, 0, 1, 0, 8, 240, 103, 165, 80, 42, 66, 98, 181, 116, 111, 107, 101, 110]
def shSt : List UInt8 := [4, 162, 101, 186, 46, 255, 77, 130, 144, 88, 251, 63, 15, 36, 150, 186]
def shSt2 : List UInt8 := [201, 117, 247, 187, 208, 195, 78, 76, 193, 115, 92, 66, 201, 60, 224, 127]
def shHk : List UInt8 := [114, 149, 106, 69, 79, 250, 255, 84, 133, 161, 58, 18, 68, 208, 29, 71]
def shE1 : List UInt8 := [85, 94, 75, 116, 147, 85, 110, 234, 175, 117, 211, 91, 215, 251, 165, 216]
set_option maxRecDepth 100000 in
theorem sh_enc : (encL stKey tableL (List.replicate 16 0), encL stKey tableL (fstL stNon)) = (shHk, shE1) := by decide +kernel
theorem sh_hk : hkL stKey = shHk := by
  have h := congrArg (fun r => r.1) sh_enc
  unfold hkL
  exact h
theorem sh_e1 : encL stKey tableL (fstL stNon) = shE1 := congrArg (fun r => r.2) sh_enc
theorem sh_num : nB shHk = 152307799178316052382387874190681185607 := by decide +kernel
theorem sh_nums1 : sumN (noteL shId shAh) [] = [11317032571352972577797221631488229384, 319552878513725126065176394061997670400, 4279644625100615974912] := by decide +kernel
theorem sh_nums2 : sumN (noteL shFr shAh) [] = [11882077397973565756961554286256390152, 319552878513725126065176394061997670400, 4279644625100615974912] := by decide +kernel
set_option maxRecDepth 100000 in
theorem sh_fold1 : gFold 152307799178316052382387874190681185607 0 [11317032571352972577797221631488229384, 319552878513725126065176394061997670400, 4279644625100615974912] = 108976875837470559634300431065285604194 := by decide +kernel
set_option maxRecDepth 100000 in
theorem sh_fold2 : gFold 152307799178316052382387874190681185607 0 [11882077397973565756961554286256390152, 319552878513725126065176394061997670400, 4279644625100615974912] = 207586665621515989444565760270014039463 := by decide +kernel
theorem sh_st1 : stL shId shAh = shSt := by
  unfold stL
  rw [← tag_eq, sh_hk, sh_e1]
  unfold sumG
  rw [sh_nums1, sh_num, sh_fold1]
  decide +kernel
theorem sh_st2 : stL shFr shAh = shSt2 := by
  unfold stL
  rw [← tag_eq, sh_hk, sh_e1]
  unfold sumG
  rw [sh_nums2, sh_num, sh_fold2]
  decide +kernel
theorem sh_ah : aheadL [] shFr shTok = shAh := by decide +kernel
theorem sh_b : shAh ++ shSt = shB := by decide +kernel
theorem sh_make : smakeR [] shFr shId shTok = (shB, 0) := by
  rw [smake_ok (by decide) (by decide) (by decide) (by decide) (by decide), sh_ah, sh_st1, sh_b]
theorem sh_make0 : smakeR [] [] [] [] = ([], 11) := by decide +kernel
theorem sh_make21 : smakeR (List.replicate 21 0) [] [] [] = ([], 15) := by decide +kernel
theorem sh_parse : sprs shB = (((255, 1, [], shFr), shTok, shSt), 0) := by decide +kernel
theorem sh_parse30 : sprs (shB.take 30) = (zeroIP, 12) := by decide +kernel
theorem sh_stamp : stampR shId shAh = (shSt, 0) := by
  unfold stampR
  rw [if_neg (by decide), if_neg (by decide), sh_st1]
theorem sh_ok : scheckR shB shId = 0 := by
  have h := scheck_made [] shFr shTok shSt shId (by decide) (by decide) (by decide) (by decide) (by decide) (by decide)
  rw [sh_ah, sh_b, sh_st1, if_pos rfl] at h
  exact h
theorem sh_bad : scheckR shB shFr = 13 := by
  have h := scheck_made [] shFr shTok shSt shFr (by decide) (by decide) (by decide) (by decide) (by decide) (by decide)
  rw [sh_ah, sh_b, sh_st2, if_neg (by decide)] at h
  exact h
set_option maxRecDepth 100000 in
theorem sh_ub (w : World) : Calls Tryz.prog 22 #[.string ⟨#[102, 102, 48, 48, 48, 48, 48, 48, 48, 49, 48, 48, 48, 56, 102, 48, 54, 55, 97, 53, 53, 48, 50, 97, 52, 50, 54, 50, 98, 53, 55, 52, 54, 102, 54, 98, 54, 53, 54, 101, 48, 52, 97, 50, 54, 53, 98, 97, 50, 101, 102, 102, 52, 100, 56, 50, 57, 48, 53, 56, 102, 98, 51, 102, 48, 102, 50, 52, 57, 54, 98, 97]⟩] w (RetBE 36 shB 0 w) := by
  refine (runhex_any ⟨#[102, 102, 48, 48, 48, 48, 48, 48, 48, 49, 48, 48, 48, 56, 102, 48, 54, 55, 97, 53, 53, 48, 50, 97, 52, 50, 54, 50, 98, 53, 55, 52, 54, 102, 54, 98, 54, 53, 54, 101, 48, 52, 97, 50, 54, 53, 98, 97, 50, 101, 102, 102, 52, 100, 56, 50, 57, 48, 53, 56, 102, 98, 51, 102, 48, 102, 50, 52, 57, 54, 98, 97]⟩ [102, 102, 48, 48, 48, 48, 48, 48, 48, 49, 48, 48, 48, 56, 102, 48, 54, 55, 97, 53, 53, 48, 50, 97, 52, 50, 54, 50, 98, 53, 55, 52, 54, 102, 54, 98, 54, 53, 54, 101, 48, 52, 97, 50, 54, 53, 98, 97, 50, 101, 102, 102, 52, 100, 56, 50, 57, 48, 53, 56, 102, 98, 51, 102, 48, 102, 50, 52, 57, 54, 98, 97] w rfl (by decide)).mono ?_
  intro e w' k
  have e1 : unhexL [102, 102, 48, 48, 48, 48, 48, 48, 48, 49, 48, 48, 48, 56, 102, 48, 54, 55, 97, 53, 53, 48, 50, 97, 52, 50, 54, 50, 98, 53, 55, 52, 54, 102, 54, 98, 54, 53, 54, 101, 48, 52, 97, 50, 54, 53, 98, 97, 50, 101, 102, 102, 52, 100, 56, 50, 57, 48, 53, 56, 102, 98, 51, 102, 48, 102, 50, 52, 57, 54, 98, 97] = some shB := by decide +kernel
  rcases k with ⟨d, hd, hr⟩ | ⟨hn, _⟩
  · rw [e1] at hd
    injection hd with hd
    subst hd
    exact hr
  · rw [e1] at hn
    cases hn
set_option maxRecDepth 100000 in
theorem sh_uid (w : World) : Calls Tryz.prog 22 #[.string ⟨#[56, 51, 57, 52, 99, 56, 102, 48, 51, 101, 53, 49, 53, 55, 48, 56]⟩] w (RetBE 8 shId 0 w) := by
  refine (runhex_any ⟨#[56, 51, 57, 52, 99, 56, 102, 48, 51, 101, 53, 49, 53, 55, 48, 56]⟩ [56, 51, 57, 52, 99, 56, 102, 48, 51, 101, 53, 49, 53, 55, 48, 56] w rfl (by decide)).mono ?_
  intro e w' k
  have e1 : unhexL [56, 51, 57, 52, 99, 56, 102, 48, 51, 101, 53, 49, 53, 55, 48, 56] = some shId := by decide +kernel
  rcases k with ⟨d, hd, hr⟩ | ⟨hn, _⟩
  · rw [e1] at hd
    injection hd with hd
    subst hd
    exact hr
  · rw [e1] at hn
    cases hn
set_option maxRecDepth 100000 in
theorem sh_ufr (w : World) : Calls Tryz.prog 22 #[.string ⟨#[102, 48, 54, 55, 97, 53, 53, 48, 50, 97, 52, 50, 54, 50, 98, 53]⟩] w (RetBE 8 shFr 0 w) := by
  refine (runhex_any ⟨#[102, 48, 54, 55, 97, 53, 53, 48, 50, 97, 52, 50, 54, 50, 98, 53]⟩ [102, 48, 54, 55, 97, 53, 53, 48, 50, 97, 52, 50, 54, 50, 98, 53] w rfl (by decide)).mono ?_
  intro e w' k
  have e1 : unhexL [102, 48, 54, 55, 97, 53, 53, 48, 50, 97, 52, 50, 54, 50, 98, 53] = some shFr := by decide +kernel
  rcases k with ⟨d, hd, hr⟩ | ⟨hn, _⟩
  · rw [e1] at hd
    injection hd with hd
    subst hd
    exact hr
  · rw [e1] at hn
    cases hn
end Go.Proofs.YtdkdgcpknephnaaGreat
