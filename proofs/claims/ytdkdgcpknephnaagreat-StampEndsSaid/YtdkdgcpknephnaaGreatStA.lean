/- Layer 12, plainly: stamps. Nothing is claimed of the program here. -/
import Derived.Test.YtdkdgcpknephnaaGreatStP
import Derived.Test.YtdkdgcpknephnaaGreatRefGcm
namespace Go.Proofs.YtdkdgcpknephnaaGreat
open Go.RowKit
set_option linter.unusedVariables false
set_option linter.unusedSimpArgs false

/-! Plainly. -/
def stKey : List UInt8 := [0xbe, 0x0c, 0x69, 0x0b, 0x9f, 0x66, 0x57, 0x5a, 0x1d, 0x76, 0x6b, 0x54, 0xe3, 0x68, 0xc8, 0x4e]
def stNon : List UInt8 := [0x46, 0x15, 0x99, 0xd3, 0x5d, 0x63, 0x2b, 0xf2, 0x23, 0x98, 0x25, 0xbb]
def noteL (id ahead : List UInt8) : List UInt8 := UInt8.ofNat id.length :: id ++ ahead
/-- The stamp. -/
def stL (id ahead : List UInt8) : List UInt8 := tagL stKey stNon [] (noteL id ahead)
/-- Stamp. -/
def stampR (id ahead : List UInt8) : List UInt8 × Int := if 20 < id.length then ([], 15) else if 65000 < ahead.length then ([], 11) else (stL id ahead, 0)
def aheadL (to frm tok : List UInt8) : List UInt8 := rawP (255, 1, to, frm) ++ tok
/-- Make. -/
def smakeR (to frm id tok : List UInt8) : List UInt8 × Int :=
  if 20 < to.length ∨ 20 < frm.length ∨ 20 < id.length then ([], 15) else if tok.length < 1 ∨ 4096 < tok.length then ([], 11) else (aheadL to frm tok ++ stL id (aheadL to frm tok), 0)
/-- Check. -/
def scheckR (b id : List UInt8) : Int :=
  if (sprs b).2 ≠ 0 then (sprs b).2 else if (stampR id (b.take (b.length - 16))).2 ≠ 0 then (stampR id (b.take (b.length - 16))).2
  else if (stampR id (b.take (b.length - 16))).1 = (sprs b).1.2.2 then 0 else 13
theorem stKey_len : stKey.length = 16 := rfl
theorem stNon_len : stNon.length = 12 := rfl
theorem stL_len (id ahead : List UInt8) : (stL id ahead).length = 16 := tagL_len _ _ _ _ stKey_len stNon_len
theorem seal_st (id ahead : List UInt8) : sealR stKey stNon [] (noteL id ahead) = (stL id ahead, 0) := by
  have e : trnL stKey stNon [] = [] := List.eq_nil_of_length_eq_zero (trnL_len stKey stNon [] stKey_len stNon_len)
  unfold sealR
  rw [if_pos stNon_len, e]
  rfl
theorem good_255 {to frm : List UInt8} (h1 : to.length ≤ 20) (h2 : frm.length ≤ 20) : Pgood (255, 1, to, frm) := ⟨show ¬ ((255 : UInt8).toNat < 128) by decide, by simp, by simp only; omega, by simp only; omega⟩
theorem schk_255 {to frm : List UInt8} (h1 : to.length ≤ 20) (h2 : frm.length ≤ 20) : schk (255, 1, to, frm) = 0 := by
  unfold schk
  rw [if_neg (show ¬ ((1 : Nat) ≠ 1 ∨ typ 255 ≠ 3) by decide), if_neg (by simp only; omega)]
theorem chk_255 (to frm : List UInt8) : chk (255, 1, to, frm) = 14 := if_pos (.inr (.inr (show typ 255 ≠ 0 by decide)))
/-- What is made is parsed. -/
theorem sprs_made (to frm tok s : List UInt8) (h1 : to.length ≤ 20) (h2 : frm.length ≤ 20) (h3 : 1 ≤ tok.length) (h4 : s.length = 16) : sprs (aheadL to frm tok ++ s) = (((255, 1, to, frm), tok, s), 0) := by
  unfold sprs aheadL
  rw [List.append_assoc, prs_raw _ (good_255 h1 h2)]
  simp only [ne_eq, not_true_eq_false, if_false]
  rw [schk_255 h1 h2]
  simp only [not_true_eq_false, if_false]
  rw [if_neg (by rw [List.length_append]; omega)]
  have e : (tok ++ s).length - 16 = tok.length := by rw [List.length_append]; omega
  rw [e]
  simp
theorem iprs_made12 (to frm tok s : List UInt8) (h1 : to.length ≤ 20) (h2 : frm.length ≤ 20) : iprs (aheadL to frm tok ++ s) = (zeroIP, 14) := by
  unfold iprs aheadL
  rw [List.append_assoc, prs_raw _ (good_255 h1 h2)]
  simp only [ne_eq, not_true_eq_false, if_false]
  rw [chk_255]
  rfl
theorem ahead_len (to frm tok : List UInt8) : (aheadL to frm tok).length = 7 + to.length + frm.length + tok.length := by
  unfold aheadL
  rw [List.length_append, raw_len]
theorem smake_ok {to frm id tok : List UInt8} (h1 : to.length ≤ 20) (h2 : frm.length ≤ 20) (h3 : id.length ≤ 20) (h4 : 1 ≤ tok.length) (h5 : tok.length ≤ 4096) : smakeR to frm id tok = (aheadL to frm tok ++ stL id (aheadL to frm tok), 0) := by
  unfold smakeR
  rw [if_neg (by omega), if_neg (by omega)]
/-- Of what is laid so the check tells whether the last sixteen bytes are the stamp. -/
theorem scheck_made (to frm tok s id : List UInt8) (h1 : to.length ≤ 20) (h2 : frm.length ≤ 20) (h3 : 1 ≤ tok.length) (h4 : s.length = 16) (h5 : id.length ≤ 20) (h6 : tok.length ≤ 4096) : scheckR (aheadL to frm tok ++ s) id = if stL id (aheadL to frm tok) = s then 0 else 13 := by
  have hp := sprs_made to frm tok s h1 h2 h3 h4
  have hl := ahead_len to frm tok
  have e : (aheadL to frm tok ++ s).take ((aheadL to frm tok ++ s).length - 16) = aheadL to frm tok := by
    rw [List.length_append, h4, Nat.add_sub_cancel, List.take_append_of_le_length (Nat.le_refl _), List.take_of_length_le (Nat.le_refl _)]
  have hs : stampR id (aheadL to frm tok) = (stL id (aheadL to frm tok), 0) := by
    unfold stampR
    rw [if_neg (by omega), if_neg (by omega)]
  unfold scheckR
  rw [hp, e, hs]
  simp only [ne_eq, not_true_eq_false, if_false]
end Go.Proofs.YtdkdgcpknephnaaGreat
