/- AesDecrypts' walk: Decrypt answers as the reference does. No condition. -/
import Derived.Test.YtbpbpkmjkbndbaaAesAlive
import Derived.Test.YtbpbpkmjkbndbaaRefAesBlock
namespace Go.Proofs.Ytbpbpkmjkbndbaa
open Go.RowKit
set_option linter.unusedVariables false
attribute [local irreducible] wsW keyUpTo keyF lastW turn0 encUp decUp encL decL

set_option maxRecDepth 100000 in
set_option maxHeartbeats 2000000 in
theorem AesDecrypts_walk (A0 : Option Addr) (n0 c0 : Nat) (l0 : List UInt8) (A1 : Option Addr) (n1 c1 : Nat) (l1 : List UInt8) (w : World) (h0 : RB w w.heap.size A0 n0 l0) (m0 : n0 ≤ c0 ∧ c0 ≤ maxLen) (h1 : RB w w.heap.size A1 n1 l1) (m1 : n1 ≤ c1 ∧ c1 ≤ maxLen) :
    Calls Try.prog 4 #[.slice A0 n0 c0, .slice A1 n1 c1] w fun e w' => e = .returned (.bool true) ∧ Below w.heap.size w w' := by
  have H0 := Lib.hid h0
  have H1 := Lib.hid h1
  have M0 := Lib.hid m0
  have M1 := Lib.hid m1
  clear h0 h1 m0 m1
  by_cases hb : 100 < n1
  · go_enter Try.func4, Try.ntmps4
    go_wp2_with fail
    refine (alive_any _).mono ?_
    rintro e w1 ⟨rfl, hb1⟩
    go_wp2_with fail
    go_ret
    exact ⟨rfl, hb1⟩
  · by_cases h16 : n0 = 16
    · subst h16
      have hp : ∀ (g : Nat) (W : World), (binOp .eql 25 (.pointer (some ⟨g, 0, none⟩)) (.pointer none)).run Try.prog W = .ok (.bool false) W := fun _ _ => by kernel_rfl
      go_enter Try.func4, Try.ntmps4
      go_wp2_with fail
      refine (alive_any _).mono ?_
      rintro e w1 ⟨rfl, hb1⟩
      have HB1 := Lib.hid hb1
      clear hb1
      go_wp2_with fail
      refine (anew_any c0 A0 l0 _ (by exact (H0.out.below HB1.out).more HB1.out.size) M0.out.1).mono ?_
      rintro e w2 ⟨cb, b, lo, rfl, hb2, hcb, hbb, hob⟩
      have HB2 := Lib.hid hb2
      have HCB := Lib.hid hcb
      have HO := Lib.hid hob
      clear hb2 hcb hbb hob
      have hlt := HO.out.lt
      have HWB : Hid (w.heap.size ≤ cb) := Lib.hid (Nat.le_trans HB1.out.size HCB.out)
      have HBW : Hid (Below w.heap.size w w2) := Lib.hid (bel_next HB1.out HB2.out)
      have HLT := Lib.hid hlt
      clear hlt
      by_cases h16 : n1 = 16
      · subst h16
        have hl1 := H1.out.len
        have HL1 := Lib.hid hl1
        obtain ⟨R, HR⟩ : ∃ R, Hid (R = decL l0 tableL backL l1) := ⟨_, Lib.hid rfl⟩
        clear hl1
        go_wp2_with fail
        refine (decrypt_any cb b lo 0 c1 l0 l1 _ _ (by exact HO.out) (by omega) (by exact (H1.out.below HBW.out).more HBW.out.size) M1.out.1 (by exact H1.out.away (by omega) HWB.out)).mono ?_
        rw [← HR.out]
        rintro e w3 ⟨A3, c3, rfl, ho3, hb3, _⟩
        have HO3 := Lib.hid ho3
        have HB3 := Lib.hid hb3
        clear ho3 hb3
        have HK3 : Hid (RB w3 w3.heap.size A0 16 l0) := Lib.hid (((H0.out.below HBW.out).over HB3.out HBW.out.size HWB.out).more (Nat.le_trans HBW.out.size HB3.out.size))
        have HT3 : Hid (RB w3 w3.heap.size A1 16 l1) := Lib.hid (((H1.out.below HBW.out).over HB3.out HBW.out.size HWB.out).more (Nat.le_trans HBW.out.size HB3.out.size))
        go_wp2_with fail
        refine (rdecrypt_any A1 A0 c1 c0 l0 l1 _ (by exact HK3.out) M0.out.1 (by exact HT3.out)).mono ?_
        rw [← HR.out]
        rintro e w4 ⟨A4, c4, rfl, ho4, hb4⟩
        have HO4 := Lib.hid ho4
        have HB4 := Lib.hid hb4
        clear ho4 hb4
        go_wp2_with fail
        refine (al_same A3 A4 16 c3 16 c4 R R _ (by exact (HO3.out.rb.below HB4.out).more HB4.out.size) (by exact HO4.out.rb) (by unfold maxLen; omega) (by unfold maxLen; omega) true (by simp)).mono ?_
        rintro e w5 ⟨rfl, hb5⟩
        have HB5 : Hid (Below w3.heap.size w3 w5) := Lib.hid (bel_next HB4.out hb5)
        clear hb5
        go_wp2_with fail
        go_ret
        exact ⟨rfl, (HBW.out.trans (HB3.out.below HWB.out HLT.out)).trans (HB5.out.mono (Nat.le_trans HBW.out.size HB3.out.size))⟩
      · have hd : ((n1 : Int) == 16) = false := by rw [beq_eq_false_iff_ne]; omega
        go_wp2_with fail
        refine (decrypt_bad cb n1 c1 A1 _ h16).mono ?_
        rintro e w3 ⟨rfl, rfl⟩
        go_wp2_with fail
        go_ret
        exact ⟨rfl, HBW.out⟩
    · have hd : ((n0 : Int) == 16) = false := by rw [beq_eq_false_iff_ne]; omega
      have hd2 : ((n0 : Int) != 16) = true := by simp [bne, hd]
      go_enter Try.func4, Try.ntmps4
      go_wp2_with fail
      refine (alive_any _).mono ?_
      rintro e w1 ⟨rfl, hb1⟩
      have HB1 := Lib.hid hb1
      clear hb1
      go_wp2_with fail
      refine (anew_bad n0 c0 A0 _ h16).mono ?_
      rintro e w2 ⟨rfl, rfl⟩
      go_wp2_with fail
      go_ret
      exact ⟨rfl, HB1.out⟩
end Go.Proofs.Ytbpbpkmjkbndbaa
