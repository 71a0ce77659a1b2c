/- Layer 15's leftward, carry and Pass. Conditions: the slices' cells are readable and lie away from the cipher, lengths are at most a million. -/
import Derived.Test.YtfipdaekfdbaeaaGreatFsP
import Derived.Test.YtfipdaekfdbaeaaGreatFsW
import Derived.Test.YtfipdaekfdbaeaaGreatOctAll
import Derived.Test.YtfipdaekfdbaeaaGreatClone
namespace Go.Proofs.YtfipdaekfdbaeaaGreat
open Go.RowKit
set_option linter.unusedVariables false
set_option linter.unusedSimpArgs false
/-- carry's answer: the half that stays, the half that is changed. -/
def carR (E : List UInt8 → List UInt8) (f t : List UInt8) (z p : Int) (left : Bool) : List UInt8 × List UInt8 × Int :=
  if (fitB z f.length && (decide (t.length = f.length) && okP p)) = true then (f, addL E f t z.toNat p.toNat left, 0) else ([], [], 11)
/-- A cipher's count behind a pass. -/
def cntM (m : Nat) (code : Int) : Nat := if code = 0 then m + 1 else m
theorem car_no {E : List UInt8 → List UInt8} {f t : List UInt8} {z p : Int} {left : Bool} (h : (fitB z f.length && (decide (t.length = f.length) && okP p)) = false) : carR E f t z p left = ([], [], 11) := by
  unfold carR; rw [h, if_neg (by decide)]
theorem car_ok (E : List UInt8 → List UInt8) (f t : List UInt8) (n p : Nat) (left : Bool) (h2 : 2 ≤ n) (h28 : n ≤ 28) (hf : f.length = szN n) (ht : t.length = szN n) (hp : p ≤ 255) : carR E f t (n : Int) (p : Int) left = (f, addL E f t n p left, 0) := by
  unfold carR
  rw [hf, fitB_mk h2 h28, ht, okP_mk p hp, if_pos (by simp)]
  rfl
theorem car_even {E : List UInt8 → List UInt8} {l r : List UInt8} {z p : Int} (hp : p.tmod 2 = 0) : passR E l r z p = ((carR E r l z p true).2.1, (carR E r l z p true).1, (carR E r l z p true).2.2) := by
  rw [pass_even hp]
  unfold carR ontoR
  split <;> simp
theorem car_odd {E : List UInt8 → List UInt8} {l r : List UInt8} {z p : Int} (hp : p.tmod 2 ≠ 0) : passR E l r z p = carR E l r z p false := by
  rw [pass_odd hp]
  unfold carR ontoR
  split <;> simp
theorem xorL_front : ∀ (t s : List UInt8), xorL t (s.take t.length) = xorL t s
  | [], s => by unfold xorL; simp
  | x :: t, [] => by unfold xorL; simp
  | x :: t, y :: s => by
    have h := xorL_front t s
    unfold xorL at h ⊢
    rw [List.length_cons, List.take_succ_cons, List.zipWith_cons_cons, List.zipWith_cons_cons, h]
attribute [local irreducible] foursL pairsL cutR trimL joinL blockL joinR trimR blockR maskB edgeN szI szN encL tableL xorL addL passP passesP mixL ontoR passR passesR atP carR cntM

set_option maxRecDepth 100000 in
theorem fleft_any (p : Int) (v : Bool) (hv : (p.tmod 2 == 0) = v) (hp : -9223372036854775808 ≤ p ∧ p ≤ 9223372036854775807) (w : World) :
    Calls Tryz.prog 100 #[.int .i64 p] w fun e w' => e = .returned (.bool v) ∧ w = w' := by
  go_enter Tryz.func100, Tryz.ntmps100
  go_wp2_with fail
  go_ret
  exact ⟨by first | rfl | simp [hv], rfl⟩

set_option maxRecDepth 100000 in
set_option maxHeartbeats 4000000 in
theorem fcarry_any (cb b0 lo mc n c s d : Nat) (key f t : List UInt8) (A B : Option Addr) (z p : Int) (left : Bool) (w : World) (hob : Ob cb b0 lo key mc w) (hmc : mc + 1 ≤ 1000000000) (h : RB w w.heap.size A n f) (k : RB w w.heap.size B s t) (ha : 0 < n → Away A cb) (hb : 0 < s → Away B cb) (hn : n ≤ 1000000) (hs : s ≤ 1000000) (hz : z ≤ 9223372036854775807) (hp : -9223372036854775808 ≤ p ∧ p ≤ 9223372036854775807) (hl : (p.tmod 2 == 0) = left) :
    Calls Tryz.prog 101 #[.pointer (some ⟨cb, 0, none⟩), .slice A n c, .slice B s d, .int .i64 z, .int .i64 p] w (RetP (carR (encL key tableL) f t z p left).1 (carR (encL key tableL) f t z p left).2.1 (carR (encL key tableL) f t z p left).2.2 key cb b0 lo (cntM mc (carR (encL key tableL) f t z p left).2.2) w) := by
  have HL := Lib.hid h.len
  have HM := Lib.hid k.len
  have HF := Lib.hid h
  have HT := Lib.hid k
  have HAF := Lib.hid ha
  have HAT := Lib.hid hb
  have HOB := Lib.hid hob
  have HMC := Lib.hid hmc
  have HLE := Lib.hid (fleft_any p left hl hp)
  have HBK := Lib.hid (hblock_any A n c f z p w h hn hz)
  clear hl hp
  cases hv : (fitB z n && decide (0 ≤ p ∧ p ≤ 255))
  · have HB : Hid (blockR f z p = ([], 11)) := Lib.hid (blockR_no (by rw [HL.out]; exact hv))
    have HE : Hid (carR (encL key tableL) f t z p left = ([], [], 11)) := Lib.hid (car_no (by
      rw [HL.out]
      unfold okP
      revert hv
      cases fitB z n <;> cases decide (0 ≤ p ∧ p ≤ 255) <;> simp))
    rw [HB.out] at HBK
    clear h k ha hb hob hmc hv HB
    go_enter Tryz.func101, Tryz.ntmps101
    go_wp2_with fail
    refine HBK.out.mono ?_
    rintro e w1 ⟨A1, c1, rfl, ho, hb⟩
    have B1 := Lib.hid hb
    clear ho hb
    go_wp2_with fail
    go_ret3
    rw [HE.out]
    exact ⟨none, 0, 0, none, 0, 0, rfl, OwnB.nil_ _ _, OwnB.nil_ _ _, But.of_below B1.out, by unfold cntM; exact HOB.out.below B1.out⟩
  · have hfit : fitB z n = true := by revert hv; cases fitB z n <;> simp
    have hpp : 0 ≤ p ∧ p ≤ 255 := by rw [hfit, Bool.true_and] at hv; exact of_decide_eq_true hv
    obtain ⟨N, rfl, h2, h28, en⟩ := fitB_nat hfit
    obtain ⟨P, rfl⟩ : ∃ P : Nat, p = (P : Int) := ⟨p.toNat, by omega⟩
    have hP : P ≤ 255 := by omega
    have HB := Lib.hid (block_ok f N P h2 h28 (by rw [HL.out]; exact en) hP)
    have hn14 : n ≤ 14 := by have := szN_le N h28; omega
    have HBL : Hid ((blockL f N P).length = 16) := Lib.hid (block_len f N P (by rw [HL.out]; exact hn14))
    rw [HB.out] at HBK
    dsimp only at HBK
    rw [HBL.out] at HBK
    clear hv hfit hpp HB
    by_cases hl : s = n
    · subst hl
      have HE := Lib.hid (car_ok (encL key tableL) f t N P left h2 h28 (by rw [HL.out]; exact en) (by rw [HM.out]; exact en) hP)
      have hne : ((s : Int) != (s : Int)) = false := bne_self_eq_false _
      obtain ⟨V, HV⟩ : ∃ V, Hid (V = blockL f N P) := ⟨_, Lib.hid rfl⟩
      rw [← HV.out] at HBK HBL
      obtain ⟨S, HS⟩ : ∃ S, Hid (S = encL key tableL V) := ⟨_, Lib.hid rfl⟩
      have HSL : Hid (S.length = 16) := Lib.hid (by rw [HS.out]; exact encL_len key tableL V hob.len HBL.out)
      obtain ⟨X, HX⟩ : ∃ X, Hid (X = xorL t S) := ⟨_, Lib.hid rfl⟩
      have HXF : Hid (xorL t (S.take s) = X) := Lib.hid (by rw [HX.out, ← HM.out]; exact xorL_front t S)
      have HXL : Hid (X.length = s) := Lib.hid (by rw [HX.out, xor_len2 (by rw [HM.out, HSL.out]; omega), HM.out])
      have HTR := Lib.hid (trim_ok X N left h2 h28 (by rw [HXL.out]; exact en))
      have HAD : Hid (trimL X N left = addL (encL key tableL) f t N P left) := Lib.hid (by
        rw [HX.out, HS.out, HV.out]; unfold addL; rfl)
      rw [HAD.out] at HTR
      have HAL : Hid ((addL (encL key tableL) f t N P left).length = s) := Lib.hid (by rw [← HAD.out, trim_len]; exact HXL.out)
      have K0 : Hid (But cb w w ∧ cb < w.heap.size) := Lib.hid ⟨But.refl _ _, hob.lt⟩
      clear h k ha hb hob hmc en HAD
      go_enter Tryz.func101, Tryz.ntmps101
      go_wp2_with fail
      refine HBK.out.mono ?_
      rintro e w1 ⟨A1, c1, rfl, ho, hb⟩
      have O1 := Lib.hid ho
      have B1 := Lib.hid (And.intro (But.of_below (b := cb) hb) (And.intro (HOB.out.below hb) (And.intro (HF.out.step hb) (HT.out.step hb))))
      have W1 : Hid (Away A1 cb ∧ 16 ≤ c1 ∧ RB w1 w1.heap.size A1 16 V) := Lib.hid ⟨ho.far K0.out.2, ho.cap.1, ho.rb⟩
      clear ho hb HBK
      go_wp2_with fail
      refine (encrypt_any cb b0 lo mc c1 key V A1 _ (by exact B1.out.2.1) HMC.out (by exact W1.out.2.2) W1.out.2.1 W1.out.1).mono ?_
      rw [← HS.out]
      rintro e w2 ⟨A2, c2, rfl, ho, hbu, hob2⟩
      have B2 := Lib.hid (And.intro (B1.out.1.trans hbu) (And.intro hob2 (And.intro (B1.out.2.2.1.asd hbu HAF.out) (B1.out.2.2.2.asd hbu HAT.out))))
      have hc2 := ho.cap.1
      have kcut := cut_h A2 16 c2 s (by omega)
      have R2 := Lib.hid (ho.rb.part (i := 0) (j := s) (c := c2) (Nat.zero_le _) (by omega) hc2)
      rw [List.drop_zero, Nat.sub_zero] at R2
      clear ho hbu hob2 hc2 W1 O1
      go_wp2_with fail
      refine (xor_same B _ s d c2 0 0 t (S.take s) _ (by exact B2.out.2.2.2) (by exact R2.out) (by omega)).mono ?_
      rw [HXF.out]
      rintro e w3 ⟨A3, c3, rfl, ho, hb⟩
      have B3 := Lib.hid (And.intro (B2.out.1.trans (But.of_below hb)) (And.intro (B2.out.2.1.below hb) (B2.out.2.2.1.step hb)))
      have R3 := Lib.hid ho.rb
      clear ho hb R2 kcut
      go_wp2_with fail
      refine (HLE.out _).mono ?_
      rintro e w4 ⟨rfl, rfl⟩
      go_wp2_with fail
      refine (htrimT_any A3 s c3 X (N : Int) left _ (by exact R3.out) (by omega) (by omega)).mono ?_
      rw [HTR.out]
      dsimp only
      rw [HAL.out]
      rintro e w5 ⟨A5, c5, rfl, ho, hb⟩
      have B5 := Lib.hid (And.intro (B3.out.1.trans (But.of_below hb)) (And.intro (B3.out.2.1.below hb) (B3.out.2.2.step hb)))
      have O5 := Lib.hid (ho.base_le B3.out.1.size)
      clear ho hb R3
      go_wp2_with fail
      refine (clone_any A s c _ f _ (by exact B5.out.2.2) (Nat.le_refl _) (by omega)).mono ?_
      rintro e w6 ⟨A6, c6, rfl, ho, hb⟩
      have O6 := Lib.hid (ho.base_le B5.out.1.size)
      have O56 := Lib.hid (O5.out.below hb)
      have B6 := Lib.hid (And.intro (B5.out.1.trans (But.of_below hb)) (B5.out.2.1.below hb))
      clear ho hb O5
      go_wp2_with fail
      go_ret3
      rw [HE.out]
      exact ⟨A6, _, c6, A5, _, c5, rfl, O6.out, O56.out, B6.out.1, by unfold cntM; exact B6.out.2⟩
    · have HE : Hid (carR (encL key tableL) f t (N : Int) (P : Int) left = ([], [], 11)) := Lib.hid (car_no (by
        rw [HL.out, HM.out, decide_eq_false hl]; simp))
      have hne : ((s : Int) != (n : Int)) = true := by rw [bne_iff_ne]; omega
      obtain ⟨V, HV⟩ : ∃ V, Hid (V = blockL f N P) := ⟨_, Lib.hid rfl⟩
      rw [← HV.out] at HBK
      clear h k ha hb hob hmc en
      go_enter Tryz.func101, Tryz.ntmps101
      go_wp2_with fail
      refine HBK.out.mono ?_
      rintro e w1 ⟨A1, c1, rfl, ho, hb⟩
      have B1 := Lib.hid hb
      clear ho hb HBK
      go_wp2_with fail
      go_ret3
      rw [HE.out]
      exact ⟨none, 0, 0, none, 0, 0, rfl, OwnB.nil_ _ _, OwnB.nil_ _ _, But.of_below B1.out, by unfold cntM; exact HOB.out.below B1.out⟩

set_option maxRecDepth 100000 in
set_option maxHeartbeats 4000000 in
theorem fpass_any (cb b0 lo mc n c s d : Nat) (key l r : List UInt8) (A B : Option Addr) (z p : Int) (w : World) (hob : Ob cb b0 lo key mc w) (hmc : mc + 1 ≤ 1000000000) (h : RB w w.heap.size A n l) (k : RB w w.heap.size B s r) (ha : 0 < n → Away A cb) (hb : 0 < s → Away B cb) (hn : n ≤ 1000000) (hs : s ≤ 1000000) (hz : z ≤ 9223372036854775807) (hp : -9223372036854775808 ≤ p ∧ p ≤ 9223372036854775807) :
    Calls Tryz.prog 80 #[.pointer (some ⟨cb, 0, none⟩), .slice A n c, .slice B s d, .int .i64 z, .int .i64 p] w (RetP (passR (encL key tableL) l r z p).1 (passR (encL key tableL) l r z p).2.1 (passR (encL key tableL) l r z p).2.2 key cb b0 lo (cntM mc (passR (encL key tableL) l r z p).2.2) w) := by
  by_cases hpar : p.tmod 2 = 0
  · have HE := Lib.hid (car_even (E := encL key tableL) (l := l) (r := r) (z := z) hpar)
    have HC := Lib.hid (fcarry_any cb b0 lo mc s d n c key r l B A z p true w hob hmc k h hb ha hs hn hz hp (by rw [hpar]; rfl))
    have HLE := Lib.hid (fleft_any p true (by rw [hpar]; rfl) hp)
    obtain ⟨u, HU⟩ : ∃ u, Hid (carR (encL key tableL) r l z p true = u) := ⟨_, Lib.hid rfl⟩
    rw [HU.out] at HC HE
    clear hob hmc h k ha hb hpar hp
    go_enter Tryz.func80, Tryz.ntmps80
    go_wp2_with fail
    refine (HLE.out _).mono ?_
    rintro e w1 ⟨rfl, rfl⟩
    go_wp2_with fail
    refine HC.out.mono ?_
    rintro e w2 ⟨A1, n1, c1, A2, n2, c2, rfl, ho1, ho2, hbu, hob⟩
    have O1 := Lib.hid ho1
    have O2 := Lib.hid ho2
    have BU := Lib.hid hbu
    have OB := Lib.hid hob
    clear ho1 ho2 hbu hob HC
    go_wp2_with fail
    go_ret3
    rw [HE.out]
    exact ⟨A2, n2, c2, A1, n1, c1, rfl, O2.out, O1.out, BU.out, OB.out⟩
  · have HE := Lib.hid (car_odd (E := encL key tableL) (l := l) (r := r) (z := z) hpar)
    have HC := Lib.hid (fcarry_any cb b0 lo mc n c s d key l r A B z p false w hob hmc h k ha hb hn hs hz hp (by rw [beq_eq_false_iff_ne]; exact hpar))
    have HLE := Lib.hid (fleft_any p false (by rw [beq_eq_false_iff_ne]; exact hpar) hp)
    obtain ⟨u, HU⟩ : ∃ u, Hid (carR (encL key tableL) l r z p false = u) := ⟨_, Lib.hid rfl⟩
    rw [HU.out] at HC HE
    clear hob hmc h k ha hb hpar hp
    go_enter Tryz.func80, Tryz.ntmps80
    go_wp2_with fail
    refine (HLE.out _).mono ?_
    rintro e w1 ⟨rfl, rfl⟩
    go_wp2_with fail
    refine HC.out.mono ?_
    rintro e w2 ⟨A1, n1, c1, A2, n2, c2, rfl, ho1, ho2, hbu, hob⟩
    have O1 := Lib.hid ho1
    have O2 := Lib.hid ho2
    have BU := Lib.hid hbu
    have OB := Lib.hid hob
    clear ho1 ho2 hbu hob HC
    go_wp2_with fail
    go_ret3
    rw [HE.out]
    exact ⟨A1, n1, c1, A2, n2, c2, rfl, O1.out, O2.out, BU.out, OB.out⟩
end Go.Proofs.YtfipdaekfdbaeaaGreat
