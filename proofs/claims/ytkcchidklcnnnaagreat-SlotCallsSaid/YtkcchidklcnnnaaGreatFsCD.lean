/- Layer 15's leftward, carry and Pass. Conditions: the slices' cells are readable and lie away from the cipher, lengths are at most a million. -/
import Derived.Test.YtkcchidklcnnnaaGreatFsP
import Derived.Test.YtkcchidklcnnnaaGreatFsW
import Derived.Test.YtkcchidklcnnnaaGreatOctAll
import Derived.Test.YtkcchidklcnnnaaGreatClone
namespace Go.Proofs.YtkcchidklcnnnaaGreat
open Go.RowKit
set_option linter.unusedVariables false
set_option linter.unusedSimpArgs false
/-- carry's answer: the half that stays, the half that is changed. -/
def carR (E : List UInt8 → List UInt8) (f t : List UInt8) (z p : Int) (left : Bool) : List UInt8 × List UInt8 × Int :=
  if (fitB z f.length && (decide (t.length = f.length) && okP p)) = true then (f, addL E f t z.toNat p.toNat left, 0) else ([], [], 11)
/-- A cipher's count behind a pass. -/
def cntM (m : Nat) (code : Int) : Nat := if code = 0 then m + 1 else m
theorem car_no {E : List UInt8 → List UInt8} {f t : List UInt8} {z p : Int} {left : Bool} (h : (fitB z f.length && (decide (t.length = f.length) && okP p)) = false) : carR E f t z p left = ([], [], 11) := by
  unfold carR; rw [h, if_neg (by decide)]
theorem car_ok (E : List UInt8 → List UInt8) (f t : List UInt8) (n p : Nat) (left : Bool) (h2 : 2 ≤ n) (h28 : n ≤ 28) (hf : f.length = szN n) (ht : t.length = szN n) (hp : p ≤ 255) : carR E f t (n : Int) (p : Int) left = (f, addL E f t n p left, 0) := by
  unfold carR
  rw [hf, fitB_mk h2 h28, ht, okP_mk p hp, if_pos (by simp)]
  rfl
theorem car_even {E : List UInt8 → List UInt8} {l r : List UInt8} {z p : Int} (hp : p.tmod 2 = 0) : passR E l r z p = ((carR E r l z p true).2.1, (carR E r l z p true).1, (carR E r l z p true).2.2) := by
  rw [pass_even hp]
  unfold carR ontoR
  split <;> simp
theorem car_odd {E : List UInt8 → List UInt8} {l r : List UInt8} {z p : Int} (hp : p.tmod 2 ≠ 0) : passR E l r z p = carR E l r z p false := by
  rw [pass_odd hp]
  unfold carR ontoR
  split <;> simp
theorem xorL_front : ∀ (t s : List UInt8), xorL t (s.take t.length) = xorL t s
  | [], s => by unfold xorL; simp
  | x :: t, [] => by unfold xorL; simp
  | x :: t, y :: s => by
    have h := xorL_front t s
    unfold xorL at h ⊢
    rw [List.length_cons, List.take_succ_cons, List.zipWith_cons_cons, List.zipWith_cons_cons, h]
attribute [local irreducible] foursL pairsL cutR trimL joinL blockL joinR trimR blockR maskB edgeN szI szN encL tableL xorL addL passP passesP mixL ontoR passR passesR atP carR cntM

set_option maxRecDepth 100000 in
theorem fleft_any (p : Int) (v : Bool) (hv : (p.tmod 2 == 0) = v) (hp : -9223372036854775808 ≤ p ∧ p ≤ 9223372036854775807) (w : World) :
    Calls Tryz.prog 115 #[.int .i64 p] w fun e w' => e = .returned (.bool v) ∧ w = w' := by
  go_enter Tryz.func115, Tryz.ntmps115
  go_wp2_with fail
  go_ret
  exact ⟨by first | rfl | simp [hv], rfl⟩

set_option maxRecDepth 100000 in
set_option maxHeartbeats 4000000 in
theorem fcarry_any (cb b0 lo mc n c s d : Nat) (key f t : List UInt8) (A B : Option Addr) (z p : Int) (left : Bool) (w : World) (hob : Ob cb b0 lo key mc w) (hmc : mc + 1 ≤ 1000000000) (h : RB w w.heap.size A n f) (k : RB w w.heap.size B s t) (ha : 0 < n → Away A cb) (hb : 0 < s → Away B cb) (hn : n ≤ 1000000) (hs : s ≤ 1000000) (hz : z ≤ 9223372036854775807) (hp : -9223372036854775808 ≤ p ∧ p ≤ 9223372036854775807) (hl : (p.tmod 2 == 0) = left) :
    Calls Tryz.prog 116 #[.pointer (some ⟨cb, 0, none⟩), .slice A n c, .slice B s d, .int .i64 z, .int .i64 p] w (RetP (carR (encL key tableL) f t z p left).1 (carR (encL key tableL) f t z p left).2.1 (carR (encL key tableL) f t z p left).2.2 key cb b0 lo (cntM mc (carR (encL key tableL) f t z p left).2.2) w) := by
  have HL := Lib.hid h.len
  have HM := Lib.hid k.len
  have HF := Lib.hid h
  have HT := Lib.hid k
  have HAF := Lib.hid ha
  have HAT := Lib.hid hb
  have HOB := Lib.hid hob
  have HMC := Lib.hid hmc
  have HLE := Lib.hid (fleft_any p left hl hp)
  have HBK := Lib.hid (hblock_any A n c f z p w h hn hz)
  clear hl hp
  cases hv : (fitB z n && decide (0 ≤ p ∧ p ≤ 255))
  · have HB : Hid (blockR f z p = ([], 11)) := Lib.hid (blockR_no (by rw [HL.out]; exact hv))
    have HE : Hid (carR (encL key tableL) f t z p left = ([], [], 11)) := Lib.hid (car_no (by
      rw [HL.out]
      unfold okP
      revert hv
      cases fitB z n <;> cases decide (0 ≤ p ∧ p ≤ 255) <;> simp))
    rw [HB.out] at HBK
    clear h k ha hb hob hmc hv HB
    go_enter Tryz.func116, Tryz.ntmps116
    go_wp2_with fail
    refine HBK.out.mono ?_
    rintro e w1 ⟨A1, c1, rfl, ho, hb⟩
    have B1 := Lib.hid hb
    clear ho hb
    go_wp2_with fail
    go_ret3
    rw [HE.out]
    exact ⟨none, 0, 0, none, 0, 0, rfl, OwnB.nil_ _ _, OwnB.nil_ _ _, But.of_below B1.out, by unfold cntM; exact HOB.out.below B1.out⟩
  · have hfit : fitB z n = true := by revert hv; cases fitB z n <;> simp
    have hpp : 0 ≤ p ∧ p ≤ 255 := by rw [hfit, Bool.true_and] at hv; exact of_decide_eq_true hv
    obtain ⟨N, rfl, h2, h28, en⟩ := fitB_nat hfit
    obtain ⟨P, rfl⟩ : ∃ P : Nat, p = (P : Int) := ⟨p.toNat, by omega⟩
    have hP : P ≤ 255 := by omega
    have HB := Lib.hid (block_ok f N P h2 h28 (by rw [HL.out]; exact en) hP)
    have hn14 : n ≤ 14 := by have := szN_le N h28; omega
    have HBL : Hid ((blockL f N P).length = 16) := Lib.hid (block_len f N P (by rw [HL.out]; exact hn14))
    rw [HB.out] at HBK
    dsimp only at HBK
    rw [HBL.out] at HBK
    clear hv hfit hpp HB
    by_cases hl : s = n
    · subst hl
      have HE := Lib.hid (car_ok (encL key tableL) f t N P left h2 h28 (by rw [HL.out]; exact en) (by rw [HM.out]; exact en) hP)
      have hne : ((s : Int) != (s : Int)) = false := bne_self_eq_false _
      obtain ⟨V, HV⟩ : ∃ V, Hid (V = blockL f N P) := ⟨_, Lib.hid rfl⟩
      rw [← HV.out] at HBK HBL
      obtain ⟨S, HS⟩ : ∃ S, Hid (S = encL key tableL V) := ⟨_, Lib.hid rfl⟩
      have HSL : Hid (S.length = 16) := Lib.hid (by rw [HS.out]; exact encL_len key tableL V hob.len HBL.out)
      obtain ⟨X, HX⟩ : ∃ X, Hid (X = xorL t S) := ⟨_, Lib.hid rfl⟩
      have HXF : Hid (xorL t (S.take s) = X) := Lib.hid (by rw [HX.out, ← HM.out]; exact xorL_front t S)
      have HXL : Hid (X.length = s) := Lib.hid (by rw [HX.out, xor_len2 (by rw [HM.out, HSL.out]; omega), HM.out])
      have HTR := Lib.hid (trim_ok X N left h2 h28 (by rw [HXL.out]; exact en))
      have HAD : Hid (trimL X N left = addL (encL key tableL) f t N P left) := Lib.hid (by
        rw [HX.out, HS.out, HV.out]; unfold addL; rfl)
      rw [HAD.out] at HTR
      have HAL : Hid ((addL (encL key tableL) f t N P left).length = s) := Lib.hid (by rw [← HAD.out, trim_len]; exact HXL.out)
      have K0 : Hid (But cb w w ∧ cb < w.heap.size) := Lib.hid ⟨But.refl _ _, hob.lt⟩
      clear h k ha hb hob hmc en HAD
      go_enter Tryz.func116, Tryz.ntmps116
      go_wp2_with fail
      refine HBK.out.mono ?_
      rintro e w1 ⟨A1, c1, rfl, ho, hb⟩
      have O1 := Lib.hid ho
      have B1 := Lib.hid (And.intro (But.of_below (b := cb) hb) (And.intro (HOB.out.below hb) (And.intro (HF.out.step hb) (HT.out.step hb))))
      have W1 : Hid (Away A1 cb ∧ 16 ≤ c1 ∧ RB w1 w1.heap.size A1 16 V) := Lib.hid ⟨ho.far K0.out.2, ho.cap.1, ho.rb⟩
      clear ho hb HBK
      go_wp2_with fail
      refine (encrypt_any cb b0 lo mc c1 key V A1 _ (by exact B1.out.2.1) HMC.out (by exact W1.out.2.2) W1.out.2.1 W1.out.1).mono ?_
      rw [← HS.out]
      rintro e w2 ⟨A2, c2, rfl, ho, hbu, hob2⟩
      have B2 := Lib.hid (And.intro (B1.out.1.trans hbu) (And.intro hob2 (And.intro (B1.out.2.2.1.asd hbu HAF.out) (B1.out.2.2.2.asd hbu HAT.out))))
      have hc2 := ho.cap.1
      have kcut := cut_h A2 16 c2 s (by omega)
      have R2 := Lib.hid (ho.rb.part (i := 0) (j := s) (c := c2) (Nat.zero_le _) (by omega) hc2)
      rw [List.drop_zero, Nat.sub_zero] at R2
      clear ho hbu hob2 hc2 W1 O1
      go_wp2_with fail
      refine (xor_same B _ s d c2 0 0 t (S.take s) _ (by exact B2.out.2.2.2) (by exact R2.out) (by omega)).mono ?_
      rw [HXF.out]
      rintro e w3 ⟨A3, c3, rfl, ho, hb⟩
      have B3 := Lib.hid (And.intro (B2.out.1.trans (But.of_below hb)) (And.intro (B2.out.2.1.below hb) (B2.out.2.2.1.step hb)))
      have R3 := Lib.hid ho.rb
      clear ho hb R2 kcut
      go_wp2_with fail
      refine (HLE.out _).mono ?_
      rintro e w4 ⟨rfl, rfl⟩
      go_wp2_with fail
      refine (htrimT_any A3 s c3 X (N : Int) left _ (by exact R3.out) (by omega) (by omega)).mono ?_
      rw [HTR.out]
      dsimp only
      rw [HAL.out]
      rintro e w5 ⟨A5, c5, rfl, ho, hb⟩
      have B5 := Lib.hid (And.intro (B3.out.1.trans (But.of_below hb)) (And.intro (B3.out.2.1.below hb) (B3.out.2.2.step hb)))
      have O5 := Lib.hid (ho.base_le B3.out.1.size)
      clear ho hb R3
      go_wp2_with fail
      refine (clone_any A s c _ f _ (by exact B5.out.2.2) (Nat.le_refl _) (by omega)).mono ?_
      rintro e w6 ⟨A6, c6, rfl, ho, hb⟩
      have O6 := Lib.hid (ho.base_le B5.out.1.size)
      have O56 := Lib.hid (O5.out.below hb)
      have B6 := Lib.hid (And.intro (B5.out.1.trans (But.of_below hb)) (B5.out.2.1.below hb))
      clear ho hb O5
      go_wp2_with fail
      go_ret3
      rw [HE.out]
      exact ⟨A6, _, c6, A5, _, c5, rfl, O6.out, O56.out, B6.out.1, by unfold cntM; exact B6.out.2⟩
    · have HE : Hid (carR (encL key tableL) f t (N : Int) (P : Int) left = ([], [], 11)) := Lib.hid (car_no (by
        rw [HL.out, HM.out, decide_eq_false hl]; simp))
      have hne : ((s : Int) != (n : Int)) = true := by rw [bne_iff_ne]; omega
      obtain ⟨V, HV⟩ : ∃ V, Hid (V = blockL f N P) := ⟨_, Lib.hid rfl⟩
      rw [← HV.out] at HBK
      clear h k ha hb hob hmc en
      go_enter Tryz.func116, Tryz.ntmps116
      go_wp2_with fail
      refine HBK.out.mono ?_
      rintro e w1 ⟨A1, c1, rfl, ho, hb⟩
      have B1 := Lib.hid hb
      clear ho hb HBK
      go_wp2_with fail
      go_ret3
      rw [HE.out]
      exact ⟨none, 0, 0, none, 0, 0, rfl, OwnB.nil_ _ _, OwnB.nil_ _ _, But.of_below B1.out, by unfold cntM; exact HOB.out.below B1.out⟩

set_option maxRecDepth 100000 in
set_option maxHeartbeats 4000000 in
theorem fpass_any (cb b0 lo mc n c s d : Nat) (key l r : List UInt8) (A B : Option Addr) (z p : Int) (w : World) (hob : Ob cb b0 lo key mc w) (hmc : mc + 1 ≤ 1000000000) (h : RB w w.heap.size A n l) (k : RB w w.heap.size B s r) (ha : 0 < n → Away A cb) (hb : 0 < s → Away B cb) (hn : n ≤ 1000000) (hs : s ≤ 1000000) (hz : z ≤ 9223372036854775807) (hp : -9223372036854775808 ≤ p ∧ p ≤ 9223372036854775807) :
    Calls Tryz.prog 95 #[.pointer (some ⟨cb, 0, none⟩), .slice A n c, .slice B s d, .int .i64 z, .int .i64 p] w (RetP (passR (encL key tableL) l r z p).1 (passR (encL key tableL) l r z p).2.1 (passR (encL key tableL) l r z p).2.2 key cb b0 lo (cntM mc (passR (encL key tableL) l r z p).2.2) w) := by
  by_cases hpar : p.tmod 2 = 0
  · have HE := Lib.hid (car_even (E := encL key tableL) (l := l) (r := r) (z := z) hpar)
    have HC := Lib.hid (fcarry_any cb b0 lo mc s d n c key r l B A z p true w hob hmc k h hb ha hs hn hz hp (by rw [hpar]; rfl))
    have HLE := Lib.hid (fleft_any p true (by rw [hpar]; rfl) hp)
    obtain ⟨u, HU⟩ : ∃ u, Hid (carR (encL key tableL) r l z p true = u) := ⟨_, Lib.hid rfl⟩
    rw [HU.out] at HC HE
    clear hob hmc h k ha hb hpar hp
    go_enter Tryz.func95, Tryz.ntmps95
    go_wp2_with fail
    refine (HLE.out _).mono ?_
    rintro e w1 ⟨rfl, rfl⟩
    go_wp2_with fail
    refine HC.out.mono ?_
    rintro e w2 ⟨A1, n1, c1, A2, n2, c2, rfl, ho1, ho2, hbu, hob⟩
    have O1 := Lib.hid ho1
    have O2 := Lib.hid ho2
    have BU := Lib.hid hbu
    have OB := Lib.hid hob
    clear ho1 ho2 hbu hob HC
    go_wp2_with fail
    go_ret3
    rw [HE.out]
    exact ⟨A2, n2, c2, A1, n1, c1, rfl, O2.out, O1.out, BU.out, OB.out⟩
  · have HE := Lib.hid (car_odd (E := encL key tableL) (l := l) (r := r) (z := z) hpar)
    have HC := Lib.hid (fcarry_any cb b0 lo mc n c s d key l r A B z p false w hob hmc h k ha hb hn hs hz hp (by rw [beq_eq_false_iff_ne]; exact hpar))
    have HLE := Lib.hid (fleft_any p false (by rw [beq_eq_false_iff_ne]; exact hpar) hp)
    obtain ⟨u, HU⟩ : ∃ u, Hid (carR (encL key tableL) l r z p false = u) := ⟨_, Lib.hid rfl⟩
    rw [HU.out] at HC HE
    clear hob hmc h k ha hb hpar hp
    go_enter Tryz.func95, Tryz.ntmps95
    go_wp2_with fail
    refine (HLE.out _).mono ?_
    rintro e w1 ⟨rfl, rfl⟩
    go_wp2_with fail
    refine HC.out.mono ?_
    rintro e w2 ⟨A1, n1, c1, A2, n2, c2, rfl, ho1, ho2, hbu, hob⟩
    have O1 := Lib.hid ho1
    have O2 := Lib.hid ho2
    have BU := Lib.hid hbu
    have OB := Lib.hid hob
    clear ho1 ho2 hbu hob HC
    go_wp2_with fail
    go_ret3
    rw [HE.out]
    exact ⟨A1, n1, c1, A2, n2, c2, rfl, O1.out, O2.out, BU.out, OB.out⟩
end Go.Proofs.YtkcchidklcnnnaaGreat

/- Layer 15's Passes, Mix and Unmix. Conditions: the slices' cells are readable and lie away from the cipher, lengths are at most a million, at most a thousand passes. -/
namespace Go.Proofs.YtkcchidklcnnnaaGreat
open Go.RowKit
set_option linter.unusedVariables false
set_option linter.unusedSimpArgs false
theorem cntM_ok (m : Nat) : cntM m 0 = m + 1 := by unfold cntM; rw [if_pos rfl]
/-- A cipher's count behind passes. -/
def cntP (m k : Nat) (code : Int) : Nat := if code = 0 then m + k else m
theorem cntP_ok (m k : Nat) : cntP m k 0 = m + k := by unfold cntP; rw [if_pos rfl]
theorem cntP_no (m k : Nat) : cntP m k 11 = m := by unfold cntP; rw [if_neg (by decide)]
theorem enc_G {key : List UInt8} (hk : key.length = 16) : ∀ b : List UInt8, b.length = 16 → (encL key tableL b).length = 16 := fun b hb => encL_len key tableL b hk hb
attribute [local irreducible] foursL pairsL cutR trimL joinL blockL joinR trimR blockR maskB edgeN szI szN encL tableL xorL addL passP passesP mixL ontoR passR passesR atP carR cntM cntP okP

set_option maxRecDepth 100000 in
set_option maxHeartbeats 2000000 in
theorem foutside_any (p : Int) (v : Bool) (hv : (!okP p) = v) (hp : -9223372036854775808 ≤ p ∧ p ≤ 9223372036854775807) (w : World) :
    Calls Tryz.prog 94 #[.int .i64 p] w fun e w' => e = .returned (.bool v) ∧ w = w' := by
  unfold okP at hv
  by_cases h0 : p < 0
  · have d0 : decide (p < 0) = true := decide_eq_true h0
    have e : v = true := by rw [← hv, decide_eq_false (by omega)]; rfl
    subst e
    clear hv h0
    go_enter Tryz.func94, Tryz.ntmps94
    go_wp2_with fail
    go_ret
    exact ⟨rfl, rfl⟩
  · have d0 : decide (p < 0) = false := decide_eq_false h0
    have e : decide (255 < p) = v := by
      rw [← hv, Bool.eq_iff_iff, decide_eq_true_eq, Bool.not_eq_true', decide_eq_false_iff_not]
      omega
    clear hv h0
    go_enter Tryz.func94, Tryz.ntmps94
    go_wp2_with fail
    go_ret
    exact ⟨by first | rfl | simp [e], rfl⟩
set_option maxRecDepth 100000 in
set_option maxHeartbeats 2000000 in
theorem findexf_any (A : Option Addr) (n c : Nat) (o : List Int) (w : World) (h : ZL w w.heap.size A n o) (hn : n ≤ 1000) :
    Calls Tryz.prog 114 #[.slice A n c, .func (.func 94) #[] #[]] w fun e w' => ∃ z : Int, e = .returned (.int .i64 z) ∧ w = w' ∧ decide (0 ≤ z) = !(o.all okP) := by
  have H := Lib.hid h
  have HL := Lib.hid h.len
  clear h
  go_enter Tryz.func114, Tryz.ntmps114
  go_wp2_with fail
  go_loopw [8] (fun i wr => ∃ k : Nat, k ≤ n ∧ i = .int .i64 k ∧ w = wr ∧ Hid (∀ j p, j < k → o[j]? = some p → okP p = true)) (fun i _ => n - (intOf i).toNat)
  case atStart => exact ⟨0, by omega, rfl, rfl, Lib.hid (fun j p hj => absurd hj (Nat.not_lt_zero _))⟩
  case round =>
    obtain ⟨k, hk, rfl, rfl, HA⟩ := hrel
    by_cases hlt : k < n
    · obtain ⟨g, q, rfl, hg, p, hp, hpb, hc⟩ := H.out.at_ hlt
      have HP := Lib.hid hp
      cases h20 : okP p
      · have HC := Lib.hid (foutside_any p true (by rw [h20]; rfl) hpb w)
        have H20 := Lib.hid h20
        clear hp h20 hpb
        go_wp2_with fail
        refine HC.out.mono ?_
        rintro e w1 ⟨rfl, rfl⟩
        go_wp2_with fail
        go_ret
        exact ⟨_, rfl, rfl, by
          rw [decide_eq_true (by omega : (0 : Int) ≤ (k : Int)), eq_comm, Bool.not_eq_true', List.all_eq_false]
          exact ⟨p, List.mem_of_getElem? HP.out, by rw [H20.out]; decide⟩⟩
      · have HC := Lib.hid (foutside_any p false (by rw [h20]; rfl) hpb w)
        have H20 := Lib.hid h20
        clear hp h20 hpb
        go_wp2_with fail
        refine HC.out.mono ?_
        rintro e w1 ⟨rfl, rfl⟩
        go_wp2_with fail
        go_roundw
        case rel => exact ⟨k + 1, by omega, by go_num, trivial, Lib.hid (fun j q hj hq => by
          rcases Nat.lt_or_eq_of_le (Nat.le_of_lt_succ hj) with h1 | h1
          · exact HA.out j q h1 hq
          · subst h1
            rw [HP.out] at hq
            rw [← Option.some.inj hq]
            exact H20.out)⟩
        case measure => simp [intOf]; omega
    · have hkn : k = n := by omega
      subst hkn
      go_wp2_with fail
      go_ret
      exact ⟨_, rfl, rfl, by
        rw [show decide ((0 : Int) ≤ -1) = false by decide, eq_comm, Bool.not_eq_false', List.all_eq_true]
        intro p hp
        obtain ⟨j, hj, hpj⟩ := List.mem_iff_getElem.1 hp
        exact HA.out j p (by rw [HL.out] at hj; exact hj) (by rw [← hpj]; exact List.getElem?_eq_getElem hj)⟩
set_option maxRecDepth 100000 in
set_option maxHeartbeats 2000000 in
theorem fcontains_any (A : Option Addr) (n c : Nat) (o : List Int) (w : World) (h : ZL w w.heap.size A n o) (hn : n ≤ 1000) (v : Bool) (hv : (!(o.all okP)) = v) :
    Calls Tryz.prog 93 #[.slice A n c, .func (.func 94) #[] #[]] w fun e w' => e = .returned (.bool v) ∧ w = w' := by
  have HI := Lib.hid (findexf_any A n c o w h hn)
  have HV := Lib.hid hv
  clear h hv hn
  go_enter Tryz.func93, Tryz.ntmps93
  go_wp2_with fail
  refine HI.out.mono ?_
  rintro e w1 ⟨z, rfl, rfl, hz⟩
  rw [HV.out] at hz
  go_wp2_with fail
  go_ret
  exact ⟨rfl, rfl⟩

set_option maxRecDepth 100000 in
set_option maxHeartbeats 4000000 in
theorem fpasses_any (cb b0 lo mc n c m d : Nat) (key b : List UInt8) (o : List Int) (A C : Option Addr) (w : World) (hob : Ob cb b0 lo key mc w) (hmc : mc + 1000 ≤ 1000000000) (h : RB w w.heap.size A n b) (k : ZL w w.heap.size C m o) (ha : 0 < n → Away A cb) (hc : 0 < m → Away C cb) (hn : n ≤ 1000000) (hnc : n ≤ c) (hm : m ≤ 1000) :
    Calls Tryz.prog 67 #[.pointer (some ⟨cb, 0, none⟩), .slice A n c, .slice C m d] w (RetM (passesR (encL key tableL) b o).1.length (passesR (encL key tableL) b o).1 (passesR (encL key tableL) b o).2 key cb b0 lo (cntP mc m (passesR (encL key tableL) b o).2) w) := by
  have HOB := Lib.hid hob
  have HMC := Lib.hid hmc
  have HO := Lib.hid k
  have HAC := Lib.hid hc
  have HL := Lib.hid h.len
  have HM := Lib.hid k.len
  have HLT := Lib.hid hob.lt
  have HEE := Lib.hid (enc_G hob.len)
  have HCT := Lib.hid (hcut_any A n c b w h hnc hn)
  obtain ⟨E, HEN⟩ : ∃ E, Hid (E = encL key tableL) := ⟨_, Lib.hid rfl⟩
  have HPA := Lib.hid (fun (A B : Option Addr) (mc n c s d : Nat) (l r : List UInt8) (z p : Int) (v : World) (hob : Ob cb b0 lo key mc v) (hmc : mc + 1 ≤ 1000000000) (h : RB v v.heap.size A n l) (k : RB v v.heap.size B s r) (ha : 0 < n → Away A cb) (hb : 0 < s → Away B cb) (hn : n ≤ 1000000) (hs : s ≤ 1000000) (hz : z ≤ 9223372036854775807) (hp : -9223372036854775808 ≤ p ∧ p ≤ 9223372036854775807) => fpass_any cb b0 lo mc n c s d key l r A B z p v hob hmc h k ha hb hn hs hz hp)
  rw [← HEN.out] at HPA HEE ⊢
  have hn' : (n : Int) ≤ 9223372036854775807 := by omega
  clear hob hmc h k ha hc
  by_cases hg : 2 ≤ b.length ∧ b.length ≤ 28
  · have hcp := cut_parts b hg.1 hg.2
    have v0 := cut_vh b hg.1 hg.2
    obtain ⟨s, hs⟩ : ∃ s, szN n = s := ⟨_, rfl⟩
    have hs14 : s ≤ 14 := by rw [← hs]; exact szN_le n (by rw [← HL.out]; exact hg.2)
    have HS := Lib.hid hs
    obtain ⟨L, R, q, hLR⟩ : ∃ L R q, cutR b = (L, R, q) := ⟨_, _, _, rfl⟩
    have HZ : Hid (atP E b o 0 = (L, R)) := Lib.hid (by rw [atP_zero, hLR])
    rw [hLR] at hcp HCT
    dsimp only at hcp HCT
    obtain rfl : q = 0 := hcp.1
    have HLs : Hid (L.length = s) := Lib.hid (by rw [hcp.2.1, HL.out, hs])
    have HRs : Hid (R.length = s) := Lib.hid (by rw [hcp.2.2.1, HL.out, hs])
    have HG := Lib.hid hg
    clear hcp v0 hLR hs hg
    cases hall : o.all okP
    · have HE : Hid (passesR E b o = ([], 11)) := Lib.hid (passes_no (fun e => by rw [hall] at e; exact absurd e.2.2 (by decide)))
      have HCF := Lib.hid (fun (v : World) (h : ZL v v.heap.size C m o) => fcontains_any C m d o v h hm true (by rw [hall]; rfl))
      clear hall
      go_enter Tryz.func67, Tryz.ntmps67
      go_wp2_with fail
      refine HCT.out.mono ?_
      rintro e w1 ⟨A1, n1, c1, A2, n2, c2, rfl, ho1, ho2, hb⟩
      have B1 := Lib.hid hb
      clear ho1 ho2 hb HCT
      go_wp2_with fail
      refine (HCF.out _ (HO.out.step B1.out)).mono ?_
      rintro e w2 ⟨rfl, rfl⟩
      go_wp2_with fail
      go_ret2
      rw [HE.out]
      exact ⟨none, 0, rfl, OwnB.nil_ _ _, But.of_below B1.out, by dsimp only; rw [cntP_no]; exact HOB.out.below B1.out⟩
    · have HJ := Lib.hid (atP_join HEE.out b o m HM.out HG.out.1 HG.out.2 hall)
      have HPL := Lib.hid (passes_len (E := E) HG.out.1 HG.out.2 hall)
      have HAL := Lib.hid (fun (p : Int) (j : Nat) (hp : o[j]? = some p) => List.all_eq_true.1 hall p (List.mem_of_getElem? hp))
      have HCF := Lib.hid (fun (v : World) (h : ZL v v.heap.size C m o) => fcontains_any C m d o v h hm false (by rw [hall]; rfl))
      have HVL : Hid (∀ j, (atP E b o j).1.length = s ∧ (atP E b o j).2.length = s) := Lib.hid (fun j => by
        have v := atP_vh HEE.out b o j HG.out.1 HG.out.2
        have e1 := v.l
        have e2 := v.r
        rw [HL.out, HS.out] at e1 e2
        exact ⟨e1, e2⟩)
      clear hall
      go_enter Tryz.func67, Tryz.ntmps67
      go_wp2_with fail
      refine HCT.out.mono ?_
      rintro e w1 ⟨A1, n1, c1, A2, n2, c2, rfl, ho1, ho2, hb⟩
      obtain rfl : s = n1 := HLs.out.symm.trans ho1.len
      obtain rfl : s = n2 := HRs.out.symm.trans ho2.len
      have K1 := Lib.hid (((CW.start HOB.out).own2 hb ho1 ho2))
      have B1 := Lib.hid hb
      clear ho1 ho2 hb HCT
      go_wp2_with fail
      refine (HCF.out _ (HO.out.step B1.out)).mono ?_
      rintro e w2 ⟨rfl, rfl⟩
      clear B1 HCF
      go_wp2_with fail
      go_loopw [8, 9, 27] (fun v y i wr => ∃ (j c1 c2 : Nat) (A1 A2 : Option Addr), j ≤ m ∧ v = .slice A1 s c1 ∧ y = .slice A2 s c2 ∧ i = .int .i64 j ∧ Hid (CW w cb b0 lo key (mc + j) [(A2, s, c2, (atP E b o j).2), (A1, s, c1, (atP E b o j).1)] wr)) (fun _ _ i _ => m - (intOf i).toNat)
      case atStart => exact ⟨0, c1, c2, A1, A2, Nat.zero_le _, rfl, rfl, rfl, Lib.hid (by rw [HZ.out]; exact K1.out)⟩
      case round =>
        clear K1
        obtain ⟨j, c1, c2, A1, A2, hj, rfl, rfl, rfl, K⟩ := hrel
        by_cases hlt : j < m
        · have HO2 : Hid (ZL wr wr.heap.size C m o) := Lib.hid (HO.out.asd K.out.but HAC.out)
          obtain ⟨g, q, rfl, hg, p, hp, hpb, hcell⟩ := HO2.out.at_ hlt
          have HQ := Lib.hid (HPA.out A1 A2 (mc + j) s c1 s c2 (atP E b o j).1 (atP E b o j).2 (n : Int) p wr K.out.ob (by have := HMC.out; omega) (K.out.row _ (.tail _ (.head _))).1 (K.out.row _ (.head _)).1 (K.out.row _ (.tail _ (.head _))).2.2 (K.out.row _ (.head _)).2.2 (by omega) (by omega) hn' hpb)
          have HPP := atP_pass HEE.out b o j p HG.out.1 HG.out.2 hp (HAL.out p j hp)
          rw [HL.out] at HPP
          rw [HPP] at HQ
          dsimp only at HQ
          rw [cntM_ok] at HQ
          clear hp hpb HPP
          go_wp2_with fail
          refine HQ.out.mono ?_
          rintro e w3 ⟨A3, n3, c3, A4, n4, c4, rfl, ho3, ho4, hbu, hob⟩
          obtain rfl : s = n3 := (HVL.out (j + 1)).1.symm.trans ho3.len
          obtain rfl : s = n4 := (HVL.out (j + 1)).2.symm.trans ho4.len
          have K3 : Hid (CW w cb b0 lo key (mc + (j + 1)) [(A4, s, c4, (atP E b o (j + 1)).2), (A3, s, c3, (atP E b o (j + 1)).1)] w3) := Lib.hid ((K.out.ret2 hbu hob ho3 ho4).few (fun r hr => by
            rcases List.mem_cons.1 hr with rfl | hr
            · exact .head _
            · rcases List.mem_cons.1 hr with rfl | hr
              · exact .tail _ (.head _)
              · cases hr))
          clear ho3 ho4 hbu hob HQ
          go_wp2_with fail
          go_roundw
          case rel => exact ⟨j + 1, c3, c4, A3, A4, by omega, rfl, rfl, by go_num, K3⟩
          case measure => simp [intOf]; omega
        · obtain rfl : j = m := by omega
          have HQ := Lib.hid (hjoin_any A1 A2 s c1 s c2 (atP E b o j).1 (atP E b o j).2 (n : Int) wr (K.out.row _ (.tail _ (.head _))).1 (K.out.row _ (.head _)).1 (by omega) (by omega) hn')
          have HJ2 := HJ.out
          rw [HL.out] at HJ2
          rw [HJ2] at HQ
          clear HJ2 hlt
          go_wp2_with fail
          refine HQ.out.mono ?_
          rintro e w3 ⟨A3, c3, rfl, ho3, hb3⟩
          have K3 := Lib.hid (And.intro (ho3.base_le K.out.but.size) (K.out.step hb3))
          clear ho3 hb3
          go_wp2_with fail
          go_ret2
          exact ⟨A3, c3, rfl, K3.out.1, K3.out.2.but, by rw [HPL.out.2, cntP_ok]; exact K3.out.2.ob⟩
  · have HE : Hid (passesR E b o = ([], 11)) := Lib.hid (passes_no (fun e => hg ⟨e.1, e.2.1⟩))
    have hcn := cut_no hg
    rw [hcn] at HCT
    clear hcn hg
    go_enter Tryz.func67, Tryz.ntmps67
    go_wp2_with fail
    refine HCT.out.mono ?_
    rintro e w1 ⟨A1, n1, c1, A2, n2, c2, rfl, ho1, ho2, hb⟩
    have B1 := Lib.hid hb
    clear ho1 ho2 hb HCT
    go_wp2_with fail
    go_ret2
    rw [HE.out]
    exact ⟨none, 0, rfl, OwnB.nil_ _ _, But.of_below B1.out, by dsimp only; rw [cntP_no]; exact HOB.out.below B1.out⟩
set_option maxRecDepth 100000 in
set_option maxHeartbeats 2000000 in
theorem fmix_any (cb b0 lo mc n c : Nat) (key b : List UInt8) (A : Option Addr) (w : World) (hob : Ob cb b0 lo key mc w) (hmc : mc + 1000 ≤ 1000000000) (h : RB w w.heap.size A n b) (ha : 0 < n → Away A cb) (hn : n ≤ 1000000) (hnc : n ≤ c) :
    Calls Tryz.prog 56 #[.pointer (some ⟨cb, 0, none⟩), .slice A n c] w (RetM (passesR (encL key tableL) b [1, 2, 3, 4]).1.length (passesR (encL key tableL) b [1, 2, 3, 4]).1 (passesR (encL key tableL) b [1, 2, 3, 4]).2 key cb b0 lo (cntP mc 4 (passesR (encL key tableL) b [1, 2, 3, 4]).2) w) := by
  have HLT := Lib.hid hob.lt
  have HB := Lib.hid (below_alloc w (.cells #[.int .i64 1, .int .i64 2, .int .i64 3, .int .i64 4] 3))
  have HPS := Lib.hid (fpasses_any cb b0 lo mc n c 4 4 key b [1, 2, 3, 4] A (some ⟨w.heap.size, 0, none⟩) _ (hob.below HB.out) hmc (h.step HB.out) (ZL.lit w [1, 2, 3, 4] #[.int .i64 1, .int .i64 2, .int .i64 3, .int .i64 4] 4 w.heap.size 3 rfl rfl rfl (by decide)) ha (fun _ g q e => by injection e with e; injection e with e; have := HLT.out; omega) hn hnc (by omega))
  obtain ⟨u, HU⟩ : ∃ u, Hid (passesR (encL key tableL) b [1, 2, 3, 4] = u) := ⟨_, Lib.hid rfl⟩
  rw [HU.out] at HPS ⊢
  clear hob hmc h ha
  go_enter Tryz.func56, Tryz.ntmps56
  go_wp2_with fail
  refine HPS.out.mono ?_
  rintro e w2 ⟨A2, c2, rfl, ho, hbu, hob⟩
  have K2 := Lib.hid (And.intro (ho.base_le HB.out.size) (And.intro ((But.of_below HB.out).trans hbu) hob))
  clear ho hbu hob HPS
  go_wp2_with fail
  go_ret2
  exact ⟨A2, c2, rfl, K2.out.1, K2.out.2.1, K2.out.2.2⟩
set_option maxRecDepth 100000 in
set_option maxHeartbeats 2000000 in
theorem funmix_any (cb b0 lo mc n c : Nat) (key b : List UInt8) (A : Option Addr) (w : World) (hob : Ob cb b0 lo key mc w) (hmc : mc + 1000 ≤ 1000000000) (h : RB w w.heap.size A n b) (ha : 0 < n → Away A cb) (hn : n ≤ 1000000) (hnc : n ≤ c) :
    Calls Tryz.prog 57 #[.pointer (some ⟨cb, 0, none⟩), .slice A n c] w (RetM (passesR (encL key tableL) b [4, 3, 2, 1]).1.length (passesR (encL key tableL) b [4, 3, 2, 1]).1 (passesR (encL key tableL) b [4, 3, 2, 1]).2 key cb b0 lo (cntP mc 4 (passesR (encL key tableL) b [4, 3, 2, 1]).2) w) := by
  have HLT := Lib.hid hob.lt
  have HB := Lib.hid (below_alloc w (.cells #[.int .i64 4, .int .i64 3, .int .i64 2, .int .i64 1] 3))
  have HPS := Lib.hid (fpasses_any cb b0 lo mc n c 4 4 key b [4, 3, 2, 1] A (some ⟨w.heap.size, 0, none⟩) _ (hob.below HB.out) hmc (h.step HB.out) (ZL.lit w [4, 3, 2, 1] #[.int .i64 4, .int .i64 3, .int .i64 2, .int .i64 1] 4 w.heap.size 3 rfl rfl rfl (by decide)) ha (fun _ g q e => by injection e with e; injection e with e; have := HLT.out; omega) hn hnc (by omega))
  obtain ⟨u, HU⟩ : ∃ u, Hid (passesR (encL key tableL) b [4, 3, 2, 1] = u) := ⟨_, Lib.hid rfl⟩
  rw [HU.out] at HPS ⊢
  clear hob hmc h ha
  go_enter Tryz.func57, Tryz.ntmps57
  go_wp2_with fail
  refine HPS.out.mono ?_
  rintro e w2 ⟨A2, c2, rfl, ho, hbu, hob⟩
  have K2 := Lib.hid (And.intro (ho.base_le HB.out.size) (And.intro ((But.of_below HB.out).trans hbu) hob))
  clear ho hbu hob HPS
  go_wp2_with fail
  go_ret2
  exact ⟨A2, c2, rfl, K2.out.1, K2.out.2.1, K2.out.2.2⟩
end Go.Proofs.YtkcchidklcnnnaaGreat

