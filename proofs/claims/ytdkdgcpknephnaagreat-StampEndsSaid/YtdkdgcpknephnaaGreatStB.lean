/- Layer 12's reference: Stamp, Make, Check. Conditions: at most a million bytes. -/
import Derived.Test.YtdkdgcpknephnaaGreatStA
import Derived.Test.YtdkdgcpknephnaaGreatStR
import Derived.Test.YtdkdgcpknephnaaGreatUnhex
namespace Go.Proofs.YtdkdgcpknephnaaGreat
open Go.RowKit
set_option linter.unusedVariables false
set_option linter.unusedSimpArgs false
attribute [local go_sem ↓] ex_ldHd ex_stHd ex_ldHr ex_stHr ex_ldS ex_ldSr ex_stS ex_stSr
theorem rk_key (w : World) : Calls Tryz.prog 22 #[.string ⟨#[98, 101, 48, 99, 54, 57, 48, 98, 57, 102, 54, 54, 53, 55, 53, 97, 49, 100, 55, 54, 54, 98, 53, 52, 101, 51, 54, 56, 99, 56, 52, 101]⟩] w (RetBE 16 stKey 0 w) := by
  refine (runhex_any ⟨#[98, 101, 48, 99, 54, 57, 48, 98, 57, 102, 54, 54, 53, 55, 53, 97, 49, 100, 55, 54, 54, 98, 53, 52, 101, 51, 54, 56, 99, 56, 52, 101]⟩ [98, 101, 48, 99, 54, 57, 48, 98, 57, 102, 54, 54, 53, 55, 53, 97, 49, 100, 55, 54, 54, 98, 53, 52, 101, 51, 54, 56, 99, 56, 52, 101] w rfl (by decide)).mono ?_
  intro e w' k
  have e1 : unhexL [98, 101, 48, 99, 54, 57, 48, 98, 57, 102, 54, 54, 53, 55, 53, 97, 49, 100, 55, 54, 54, 98, 53, 52, 101, 51, 54, 56, 99, 56, 52, 101] = some stKey := by decide +kernel
  rcases k with ⟨d, hd, hr⟩ | ⟨hn, _⟩
  · rw [e1] at hd
    injection hd with hd
    subst hd
    exact hr
  · rw [e1] at hn
    cases hn
theorem rk_non (w : World) : Calls Tryz.prog 22 #[.string ⟨#[52, 54, 49, 53, 57, 57, 100, 51, 53, 100, 54, 51, 50, 98, 102, 50, 50, 51, 57, 56, 50, 53, 98, 98]⟩] w (RetBE 12 stNon 0 w) := by
  refine (runhex_any ⟨#[52, 54, 49, 53, 57, 57, 100, 51, 53, 100, 54, 51, 50, 98, 102, 50, 50, 51, 57, 56, 50, 53, 98, 98]⟩ [52, 54, 49, 53, 57, 57, 100, 51, 53, 100, 54, 51, 50, 98, 102, 50, 50, 51, 57, 56, 50, 53, 98, 98] w rfl (by decide)).mono ?_
  intro e w' k
  have e1 : unhexL [52, 54, 49, 53, 57, 57, 100, 51, 53, 100, 54, 51, 50, 98, 102, 50, 50, 51, 57, 56, 50, 53, 98, 98] = some stNon := by decide +kernel
  rcases k with ⟨d, hd, hr⟩ | ⟨hn, _⟩
  · rw [e1] at hd
    injection hd with hd
    subst hd
    exact hr
  · rw [e1] at hn
    cases hn
theorem st_trn : trnL stKey stNon [] = [] := List.eq_nil_of_length_eq_zero (trnL_len stKey stNon [] stKey_len stNon_len)
theorem st_tag (id ahead : List UInt8) : trnL stKey stNon [] ++ tagL stKey stNon (trnL stKey stNon []) (noteL id ahead) = stL id ahead := by rw [st_trn, List.nil_append]; rfl
theorem stamp_cases (id ahead : List UInt8) : (20 < id.length ∧ stampR id ahead = ([], 15)) ∨ (id.length ≤ 20 ∧ 65000 < ahead.length ∧ stampR id ahead = ([], 11)) ∨ (id.length ≤ 20 ∧ ahead.length ≤ 65000 ∧ stampR id ahead = (stL id ahead, 0)) := by
  unfold stampR
  by_cases h : 20 < id.length
  · exact .inl ⟨h, if_pos h⟩
  · rw [if_neg h]
    by_cases h2 : 65000 < ahead.length
    · exact .inr (.inl ⟨by omega, h2, if_pos h2⟩)
    · exact .inr (.inr ⟨by omega, by omega, if_neg h2⟩)
theorem sprs_long {l : List UInt8} (h : (sprs l).2 = 0) : 17 ≤ l.length := by
  unfold sprs at h
  by_cases h1 : (prs l).2.2 = 0
  · rw [if_neg (fun k => k h1)] at h
    have e := congrArg List.length (prs_back h1).2
    rw [List.length_append] at e
    by_cases h2 : schk (prs l).1 = 0
    · rw [if_neg (fun k => k h2)] at h
      by_cases h3 : (prs l).2.1.length < 17
      · rw [if_pos h3] at h; exact absurd h (by decide)
      · omega
    · rw [if_pos h2] at h; exact absurd h h2
  · rw [if_pos h1] at h; exact absurd h h1
attribute [local irreducible] stL stampR noteL trnL tagL byt rawP sprs aheadL
set_option maxRecDepth 100000 in
set_option maxHeartbeats 2000000 in
theorem rstamp_any (A0 A1 : Option Addr) (n0 c0 n1 c1 : Nat) (id ahead : List UInt8) (w : World) (h0 : RB w w.heap.size A0 n0 id) (h1 : RB w w.heap.size A1 n1 ahead) :
    Calls Tryz.prog 13 #[.slice A0 n0 c0, .slice A1 n1 c1] w (RetBE (stampR id ahead).1.length (stampR id ahead).1 (stampR id ahead).2 w) := by
  have H0 := Lib.hid h0
  have H1 := Lib.hid h1
  have hl0 := h0.len
  have hl1 := h1.len
  clear h0 h1
  rcases stamp_cases id ahead with ⟨k0, e⟩ | ⟨k0, k1, e⟩ | ⟨k0, k1, e⟩
  · rw [e]
    have d : decide (20 < (n0 : Int)) = true := decide_eq_true (by omega)
    clear hl0 hl1 k0 e
    go_enter Tryz.func13, Tryz.ntmps13
    go_wp2_with fail
    go_ret2
    exact ⟨none, 0, rfl, OwnB.nil_ _ _, Below.refl _ _⟩
  · rw [e]
    have d : decide (20 < (n0 : Int)) = false := decide_eq_false (by omega)
    have d1 : decide (65000 < (n1 : Int)) = true := decide_eq_true (by omega)
    clear hl0 hl1 k0 k1 e
    go_enter Tryz.func13, Tryz.ntmps13
    go_wp2_with fail
    go_ret2
    exact ⟨none, 0, rfl, OwnB.nil_ _ _, Below.refl _ _⟩
  · rw [e]
    have d : decide (20 < (n0 : Int)) = false := decide_eq_false (by omega)
    have d1 : decide (65000 < (n1 : Int)) = false := decide_eq_false (by omega)
    have b0 : n0 ≤ 20 := by omega
    have b1 : n1 ≤ 65000 := by omega
    have HT := Lib.hid (st_tag id ahead)
    have HN : Hid (noteL id ahead = [UInt8.ofNat n0] ++ id ++ ahead) := Lib.hid (by rw [← hl0]; unfold noteL; rfl)
    have HLN := Lib.hid (stL_len id ahead)
    have hlit := lit1 n0 (by omega)
    obtain ⟨S, HS⟩ : ∃ S, Hid (stL id ahead = S) := ⟨_, Lib.hid rfl⟩
    rw [HS.out] at HT HLN ⊢
    have HLIT := Lib.hid hlit
    clear hl0 hl1 k0 k1 e hlit
    go_enter Tryz.func13, Tryz.ntmps13
    go_wp2_with fail
    refine (rk_key _).mono ?_
    rintro e w1 ⟨A2, c2, rfl, ho, hb⟩
    have K1 := Lib.hid (And.intro hb ho)
    clear ho hb
    go_wp2_with fail
    refine (rk_non _).mono ?_
    rintro e w2 ⟨A3, c3, rfl, ho, hb⟩
    have K2 := Lib.hid (And.intro (bel_next K1.out.1 hb) (And.intro (K1.out.2.below hb) (ho.base_le K1.out.1.size)))
    clear ho hb K1
    have hal := below_alloc w2 (.cells #[.int .u8 (n0 : Int)] 5)
    have K3 := Lib.hid (And.intro hal (And.intro (bel_next K2.out.1 hal) (OwnB.lit w2 w2.heap.size [UInt8.ofNat n0] #[.int .u8 (n0 : Int)] 1 HLIT.out rfl (by decide) (Nat.le_refl _))))
    clear hal
    go_wp2_with (first
      | (at_builtin; refine wpList_app rfl (.tmp 28) (.tmp 29) rfl w2.heap.size (some ⟨w2.heap.size, 0, none⟩) 1 1 [UInt8.ofNat n0] rfl (by exact K3.out.2.2) _ A0 n0 c0 id rfl (by exact H0.out.step K3.out.2.1) (by omega) K3.out.1.size ?_; intro A4 c4 w4 ho hg hb; have K4 := Lib.hid (And.intro (K3.out.1.trans hb) ho); clear ho hg hb)
      | (at_builtin; refine wpList_app rfl (.tmp 30) (.tmp 31) rfl w2.heap.size A4 (1 + n0) c4 ([UInt8.ofNat n0] ++ id) rfl (by exact K4.out.2) _ A1 n1 c1 ahead rfl (by exact H1.out.step (bel_next K2.out.1 K4.out.1)) (by omega) K4.out.1.size ?_; intro A5 c5 w5 ho hg hb; have K5 := Lib.hid (And.intro (K4.out.1.trans hb) ho); clear ho hg hb))
    have R5 : Hid (RB w5 w5.heap.size A2 16 stKey ∧ RB w5 w5.heap.size A3 12 stNon ∧ RB w5 w5.heap.size A5 (1 + n0 + n1) (noteL id ahead)) := Lib.hid ⟨K2.out.2.1.rb.step K5.out.1, K2.out.2.2.rb.step K5.out.1, by rw [HN.out]; exact K5.out.2.rb⟩
    refine (rseal_any A2 A3 none A5 c2 c3 0 0 (1 + n0 + n1) c5 stKey stNon [] (noteL id ahead) _ (by exact R5.out.1) K2.out.2.1.cap.1 (by exact R5.out.2.1) RB.nil_ (by exact R5.out.2.2) (by decide) (by omega)).mono ?_
    rw [HT.out]
    rintro e w6 ⟨A6, c6, rfl, ho, hb⟩
    have K6 := Lib.hid (And.intro (ho.base_le (bel_next K2.out.1 K5.out.1).size) (bel_next (bel_next K2.out.1 K5.out.1) hb))
    clear ho hb
    go_wp2_with fail
    go_ret2
    exact ⟨A6, c6, by rw [HLN.out]; rfl, by rw [HLN.out]; exact K6.out.1, K6.out.2⟩
set_option maxRecDepth 100000 in
set_option maxHeartbeats 4000000 in
theorem rsmake_any (A0 A1 A2 A3 : Option Addr) (c0 c1 c2 c3 : Nat) (l0 l1 l2 l3 : List UInt8) (w : World)
    (h0 : RB w w.heap.size A0 l0.length l0) (h1 : RB w w.heap.size A1 l1.length l1) (h2 : RB w w.heap.size A2 l2.length l2) (h3 : RB w w.heap.size A3 l3.length l3)
    (m0 : l0.length ≤ c0 ∧ c0 ≤ maxLen) (m1 : l1.length ≤ c1 ∧ c1 ≤ maxLen) :
    Calls Tryz.prog 10 #[.slice A0 l0.length c0, .slice A1 l1.length c1, .slice A2 l2.length c2, .slice A3 l3.length c3] w (RetBE (smakeR l0 l1 l2 l3).1.length (smakeR l0 l1 l2 l3).1 (smakeR l0 l1 l2 l3).2 w) := by
  obtain ⟨X, HX⟩ : ∃ X, Hid (X = smakeR l0 l1 l2 l3) := ⟨_, Lib.hid rfl⟩
  rw [← HX.out]
  unfold smakeR at HX
  have HR := Lib.hid (And.intro h0 (And.intro h1 (And.intro h2 h3)))
  have HM := Lib.hid (And.intro m0 m1)
  clear h0 h1 h2 h3 m0 m1
  by_cases t0 : 20 < l0.length
  · have d0 : decide (20 < (l0.length : Int)) = true := decide_eq_true (by omega)
    have HE : Hid (X = ([], 15)) := Lib.hid (by rw [HX.out, if_pos (.inl t0)])
    go_enter Tryz.func10, Tryz.ntmps10
    go_wp2_with fail
    rw [HE.out]
    go_ret2
    exact ⟨none, 0, rfl, OwnB.nil_ _ _, Below.refl _ _⟩
  have d0 : decide (20 < (l0.length : Int)) = false := decide_eq_false (by omega)
  by_cases t1 : 20 < l1.length
  · have d1 : decide (20 < (l1.length : Int)) = true := decide_eq_true (by omega)
    have HE : Hid (X = ([], 15)) := Lib.hid (by rw [HX.out, if_pos (.inr (.inl t1))])
    go_enter Tryz.func10, Tryz.ntmps10
    go_wp2_with fail
    rw [HE.out]
    go_ret2
    exact ⟨none, 0, rfl, OwnB.nil_ _ _, Below.refl _ _⟩
  have d1 : decide (20 < (l1.length : Int)) = false := decide_eq_false (by omega)
  by_cases t2 : 20 < l2.length
  · have d2 : decide (20 < (l2.length : Int)) = true := decide_eq_true (by omega)
    have HE : Hid (X = ([], 15)) := Lib.hid (by rw [HX.out, if_pos (.inr (.inr t2))])
    go_enter Tryz.func10, Tryz.ntmps10
    go_wp2_with fail
    rw [HE.out]
    go_ret2
    exact ⟨none, 0, rfl, OwnB.nil_ _ _, Below.refl _ _⟩
  have d2 : decide (20 < (l2.length : Int)) = false := decide_eq_false (by omega)
  have hno : ¬ (20 < l0.length ∨ 20 < l1.length ∨ 20 < l2.length) := by omega
  have HNO := Lib.hid hno
  by_cases t3 : l3.length < 1
  · have d3 : decide ((l3.length : Int) < 1) = true := decide_eq_true (by omega)
    have HE : Hid (X = ([], 11)) := Lib.hid (by rw [HX.out, if_neg hno, if_pos (.inl t3)])
    go_enter Tryz.func10, Tryz.ntmps10
    go_wp2_with fail
    rw [HE.out]
    go_ret2
    exact ⟨none, 0, rfl, OwnB.nil_ _ _, Below.refl _ _⟩
  have d3 : decide ((l3.length : Int) < 1) = false := decide_eq_false (by omega)
  by_cases t4 : 4096 < l3.length
  · have d4 : decide (4096 < (l3.length : Int)) = true := decide_eq_true (by omega)
    have HE : Hid (X = ([], 11)) := Lib.hid (by rw [HX.out, if_neg hno, if_pos (.inr t4)])
    go_enter Tryz.func10, Tryz.ntmps10
    go_wp2_with fail
    rw [HE.out]
    go_ret2
    exact ⟨none, 0, rfl, OwnB.nil_ _ _, Below.refl _ _⟩
  have d4 : decide (4096 < (l3.length : Int)) = false := decide_eq_false (by omega)
  obtain ⟨H, HH⟩ : ∃ H : Hd, Hid (H = ⟨255, 1, A0, c0, l0, A1, c1, l1⟩) := ⟨_, Lib.hid rfl⟩
  have E9 : Hid (H.val = .agg #[.int .u8 255, .int .u32 1, .slice A0 l0.length c0, .slice A1 l1.length c1]) := Lib.hid (by rw [HH.out]; rfl)
  have HOK : Hid (∀ w', Below w.heap.size w w' → H.ok w') := Lib.hid (fun w' hb => by rw [HH.out]; exact ⟨HR.out.1.step hb, HR.out.2.1.step hb, HM.out.1, HM.out.2, by simp⟩)
  obtain ⟨L, HL⟩ : ∃ L, Hid (L = aheadL l0 l1 l3) := ⟨_, Lib.hid rfl⟩
  have hL := ahead_len l0 l1 l3
  rw [← HL.out] at hL
  have HRAW : Hid (byt H.pl = (rawP (255, 1, l0, l1), 0)) := Lib.hid (by rw [HH.out]; exact byt_good (good_255 (to := l0) (frm := l1) (by omega) (by omega)))
  obtain ⟨R, HRR⟩ : ∃ R, Hid (R = rawP (255, 1, l0, l1)) := ⟨_, Lib.hid rfl⟩
  have hR : R.length = 7 + l0.length + l1.length := by rw [HRR.out, raw_len]
  have HRL : Hid (L = R ++ l3) := Lib.hid (by rw [HL.out, HRR.out]; unfold aheadL; rfl)
  have HS : Hid (stampR l2 L = (stL l2 L, 0)) := Lib.hid (by rcases stamp_cases l2 L with k | k | k; exact absurd k.1 (by omega); exact absurd k.2.1 (by omega); exact k.2.2)
  obtain ⟨S, HSS⟩ : ∃ S, Hid (S = stL l2 L) := ⟨_, Lib.hid rfl⟩
  have HSL : Hid (S.length = 16) := Lib.hid (by rw [HSS.out]; exact stL_len _ _)
  have HE : Hid (X = (L ++ S, 0)) := Lib.hid (by rw [HX.out, if_neg hno, if_neg (by omega), HSS.out, HL.out])
  obtain ⟨m, hm⟩ : ∃ m, R.length = m := ⟨_, rfl⟩
  rw [hm] at hR
  have hb : m ≤ 47 := by omega
  have HMR := Lib.hid hm
  rw [← HRR.out] at HRAW
  rw [← HSS.out] at HS
  have HLL : Hid (L.length = m + l3.length) := Lib.hid (by rw [HRL.out, List.length_append, hm])
  clear hno t0 t1 t2 t3 hL hR hm
  go_enter Tryz.func10, Tryz.ntmps10
  go_wp2_with fail
  rw [show (Value.agg #[.int .u8 255, .int .u32 1, .slice A0 l0.length c0, .slice A1 l1.length c1]) = H.val from E9.out.symm]
  refine (rhbytes_any H _ (by exact HOK.out _ (Below.refl _ _)) (by rw [HH.out]; simp only; have := HNO.out; omega) (by rw [HH.out]; simp only; have := HNO.out; omega)).mono ?_
  rw [HRAW.out]
  rintro e w1 ⟨A5, c5, rfl, ho, hb1⟩
  simp only [HMR.out] at ho ⊢
  have K1 := Lib.hid (And.intro hb1 ho)
  clear ho hb1
  go_wp2_with (first
    | (at_builtin; refine wpList_app rfl (.tmp 42) (.tmp 43) rfl w.heap.size A5 m c5 R rfl (by exact K1.out.2) _ A3 l3.length c3 l3 rfl (by exact HR.out.2.2.2.step K1.out.1) (by omega) K1.out.1.size ?_; intro A6 c6 w2 ho hg hb2; have K2 := Lib.hid (And.intro (K1.out.1.trans hb2) ho); clear ho hg hb2))
  rw [← HRL.out] at K2
  refine (rstamp_any A2 A6 l2.length c2 (m + l3.length) c6 l2 L _ (by exact HR.out.2.2.1.step K2.out.1) (by exact K2.out.2.rb)).mono ?_
  rw [HS.out]
  rintro e w3 ⟨A7, c7, rfl, ho, hb3⟩
  simp only [HSL.out] at ho ⊢
  have K3 := Lib.hid (And.intro (bel_next K2.out.1 hb3) (And.intro (K2.out.2.below hb3) ho))
  clear ho hb3
  go_wp2_with (first
    | (at_builtin; refine wpList_app rfl (.tmp 51) (.tmp 52) rfl w.heap.size A6 (m + l3.length) c6 L rfl (by exact K3.out.2.1) _ A7 16 c7 S rfl (by exact K3.out.2.2.rb) (by omega) K3.out.1.size ?_; intro A8 c8 w4 ho hg hb4; have K4 := Lib.hid (And.intro (K3.out.1.trans hb4) ho); clear ho hg hb4))
  rw [HE.out]
  have hfl : (L ++ S).length = m + l3.length + 16 := by rw [List.length_append, HLL.out, HSL.out]
  have HFL := Lib.hid hfl
  clear hfl
  go_ret2
  exact ⟨A8, c8, by rw [HFL.out]; rfl, by rw [HFL.out]; exact K4.out.2, K4.out.1⟩
end Go.Proofs.YtdkdgcpknephnaaGreat
