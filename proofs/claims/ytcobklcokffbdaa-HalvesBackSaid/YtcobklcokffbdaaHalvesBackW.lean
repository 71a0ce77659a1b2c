/- Layer 14's statement HalvesBack, walked. No condition. -/
import Derived.Test.YtcobklcokffbdaaHvV
import Derived.Test.YtcobklcokffbdaaOpen
namespace Go.Proofs.Ytcobklcokffbdaa
open Go.RowKit
set_option linter.unusedVariables false
set_option linter.unusedSimpArgs false
attribute [local irreducible] foursL pairsL cutR trimL joinL blockL joinR trimR blockR maskB edgeN layN stL szI
set_option maxRecDepth 100000 in
set_option maxHeartbeats 8000000 in
theorem HalvesBack_walk (A0 : Option Addr) (n0 c0 : Nat) (l0 : List UInt8) (A1 : Option Addr) (n1 c1 : Nat) (l1 : List UInt8) (x2 : Int) (x3 : Int) (w : World) (h0 : RB w w.heap.size A0 n0 l0) (m0 : n0 ≤ c0 ∧ c0 ≤ maxLen) (h1 : RB w w.heap.size A1 n1 l1) (m1 : n1 ≤ c1 ∧ c1 ≤ maxLen) (h2 : (Lit.int .u8 x2).wf = true) (h3 : (Lit.int .u8 x3).wf = true) :
    Calls Try.prog 5 #[.slice A0 n0 c0, .slice A1 n1 c1, .int .u8 x2, .int .u8 x3] w fun e w' => e = .returned (.bool true) ∧ Below w.heap.size w w' := by
  obtain ⟨p, hp, hp255⟩ : ∃ p : Nat, (p : Int) = x2 ∧ p ≤ 255 := by have := bounds_u8 h2; exact ⟨x2.toNat, by omega, by omega⟩
  subst hp
  obtain ⟨q, hq, hq255⟩ : ∃ q : Nat, (q : Int) = x3 ∧ q ≤ 255 := by have := bounds_u8 h3; exact ⟨x3.toNat, by omega, by omega⟩
  subst hq
  have HL0 := Lib.hid h0.len
  have HL1 := Lib.hid h1.len
  have K0 := Lib.hid (((HW.start w).add h1 m1.1 m1.2).add h0 m0.1 m0.2)
  clear h0 h1 h2 h3
  by_cases t0 : n0 < 2
  · have d0 : decide ((n0 : Int) < 2) = true := decide_eq_true (by omega)
    go_enter Try.func5, Try.ntmps5
    go_wp2_with fail
    refine (halive_any _).mono ?_
    rintro e w1 ⟨rfl, hb⟩
    have K1 := Lib.hid (K0.out.step hb)
    clear K0
    clear hb
    go_wp2_with fail
    go_ret
    exact ⟨rfl, K1.out.bel⟩
  have d0 : decide ((n0 : Int) < 2) = false := decide_eq_false (by omega)
  by_cases t1 : 28 < n0
  · have d1 : decide (28 < (n0 : Int)) = true := decide_eq_true (by omega)
    go_enter Try.func5, Try.ntmps5
    go_wp2_with fail
    refine (halive_any _).mono ?_
    rintro e w1 ⟨rfl, hb⟩
    have K1 := Lib.hid (K0.out.step hb)
    clear K0
    clear hb
    go_wp2_with fail
    go_ret
    exact ⟨rfl, K1.out.bel⟩
  have d1 : decide (28 < (n0 : Int)) = false := decide_eq_false (by omega)
  have h2 : 2 ≤ n0 := by omega
  have h28 : n0 ≤ 28 := by omega
  have hc := cut_parts l0 (by rw [HL0.out]; exact h2) (by rw [HL0.out]; exact h28)
  have hj := join_cut l0 (by rw [HL0.out]; exact h2) (by rw [HL0.out]; exact h28)
  rw [HL0.out] at hc hj
  obtain ⟨s, hs⟩ : ∃ s, szN n0 = s := ⟨_, rfl⟩
  have HSN := Lib.hid hs
  have hs14 : s ≤ 14 := by rw [← hs]; exact szN_le n0 h28
  obtain ⟨C, HC⟩ : ∃ C, Hid (cutR l0 = C) := ⟨_, Lib.hid rfl⟩
  rw [HC.out] at hc hj
  rw [hs] at hc
  obtain ⟨⟨L, R, e⟩, hC⟩ : ∃ D, C = D := ⟨C, rfl⟩
  subst hC
  simp only at hc hj
  obtain ⟨he, hl, hr, tl, tr⟩ := hc
  subst he
  have HLs := Lib.hid hl
  have HRs := Lib.hid hr
  have HJ : Hid (joinR L R (n0 : Int) = (l0, 0)) := Lib.hid (by rw [join_ok L R n0 h2 h28 (by rw [hs]; exact hl) (by rw [hs]; exact hr) tl tr, hj])
  have HTL : Hid (trimR L (n0 : Int) true = (L, 0)) := Lib.hid (by rw [trim_ok L n0 true h2 h28 (by rw [hs]; exact hl), tl])
  have HTR : Hid (trimR R (n0 : Int) false = (R, 0)) := Lib.hid (by rw [trim_ok R n0 false h2 h28 (by rw [hs]; exact hr), tr])
  have HSZ := Lib.hid (fun v => hsize_any (n0 : Int) (by omega) v)
  rw [szI_nat, hs] at HSZ
  have HTr := Lib.hid tr
  have hne : ((s : Int) != (s : Int)) = false := bne_self_eq_false _
  clear hs hl hr tl tr hj t0 t1
  by_cases t2 : n1 = s
  · obtain rfl : s = n1 := t2.symm
    have hX : (trimL l1 n0 true).length = s := by rw [trim_len]; exact HL1.out
    have hXX := trim_twice l1 n0 true
    have HTX := Lib.hid (trim_ok l1 n0 true h2 h28 (by rw [HL1.out, HSN.out]))
    obtain ⟨X, HX⟩ : ∃ X, Hid (trimL l1 n0 true = X) := ⟨_, Lib.hid rfl⟩
    rw [HX.out] at hX hXX HTX
    have HXs := Lib.hid hX
    have HTXX : Hid (trimR X (n0 : Int) true = (X, 0)) := Lib.hid (by rw [trim_ok X n0 true h2 h28 (by rw [HSN.out]; exact hX), hXX])
    have HJX := Lib.hid (join_ok X R n0 h2 h28 (by rw [HSN.out]; exact hX) (by rw [HSN.out]; exact HRs.out) hXX HTr.out)
    have HCX := Lib.hid (cut_join X R n0 h2 h28 (by rw [HSN.out]; exact hX) (by rw [HSN.out]; exact HRs.out) hXX HTr.out)
    obtain ⟨J, HJJ⟩ : ∃ J, Hid (joinL X R n0 = J) := ⟨_, Lib.hid rfl⟩
    have HJn : Hid (J.length = n0) := Lib.hid (by rw [← HJJ.out]; exact join_len X R n0)
    rw [HJJ.out] at HJX HCX
    have HB1 := Lib.hid (block_ok L n0 p h2 h28 (by rw [HSN.out]; exact HLs.out) hp255)
    have HB2 := Lib.hid (block_ok X n0 q h2 h28 (by rw [HSN.out]; exact hX) hq255)
    have HBS := Lib.hid (block_same L X n0 p q (by rw [hX]; exact HLs.out) hp255 hq255)
    have HBL1 := Lib.hid (block_len L n0 p (by rw [HLs.out]; exact hs14))
    have HBL2 := Lib.hid (block_len X n0 q (by rw [hX]; exact hs14))
    obtain ⟨V1, HV1⟩ : ∃ V, Hid (blockL L n0 p = V) := ⟨_, Lib.hid rfl⟩
    obtain ⟨V2, HV2⟩ : ∃ V, Hid (blockL X n0 q = V) := ⟨_, Lib.hid rfl⟩
    rw [HV1.out] at HB1 HBS HBL1
    rw [HV2.out] at HB2 HBS HBL2
    obtain ⟨E, HE⟩ : ∃ E, Hid ((L == X) = E) := ⟨_, Lib.hid rfl⟩
    obtain ⟨G, hG⟩ : ∃ G, ((p : Int) == (q : Int)) = G := ⟨_, rfl⟩
    rw [HE.out, hG] at HBS
    clear hX hXX
    go_enter Try.func5, Try.ntmps5
    go_wp2_with fail
    refine (halive_any _).mono ?_
    rintro e w1 ⟨rfl, hb⟩
    have K1 := Lib.hid (K0.out.step hb)
    clear K0
    clear hb
    go_wp2_with fail
    refine (hcut_any A0 n0 c0 l0 _ (by exact (K1.out.row _ (.head _)).1) (by exact m0.1) (by omega)).mono ?_
    rw [HC.out]
    rintro e w2 ⟨Al, nl, cl, Ar, nr, cr, rfl, ho1, ho2, hb⟩
    obtain rfl : s = nl := HLs.out.symm.trans ho1.len
    obtain rfl : s = nr := HRs.out.symm.trans ho2.len
    have K2 := Lib.hid (K1.out.own2 hb ho1 ho2)
    clear K1
    clear ho1 ho2 hb
    go_wp2_with fail
    refine (hjoin_any Al Ar s cl s cr L R (n0 : Int) _ (by exact (K2.out.row _ (.tail _ (.head _))).1) (by exact (K2.out.row _ (.head _)).1) (by omega) (by omega) (by omega)).mono ?_
    rw [HJ.out]; dsimp only; rw [HL0.out]
    rintro e w3 ⟨Ac, cc, rfl, ho, hb⟩
    have K3 := Lib.hid (K2.out.own hb ho)
    clear K2
    clear ho hb
    go_wp2_with fail
    refine (htrimT_any Al s cl L (n0 : Int) true _ (by exact (K3.out.row _ (.tail _ (.tail _ (.head _)))).1) (by omega) (by omega)).mono ?_
    rw [HTL.out]; dsimp only; rw [HLs.out]
    rintro e w4 ⟨At, ct, rfl, ho, hb⟩
    have K4 := Lib.hid (K3.out.own hb ho)
    clear K3
    clear ho hb
    go_wp2_with fail
    refine (htrimT_any Ar s cr R (n0 : Int) false _ (by exact (K4.out.row _ (.tail _ (.tail _ (.head _)))).1) (by omega) (by omega)).mono ?_
    rw [HTR.out]; dsimp only; rw [HRs.out]
    rintro e w5 ⟨Au, cu, rfl, ho, hb⟩
    have K5 := Lib.hid (K4.out.own hb ho)
    clear K4
    clear ho hb
    go_wp2_with fail
    refine (al_same _ _ _ _ _ _ l0 l0 _ (by exact (K5.out.row _ (.tail _ (.tail _ (.head _)))).1) (by exact (K5.out.row _ (.tail _ (.tail _ (.tail _ (.tail _ (.tail _ (.head _))))))).1) (by exact Nat.le_trans (K5.out.row _ (.tail _ (.tail _ (.head _)))).2.1 (K5.out.row _ (.tail _ (.tail _ (.head _)))).2.2) (by exact Nat.le_trans (K5.out.row _ (.tail _ (.tail _ (.tail _ (.tail _ (.tail _ (.head _))))))).2.1 (K5.out.row _ (.tail _ (.tail _ (.tail _ (.tail _ (.tail _ (.head _))))))).2.2) true (beq_self_eq_true _)).mono ?_
    rintro e w6 ⟨rfl, hb⟩
    have K6 := Lib.hid (K5.out.step hb)
    clear K5
    clear hb
    go_wp2_with fail
    refine (al_same _ _ _ _ _ _ L L _ (by exact (K6.out.row _ (.tail _ (.head _))).1) (by exact (K6.out.row _ (.tail _ (.tail _ (.tail _ (.tail _ (.head _)))))).1) (by exact Nat.le_trans (K6.out.row _ (.tail _ (.head _))).2.1 (K6.out.row _ (.tail _ (.head _))).2.2) (by exact Nat.le_trans (K6.out.row _ (.tail _ (.tail _ (.tail _ (.tail _ (.head _)))))).2.1 (K6.out.row _ (.tail _ (.tail _ (.tail _ (.tail _ (.head _)))))).2.2) true (beq_self_eq_true _)).mono ?_
    rintro e w7 ⟨rfl, hb⟩
    have K7 := Lib.hid (K6.out.step hb)
    clear K6
    clear hb
    go_wp2_with fail
    refine (al_same _ _ _ _ _ _ R R _ (by exact (K7.out.row _ (.head _)).1) (by exact (K7.out.row _ (.tail _ (.tail _ (.tail _ (.head _))))).1) (by exact Nat.le_trans (K7.out.row _ (.head _)).2.1 (K7.out.row _ (.head _)).2.2) (by exact Nat.le_trans (K7.out.row _ (.tail _ (.tail _ (.tail _ (.head _))))).2.1 (K7.out.row _ (.tail _ (.tail _ (.tail _ (.head _))))).2.2) true (beq_self_eq_true _)).mono ?_
    rintro e w8 ⟨rfl, hb⟩
    have K8 := Lib.hid (K7.out.step hb)
    clear K7
    clear hb
    go_wp2_with fail
    refine (HSZ.out _).mono ?_
    rintro e w98 ⟨rfl, rfl⟩
    go_wp2_with fail
    refine (htrimT_any A1 s c1 l1 (n0 : Int) true _ (by exact (K8.out.row _ (.tail _ (.tail _ (.tail _ (.tail _ (.tail _ (.tail _ (.head _)))))))).1) (by omega) (by omega)).mono ?_
    rw [HTX.out]; dsimp only; rw [HXs.out]
    rintro e w9 ⟨Ax, cx, rfl, ho, hb⟩
    have K9 := Lib.hid (K8.out.own hb ho)
    clear K8
    clear ho hb
    go_wp2_with fail
    refine (htrimT_any Ax s cx X (n0 : Int) true _ (by exact (K9.out.row _ (.head _)).1) (by omega) (by omega)).mono ?_
    rw [HTXX.out]; dsimp only; rw [HXs.out]
    rintro e w10 ⟨Ay, cy, rfl, ho, hb⟩
    have K10 := Lib.hid (K9.out.own hb ho)
    clear K9
    clear ho hb
    go_wp2_with fail
    refine (hjoin_any Ax Ar s cx s cr X R (n0 : Int) _ (by exact (K10.out.row _ (.tail _ (.head _))).1) (by exact (K10.out.row _ (.tail _ (.tail _ (.tail _ (.tail _ (.tail _ (.head _))))))).1) (by omega) (by omega) (by omega)).mono ?_
    rw [HJX.out]; dsimp only; rw [HJn.out]
    rintro e w11 ⟨Ad, cd, rfl, ho, hb⟩
    have K11 := Lib.hid (K10.out.own hb ho)
    clear K10
    clear ho hb
    go_wp2_with fail
    refine (hcut_any Ad n0 cd J _ (by exact (K11.out.row _ (.head _)).1) (by exact (K11.out.row _ (.head _)).2.1) (by omega)).mono ?_
    rw [HCX.out]
    rintro e w12 ⟨App, npp, cpp, Aqq, nqq, cqq, rfl, ho1, ho2, hb⟩
    obtain rfl : s = npp := HXs.out.symm.trans ho1.len
    obtain rfl : s = nqq := HRs.out.symm.trans ho2.len
    have K12 := Lib.hid (K11.out.own2 hb ho1 ho2)
    clear K11
    clear ho1 ho2 hb
    go_wp2_with fail
    refine (al_same _ _ _ _ _ _ X X _ (by exact (K12.out.row _ (.tail _ (.tail _ (.tail _ (.head _))))).1) (by exact (K12.out.row _ (.tail _ (.tail _ (.tail _ (.tail _ (.head _)))))).1) (by exact Nat.le_trans (K12.out.row _ (.tail _ (.tail _ (.tail _ (.head _))))).2.1 (K12.out.row _ (.tail _ (.tail _ (.tail _ (.head _))))).2.2) (by exact Nat.le_trans (K12.out.row _ (.tail _ (.tail _ (.tail _ (.tail _ (.head _)))))).2.1 (K12.out.row _ (.tail _ (.tail _ (.tail _ (.tail _ (.head _)))))).2.2) true (beq_self_eq_true _)).mono ?_
    rintro e w13 ⟨rfl, hb⟩
    have K13 := Lib.hid (K12.out.step hb)
    clear K12
    clear hb
    go_wp2_with fail
    refine (al_same _ _ _ _ _ _ X X _ (by exact (K13.out.row _ (.tail _ (.head _))).1) (by exact (K13.out.row _ (.tail _ (.tail _ (.tail _ (.tail _ (.head _)))))).1) (by exact Nat.le_trans (K13.out.row _ (.tail _ (.head _))).2.1 (K13.out.row _ (.tail _ (.head _))).2.2) (by exact Nat.le_trans (K13.out.row _ (.tail _ (.tail _ (.tail _ (.tail _ (.head _)))))).2.1 (K13.out.row _ (.tail _ (.tail _ (.tail _ (.tail _ (.head _)))))).2.2) true (beq_self_eq_true _)).mono ?_
    rintro e w14 ⟨rfl, hb⟩
    have K14 := Lib.hid (K13.out.step hb)
    clear K13
    clear hb
    go_wp2_with fail
    refine (al_same _ _ _ _ _ _ R R _ (by exact (K14.out.row _ (.head _)).1) (by exact (K14.out.row _ (.tail _ (.tail _ (.tail _ (.tail _ (.tail _ (.tail _ (.tail _ (.tail _ (.head _)))))))))).1) (by exact Nat.le_trans (K14.out.row _ (.head _)).2.1 (K14.out.row _ (.head _)).2.2) (by exact Nat.le_trans (K14.out.row _ (.tail _ (.tail _ (.tail _ (.tail _ (.tail _ (.tail _ (.tail _ (.tail _ (.head _)))))))))).2.1 (K14.out.row _ (.tail _ (.tail _ (.tail _ (.tail _ (.tail _ (.tail _ (.tail _ (.tail _ (.head _)))))))))).2.2) true (beq_self_eq_true _)).mono ?_
    rintro e w15 ⟨rfl, hb⟩
    have K15 := Lib.hid (K14.out.step hb)
    clear K14
    clear hb
    go_wp2_with fail
    refine (hblock_any Al s cl L (n0 : Int) (p : Int) _ (by exact (K15.out.row _ (.tail _ (.tail _ (.tail _ (.tail _ (.tail _ (.tail _ (.tail _ (.tail _ (.tail _ (.head _))))))))))).1) (by omega) (by omega)).mono ?_
    rw [HB1.out]; dsimp only; rw [HBL1.out]
    rintro e w16 ⟨Av, cv, rfl, ho, hb⟩
    have K16 := Lib.hid (K15.out.own hb ho)
    clear K15
    clear ho hb
    go_wp2_with fail
    refine (hblock_any Ax s cx X (n0 : Int) (q : Int) _ (by exact (K16.out.row _ (.tail _ (.tail _ (.tail _ (.tail _ (.tail _ (.head _))))))).1) (by omega) (by omega)).mono ?_
    rw [HB2.out]; dsimp only; rw [HBL2.out]
    rintro e w17 ⟨Aww, cww, rfl, ho, hb⟩
    have K17 := Lib.hid (K16.out.own hb ho)
    clear K16
    clear ho hb
    go_wp2_with fail
    refine (al_same _ _ _ _ _ _ V1 V2 _ (by exact (K17.out.row _ (.tail _ (.head _))).1) (by exact (K17.out.row _ (.head _)).1) (by exact Nat.le_trans (K17.out.row _ (.tail _ (.head _))).2.1 (K17.out.row _ (.tail _ (.head _))).2.2) (by exact Nat.le_trans (K17.out.row _ (.head _)).2.1 (K17.out.row _ (.head _)).2.2) (E && G) (HBS.out)).mono ?_
    rintro e w18 ⟨rfl, hb⟩
    have K18 := Lib.hid (K17.out.step hb)
    clear K17
    clear hb
    go_wp2_with fail
    refine (al_same _ _ _ _ _ _ L X _ (by exact (K18.out.row _ (.tail _ (.tail _ (.tail _ (.tail _ (.tail _ (.tail _ (.tail _ (.tail _ (.tail _ (.tail _ (.tail _ (.head _))))))))))))).1) (by exact (K18.out.row _ (.tail _ (.tail _ (.tail _ (.tail _ (.tail _ (.tail _ (.head _)))))))).1) (by exact Nat.le_trans (K18.out.row _ (.tail _ (.tail _ (.tail _ (.tail _ (.tail _ (.tail _ (.tail _ (.tail _ (.tail _ (.tail _ (.tail _ (.head _))))))))))))).2.1 (K18.out.row _ (.tail _ (.tail _ (.tail _ (.tail _ (.tail _ (.tail _ (.tail _ (.tail _ (.tail _ (.tail _ (.tail _ (.head _))))))))))))).2.2) (by exact Nat.le_trans (K18.out.row _ (.tail _ (.tail _ (.tail _ (.tail _ (.tail _ (.tail _ (.head _)))))))).2.1 (K18.out.row _ (.tail _ (.tail _ (.tail _ (.tail _ (.tail _ (.tail _ (.head _)))))))).2.2) E (HE.out)).mono ?_
    rintro e w19 ⟨rfl, hb⟩
    have K19 := Lib.hid (K18.out.step hb)
    clear K18
    clear hb
    skip
    cases E
    · cases G
      · go_wp2_with fail
        go_ret
        exact ⟨rfl, K19.out.bel⟩
      · go_wp2_with fail
        go_ret
        exact ⟨rfl, K19.out.bel⟩
    · cases G
      · go_wp2_with fail
        go_ret
        exact ⟨rfl, K19.out.bel⟩
      · go_wp2_with fail
        go_ret
        exact ⟨rfl, K19.out.bel⟩
  · have d2 : ((n1 : Int) != (s : Int)) = true := by rw [bne_iff_ne]; omega
    go_enter Try.func5, Try.ntmps5
    go_wp2_with fail
    refine (halive_any _).mono ?_
    rintro e w1 ⟨rfl, hb⟩
    have K1 := Lib.hid (K0.out.step hb)
    clear K0
    clear hb
    go_wp2_with fail
    refine (hcut_any A0 n0 c0 l0 _ (by exact (K1.out.row _ (.head _)).1) (by exact m0.1) (by omega)).mono ?_
    rw [HC.out]
    rintro e w2 ⟨Al, nl, cl, Ar, nr, cr, rfl, ho1, ho2, hb⟩
    obtain rfl : s = nl := HLs.out.symm.trans ho1.len
    obtain rfl : s = nr := HRs.out.symm.trans ho2.len
    have K2 := Lib.hid (K1.out.own2 hb ho1 ho2)
    clear K1
    clear ho1 ho2 hb
    go_wp2_with fail
    refine (hjoin_any Al Ar s cl s cr L R (n0 : Int) _ (by exact (K2.out.row _ (.tail _ (.head _))).1) (by exact (K2.out.row _ (.head _)).1) (by omega) (by omega) (by omega)).mono ?_
    rw [HJ.out]; dsimp only; rw [HL0.out]
    rintro e w3 ⟨Ac, cc, rfl, ho, hb⟩
    have K3 := Lib.hid (K2.out.own hb ho)
    clear K2
    clear ho hb
    go_wp2_with fail
    refine (htrimT_any Al s cl L (n0 : Int) true _ (by exact (K3.out.row _ (.tail _ (.tail _ (.head _)))).1) (by omega) (by omega)).mono ?_
    rw [HTL.out]; dsimp only; rw [HLs.out]
    rintro e w4 ⟨At, ct, rfl, ho, hb⟩
    have K4 := Lib.hid (K3.out.own hb ho)
    clear K3
    clear ho hb
    go_wp2_with fail
    refine (htrimT_any Ar s cr R (n0 : Int) false _ (by exact (K4.out.row _ (.tail _ (.tail _ (.head _)))).1) (by omega) (by omega)).mono ?_
    rw [HTR.out]; dsimp only; rw [HRs.out]
    rintro e w5 ⟨Au, cu, rfl, ho, hb⟩
    have K5 := Lib.hid (K4.out.own hb ho)
    clear K4
    clear ho hb
    go_wp2_with fail
    refine (al_same _ _ _ _ _ _ l0 l0 _ (by exact (K5.out.row _ (.tail _ (.tail _ (.head _)))).1) (by exact (K5.out.row _ (.tail _ (.tail _ (.tail _ (.tail _ (.tail _ (.head _))))))).1) (by exact Nat.le_trans (K5.out.row _ (.tail _ (.tail _ (.head _)))).2.1 (K5.out.row _ (.tail _ (.tail _ (.head _)))).2.2) (by exact Nat.le_trans (K5.out.row _ (.tail _ (.tail _ (.tail _ (.tail _ (.tail _ (.head _))))))).2.1 (K5.out.row _ (.tail _ (.tail _ (.tail _ (.tail _ (.tail _ (.head _))))))).2.2) true (beq_self_eq_true _)).mono ?_
    rintro e w6 ⟨rfl, hb⟩
    have K6 := Lib.hid (K5.out.step hb)
    clear K5
    clear hb
    go_wp2_with fail
    refine (al_same _ _ _ _ _ _ L L _ (by exact (K6.out.row _ (.tail _ (.head _))).1) (by exact (K6.out.row _ (.tail _ (.tail _ (.tail _ (.tail _ (.head _)))))).1) (by exact Nat.le_trans (K6.out.row _ (.tail _ (.head _))).2.1 (K6.out.row _ (.tail _ (.head _))).2.2) (by exact Nat.le_trans (K6.out.row _ (.tail _ (.tail _ (.tail _ (.tail _ (.head _)))))).2.1 (K6.out.row _ (.tail _ (.tail _ (.tail _ (.tail _ (.head _)))))).2.2) true (beq_self_eq_true _)).mono ?_
    rintro e w7 ⟨rfl, hb⟩
    have K7 := Lib.hid (K6.out.step hb)
    clear K6
    clear hb
    go_wp2_with fail
    refine (al_same _ _ _ _ _ _ R R _ (by exact (K7.out.row _ (.head _)).1) (by exact (K7.out.row _ (.tail _ (.tail _ (.tail _ (.head _))))).1) (by exact Nat.le_trans (K7.out.row _ (.head _)).2.1 (K7.out.row _ (.head _)).2.2) (by exact Nat.le_trans (K7.out.row _ (.tail _ (.tail _ (.tail _ (.head _))))).2.1 (K7.out.row _ (.tail _ (.tail _ (.tail _ (.head _))))).2.2) true (beq_self_eq_true _)).mono ?_
    rintro e w8 ⟨rfl, hb⟩
    have K8 := Lib.hid (K7.out.step hb)
    clear K7
    clear hb
    go_wp2_with fail
    refine (HSZ.out _).mono ?_
    rintro e w98 ⟨rfl, rfl⟩
    go_wp2_with fail
    go_ret
    exact ⟨rfl, K8.out.bel⟩
end Go.Proofs.Ytcobklcokffbdaa
