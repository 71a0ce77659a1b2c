/- Layer 15's statement FeistBack, walked. No condition. -/
import Derived.Test.YtgmedeldjlmlmaaFsV
import Derived.Test.YtgmedeldjlmlmaaFsB
import Derived.Test.YtgmedeldjlmlmaaOpen
namespace Go.Proofs.Ytgmedeldjlmlmaa
open Go.RowKit
set_option linter.unusedVariables false
set_option linter.unusedSimpArgs false
theorem b_1234 : ([1, 2, 3, 4] : List Int).all okP = true := by decide
theorem b_4321 : ([4, 3, 2, 1] : List Int).all okP = true := by decide
attribute [local irreducible] foursL pairsL cutR trimL joinL blockL joinR trimR blockR maskB edgeN szI szN encL tableL xorL addL passP passesP mixL ontoR passR passesR atP carR cntM cntP okP
set_option maxRecDepth 100000 in
set_option maxHeartbeats 8000000 in
theorem FeistBack_walk (A0 : Option Addr) (n0 c0 : Nat) (l0 : List UInt8) (A1 : Option Addr) (n1 c1 : Nat) (l1 : List UInt8) (A2 : Option Addr) (n2 c2 : Nat) (l2 : List UInt8) (A3 : Option Addr) (n3 c3 : Nat) (l3 : List Int) (w : World) (h0 : RB w w.heap.size A0 n0 l0) (m0 : n0 ≤ c0 ∧ c0 ≤ maxLen) (h1 : RB w w.heap.size A1 n1 l1) (m1 : n1 ≤ c1 ∧ c1 ≤ maxLen) (h2 : RB w w.heap.size A2 n2 l2) (m2 : n2 ≤ c2 ∧ c2 ≤ maxLen) (h3 : ZL w w.heap.size A3 n3 l3) (m3 : n3 ≤ c3 ∧ c3 ≤ maxLen) :
    Calls Try.prog 3 #[.slice A0 n0 c0, .slice A1 n1 c1, .slice A2 n2 c2, .slice A3 n3 c3] w fun e w' => e = .returned (.bool true) ∧ Below w.heap.size w w' := by
  have HZ := Lib.hid h3
  have HL0 := Lib.hid h0.len
  have HL1 := Lib.hid h1.len
  have HL2 := Lib.hid h2.len
  have HL3 := Lib.hid h3.len
  have K0 := Lib.hid ((((HW.start w).add h2 m2.1 m2.2).add h1 m1.1 m1.2).add h0 m0.1 m0.2)
  clear h0 h1 h2 h3
  by_cases t0 : ¬ n0 = 16
  · have d0 : ((n0 : Int) != 16) = true := by rw [bne_iff_ne]; omega
    go_enter Try.func3, Try.ntmps3
    go_wp2_with fail
    refine (falive_any _).mono ?_
    rintro e w1 ⟨rfl, hb⟩
    have K1 := Lib.hid (K0.out.step hb)
    clear K0
    clear hb
    go_wp2_with fail
    go_ret
    exact ⟨rfl, K1.out.bel⟩
  replace t0 := Decidable.not_not.1 t0
  subst t0
  by_cases t1 : n1 < 2
  · have d1 : decide ((n1 : Int) < 2) = true := decide_eq_true (by omega)
    go_enter Try.func3, Try.ntmps3
    go_wp2_with fail
    refine (falive_any _).mono ?_
    rintro e w1 ⟨rfl, hb⟩
    have K1 := Lib.hid (K0.out.step hb)
    clear K0
    clear hb
    go_wp2_with fail
    go_ret
    exact ⟨rfl, K1.out.bel⟩
  have d1 : decide ((n1 : Int) < 2) = false := decide_eq_false (by omega)
  by_cases t2 : 28 < n1
  · have d2 : decide (28 < (n1 : Int)) = true := decide_eq_true (by omega)
    go_enter Try.func3, Try.ntmps3
    go_wp2_with fail
    refine (falive_any _).mono ?_
    rintro e w1 ⟨rfl, hb⟩
    have K1 := Lib.hid (K0.out.step hb)
    clear K0
    clear hb
    go_wp2_with fail
    go_ret
    exact ⟨rfl, K1.out.bel⟩
  have d2 : decide (28 < (n1 : Int)) = false := decide_eq_false (by omega)
  by_cases t3 : ¬ n1 = n2
  · have d3 : ((n2 : Int) != (n1 : Int)) = true := by rw [bne_iff_ne]; omega
    go_enter Try.func3, Try.ntmps3
    go_wp2_with fail
    refine (falive_any _).mono ?_
    rintro e w1 ⟨rfl, hb⟩
    have K1 := Lib.hid (K0.out.step hb)
    clear K0
    clear hb
    go_wp2_with fail
    go_ret
    exact ⟨rfl, K1.out.bel⟩
  replace t3 := Decidable.not_not.1 t3
  obtain rfl : n1 = n2 := t3
  have d3 : ((n1 : Int) != (n1 : Int)) = false := bne_self_eq_false _
  by_cases t4 : 8 < n3
  · have d4 : decide (8 < (n3 : Int)) = true := decide_eq_true (by omega)
    go_enter Try.func3, Try.ntmps3
    go_wp2_with fail
    refine (falive_any _).mono ?_
    rintro e w1 ⟨rfl, hb⟩
    have K1 := Lib.hid (K0.out.step hb)
    clear K0
    clear hb
    go_wp2_with fail
    go_ret
    exact ⟨rfl, K1.out.bel⟩
  have d4 : decide (8 < (n3 : Int)) = false := decide_eq_false (by omega)
  have HN : Hid (2 ≤ l1.length ∧ l1.length ≤ 28) := Lib.hid (by rw [HL1.out]; omega)
  have HN2 : Hid (2 ≤ l2.length ∧ l2.length ≤ 28) := Lib.hid (by rw [HL2.out]; omega)
  have HEE := Lib.hid (enc_G HL0.out)
  obtain ⟨E, HE⟩ : ∃ E, Hid (encL l0 tableL = E) := ⟨_, Lib.hid rfl⟩
  rw [HE.out] at HEE
  obtain ⟨X, HA, HX, HB⟩ := fb_mix HEE.out l1 [1, 2, 3, 4] HN.out.1 HN.out.2 b_1234
  obtain ⟨Z, HA2, HZl, HB2⟩ := fb_mix HEE.out l1 [4, 3, 2, 1] HN.out.1 HN.out.2 b_4321
  obtain ⟨Y, HA3, HY, HB3⟩ := fb_mix HEE.out l2 [1, 2, 3, 4] HN2.out.1 HN2.out.2 b_1234
  have HG := Lib.hid (fb_eq HA3 HA HB3 HB)
  replace HA := Lib.hid HA
  replace HB : Hid (passesR E X [4, 3, 2, 1] = (l1, 0)) := Lib.hid HB
  replace HA2 := Lib.hid HA2
  replace HB2 : Hid (passesR E Z [1, 2, 3, 4] = (l1, 0)) := Lib.hid HB2
  replace HA3 := Lib.hid HA3
  replace HX := Lib.hid (HX.trans HL1.out)
  replace HZl := Lib.hid (HZl.trans HL1.out)
  replace HY := Lib.hid (HY.trans HL2.out)
  clear HB3
  obtain ⟨G, HG2⟩ : ∃ G, Hid ((l2 == l1) = G) := ⟨_, Lib.hid rfl⟩
  rw [HG2.out] at HG
  have hgg : (G != G) = false := bne_self_eq_false G
  have hn28 : n1 ≤ 28 := by omega
  have hn8 : n3 ≤ 8 := by omega
  clear t1 t2 t4
  go_enter Try.func3, Try.ntmps3
  go_wp2_with fail
  refine (falive_any _).mono ?_
  rintro e w1 ⟨rfl, hb⟩
  have K1 := Lib.hid (K0.out.step hb)
  clear K0
  clear hb
  go_wp2_with fail
  refine (anew_any c0 A0 l0 _ (by exact (K1.out.row _ (.head _)).1) (m0.1)).mono ?_
  rintro e w2 ⟨cb, b0, lo, rfl, hb, hcb, _, hob⟩
  have U0 := Lib.hid (And.intro (K1.out.bel.trans (hb.mono K1.out.bel.size)) (Nat.le_trans K1.out.bel.size hcb))
  have K2 := Lib.hid (K1.out.cip hb hcb hob)
  clear K1
  clear hb hcb hob
  go_wp2_with fail
  refine (fmix_any cb b0 lo (0) n1 c1 l0 l1 A1 _ (by exact K2.out.ob) (by decide) (by exact (K2.out.row _ (.tail _ (.head _))).1) (by exact (K2.out.row _ (.tail _ (.head _))).2.2) (by omega) (by exact (K2.out.row _ (.tail _ (.head _))).2.1.1)).mono ?_
  rw [HE.out, HA.out]
  dsimp only
  rw [HX.out, cntP_ok]
  rintro e w3 ⟨Aa, ca, rfl, ho, hbu, hob⟩
  have K3 := Lib.hid (K2.out.ret hbu hob ho)
  clear K2
  clear ho hbu hob
  go_wp2_with fail
  refine (funmix_any cb b0 lo (0 + 4) n1 ca l0 X Aa _ (by exact K3.out.ob) (by decide) (by exact (K3.out.row _ (.head _)).1) (by exact (K3.out.row _ (.head _)).2.2) (by omega) (by exact (K3.out.row _ (.head _)).2.1.1)).mono ?_
  rw [HE.out, HB.out]
  dsimp only
  rw [HL1.out, cntP_ok]
  rintro e w4 ⟨Abx, cbx, rfl, ho, hbu, hob⟩
  have K4 := Lib.hid (K3.out.ret hbu hob ho)
  clear K3
  clear ho hbu hob
  go_wp2_with fail
  refine (funmix_any cb b0 lo (0 + 4 + 4) n1 c1 l0 l1 A1 _ (by exact K4.out.ob) (by decide) (by exact (K4.out.row _ (.tail _ (.tail _ (.tail _ (.head _))))).1) (by exact (K4.out.row _ (.tail _ (.tail _ (.tail _ (.head _))))).2.2) (by omega) (by exact (K4.out.row _ (.tail _ (.tail _ (.tail _ (.head _))))).2.1.1)).mono ?_
  rw [HE.out, HA2.out]
  dsimp only
  rw [HZl.out, cntP_ok]
  rintro e w5 ⟨Ad, cd, rfl, ho, hbu, hob⟩
  have K5 := Lib.hid (K4.out.ret hbu hob ho)
  clear K4
  clear ho hbu hob
  go_wp2_with fail
  refine (fmix_any cb b0 lo (0 + 4 + 4 + 4) n1 cd l0 Z Ad _ (by exact K5.out.ob) (by decide) (by exact (K5.out.row _ (.head _)).1) (by exact (K5.out.row _ (.head _)).2.2) (by omega) (by exact (K5.out.row _ (.head _)).2.1.1)).mono ?_
  rw [HE.out, HB2.out]
  dsimp only
  rw [HL1.out, cntP_ok]
  rintro e w6 ⟨Ax, cx, rfl, ho, hbu, hob⟩
  have K6 := Lib.hid (K5.out.ret hbu hob ho)
  clear K5
  clear ho hbu hob
  go_wp2_with fail
  refine (fmix_any cb b0 lo (0 + 4 + 4 + 4 + 4) n1 c2 l0 l2 A2 _ (by exact K6.out.ob) (by decide) (by exact (K6.out.row _ (.tail _ (.tail _ (.tail _ (.tail _ (.tail _ (.tail _ (.head _)))))))).1) (by exact (K6.out.row _ (.tail _ (.tail _ (.tail _ (.tail _ (.tail _ (.tail _ (.head _)))))))).2.2) (by omega) (by exact (K6.out.row _ (.tail _ (.tail _ (.tail _ (.tail _ (.tail _ (.tail _ (.head _)))))))).2.1.1)).mono ?_
  rw [HE.out, HA3.out]
  dsimp only
  rw [HY.out, cntP_ok]
  rintro e w7 ⟨Ay, cy, rfl, ho, hbu, hob⟩
  have K7 := Lib.hid (K6.out.ret hbu hob ho)
  clear K6
  clear ho hbu hob
  go_wp2_with fail
  refine (al_same _ _ _ _ _ _ l1 l1 _ (by exact (K7.out.row _ (.tail _ (.tail _ (.tail _ (.head _))))).1) (by exact (K7.out.row _ (.tail _ (.tail _ (.tail _ (.tail _ (.tail _ (.tail _ (.head _)))))))).1) (by exact Nat.le_trans (K7.out.row _ (.tail _ (.tail _ (.tail _ (.head _))))).2.1.1 (K7.out.row _ (.tail _ (.tail _ (.tail _ (.head _))))).2.1.2) (by exact Nat.le_trans (K7.out.row _ (.tail _ (.tail _ (.tail _ (.tail _ (.tail _ (.tail _ (.head _)))))))).2.1.1 (K7.out.row _ (.tail _ (.tail _ (.tail _ (.tail _ (.tail _ (.tail _ (.head _)))))))).2.1.2) true (beq_self_eq_true _)).mono ?_
  rintro e w8 ⟨rfl, hb⟩
  have K8 := Lib.hid (K7.out.step hb)
  clear K7
  clear hb
  go_wp2_with fail
  refine (al_same _ _ _ _ _ _ l1 l1 _ (by exact (K8.out.row _ (.tail _ (.head _))).1) (by exact (K8.out.row _ (.tail _ (.tail _ (.tail _ (.tail _ (.tail _ (.tail _ (.head _)))))))).1) (by exact Nat.le_trans (K8.out.row _ (.tail _ (.head _))).2.1.1 (K8.out.row _ (.tail _ (.head _))).2.1.2) (by exact Nat.le_trans (K8.out.row _ (.tail _ (.tail _ (.tail _ (.tail _ (.tail _ (.tail _ (.head _)))))))).2.1.1 (K8.out.row _ (.tail _ (.tail _ (.tail _ (.tail _ (.tail _ (.tail _ (.head _)))))))).2.1.2) true (beq_self_eq_true _)).mono ?_
  rintro e w9 ⟨rfl, hb⟩
  have K9 := Lib.hid (K8.out.step hb)
  clear K8
  clear hb
  go_wp2_with fail
  refine (al_same _ _ _ _ _ _ Y X _ (by exact (K9.out.row _ (.head _)).1) (by exact (K9.out.row _ (.tail _ (.tail _ (.tail _ (.tail _ (.head _)))))).1) (by exact Nat.le_trans (K9.out.row _ (.head _)).2.1.1 (K9.out.row _ (.head _)).2.1.2) (by exact Nat.le_trans (K9.out.row _ (.tail _ (.tail _ (.tail _ (.tail _ (.head _)))))).2.1.1 (K9.out.row _ (.tail _ (.tail _ (.tail _ (.tail _ (.head _)))))).2.1.2) G (HG.out)).mono ?_
  rintro e w10 ⟨rfl, hb⟩
  have K10 := Lib.hid (K9.out.step hb)
  clear K9
  clear hb
  go_wp2_with fail
  refine (al_same _ _ _ _ _ _ l2 l1 _ (by exact (K10.out.row _ (.tail _ (.tail _ (.tail _ (.tail _ (.tail _ (.tail _ (.tail _ (.head _))))))))).1) (by exact (K10.out.row _ (.tail _ (.tail _ (.tail _ (.tail _ (.tail _ (.tail _ (.head _)))))))).1) (by exact Nat.le_trans (K10.out.row _ (.tail _ (.tail _ (.tail _ (.tail _ (.tail _ (.tail _ (.tail _ (.head _))))))))).2.1.1 (K10.out.row _ (.tail _ (.tail _ (.tail _ (.tail _ (.tail _ (.tail _ (.tail _ (.head _))))))))).2.1.2) (by exact Nat.le_trans (K10.out.row _ (.tail _ (.tail _ (.tail _ (.tail _ (.tail _ (.tail _ (.head _)))))))).2.1.1 (K10.out.row _ (.tail _ (.tail _ (.tail _ (.tail _ (.tail _ (.tail _ (.head _)))))))).2.1.2) G (HG2.out)).mono ?_
  rintro e w11 ⟨rfl, hb⟩
  have K11 := Lib.hid (K10.out.step hb)
  clear K10
  clear hb
  go_wp2_with fail
  go_loopw [21, 22] (fun v i wr => ∃ (q c9 : Nat) (z : Int) (A9 : Option Addr), q ≤ n3 ∧ Hid (z = (n3 : Int) - 1 - (q : Int)) ∧ v = .slice A9 q c9 ∧ i = .int .i64 z ∧ Hid (OwnZ wr w11.heap.size A9 q c9 (l3.reverse.take q)) ∧ Hid ((l3.reverse.take q).all okP = true) ∧ Hid (Below w11.heap.size w11 wr)) (fun _ i _ => (intOf i + 1).toNat)
  case atStart => exact ⟨0, 0, (n3 : Int) - 1, some ⟨w11.heap.size, 0, none⟩, Nat.zero_le _, Lib.hid (by omega), rfl, rfl, Lib.hid (by rw [List.take_zero]; exact OwnZ.lit w11 _ [] #[] 0 rfl rfl (by unfold maxLen; omega) (Nat.le_refl _) (by simp)), Lib.hid (by rw [List.take_zero]; rfl), Lib.hid (below_alloc _ _)⟩
  case round =>
    obtain ⟨q, c9, z, A9, hq, hz, rfl, rfl, ho, hall, hb⟩ := hrel
    have KR := Lib.hid (K11.out.step hb.out)
    have HO : Hid (ZL wr wr.heap.size A3 n3 l3) := Lib.hid ((HZ.out.step U0.out.1).asd KR.out.but (fun hn => HZ.out.far hn U0.out.2))
    by_cases hlt : q < n3
    · obtain ⟨j, hj⟩ : ∃ j, n3 = q + 1 + j := ⟨n3 - (q + 1), by omega⟩
      obtain rfl : z = (j : Int) := by have := hz.out; omega
      have hj3 : j < n3 := by omega
      obtain ⟨gg, qq, rfl, hg, p, hp, hpb, hc⟩ := HO.out.at_ hj3
      have HP := Lib.hid hp
      have HJ := Lib.hid hj
      clear hp hg hj
      have hj0 : decide (0 ≤ (j : Int)) = true := decide_eq_true (by omega)
      by_cases hp0 : p < 0
      · have e0 : decide (p < 0) = true := decide_eq_true hp0
        go_wp2_with fail
        go_ret
        exact ⟨rfl, KR.out.bel U0.out.1 U0.out.2⟩
      have e0 : decide (p < 0) = false := decide_eq_false hp0
      by_cases hp1 : 255 < p
      · have e1 : decide (255 < p) = true := decide_eq_true hp1
        go_wp2_with fail
        go_ret
        exact ⟨rfl, KR.out.bel U0.out.1 U0.out.2⟩
      have e1 : decide (255 < p) = false := decide_eq_false hp1
      have HT : Hid (l3.reverse.take (q + 1) = l3.reverse.take q ++ [p]) := Lib.hid (by
        rw [List.take_add_one]
        rw [List.getElem?_reverse (by rw [HL3.out]; exact hlt), HL3.out, show n3 - 1 - q = j by have := HJ.out; omega]
        rw [HP.out]
        rfl)
      have HK : Hid ((l3.reverse.take (q + 1)).all okP = true) := Lib.hid (by
        rw [HT.out, List.all_append, hall.out]
        unfold okP
        rw [List.all_cons, decide_eq_true (by omega)]
        rfl)
      have HPB : Hid (∀ x ∈ [p], -9223372036854775808 ≤ x ∧ x ≤ 9223372036854775807) := Lib.hid (by intro x hx; obtain rfl := List.mem_singleton.1 hx; exact hpb)
      have hsz := hb.out.size
      go_wp2_with (at_builtin; refine wpList_appZ rfl (.tmp 150) (.tmp 155) rfl w11.heap.size _ _ _ _ rfl (by exact ho.out.alloc _) _ (some ⟨wr.heap.size, 0, none⟩) 1 1 [p] rfl (by exact ZL.lit wr [p] _ 1 wr.heap.size _ (by rfl) rfl rfl HPB.out) (by omega) (by rw [World.size_alloc]; omega) ?_; intro A4 c4 w4 ho4 _ hb4)
      all_goals
        go_roundw
        case rel => exact ⟨q + 1, c4, (j : Int) - 1, A4, by omega, Lib.hid (by have := HJ.out; omega), rfl, by go_num, Lib.hid (by rw [HT.out]; exact ho4), HK, Lib.hid ((hb.out.alloc hsz _).trans hb4)⟩
        case measure => simp [intOf]
    · obtain rfl : q = n3 := by omega
      obtain rfl : z = -1 := by have := hz.out; omega
      rw [List.take_of_length_le (by rw [List.length_reverse, HL3.out]; exact Nat.le_refl _)] at ho hall
      rw [List.all_reverse] at hall
      obtain ⟨V, HV, HVl, HVB⟩ := fb_mix HEE.out l1 l3 HN.out.1 HN.out.2 hall.out
      replace HV := Lib.hid HV
      replace HVl := Lib.hid (HVl.trans HL1.out)
      replace HVB := Lib.hid HVB
      have HBZ := Lib.hid ho.out
      clear hz hall ho
      have K500 := KR
      clear KR
      go_wp2_with fail
      refine (fpasses_any cb b0 lo (0 + 4 + 4 + 4 + 4 + 4) n1 c1 q c3 l0 l1 l3 A1 A3 _ (by exact K500.out.ob) (by decide) (by exact (K500.out.row _ (.tail _ (.tail _ (.tail _ (.tail _ (.tail _ (.tail _ (.head _)))))))).1) (by exact HO.out) (by exact (K500.out.row _ (.tail _ (.tail _ (.tail _ (.tail _ (.tail _ (.tail _ (.head _)))))))).2.2) (fun hn => HZ.out.far hn U0.out.2) (by omega) (by exact m1.1) (by omega)).mono ?_
      rw [HE.out, HV.out]
      dsimp only
      rw [HVl.out, cntP_ok]
      rintro e w12 ⟨Ap, cp, rfl, ho, hbu, hob⟩
      have K501 := Lib.hid (K500.out.ret hbu hob ho)
      clear K500
      have HBY := Lib.hid (HBZ.out.but hbu K11.out.here)
      clear ho hbu hob
      clear HBZ
      go_wp2_with fail
      refine (fpasses_any cb b0 lo (0 + 4 + 4 + 4 + 4 + 4 + q) n1 cp q c9 l0 V l3.reverse Ap A9 _ (by exact K501.out.ob) (by omega) (by exact (K501.out.row _ (.head _)).1) (by exact HBY.out.zl) (by exact (K501.out.row _ (.head _)).2.2) (fun _ => HBY.out.far K11.out.here) (by omega) (by exact (K501.out.row _ (.head _)).2.1.1) (by omega)).mono ?_
      rw [HE.out, HVB.out]
      dsimp only
      rw [HL1.out, cntP_ok]
      rintro e w13 ⟨Aq, cq, rfl, ho, hbu, hob⟩
      have K502 := Lib.hid (K501.out.ret hbu hob ho)
      clear K501
      clear ho hbu hob
      go_wp2_with fail
      refine (al_same _ _ _ _ _ _ l1 l1 _ (by exact (K502.out.row _ (.head _)).1) (by exact (K502.out.row _ (.tail _ (.tail _ (.tail _ (.tail _ (.tail _ (.tail _ (.tail _ (.tail _ (.head _)))))))))).1) (by exact Nat.le_trans (K502.out.row _ (.head _)).2.1.1 (K502.out.row _ (.head _)).2.1.2) (by exact Nat.le_trans (K502.out.row _ (.tail _ (.tail _ (.tail _ (.tail _ (.tail _ (.tail _ (.tail _ (.tail _ (.head _)))))))))).2.1.1 (K502.out.row _ (.tail _ (.tail _ (.tail _ (.tail _ (.tail _ (.tail _ (.tail _ (.tail _ (.head _)))))))))).2.1.2) true (beq_self_eq_true _)).mono ?_
      rintro e w14 ⟨rfl, hb⟩
      have K503 := Lib.hid (K502.out.step hb)
      clear K502
      clear hb
      go_wp2_with fail
      go_ret
      exact ⟨rfl, K503.out.bel U0.out.1 U0.out.2⟩
end Go.Proofs.Ytgmedeldjlmlmaa
