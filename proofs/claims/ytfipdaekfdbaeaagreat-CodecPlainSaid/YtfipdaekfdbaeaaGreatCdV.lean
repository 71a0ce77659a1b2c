/- Layer 17: the statements' own first step. No condition. -/
import Derived.Test.YtfipdaekfdbaeaaGreatCdC
import Derived.Test.YtfipdaekfdbaeaaGreatCdB
import Derived.Test.YtfipdaekfdbaeaaGreatUseBytes
namespace Go.Proofs.YtfipdaekfdbaeaaGreat
open Go.RowKit
set_option linter.unusedVariables false
set_option linter.unusedSimpArgs false
def cU : Cfg := ⟨0, 3, 4, zK⟩
theorem cU_ok : cU.ok := ⟨rfl, by decide, by decide, by decide⟩
theorem cU_rt : rtB cU = true := rt_iff.2 ⟨by decide, by decide, by decide, by decide, by decide, fun _ => rfl⟩
theorem zeroC_no : rtB zeroC = false := decide_eq_false (fun e => absurd ((rt_unf e).2.1.1) (by decide))
theorem cU_lit : (Value.agg #[.int .i64 0, .int .i64 3, .int .i64 4, .int .u8 0, .int .u8 0, .int .u8 0, .int .u8 0, .int .u8 0, .int .u8 0, .int .u8 0, .int .u8 0, .int .u8 0, .int .u8 0, .int .u8 0, .int .u8 0, .int .u8 0, .int .u8 0, .int .u8 0, .int .u8 0]) = .agg cU.cells.toArray := rfl
theorem ca_1 : codM cU 1 [1, 2, 3] [4, 5, 6, 7] = ([71, 1, 2, 3, 4, 5, 6, 7], 0) := by
  rw [codM_ok cU_rt ⟨⟨by decide, by decide⟩, by decide, by decide⟩, way_plain rfl]
  decide +kernel
theorem ca_2 : codB cU [71, 1, 2, 3, 4, 5, 6, 7] = (⟨1, [1, 2, 3], [4, 5, 6, 7]⟩, 0) := by
  rw [codB_ok cU_rt (by decide) (by decide +kernel)]
  unfold prtC
  rw [way_plain rfl]
  decide +kernel
theorem ca_3 : codB cU [70, 1, 2, 3, 4, 5, 6, 7] = (zPrt, 10) := codB_form cU_rt (by decide) (by decide +kernel)
theorem ca_4 : codM cU 3 [1, 2, 3] [4, 5, 6, 7] = ([], 11) := codM_range cU_rt (by decide)
theorem ca_5 : codB zeroC [71, 1, 2, 3, 4, 5, 6, 7] = (zPrt, 19) := codB_state zeroC_no
theorem ca_6 : plnL 3 [4, 5, 6, 7] = ([196, 4, 5, 6, 7], 0) := by rw [pln_ok ⟨⟨by decide, by decide⟩, by decide⟩]; decide +kernel
theorem ca_7 : pntB 128 = 2 := by decide +kernel
theorem ca_8 : tldB 71 = 8 := by decide +kernel
attribute [local irreducible] Cfg.val Cfg.cells rtB Rt zK sizeC AV bytC rawC zeroC turnC wayC encL decL tableL backL passesR cntP idB codM codB prtC plnL pcel zcel cU pntB tldB
attribute [local go_sem ↓] ex_ldC ex_ldP
set_option maxRecDepth 100000 in
set_option maxHeartbeats 8000000 in
theorem calive_any (w : World) :
    Calls Tryz.prog 8 #[] w fun e w' => e = .returned (.bool true) ∧ Below w.heap.size w w' := by
  go_enter Tryz.func8, Tryz.ntmps8
  have K0 := Lib.hid (DK.start w)
  go_wp2_with (first | (with_reducible show wpList _ _ _ (⟨some 1, .alloc _, _, _, _, _⟩ :: _) _ _; refine wpList_newB rt_cfg rfl rfl ?_; intro w1 p_c hc1 hb1 hx1; have Vw1 := Lib.hid (And.intro hc1 (And.intro hb1 hx1)); clear hc1 hb1 hx1) | (refine wpList_stB rt_cfg rfl (.tmp 1) (.tmp 16) rfl p_c 0 rfl zeroC.cells (Cfg.cells cU) cU_lit (cells_one _) (by exact (Cfg.cells_len cU_ok).trans zeroC_len.symm) (by exact Vw1.out.1) (by rw [zeroC_len]; decide) ?_; intro w2 hc1 ho1 hs1; have K1 := Lib.hid (K0.out.var Vw1.out.2.1 Vw1.out.2.2 ho1 hc1 cU_ok); clear hc1 ho1 hs1 Vw1; have K2 := Lib.hid (K1.out.litA [1, 2, 3] #[.int .u8 1, .int .u8 2, .int .u8 3] 3 rfl rfl (by decide) (w2.heap.size) (by simp)); clear K1; have K3 := Lib.hid (K2.out.litA [4, 5, 6, 7] #[.int .u8 4, .int .u8 5, .int .u8 6, .int .u8 7] 4 rfl rfl (by decide) (w2.heap.size + 1) (by simp)); clear K2; have q_c := ld_cfg rt_cfg (K3.out.cf _ (.head _)).1 (K3.out.cf _ (.head _)).2))
  refine (cmake_any cU cU_ok 1 _ 3 3 [1, 2, 3] _ 4 4 [4, 5, 6, 7] _ (by exact (K3.out.hw.row _ (.tail _ (.head _))).1) (by exact (K3.out.hw.row _ (.head _)).1)).mono ?_
  rw [ca_1]
  (try dsimp only)
  rintro e w3 ⟨Ai, ci, rfl, ho, hb⟩
  have K4 := Lib.hid (K3.out.own hb ho)
  clear K3
  clear ho hb
  (try clear q_c)
  (try clear f0_c)
  (try clear f1_c)
  (try clear f2_c)
  have q_c := ld_cfg rt_cfg (K4.out.cf _ (.head _)).1 (K4.out.cf _ (.head _)).2
  go_wp2_with fail
  refine ((cback_any cU cU_ok Ai 8 ci [71, 1, 2, 3, 4, 5, 6, 7] _ (by exact (K4.out.hw.row _ (.head _)).1) (by exact (K4.out.hw.row _ (.head _)).2.1)).mono fun _ _ h => RetPE.rd h).mono ?_
  rw [ca_2]
  (try dsimp only)
  rintro e w4 ⟨Aps, cps, Apn, cpn, rfl, ho1, ho2, hb⟩
  have K5 := Lib.hid (K4.out.two hb ho1 ho2)
  clear K4
  clear ho1 ho2 hb
  (try clear q_c)
  (try clear f0_c)
  (try clear f1_c)
  (try clear f2_c)
  have q_c := ld_cfg rt_cfg (K5.out.cf _ (.head _)).1 (K5.out.cf _ (.head _)).2
  go_wp2_with (first | (with_reducible show wpList _ _ _ (⟨some 6, .alloc _, _, _, _, _⟩ :: _) _ _; refine wpList_newB rt_prt rfl rfl ?_; intro w5 p_p hc1 hb1 hx1; have Vw5 := Lib.hid (And.intro hc1 (And.intro hb1 hx1)); clear hc1 hb1 hx1) | (refine wpList_stB rt_prt rfl (.tmp 6) (.tmp 30) rfl p_p 0 rfl zcel (pcel 1 Aps 3 cps Apn 4 cpn) rfl pcel_one (by exact pcel_len) (by exact Vw5.out.1) (by rw [zcel_len]; decide) ?_; intro w6 hc1 ho1 hs1; have K6 := Lib.hid (K5.out.pvar Vw5.out.2.1 Vw5.out.2.2 ho1 hc1 pcel_len); clear hc1 ho1 hs1 Vw5; have q_c := ld_cfg rt_cfg (K6.out.cf _ (.head _)).1 (K6.out.cf _ (.head _)).2))
  have K7 := Lib.hid (K6.out.litA [70, 1, 2, 3, 4, 5, 6, 7] #[.int .u8 70, .int .u8 1, .int .u8 2, .int .u8 3, .int .u8 4, .int .u8 5, .int .u8 6, .int .u8 7] 8 rfl rfl (by decide) (w6.heap.size) (by simp))
  clear K6
  refine ((cback_any cU cU_ok _ 8 8 [70, 1, 2, 3, 4, 5, 6, 7] _ (by exact (K7.out.hw.row _ (.head _)).1) (by decide)).mono fun _ _ h => RetPE.rd h).mono ?_
  rw [ca_3]
  (try dsimp only [zPrt])
  rintro e w7 ⟨Aes, ces, Aen, cen, rfl, ho1, ho2, hb⟩
  have K8 := Lib.hid (K7.out.two hb ho1 ho2)
  clear K7
  clear ho1 ho2 hb
  (try clear q_c)
  (try clear f0_c)
  (try clear f1_c)
  (try clear f2_c)
  (try clear q_p)
  (try clear f0_p)
  (try clear f1_p)
  (try clear f2_p)
  have q_c := ld_cfg rt_cfg (K8.out.cf _ (.head _)).1 (K8.out.cf _ (.head _)).2
  go_wp2_with (first | (with_reducible show wpList _ _ _ (⟨some 8, .alloc _, _, _, _, _⟩ :: _) _ _; refine wpList_newB rt_prt rfl rfl ?_; intro w8 p_e hc1 hb1 hx1; have Vw8 := Lib.hid (And.intro hc1 (And.intro hb1 hx1)); clear hc1 hb1 hx1) | (refine wpList_stB rt_prt rfl (.tmp 8) (.tmp 36) rfl p_e 0 rfl zcel (pcel 0 Aes 0 ces Aen 0 cen) rfl pcel_one (by exact pcel_len) (by exact Vw8.out.1) (by rw [zcel_len]; decide) ?_; intro w9 hc1 ho1 hs1; have K9 := Lib.hid (K8.out.pvar Vw8.out.2.1 Vw8.out.2.2 ho1 hc1 pcel_len); clear hc1 ho1 hs1 Vw8; have q_c := ld_cfg rt_cfg (K9.out.cf _ (.head _)).1 (K9.out.cf _ (.head _)).2))
  refine (cmake_any cU cU_ok 3 _ 3 3 [1, 2, 3] _ 4 4 [4, 5, 6, 7] _ (by exact (K9.out.hw.row _ (.tail _ (.tail _ (.tail _ (.tail _ (.tail _ (.tail _ (.tail _ (.head _))))))))).1) (by exact (K9.out.hw.row _ (.tail _ (.tail _ (.tail _ (.tail _ (.tail _ (.tail _ (.head _)))))))).1)).mono ?_
  rw [ca_4]
  (try dsimp only)
  rintro e w10 ⟨Aj, cj, rfl, ho, hb⟩
  have K10 := Lib.hid (K9.out.own hb ho)
  clear K9
  clear ho hb
  (try clear q_c)
  (try clear f0_c)
  (try clear f1_c)
  (try clear f2_c)
  (try clear q_e)
  (try clear f0_e)
  (try clear f1_e)
  (try clear f2_e)
  (try clear q_p)
  (try clear f0_p)
  (try clear f1_p)
  (try clear f2_p)
  have q_c := ld_cfg rt_cfg (K10.out.cf _ (.head _)).1 (K10.out.cf _ (.head _)).2
  go_wp2_with fail
  rw [← zeroC_val]
  refine ((cback_any zeroC zeroC_ok Ai 8 ci [71, 1, 2, 3, 4, 5, 6, 7] _ (by exact (K10.out.hw.row _ (.tail _ (.tail _ (.tail _ (.tail _ (.tail _ (.tail _ (.head _)))))))).1) (by exact (K10.out.hw.row _ (.tail _ (.tail _ (.tail _ (.tail _ (.tail _ (.tail _ (.head _)))))))).2.1)).mono fun _ _ h => RetPE.rd h).mono ?_
  rw [ca_5]
  (try dsimp only [zPrt])
  rintro e w11 ⟨Afs, cfs, Afn, cfn, rfl, ho1, ho2, hb⟩
  have K11 := Lib.hid (K10.out.two hb ho1 ho2)
  clear K10
  clear ho1 ho2 hb
  (try clear q_c)
  (try clear f0_c)
  (try clear f1_c)
  (try clear f2_c)
  (try clear q_e)
  (try clear f0_e)
  (try clear f1_e)
  (try clear f2_e)
  (try clear q_p)
  (try clear f0_p)
  (try clear f1_p)
  (try clear f2_p)
  have q_c := ld_cfg rt_cfg (K11.out.cf _ (.head _)).1 (K11.out.cf _ (.head _)).2
  go_wp2_with (first | (with_reducible show wpList _ _ _ (⟨some 12, .alloc _, _, _, _, _⟩ :: _) _ _; refine wpList_newB rt_prt rfl rfl ?_; intro w12 p_f hc1 hb1 hx1; have Vw12 := Lib.hid (And.intro hc1 (And.intro hb1 hx1)); clear hc1 hb1 hx1) | (refine wpList_stB rt_prt rfl (.tmp 12) (.tmp 49) rfl p_f 0 rfl zcel (pcel 0 Afs 0 cfs Afn 0 cfn) rfl pcel_one (by exact pcel_len) (by exact Vw12.out.1) (by rw [zcel_len]; decide) ?_; intro w13 hc1 ho1 hs1; have K12 := Lib.hid (K11.out.pvar Vw12.out.2.1 Vw12.out.2.2 ho1 hc1 pcel_len); clear hc1 ho1 hs1 Vw12; have q_c := ld_cfg rt_cfg (K12.out.cf _ (.head _)).1 (K12.out.cf _ (.head _)).2))
  refine (cplain_any 3 _ 4 4 [4, 5, 6, 7] _ (by exact (K12.out.hw.row _ (.tail _ (.tail _ (.tail _ (.tail _ (.tail _ (.tail _ (.tail _ (.tail _ (.tail _ (.head _))))))))))).1)).mono ?_
  rw [ca_6]
  (try dsimp only)
  rintro e w14 ⟨Aq, cq, rfl, ho, hb⟩
  have K13 := Lib.hid (K12.out.own hb ho)
  clear K12
  clear ho hb
  (try clear q_c)
  (try clear f0_c)
  (try clear f1_c)
  (try clear f2_c)
  (try clear q_f)
  (try clear f0_f)
  (try clear f1_f)
  (try clear f2_f)
  (try clear q_e)
  (try clear f0_e)
  (try clear f1_e)
  (try clear f2_e)
  (try clear q_p)
  (try clear f0_p)
  (try clear f1_p)
  (try clear f2_p)
  have q_c := ld_cfg rt_cfg (K13.out.cf _ (.head _)).1 (K13.out.cf _ (.head _)).2
  have f0_p := pc0 (K13.out.pt _ (.tail _ (.tail _ (.head _))))
  have f1_p := pc1 (K13.out.pt _ (.tail _ (.tail _ (.head _))))
  have f2_p := pc2 (K13.out.pt _ (.tail _ (.tail _ (.head _))))
  go_wp2_with fail
  have K14 := Lib.hid (K13.out.litA [71, 1, 2, 3, 4, 5, 6, 7] #[.int .u8 71, .int .u8 1, .int .u8 2, .int .u8 3, .int .u8 4, .int .u8 5, .int .u8 6, .int .u8 7] 8 rfl rfl (by decide) (w14.heap.size) (by simp))
  clear K13
  refine (al_same _ _ _ _ _ _ [71, 1, 2, 3, 4, 5, 6, 7] [71, 1, 2, 3, 4, 5, 6, 7] _ (by exact (K14.out.hw.row _ (.tail _ (.tail _ (.tail _ (.tail _ (.tail _ (.tail _ (.tail _ (.tail _ (.tail _ (.tail _ (.head _)))))))))))).1) (by exact (K14.out.hw.row _ (.head _)).1) (by exact Nat.le_trans (K14.out.hw.row _ (.tail _ (.tail _ (.tail _ (.tail _ (.tail _ (.tail _ (.tail _ (.tail _ (.tail _ (.tail _ (.head _)))))))))))).2.1 (K14.out.hw.row _ (.tail _ (.tail _ (.tail _ (.tail _ (.tail _ (.tail _ (.tail _ (.tail _ (.tail _ (.tail _ (.head _)))))))))))).2.2) (by exact Nat.le_trans (K14.out.hw.row _ (.head _)).2.1 (K14.out.hw.row _ (.head _)).2.2) true (rfl)).mono ?_
  rintro e w15 ⟨rfl, hb⟩
  have K15 := Lib.hid (K14.out.step hb)
  clear K14
  clear hb
  (try clear q_c)
  (try clear f0_c)
  (try clear f1_c)
  (try clear f2_c)
  (try clear q_f)
  (try clear f0_f)
  (try clear f1_f)
  (try clear f2_f)
  (try clear q_e)
  (try clear f0_e)
  (try clear f1_e)
  (try clear f2_e)
  (try clear q_p)
  (try clear f0_p)
  (try clear f1_p)
  (try clear f2_p)
  have q_c := ld_cfg rt_cfg (K15.out.cf _ (.head _)).1 (K15.out.cf _ (.head _)).2
  have f0_p := pc0 (K15.out.pt _ (.tail _ (.tail _ (.head _))))
  have f1_p := pc1 (K15.out.pt _ (.tail _ (.tail _ (.head _))))
  have f2_p := pc2 (K15.out.pt _ (.tail _ (.tail _ (.head _))))
  go_wp2_with fail
  refine (al_same _ _ _ _ _ _ [1, 2, 3] [1, 2, 3] _ (by exact (K15.out.hw.row _ (.tail _ (.tail _ (.tail _ (.tail _ (.tail _ (.tail _ (.tail _ (.tail _ (.tail _ (.head _))))))))))).1) (by exact (K15.out.hw.row _ (.tail _ (.tail _ (.tail _ (.tail _ (.tail _ (.tail _ (.tail _ (.tail _ (.tail _ (.tail _ (.tail _ (.tail _ (.head _)))))))))))))).1) (by exact Nat.le_trans (K15.out.hw.row _ (.tail _ (.tail _ (.tail _ (.tail _ (.tail _ (.tail _ (.tail _ (.tail _ (.tail _ (.head _))))))))))).2.1 (K15.out.hw.row _ (.tail _ (.tail _ (.tail _ (.tail _ (.tail _ (.tail _ (.tail _ (.tail _ (.tail _ (.head _))))))))))).2.2) (by exact Nat.le_trans (K15.out.hw.row _ (.tail _ (.tail _ (.tail _ (.tail _ (.tail _ (.tail _ (.tail _ (.tail _ (.tail _ (.tail _ (.tail _ (.tail _ (.head _)))))))))))))).2.1 (K15.out.hw.row _ (.tail _ (.tail _ (.tail _ (.tail _ (.tail _ (.tail _ (.tail _ (.tail _ (.tail _ (.tail _ (.tail _ (.tail _ (.head _)))))))))))))).2.2) true (rfl)).mono ?_
  rintro e w16 ⟨rfl, hb⟩
  have K16 := Lib.hid (K15.out.step hb)
  clear K15
  clear hb
  (try clear q_c)
  (try clear f0_c)
  (try clear f1_c)
  (try clear f2_c)
  (try clear q_f)
  (try clear f0_f)
  (try clear f1_f)
  (try clear f2_f)
  (try clear q_e)
  (try clear f0_e)
  (try clear f1_e)
  (try clear f2_e)
  (try clear q_p)
  (try clear f0_p)
  (try clear f1_p)
  (try clear f2_p)
  have q_c := ld_cfg rt_cfg (K16.out.cf _ (.head _)).1 (K16.out.cf _ (.head _)).2
  have f0_p := pc0 (K16.out.pt _ (.tail _ (.tail _ (.head _))))
  have f1_p := pc1 (K16.out.pt _ (.tail _ (.tail _ (.head _))))
  have f2_p := pc2 (K16.out.pt _ (.tail _ (.tail _ (.head _))))
  go_wp2_with fail
  refine (al_same _ _ _ _ _ _ [4, 5, 6, 7] [4, 5, 6, 7] _ (by exact (K16.out.hw.row _ (.tail _ (.tail _ (.tail _ (.tail _ (.tail _ (.tail _ (.tail _ (.tail _ (.head _)))))))))).1) (by exact (K16.out.hw.row _ (.tail _ (.tail _ (.tail _ (.tail _ (.tail _ (.tail _ (.tail _ (.tail _ (.tail _ (.tail _ (.tail _ (.head _))))))))))))).1) (by exact Nat.le_trans (K16.out.hw.row _ (.tail _ (.tail _ (.tail _ (.tail _ (.tail _ (.tail _ (.tail _ (.tail _ (.head _)))))))))).2.1 (K16.out.hw.row _ (.tail _ (.tail _ (.tail _ (.tail _ (.tail _ (.tail _ (.tail _ (.tail _ (.head _)))))))))).2.2) (by exact Nat.le_trans (K16.out.hw.row _ (.tail _ (.tail _ (.tail _ (.tail _ (.tail _ (.tail _ (.tail _ (.tail _ (.tail _ (.tail _ (.tail _ (.head _))))))))))))).2.1 (K16.out.hw.row _ (.tail _ (.tail _ (.tail _ (.tail _ (.tail _ (.tail _ (.tail _ (.tail _ (.tail _ (.tail _ (.tail _ (.head _))))))))))))).2.2) true (rfl)).mono ?_
  rintro e w17 ⟨rfl, hb⟩
  have K17 := Lib.hid (K16.out.step hb)
  clear K16
  clear hb
  (try clear q_c)
  (try clear f0_c)
  (try clear f1_c)
  (try clear f2_c)
  (try clear q_f)
  (try clear f0_f)
  (try clear f1_f)
  (try clear f2_f)
  (try clear q_e)
  (try clear f0_e)
  (try clear f1_e)
  (try clear f2_e)
  (try clear q_p)
  (try clear f0_p)
  (try clear f1_p)
  (try clear f2_p)
  have q_c := ld_cfg rt_cfg (K17.out.cf _ (.head _)).1 (K17.out.cf _ (.head _)).2
  have f0_p := pc0 (K17.out.pt _ (.tail _ (.tail _ (.head _))))
  have f1_p := pc1 (K17.out.pt _ (.tail _ (.tail _ (.head _))))
  have f2_p := pc2 (K17.out.pt _ (.tail _ (.tail _ (.head _))))
  go_wp2_with fail
  have K18 := Lib.hid (K17.out.litA [196, 4, 5, 6, 7] #[.int .u8 196, .int .u8 4, .int .u8 5, .int .u8 6, .int .u8 7] 5 rfl rfl (by decide) (w17.heap.size) (by simp))
  clear K17
  refine (al_same _ _ _ _ _ _ [196, 4, 5, 6, 7] [196, 4, 5, 6, 7] _ (by exact (K18.out.hw.row _ (.tail _ (.tail _ (.head _)))).1) (by exact (K18.out.hw.row _ (.head _)).1) (by exact Nat.le_trans (K18.out.hw.row _ (.tail _ (.tail _ (.head _)))).2.1 (K18.out.hw.row _ (.tail _ (.tail _ (.head _)))).2.2) (by exact Nat.le_trans (K18.out.hw.row _ (.head _)).2.1 (K18.out.hw.row _ (.head _)).2.2) true (rfl)).mono ?_
  rintro e w18 ⟨rfl, hb⟩
  have K19 := Lib.hid (K18.out.step hb)
  clear K18
  clear hb
  (try clear q_c)
  (try clear f0_c)
  (try clear f1_c)
  (try clear f2_c)
  (try clear q_f)
  (try clear f0_f)
  (try clear f1_f)
  (try clear f2_f)
  (try clear q_e)
  (try clear f0_e)
  (try clear f1_e)
  (try clear f2_e)
  (try clear q_p)
  (try clear f0_p)
  (try clear f1_p)
  (try clear f2_p)
  have q_c := ld_cfg rt_cfg (K19.out.cf _ (.head _)).1 (K19.out.cf _ (.head _)).2
  go_wp2_with fail
  have P := cpoint_any 128 (w := w18)
  rw [ca_7] at P
  refine P.mono ?_
  rintro e w19 ⟨rfl, rfl⟩
  go_wp2_with fail
  have P2 := ctold_any 71 (w := w18)
  rw [ca_8] at P2
  refine P2.mono ?_
  rintro e w20 ⟨rfl, rfl⟩
  go_wp2_with fail
  go_ret
  exact ⟨rfl, K19.out.hw.bel⟩
theorem cback_r (c : Cfg) (h : c.ok) (A : Option Addr) (n d : Nat) (l : List UInt8) (w : World) (hA : RB w w.heap.size A n l) (hd : n ≤ d) :
    Calls Tryz.prog 20 #[c.val, .slice A n d] w (RetPR (codB c l) w) := (cback_any c h A n d l w hA hd).mono fun _ _ h => RetPE.rd h
end Go.Proofs.YtfipdaekfdbaeaaGreat
