/- Layer 16: the statements' own first step. No condition. -/
import Derived.Test.YtdhnknkochbekaaGreatMdC
import Derived.Test.YtdhnknkochbekaaGreatMdR
import Derived.Test.YtdhnknkochbekaaGreatMdU
import Derived.Test.YtdhnknkochbekaaGreatMdNum
namespace Go.Proofs.YtdhnknkochbekaaGreat
open Go.RowKit
set_option linter.unusedVariables false
set_option linter.unusedSimpArgs false
def cU : Cfg := ⟨0, 3, 4, zK⟩
def dU : Cfg := ⟨2, 3, 4, keyU⟩
def bU : Cfg := ⟨1, 3, 4, zK⟩
theorem cU_ok : cU.ok := ⟨rfl, by decide, by decide, by decide⟩
theorem dU_ok : dU.ok := ⟨rfl, by decide, by decide, by decide⟩
theorem bU_ok : bU.ok := ⟨rfl, by decide, by decide, by decide⟩
theorem cU_rt : rtB cU = true := rt_iff.2 ⟨by decide, by decide, by decide, by decide, by decide, fun _ => rfl⟩
theorem dU_rt : rtB dU = true := rt_iff.2 ⟨by decide, by decide, by decide, by decide, by decide, fun e => absurd e (by decide)⟩
theorem bU_rt : rtB bU = false := decide_eq_false (fun e => absurd ((rt_unf e).2.2.2.2.1 rfl) (by decide))
theorem cU_lit : (Value.agg #[.int .i64 0, .int .i64 3, .int .i64 4, .int .u8 0, .int .u8 0, .int .u8 0, .int .u8 0, .int .u8 0, .int .u8 0, .int .u8 0, .int .u8 0, .int .u8 0, .int .u8 0, .int .u8 0, .int .u8 0, .int .u8 0, .int .u8 0, .int .u8 0, .int .u8 0]) = .agg cU.cells.toArray := rfl
theorem dU_lit : (Value.agg #[.int .i64 2, .int .i64 3, .int .i64 4, .int .u8 1, .int .u8 0, .int .u8 0, .int .u8 0, .int .u8 0, .int .u8 0, .int .u8 0, .int .u8 0, .int .u8 0, .int .u8 0, .int .u8 0, .int .u8 0, .int .u8 0, .int .u8 0, .int .u8 0, .int .u8 0]) = .agg dU.cells.toArray := rfl
theorem bU_lit : (Value.agg #[.int .i64 1, .int .i64 3, .int .i64 4, .int .u8 0, .int .u8 0, .int .u8 0, .int .u8 0, .int .u8 0, .int .u8 0, .int .u8 0, .int .u8 0, .int .u8 0, .int .u8 0, .int .u8 0, .int .u8 0, .int .u8 0, .int .u8 0, .int .u8 0, .int .u8 0]) = .agg bU.cells.toArray := rfl
theorem ma_1 : turnC cU false [1, 2, 3, 4, 5, 6, 7] = ([1, 2, 3, 4, 5, 6, 7], 0) := by rw [turn_ok cU_rt (by decide), way_plain rfl]
theorem ma_2 : ∃ X, turnC dU false [1, 2, 3, 4, 5, 6, 7] = (X, 0) ∧ turnC dU true X = ([1, 2, 3, 4, 5, 6, 7], 0) ∧ X.length = 7 ∧ (X == [1, 2, 3, 4, 5, 6, 7]) = false := by
  have hr := rt_of dU_rt
  have hl : (([1, 2, 3, 4, 5, 6, 7] : List UInt8).length : Int) = dU.s + dU.n := by decide
  have hw := way_len (back := false) hr dU_ok.k hl
  have hb := way_back (back := false) hr dU_ok.k hl
  refine ⟨wayC dU false [1, 2, 3, 4, 5, 6, 7], turn_ok dU_rt hl, ?_, hw, ?_⟩
  · rw [turn_ok dU_rt (by rw [hw]; exact hl)]
    rw [show wayC dU true (wayC dU false [1, 2, 3, 4, 5, 6, 7]) = [1, 2, 3, 4, 5, 6, 7] from hb]
  · rw [beq_eq_false_iff_ne, way_four rfl]
    have h := passes_ok (E := encL dU.k tableL) (b := [1, 2, 3, 4, 5, 6, 7]) (o := [1, 2, 3, 4]) (by decide) (by decide) (by decide)
    rw [if_neg (by decide), h]
    exact mn_mixed
theorem ma_3 : turnC bU false [1, 2, 3, 4, 5, 6, 7] = ([], 19) := turn_state bU_rt
theorem ma_4 : turnC dU false [] = ([], 11) := turn_range dU_rt (by decide)
theorem ma_5 : ∃ B, bytC dU = B ∧ B.length = 20 ∧ readC B = (dU, 0) := ⟨rawC dU, byt_ok dU_rt, raw_len dU_ok.k, read_byt dU_rt dU_ok.k⟩
theorem ma_6 : readC [] = (zeroC, 12) := rfl
theorem ma_7 : sizeC cU = 8 := by rw [size_ok cU_rt]; decide
attribute [local irreducible] Cfg.val Cfg.cells rtB Rt zK sizeC AV bytC rawC zeroC turnC wayC encL decL tableL backL passesR cntP readC cU dU bU
attribute [local go_sem ↓] ex_ldC ex_ldR
set_option maxRecDepth 100000 in
set_option maxHeartbeats 8000000 in
theorem malive_any (w : World) :
    Calls Tryz.prog 7 #[] w fun e w' => e = .returned (.bool true) ∧ Below w.heap.size w w' := by
  have H1 := Lib.hid ma_1
  obtain ⟨X, h1, h2, h3, h4⟩ := ma_2
  have H2 := Lib.hid h1
  have H3 := Lib.hid h2
  have HX := Lib.hid h3
  have H4 := Lib.hid h4
  obtain ⟨B, b1, b2, b3⟩ := ma_5
  have HB := Lib.hid b1
  have HBL := Lib.hid b2
  have HBR := Lib.hid b3
  have eqd : ∀ W : World, (binOp .eql 24 dU.val dU.val).run Tryz.prog W = .ok (.bool true) W := fun W => by rw [eql_cfg et_cfg dU dU dU_ok dU_ok, decide_eq_true rfl]
  have egd := fun (x y : Operand) (W : World) => eg_cfg et_cfg .eql x y dU dU W
  clear h1 h2 h3 h4 b1 b2 b3
  go_enter Tryz.func7, Tryz.ntmps7
  have K0 := Lib.hid (MK.start w)
  go_wp2_with (first | (with_reducible show wpList _ _ _ (⟨some 1, .alloc _, _, _, _, _⟩ :: _) _ _; refine wpList_newB rt_cfg rfl rfl ?_; intro w1 p_c hc1 hb1 hx1; have Vw1 := Lib.hid (And.intro hc1 (And.intro hb1 hx1)); clear hc1 hb1 hx1) | (refine wpList_stB rt_cfg rfl (.tmp 1) (.tmp 19) rfl p_c 0 rfl zeroC.cells (Cfg.cells cU) cU_lit (cells_one _) (by exact (Cfg.cells_len cU_ok).trans zeroC_len.symm) (by exact Vw1.out.1) (by rw [zeroC_len]; decide) ?_; intro w2 hc1 ho1 hs1; have K1 := Lib.hid (K0.out.var Vw1.out.2.1 Vw1.out.2.2 ho1 hc1 cU_ok); clear hc1 ho1 hs1 Vw1; have q_c := ld_cfg rt_cfg (K1.out.cf _ (.head _)).1 (K1.out.cf _ (.head _)).2) | (with_reducible show wpList _ _ _ (⟨some 2, .alloc _, _, _, _, _⟩ :: _) _ _; refine wpList_newB rt_cfg rfl rfl ?_; intro w3 p_d hc1 hb1 hx1; have Vw3 := Lib.hid (And.intro hc1 (And.intro hb1 hx1)); clear hc1 hb1 hx1) | (refine wpList_stB rt_cfg rfl (.tmp 2) (.tmp 21) rfl p_d 0 rfl zeroC.cells (Cfg.cells dU) dU_lit (cells_one _) (by exact (Cfg.cells_len dU_ok).trans zeroC_len.symm) (by exact Vw3.out.1) (by rw [zeroC_len]; decide) ?_; intro w4 hc1 ho1 hs1; have K2 := Lib.hid (K1.out.var Vw3.out.2.1 Vw3.out.2.2 ho1 hc1 dU_ok); clear hc1 ho1 hs1 Vw3; have q_d := ld_cfg rt_cfg (K2.out.cf _ (.head _)).1 (K2.out.cf _ (.head _)).2; have q_c := ld_cfg rt_cfg (K2.out.cf _ (.tail _ (.head _))).1 (K2.out.cf _ (.tail _ (.head _))).2) | (with_reducible show wpList _ _ _ (⟨some 3, .alloc _, _, _, _, _⟩ :: _) _ _; refine wpList_newB rt_cfg rfl rfl ?_; intro w5 p_b hc1 hb1 hx1; have Vw5 := Lib.hid (And.intro hc1 (And.intro hb1 hx1)); clear hc1 hb1 hx1) | (refine wpList_stB rt_cfg rfl (.tmp 3) (.tmp 22) rfl p_b 0 rfl zeroC.cells (Cfg.cells bU) bU_lit (cells_one _) (by exact (Cfg.cells_len bU_ok).trans zeroC_len.symm) (by exact Vw5.out.1) (by rw [zeroC_len]; decide) ?_; intro w6 hc1 ho1 hs1; have K3 := Lib.hid (K2.out.var Vw5.out.2.1 Vw5.out.2.2 ho1 hc1 bU_ok); clear hc1 ho1 hs1 Vw5; have K4 := Lib.hid (K3.out.lit [1, 2, 3, 4, 5, 6, 7] #[.int .u8 1, .int .u8 2, .int .u8 3, .int .u8 4, .int .u8 5, .int .u8 6, .int .u8 7] 7 rfl rfl (by decide)); clear K3; have q_b := ld_cfg rt_cfg (K4.out.cf _ (.head _)).1 (K4.out.cf _ (.head _)).2; have q_d := ld_cfg rt_cfg (K4.out.cf _ (.tail _ (.head _))).1 (K4.out.cf _ (.tail _ (.head _))).2; have q_c := ld_cfg rt_cfg (K4.out.cf _ (.tail _ (.tail _ (.head _)))).1 (K4.out.cf _ (.tail _ (.tail _ (.head _)))).2))
  refine (mturn_any cU cU_ok _ 7 7 [1, 2, 3, 4, 5, 6, 7] _ (by exact (K4.out.hw.row _ (.head _)).1) (by decide) (by decide)).mono ?_
  rw [H1.out]
  rintro e w7 ⟨Ax, cx, rfl, ho, hb⟩
  have K5 := Lib.hid (K4.out.own hb ho)
  clear K4
  clear ho hb
  (try clear q_b)
  (try clear f0_b)
  (try clear f1_b)
  (try clear f2_b)
  (try clear q_d)
  (try clear f0_d)
  (try clear f1_d)
  (try clear f2_d)
  (try clear q_c)
  (try clear f0_c)
  (try clear f1_c)
  (try clear f2_c)
  have q_b := ld_cfg rt_cfg (K5.out.cf _ (.head _)).1 (K5.out.cf _ (.head _)).2
  have q_d := ld_cfg rt_cfg (K5.out.cf _ (.tail _ (.head _))).1 (K5.out.cf _ (.tail _ (.head _))).2
  have q_c := ld_cfg rt_cfg (K5.out.cf _ (.tail _ (.tail _ (.head _)))).1 (K5.out.cf _ (.tail _ (.tail _ (.head _)))).2
  go_wp2_with fail
  refine (mturn_any dU dU_ok _ 7 7 [1, 2, 3, 4, 5, 6, 7] _ (by exact (K5.out.hw.row _ (.tail _ (.head _))).1) (by decide) (by decide)).mono ?_
  rw [H2.out]
  dsimp only
  rw [HX.out]
  rintro e w8 ⟨Ay, cy, rfl, ho, hb⟩
  have K6 := Lib.hid (K5.out.own hb ho)
  clear K5
  clear ho hb
  (try clear q_b)
  (try clear f0_b)
  (try clear f1_b)
  (try clear f2_b)
  (try clear q_d)
  (try clear f0_d)
  (try clear f1_d)
  (try clear f2_d)
  (try clear q_c)
  (try clear f0_c)
  (try clear f1_c)
  (try clear f2_c)
  have q_b := ld_cfg rt_cfg (K6.out.cf _ (.head _)).1 (K6.out.cf _ (.head _)).2
  have q_d := ld_cfg rt_cfg (K6.out.cf _ (.tail _ (.head _))).1 (K6.out.cf _ (.tail _ (.head _))).2
  have q_c := ld_cfg rt_cfg (K6.out.cf _ (.tail _ (.tail _ (.head _)))).1 (K6.out.cf _ (.tail _ (.tail _ (.head _)))).2
  go_wp2_with fail
  refine (mback_any dU dU_ok Ay 7 cy X _ (by exact (K6.out.hw.row _ (.head _)).1) (by exact (K6.out.hw.row _ (.head _)).2.1) (by decide)).mono ?_
  rw [H3.out]
  rintro e w9 ⟨Az, cz, rfl, ho, hb⟩
  have K7 := Lib.hid (K6.out.own hb ho)
  clear K6
  clear ho hb
  (try clear q_b)
  (try clear f0_b)
  (try clear f1_b)
  (try clear f2_b)
  (try clear q_d)
  (try clear f0_d)
  (try clear f1_d)
  (try clear f2_d)
  (try clear q_c)
  (try clear f0_c)
  (try clear f1_c)
  (try clear f2_c)
  have q_b := ld_cfg rt_cfg (K7.out.cf _ (.head _)).1 (K7.out.cf _ (.head _)).2
  have q_d := ld_cfg rt_cfg (K7.out.cf _ (.tail _ (.head _))).1 (K7.out.cf _ (.tail _ (.head _))).2
  have q_c := ld_cfg rt_cfg (K7.out.cf _ (.tail _ (.tail _ (.head _)))).1 (K7.out.cf _ (.tail _ (.tail _ (.head _)))).2
  go_wp2_with fail
  refine (mturn_any bU bU_ok _ 7 7 [1, 2, 3, 4, 5, 6, 7] _ (by exact (K7.out.hw.row _ (.tail _ (.tail _ (.tail _ (.head _))))).1) (by decide) (by decide)).mono ?_
  rw [ma_3]
  rintro e w10 ⟨Ae1, ce1, rfl, ho, hb⟩
  have K8 := Lib.hid (K7.out.own hb ho)
  clear K7
  clear ho hb
  (try clear q_b)
  (try clear f0_b)
  (try clear f1_b)
  (try clear f2_b)
  (try clear q_d)
  (try clear f0_d)
  (try clear f1_d)
  (try clear f2_d)
  (try clear q_c)
  (try clear f0_c)
  (try clear f1_c)
  (try clear f2_c)
  have q_b := ld_cfg rt_cfg (K8.out.cf _ (.head _)).1 (K8.out.cf _ (.head _)).2
  have q_d := ld_cfg rt_cfg (K8.out.cf _ (.tail _ (.head _))).1 (K8.out.cf _ (.tail _ (.head _))).2
  have q_c := ld_cfg rt_cfg (K8.out.cf _ (.tail _ (.tail _ (.head _)))).1 (K8.out.cf _ (.tail _ (.tail _ (.head _)))).2
  go_wp2_with fail
  refine (mturn_any dU dU_ok none 0 0 [] _ RB.nil_ (by decide) (by decide)).mono ?_
  rw [ma_4]
  rintro e w11 ⟨Ae2, ce2, rfl, ho, hb⟩
  have K9 := Lib.hid (K8.out.own hb ho)
  clear K8
  clear ho hb
  (try clear q_b)
  (try clear f0_b)
  (try clear f1_b)
  (try clear f2_b)
  (try clear q_d)
  (try clear f0_d)
  (try clear f1_d)
  (try clear f2_d)
  (try clear q_c)
  (try clear f0_c)
  (try clear f1_c)
  (try clear f2_c)
  have q_b := ld_cfg rt_cfg (K9.out.cf _ (.head _)).1 (K9.out.cf _ (.head _)).2
  have q_d := ld_cfg rt_cfg (K9.out.cf _ (.tail _ (.head _))).1 (K9.out.cf _ (.tail _ (.head _))).2
  have q_c := ld_cfg rt_cfg (K9.out.cf _ (.tail _ (.tail _ (.head _)))).1 (K9.out.cf _ (.tail _ (.tail _ (.head _)))).2
  go_wp2_with fail
  refine (mbytes_any dU dU_ok _).mono ?_
  rw [HB.out, HBL.out]
  rintro e w12 ⟨AB, cB, rfl, ho, hb⟩
  have K10 := Lib.hid (K9.out.own hb ho)
  clear K9
  clear ho hb
  (try clear q_b)
  (try clear f0_b)
  (try clear f1_b)
  (try clear f2_b)
  (try clear q_d)
  (try clear f0_d)
  (try clear f1_d)
  (try clear f2_d)
  (try clear q_c)
  (try clear f0_c)
  (try clear f1_c)
  (try clear f2_c)
  have q_b := ld_cfg rt_cfg (K10.out.cf _ (.head _)).1 (K10.out.cf _ (.head _)).2
  have q_d := ld_cfg rt_cfg (K10.out.cf _ (.tail _ (.head _))).1 (K10.out.cf _ (.tail _ (.head _))).2
  have q_c := ld_cfg rt_cfg (K10.out.cf _ (.tail _ (.tail _ (.head _)))).1 (K10.out.cf _ (.tail _ (.tail _ (.head _)))).2
  go_wp2_with fail
  refine (mread_any AB 20 cB B _ (by exact (K10.out.hw.row _ (.head _)).1) (by exact (K10.out.hw.row _ (.head _)).2.1) (by decide)).mono ?_
  rw [HBR.out]
  dsimp only
  rintro e w13 ⟨rfl, hb⟩
  have K11 := Lib.hid (K10.out.step hb)
  clear K10
  clear hb
  (try clear q_b)
  (try clear f0_b)
  (try clear f1_b)
  (try clear f2_b)
  (try clear q_d)
  (try clear f0_d)
  (try clear f1_d)
  (try clear f2_d)
  (try clear q_c)
  (try clear f0_c)
  (try clear f1_c)
  (try clear f2_c)
  have q_b := ld_cfg rt_cfg (K11.out.cf _ (.head _)).1 (K11.out.cf _ (.head _)).2
  have q_d := ld_cfg rt_cfg (K11.out.cf _ (.tail _ (.head _))).1 (K11.out.cf _ (.tail _ (.head _))).2
  have q_c := ld_cfg rt_cfg (K11.out.cf _ (.tail _ (.tail _ (.head _)))).1 (K11.out.cf _ (.tail _ (.tail _ (.head _)))).2
  go_wp2_with (first | (with_reducible show wpList _ _ _ (⟨some 15, .alloc _, _, _, _, _⟩ :: _) _ _; refine wpList_newB rt_cfg rfl rfl ?_; intro w14 p_r hc1 hb1 hx1; have Vw14 := Lib.hid (And.intro hc1 (And.intro hb1 hx1)); clear hc1 hb1 hx1) | (refine wpList_stB rt_cfg rfl (.tmp 15) (.tmp 57) rfl p_r 0 rfl zeroC.cells (Cfg.cells dU) (val_agg _) (cells_one _) (by exact (Cfg.cells_len dU_ok).trans zeroC_len.symm) (by exact Vw14.out.1) (by rw [zeroC_len]; decide) ?_; intro w15 hc1 ho1 hs1; have K12 := Lib.hid (K11.out.var Vw14.out.2.1 Vw14.out.2.2 ho1 hc1 dU_ok); clear hc1 ho1 hs1 Vw14; have q_r := ld_cfg rt_cfg (K12.out.cf _ (.head _)).1 (K12.out.cf _ (.head _)).2; have q_b := ld_cfg rt_cfg (K12.out.cf _ (.tail _ (.head _))).1 (K12.out.cf _ (.tail _ (.head _))).2; have q_d := ld_cfg rt_cfg (K12.out.cf _ (.tail _ (.tail _ (.head _)))).1 (K12.out.cf _ (.tail _ (.tail _ (.head _)))).2; have q_c := ld_cfg rt_cfg (K12.out.cf _ (.tail _ (.tail _ (.tail _ (.head _))))).1 (K12.out.cf _ (.tail _ (.tail _ (.tail _ (.head _))))).2))
  refine (mread_any none 0 0 [] _ RB.nil_ (by decide) (by decide)).mono ?_
  rw [ma_6]
  dsimp only
  rintro e w16 ⟨rfl, hb⟩
  have K13 := Lib.hid (K12.out.step hb)
  clear K12
  clear hb
  (try clear q_r)
  (try clear f0_r)
  (try clear f1_r)
  (try clear f2_r)
  (try clear q_b)
  (try clear f0_b)
  (try clear f1_b)
  (try clear f2_b)
  (try clear q_d)
  (try clear f0_d)
  (try clear f1_d)
  (try clear f2_d)
  (try clear q_c)
  (try clear f0_c)
  (try clear f1_c)
  (try clear f2_c)
  have q_r := ld_cfg rt_cfg (K13.out.cf _ (.head _)).1 (K13.out.cf _ (.head _)).2
  have q_b := ld_cfg rt_cfg (K13.out.cf _ (.tail _ (.head _))).1 (K13.out.cf _ (.tail _ (.head _))).2
  have q_d := ld_cfg rt_cfg (K13.out.cf _ (.tail _ (.tail _ (.head _)))).1 (K13.out.cf _ (.tail _ (.tail _ (.head _)))).2
  have q_c := ld_cfg rt_cfg (K13.out.cf _ (.tail _ (.tail _ (.tail _ (.head _))))).1 (K13.out.cf _ (.tail _ (.tail _ (.tail _ (.head _))))).2
  go_wp2_with (first | (with_reducible show wpList _ _ _ (⟨some 17, .alloc _, _, _, _, _⟩ :: _) _ _; refine wpList_newB rt_cfg rfl rfl ?_; intro w17 p_s hc1 hb1 hx1; have Vw17 := Lib.hid (And.intro hc1 (And.intro hb1 hx1)); clear hc1 hb1 hx1) | (refine wpList_stB rt_cfg rfl (.tmp 17) (.tmp 61) rfl p_s 0 rfl zeroC.cells (Cfg.cells zeroC) (val_agg _) (cells_one _) (by exact (Cfg.cells_len zeroC_ok).trans zeroC_len.symm) (by exact Vw17.out.1) (by rw [zeroC_len]; decide) ?_; intro w18 hc1 ho1 hs1; have K14 := Lib.hid (K13.out.var Vw17.out.2.1 Vw17.out.2.2 ho1 hc1 zeroC_ok); clear hc1 ho1 hs1 Vw17; have q_s := ld_cfg rt_cfg (K14.out.cf _ (.head _)).1 (K14.out.cf _ (.head _)).2; have q_r := ld_cfg rt_cfg (K14.out.cf _ (.tail _ (.head _))).1 (K14.out.cf _ (.tail _ (.head _))).2; have q_b := ld_cfg rt_cfg (K14.out.cf _ (.tail _ (.tail _ (.head _)))).1 (K14.out.cf _ (.tail _ (.tail _ (.head _)))).2; have q_d := ld_cfg rt_cfg (K14.out.cf _ (.tail _ (.tail _ (.tail _ (.head _))))).1 (K14.out.cf _ (.tail _ (.tail _ (.tail _ (.head _))))).2; have q_c := ld_cfg rt_cfg (K14.out.cf _ (.tail _ (.tail _ (.tail _ (.tail _ (.head _)))))).1 (K14.out.cf _ (.tail _ (.tail _ (.tail _ (.tail _ (.head _)))))).2))
  refine (mright_any cU cU_ok true cU_rt _).mono ?_
  rintro e w19 ⟨rfl, hb⟩
  have K15 := Lib.hid (K14.out.step hb)
  clear K14
  clear hb
  (try clear q_s)
  (try clear f0_s)
  (try clear f1_s)
  (try clear f2_s)
  (try clear q_r)
  (try clear f0_r)
  (try clear f1_r)
  (try clear f2_r)
  (try clear q_b)
  (try clear f0_b)
  (try clear f1_b)
  (try clear f2_b)
  (try clear q_d)
  (try clear f0_d)
  (try clear f1_d)
  (try clear f2_d)
  (try clear q_c)
  (try clear f0_c)
  (try clear f1_c)
  (try clear f2_c)
  have q_s := ld_cfg rt_cfg (K15.out.cf _ (.head _)).1 (K15.out.cf _ (.head _)).2
  have q_r := ld_cfg rt_cfg (K15.out.cf _ (.tail _ (.head _))).1 (K15.out.cf _ (.tail _ (.head _))).2
  have q_b := ld_cfg rt_cfg (K15.out.cf _ (.tail _ (.tail _ (.head _)))).1 (K15.out.cf _ (.tail _ (.tail _ (.head _)))).2
  have q_d := ld_cfg rt_cfg (K15.out.cf _ (.tail _ (.tail _ (.tail _ (.head _))))).1 (K15.out.cf _ (.tail _ (.tail _ (.tail _ (.head _))))).2
  have q_c := ld_cfg rt_cfg (K15.out.cf _ (.tail _ (.tail _ (.tail _ (.tail _ (.head _)))))).1 (K15.out.cf _ (.tail _ (.tail _ (.tail _ (.tail _ (.head _)))))).2
  go_wp2_with fail
  refine (mright_any bU bU_ok false bU_rt _).mono ?_
  rintro e w20 ⟨rfl, hb⟩
  have K16 := Lib.hid (K15.out.step hb)
  clear K15
  clear hb
  (try clear q_s)
  (try clear f0_s)
  (try clear f1_s)
  (try clear f2_s)
  (try clear q_r)
  (try clear f0_r)
  (try clear f1_r)
  (try clear f2_r)
  (try clear q_b)
  (try clear f0_b)
  (try clear f1_b)
  (try clear f2_b)
  (try clear q_d)
  (try clear f0_d)
  (try clear f1_d)
  (try clear f2_d)
  (try clear q_c)
  (try clear f0_c)
  (try clear f1_c)
  (try clear f2_c)
  have q_s := ld_cfg rt_cfg (K16.out.cf _ (.head _)).1 (K16.out.cf _ (.head _)).2
  have q_r := ld_cfg rt_cfg (K16.out.cf _ (.tail _ (.head _))).1 (K16.out.cf _ (.tail _ (.head _))).2
  have q_b := ld_cfg rt_cfg (K16.out.cf _ (.tail _ (.tail _ (.head _)))).1 (K16.out.cf _ (.tail _ (.tail _ (.head _)))).2
  have q_d := ld_cfg rt_cfg (K16.out.cf _ (.tail _ (.tail _ (.tail _ (.head _))))).1 (K16.out.cf _ (.tail _ (.tail _ (.tail _ (.head _))))).2
  have q_c := ld_cfg rt_cfg (K16.out.cf _ (.tail _ (.tail _ (.tail _ (.tail _ (.head _)))))).1 (K16.out.cf _ (.tail _ (.tail _ (.tail _ (.tail _ (.head _)))))).2
  go_wp2_with fail
  refine (msize_any cU cU_ok 8 ma_7 _).mono ?_
  rintro e w21 ⟨rfl, hb⟩
  have K17 := Lib.hid (K16.out.step hb)
  clear K16
  clear hb
  (try clear q_s)
  (try clear f0_s)
  (try clear f1_s)
  (try clear f2_s)
  (try clear q_r)
  (try clear f0_r)
  (try clear f1_r)
  (try clear f2_r)
  (try clear q_b)
  (try clear f0_b)
  (try clear f1_b)
  (try clear f2_b)
  (try clear q_d)
  (try clear f0_d)
  (try clear f1_d)
  (try clear f2_d)
  (try clear q_c)
  (try clear f0_c)
  (try clear f1_c)
  (try clear f2_c)
  have q_s := ld_cfg rt_cfg (K17.out.cf _ (.head _)).1 (K17.out.cf _ (.head _)).2
  have q_r := ld_cfg rt_cfg (K17.out.cf _ (.tail _ (.head _))).1 (K17.out.cf _ (.tail _ (.head _))).2
  have q_b := ld_cfg rt_cfg (K17.out.cf _ (.tail _ (.tail _ (.head _)))).1 (K17.out.cf _ (.tail _ (.tail _ (.head _)))).2
  have q_d := ld_cfg rt_cfg (K17.out.cf _ (.tail _ (.tail _ (.tail _ (.head _))))).1 (K17.out.cf _ (.tail _ (.tail _ (.tail _ (.head _))))).2
  have q_c := ld_cfg rt_cfg (K17.out.cf _ (.tail _ (.tail _ (.tail _ (.tail _ (.head _)))))).1 (K17.out.cf _ (.tail _ (.tail _ (.tail _ (.tail _ (.head _)))))).2
  go_wp2_with fail
  refine (al_same _ _ _ _ _ _ [1, 2, 3, 4, 5, 6, 7] [1, 2, 3, 4, 5, 6, 7] _ (by exact (K17.out.hw.row _ (.tail _ (.tail _ (.tail _ (.tail _ (.tail _ (.head _))))))).1) (by exact (K17.out.hw.row _ (.tail _ (.tail _ (.tail _ (.tail _ (.tail _ (.tail _ (.head _)))))))).1) (by exact Nat.le_trans (K17.out.hw.row _ (.tail _ (.tail _ (.tail _ (.tail _ (.tail _ (.head _))))))).2.1 (K17.out.hw.row _ (.tail _ (.tail _ (.tail _ (.tail _ (.tail _ (.head _))))))).2.2) (by exact Nat.le_trans (K17.out.hw.row _ (.tail _ (.tail _ (.tail _ (.tail _ (.tail _ (.tail _ (.head _)))))))).2.1 (K17.out.hw.row _ (.tail _ (.tail _ (.tail _ (.tail _ (.tail _ (.tail _ (.head _)))))))).2.2) true (rfl)).mono ?_
  rintro e w22 ⟨rfl, hb⟩
  have K18 := Lib.hid (K17.out.step hb)
  clear K17
  clear hb
  (try clear q_s)
  (try clear f0_s)
  (try clear f1_s)
  (try clear f2_s)
  (try clear q_r)
  (try clear f0_r)
  (try clear f1_r)
  (try clear f2_r)
  (try clear q_b)
  (try clear f0_b)
  (try clear f1_b)
  (try clear f2_b)
  (try clear q_d)
  (try clear f0_d)
  (try clear f1_d)
  (try clear f2_d)
  (try clear q_c)
  (try clear f0_c)
  (try clear f1_c)
  (try clear f2_c)
  have q_s := ld_cfg rt_cfg (K18.out.cf _ (.head _)).1 (K18.out.cf _ (.head _)).2
  have q_r := ld_cfg rt_cfg (K18.out.cf _ (.tail _ (.head _))).1 (K18.out.cf _ (.tail _ (.head _))).2
  have q_b := ld_cfg rt_cfg (K18.out.cf _ (.tail _ (.tail _ (.head _)))).1 (K18.out.cf _ (.tail _ (.tail _ (.head _)))).2
  have q_d := ld_cfg rt_cfg (K18.out.cf _ (.tail _ (.tail _ (.tail _ (.head _))))).1 (K18.out.cf _ (.tail _ (.tail _ (.tail _ (.head _))))).2
  have q_c := ld_cfg rt_cfg (K18.out.cf _ (.tail _ (.tail _ (.tail _ (.tail _ (.head _)))))).1 (K18.out.cf _ (.tail _ (.tail _ (.tail _ (.tail _ (.head _)))))).2
  go_wp2_with fail
  refine (al_same _ _ _ _ _ _ X [1, 2, 3, 4, 5, 6, 7] _ (by exact (K18.out.hw.row _ (.tail _ (.tail _ (.tail _ (.tail _ (.head _)))))).1) (by exact (K18.out.hw.row _ (.tail _ (.tail _ (.tail _ (.tail _ (.tail _ (.tail _ (.head _)))))))).1) (by exact Nat.le_trans (K18.out.hw.row _ (.tail _ (.tail _ (.tail _ (.tail _ (.head _)))))).2.1 (K18.out.hw.row _ (.tail _ (.tail _ (.tail _ (.tail _ (.head _)))))).2.2) (by exact Nat.le_trans (K18.out.hw.row _ (.tail _ (.tail _ (.tail _ (.tail _ (.tail _ (.tail _ (.head _)))))))).2.1 (K18.out.hw.row _ (.tail _ (.tail _ (.tail _ (.tail _ (.tail _ (.tail _ (.head _)))))))).2.2) false (H4.out)).mono ?_
  rintro e w23 ⟨rfl, hb⟩
  have K19 := Lib.hid (K18.out.step hb)
  clear K18
  clear hb
  (try clear q_s)
  (try clear f0_s)
  (try clear f1_s)
  (try clear f2_s)
  (try clear q_r)
  (try clear f0_r)
  (try clear f1_r)
  (try clear f2_r)
  (try clear q_b)
  (try clear f0_b)
  (try clear f1_b)
  (try clear f2_b)
  (try clear q_d)
  (try clear f0_d)
  (try clear f1_d)
  (try clear f2_d)
  (try clear q_c)
  (try clear f0_c)
  (try clear f1_c)
  (try clear f2_c)
  have q_s := ld_cfg rt_cfg (K19.out.cf _ (.head _)).1 (K19.out.cf _ (.head _)).2
  have q_r := ld_cfg rt_cfg (K19.out.cf _ (.tail _ (.head _))).1 (K19.out.cf _ (.tail _ (.head _))).2
  have q_b := ld_cfg rt_cfg (K19.out.cf _ (.tail _ (.tail _ (.head _)))).1 (K19.out.cf _ (.tail _ (.tail _ (.head _)))).2
  have q_d := ld_cfg rt_cfg (K19.out.cf _ (.tail _ (.tail _ (.tail _ (.head _))))).1 (K19.out.cf _ (.tail _ (.tail _ (.tail _ (.head _))))).2
  have q_c := ld_cfg rt_cfg (K19.out.cf _ (.tail _ (.tail _ (.tail _ (.tail _ (.head _)))))).1 (K19.out.cf _ (.tail _ (.tail _ (.tail _ (.tail _ (.head _)))))).2
  go_wp2_with fail
  refine (al_same _ _ _ _ _ _ [1, 2, 3, 4, 5, 6, 7] [1, 2, 3, 4, 5, 6, 7] _ (by exact (K19.out.hw.row _ (.tail _ (.tail _ (.tail _ (.head _))))).1) (by exact (K19.out.hw.row _ (.tail _ (.tail _ (.tail _ (.tail _ (.tail _ (.tail _ (.head _)))))))).1) (by exact Nat.le_trans (K19.out.hw.row _ (.tail _ (.tail _ (.tail _ (.head _))))).2.1 (K19.out.hw.row _ (.tail _ (.tail _ (.tail _ (.head _))))).2.2) (by exact Nat.le_trans (K19.out.hw.row _ (.tail _ (.tail _ (.tail _ (.tail _ (.tail _ (.tail _ (.head _)))))))).2.1 (K19.out.hw.row _ (.tail _ (.tail _ (.tail _ (.tail _ (.tail _ (.tail _ (.head _)))))))).2.2) true (rfl)).mono ?_
  rintro e w24 ⟨rfl, hb⟩
  have K20 := Lib.hid (K19.out.step hb)
  clear K19
  clear hb
  (try clear q_s)
  (try clear f0_s)
  (try clear f1_s)
  (try clear f2_s)
  (try clear q_r)
  (try clear f0_r)
  (try clear f1_r)
  (try clear f2_r)
  (try clear q_b)
  (try clear f0_b)
  (try clear f1_b)
  (try clear f2_b)
  (try clear q_d)
  (try clear f0_d)
  (try clear f1_d)
  (try clear f2_d)
  (try clear q_c)
  (try clear f0_c)
  (try clear f1_c)
  (try clear f2_c)
  have q_s := ld_cfg rt_cfg (K20.out.cf _ (.head _)).1 (K20.out.cf _ (.head _)).2
  have q_r := ld_cfg rt_cfg (K20.out.cf _ (.tail _ (.head _))).1 (K20.out.cf _ (.tail _ (.head _))).2
  have q_b := ld_cfg rt_cfg (K20.out.cf _ (.tail _ (.tail _ (.head _)))).1 (K20.out.cf _ (.tail _ (.tail _ (.head _)))).2
  have q_d := ld_cfg rt_cfg (K20.out.cf _ (.tail _ (.tail _ (.tail _ (.head _))))).1 (K20.out.cf _ (.tail _ (.tail _ (.tail _ (.head _))))).2
  have q_c := ld_cfg rt_cfg (K20.out.cf _ (.tail _ (.tail _ (.tail _ (.tail _ (.head _)))))).1 (K20.out.cf _ (.tail _ (.tail _ (.tail _ (.tail _ (.head _)))))).2
  go_wp2_with fail
  refine (mbytes_any dU dU_ok _).mono ?_
  rw [HB.out, HBL.out]
  rintro e w25 ⟨AB2, cB2, rfl, ho, hb⟩
  have K21 := Lib.hid (K20.out.own hb ho)
  clear K20
  clear ho hb
  (try clear q_s)
  (try clear f0_s)
  (try clear f1_s)
  (try clear f2_s)
  (try clear q_r)
  (try clear f0_r)
  (try clear f1_r)
  (try clear f2_r)
  (try clear q_b)
  (try clear f0_b)
  (try clear f1_b)
  (try clear f2_b)
  (try clear q_d)
  (try clear f0_d)
  (try clear f1_d)
  (try clear f2_d)
  (try clear q_c)
  (try clear f0_c)
  (try clear f1_c)
  (try clear f2_c)
  have q_s := ld_cfg rt_cfg (K21.out.cf _ (.head _)).1 (K21.out.cf _ (.head _)).2
  have q_r := ld_cfg rt_cfg (K21.out.cf _ (.tail _ (.head _))).1 (K21.out.cf _ (.tail _ (.head _))).2
  have q_b := ld_cfg rt_cfg (K21.out.cf _ (.tail _ (.tail _ (.head _)))).1 (K21.out.cf _ (.tail _ (.tail _ (.head _)))).2
  have q_d := ld_cfg rt_cfg (K21.out.cf _ (.tail _ (.tail _ (.tail _ (.head _))))).1 (K21.out.cf _ (.tail _ (.tail _ (.tail _ (.head _))))).2
  have q_c := ld_cfg rt_cfg (K21.out.cf _ (.tail _ (.tail _ (.tail _ (.tail _ (.head _)))))).1 (K21.out.cf _ (.tail _ (.tail _ (.tail _ (.tail _ (.head _)))))).2
  go_wp2_with fail
  go_ret
  exact ⟨rfl, K21.out.hw.bel⟩
end Go.Proofs.YtdhnknkochbekaaGreat
