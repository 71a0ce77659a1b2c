/- Layer 16: the walk of the statement ModeAnswers. No condition. -/
import Derived.Test.YtdhnknkochbekaaGreatMdV
import Derived.Test.YtdhnknkochbekaaGreatMdUr
import Derived.Test.YtdhnknkochbekaaGreatMdRr
import Derived.Test.YtdhnknkochbekaaGreatMdBr
import Derived.Test.YtdhnknkochbekaaGreatUseBytes
namespace Go.Proofs.YtdhnknkochbekaaGreat
open Go.RowKit
set_option linter.unusedVariables false
set_option linter.unusedSimpArgs false
attribute [local irreducible] Cfg.val Cfg.cells rtB Rt zK sizeC AV bytC rawC zeroC turnC wayC encL decL tableL backL passesR cntP readC cU dU bU
attribute [local go_sem ↓] ex_ldC ex_ldR
set_option maxRecDepth 100000 in
set_option maxHeartbeats 8000000 in
theorem answers_long (x0 : Cfg) (A1 : Option Addr) (n1 c1 : Nat) (l1 : List UInt8) (w : World) (h0 : x0.ok) (h1 : RB w w.heap.size A1 n1 l1) (m1 : n1 ≤ c1 ∧ c1 ≤ maxLen) (h : n1 > 300) :
    Calls Tryz.prog 3 #[x0.val, .slice A1 n1 c1] w fun e w' => e = .returned (.bool true) ∧ Below w.heap.size w w' := by
  have d1 : decide ((300 : Int) < (n1 : Int)) = true := decide_eq_true (by omega)
  have HC := Lib.hid h0
  have K0 := Lib.hid ((MK.start w).add h1 m1.1 m1.2)
  have HM := Lib.hid m1
  clear h0 h1 m1 h
  go_enter Tryz.func3, Tryz.ntmps3
  go_wp2_with (first | (refine wpList_boxB rfl 24 (.tmp 0) rfl x0.cells (val_agg _) ?_; intro w1 p_c hc1 hb1 hx1; have K1 := Lib.hid (K0.out.boxed hb1 hc1 HC.out); clear hc1 hb1 hx1; have q_c := ld_cfg rt_cfg (K1.out.cf _ (.head _)).1 (K1.out.cf _ (.head _)).2))
  refine (malive_any _).mono ?_
  rintro e w2 ⟨rfl, hb⟩
  have K2 := Lib.hid (K1.out.step hb)
  clear K1
  clear hb
  (try clear q_c)
  (try clear f0_c)
  (try clear f1_c)
  (try clear f2_c)
  have q_c := ld_cfg rt_cfg (K2.out.cf _ (.head _)).1 (K2.out.cf _ (.head _)).2
  go_wp2_with fail
  go_ret
  exact ⟨rfl, K2.out.hw.bel⟩
set_option maxRecDepth 100000 in
set_option maxHeartbeats 8000000 in
theorem answers_ok (x0 : Cfg) (A1 : Option Addr) (n1 c1 : Nat) (l1 : List UInt8) (w : World) (h0 : x0.ok) (h1 : RB w w.heap.size A1 n1 l1) (m1 : n1 ≤ c1 ∧ c1 ≤ maxLen) (h : n1 ≤ 300) :
    Calls Tryz.prog 3 #[x0.val, .slice A1 n1 c1] w fun e w' => e = .returned (.bool true) ∧ Below w.heap.size w w' := by
  obtain ⟨R, q, hR⟩ : ∃ R q, readC l1 = (R, q) := ⟨_, _, rfl⟩
  have HR := Lib.hid hR
  have HOK : Hid R.ok := Lib.hid (by have := (read_valid l1).1; rw [hR] at this; exact this)
  obtain ⟨B, hB⟩ : ∃ B, bytC x0 = B := ⟨_, rfl⟩
  have HB := Lib.hid hB
  obtain ⟨nB, hnB⟩ : ∃ n, B.length = n := ⟨_, rfl⟩
  have HNB := Lib.hid hnB
  clear hnB
  obtain ⟨v, hv⟩ : ∃ v, rtB x0 = v := ⟨_, rfl⟩
  obtain ⟨z, hz⟩ : ∃ z, sizeC x0 = z := ⟨_, rfl⟩
  have HRT := Lib.hid (fun u => mright_any x0 h0 v hv u)
  have HRR := Lib.hid (fun u => rmright_any x0 h0 v hv u)
  have HSZ := Lib.hid (fun u => msize_any x0 h0 z hz u)
  have HSR := Lib.hid (fun u => rmsize_any x0 h0 z hz u)
  have HC := Lib.hid h0
  have K0 := Lib.hid ((MK.start w).add h1 m1.1 m1.2)
  have HM := Lib.hid m1
  clear h0 h1 m1 hR hB hv hz
  go_enter Tryz.func3, Tryz.ntmps3
  go_wp2_with (first | (refine wpList_boxB rfl 24 (.tmp 0) rfl x0.cells (val_agg _) ?_; intro w1 p_c hc1 hb1 hx1; have K1 := Lib.hid (K0.out.boxed hb1 hc1 HC.out); clear hc1 hb1 hx1; have q_c := ld_cfg rt_cfg (K1.out.cf _ (.head _)).1 (K1.out.cf _ (.head _)).2))
  refine (malive_any _).mono ?_
  rintro e w2 ⟨rfl, hb⟩
  have K2 := Lib.hid (K1.out.step hb)
  clear K1
  clear hb
  (try clear q_c)
  (try clear f0_c)
  (try clear f1_c)
  (try clear f2_c)
  have q_c := ld_cfg rt_cfg (K2.out.cf _ (.head _)).1 (K2.out.cf _ (.head _)).2
  go_wp2_with fail
  refine (copy_any A1 n1 c1 0 l1 _ (by exact (K2.out.hw.row _ (.head _)).1) (by omega)).mono ?_
  rintro e w3 ⟨Ao, co, rfl, ho, hb⟩
  have K3 := Lib.hid (K2.out.own hb ho)
  clear K2
  clear ho hb
  (try clear q_c)
  (try clear f0_c)
  (try clear f1_c)
  (try clear f2_c)
  have q_c := ld_cfg rt_cfg (K3.out.cf _ (.head _)).1 (K3.out.cf _ (.head _)).2
  go_wp2_with fail
  refine (mread_any Ao n1 co l1 _ (by exact (K3.out.hw.row _ (.head _)).1) (by exact (K3.out.hw.row _ (.head _)).2.1) (by omega)).mono ?_
  rw [HR.out]
  dsimp only
  rintro e w4 ⟨rfl, hb⟩
  have K4 := Lib.hid (K3.out.step hb)
  clear K3
  clear hb
  (try clear q_c)
  (try clear f0_c)
  (try clear f1_c)
  (try clear f2_c)
  have q_c := ld_cfg rt_cfg (K4.out.cf _ (.head _)).1 (K4.out.cf _ (.head _)).2
  go_wp2_with (first | (with_reducible show wpList _ _ _ (⟨some 6, .alloc _, _, _, _, _⟩ :: _) _ _; refine wpList_newB rt_cfg rfl rfl ?_; intro w5 p_x hc1 hb1 hx1; have Vw5 := Lib.hid (And.intro hc1 (And.intro hb1 hx1)); clear hc1 hb1 hx1) | (refine wpList_stB rt_cfg rfl (.tmp 6) (.tmp 20) rfl p_x 0 rfl zeroC.cells (Cfg.cells R) (val_agg _) (cells_one _) (by exact (Cfg.cells_len HOK.out).trans zeroC_len.symm) (by exact Vw5.out.1) (by rw [zeroC_len]; decide) ?_; intro w6 hc1 ho1 hs1; have K5 := Lib.hid (K4.out.var Vw5.out.2.1 Vw5.out.2.2 ho1 hc1 HOK.out); clear hc1 ho1 hs1 Vw5; have q_x := ld_cfg rt_cfg (K5.out.cf _ (.head _)).1 (K5.out.cf _ (.head _)).2; have q_c := ld_cfg rt_cfg (K5.out.cf _ (.tail _ (.head _))).1 (K5.out.cf _ (.tail _ (.head _))).2))
  refine (rmread_any A1 n1 c1 l1 _ (by exact (K5.out.hw.row _ (.tail _ (.head _))).1) HM.out.1 (by omega)).mono ?_
  rw [HR.out]
  dsimp only
  rintro e w7 ⟨rfl, hb⟩
  have K6 := Lib.hid (K5.out.step hb)
  clear K5
  clear hb
  (try clear q_x)
  (try clear f0_x)
  (try clear f1_x)
  (try clear f2_x)
  (try clear q_c)
  (try clear f0_c)
  (try clear f1_c)
  (try clear f2_c)
  have q_x := ld_cfg rt_cfg (K6.out.cf _ (.head _)).1 (K6.out.cf _ (.head _)).2
  have q_c := ld_cfg rt_cfg (K6.out.cf _ (.tail _ (.head _))).1 (K6.out.cf _ (.tail _ (.head _))).2
  go_wp2_with (first | (with_reducible show wpList _ _ _ (⟨some 8, .alloc _, _, _, _, _⟩ :: _) _ _; refine wpList_newB rt_rcfg rfl rfl ?_; intro w8 p_y hc1 hb1 hx1; have Vw8 := Lib.hid (And.intro hc1 (And.intro hb1 hx1)); clear hc1 hb1 hx1) | (refine wpList_stB rt_rcfg rfl (.tmp 8) (.tmp 25) rfl p_y 0 rfl zeroC.cells (Cfg.cells R) (val_agg _) (cells_one _) (by exact (Cfg.cells_len HOK.out).trans zeroC_len.symm) (by exact Vw8.out.1) (by rw [zeroC_len]; decide) ?_; intro w9 hc1 ho1 hs1; have K7 := Lib.hid (K6.out.var Vw8.out.2.1 Vw8.out.2.2 ho1 hc1 HOK.out); clear hc1 ho1 hs1 Vw8; have q_y := ld_cfg rt_rcfg (K7.out.cf _ (.head _)).1 (K7.out.cf _ (.head _)).2; have q_x := ld_cfg rt_cfg (K7.out.cf _ (.tail _ (.head _))).1 (K7.out.cf _ (.tail _ (.head _))).2; have q_c := ld_cfg rt_cfg (K7.out.cf _ (.tail _ (.tail _ (.head _)))).1 (K7.out.cf _ (.tail _ (.tail _ (.head _)))).2))
  (try clear q_y)
  (try clear f0_y)
  (try clear f1_y)
  (try clear f2_y)
  (try clear q_x)
  (try clear f0_x)
  (try clear f1_x)
  (try clear f2_x)
  (try clear q_c)
  (try clear f0_c)
  (try clear f1_c)
  (try clear f2_c)
  have HD : Blk 24 w9.drew p_c x0.cells ∧ Blk 24 w9.drew p_x R.cells ∧ Blk 31 w9.drew p_y R.cells := ⟨(K7.out.cf _ (.tail _ (.tail _ (.head _)))).1, (K7.out.cf _ (.tail _ (.head _))).1, (K7.out.cf _ (.head _)).1⟩
  have ed := fun (W : World) => eql_cfg et_rcfg R R HOK.out HOK.out W
  rw [decide_eq_true rfl] at ed
  have eg := fun (x y : Operand) (W : World) => eg_cfg et_rcfg .eql x y R R W
  have vv : (v == v) = true := beq_self_eq_true _
  have zz : (z == z) = true := beq_self_eq_true _
  have qq : (q == q) = true := beq_self_eq_true _
  have K8 := Lib.hid (K7.out.step (below_draw1 w9))
  clear K7
  refine wp_region_held_drew (S := fun w' => Blk 24 w' p_c x0.cells ∧ Blk 24 w' p_x R.cells ∧ Blk 31 w' p_y R.cells) (by kernel_rfl) HD (fun hHeld => ?_)
  (try dsimp only at hHeld)
  refine wpAnyH_take (i := 0) (v := ?v0_1) rfl (by kernel_rfl) (by kernel_rfl) (by kernel_rfl) (fun _ _ _ h => h) (Or.inl ⟨by rfl, ?hy0_1⟩) hHeld ?_
  case hy0_1 => (intro w hSw; (try dsimp only at hSw); have q0 := ld_cfg rt_cfg hSw.1 HC.out; have q1 := ld_cfg rt_cfg hSw.2.1 HOK.out; have q2 := ld_cfg rt_rcfg hSw.2.2 HOK.out; (try simp only [List.getElem_toArray, List.getElem_cons_zero, List.getElem_cons_succ]); go_simp <;> with_reducible rfl)
  (try simp only [Act.put, List.getElem_toArray, List.getElem_cons_zero, List.getElem_cons_succ, List.setIfInBounds_toArray, List.set_cons_zero, List.set_cons_succ])
  refine wpAnyH_take (i := 2) (v := ?v2_2) rfl (by kernel_rfl) (by kernel_rfl) (by kernel_rfl) (fun _ _ _ h => h) (Or.inl ⟨by rfl, ?hy2_2⟩) hHeld ?_
  case hy2_2 => (intro w hSw; (try dsimp only at hSw); have q0 := ld_cfg rt_cfg hSw.1 HC.out; have q1 := ld_cfg rt_cfg hSw.2.1 HOK.out; have q2 := ld_cfg rt_rcfg hSw.2.2 HOK.out; (try simp only [List.getElem_toArray, List.getElem_cons_zero, List.getElem_cons_succ]); go_simp <;> with_reducible rfl)
  (try simp only [Act.put, List.getElem_toArray, List.getElem_cons_zero, List.getElem_cons_succ, List.setIfInBounds_toArray, List.set_cons_zero, List.set_cons_succ])
  refine wpAnyH_ready (rs := [1]) (by kernel_rfl) (by simp) ?_
  refine AllReadyH.cons rfl (fun K hK => ?_) AllReadyH.nil
  (try simp only [List.getElem_toArray, List.getElem_cons_zero, List.getElem_cons_succ])
  go_simp
  refine (HRT.out _).mono ?_
  rintro e w110 ⟨rfl, hb⟩
  have K9 := Lib.hid (K8.out.step hb)
  clear K8
  clear hb
  (try go_wp2_with fail)
  refine hK.out _ _ ⟨(K9.out.cf _ (.tail _ (.tail _ (.head _)))).1, (K9.out.cf _ (.tail _ (.head _))).1, (K9.out.cf _ (.head _)).1⟩ (fun hHeld => ?_)
  clear hK K
  (try simp only [Act.put, List.getElem_toArray, List.getElem_cons_zero, List.getElem_cons_succ, List.setIfInBounds_toArray, List.set_cons_zero, List.set_cons_succ])
  refine wpAnyH_ready (rs := [3]) (by kernel_rfl) (by simp) ?_
  refine AllReadyH.cons rfl (fun K hK => ?_) AllReadyH.nil
  (try simp only [List.getElem_toArray, List.getElem_cons_zero, List.getElem_cons_succ])
  go_simp
  refine (mof_any x0 HC.out _).mono ?_
  rintro e w111 ⟨rfl, hb⟩
  have K10 := Lib.hid (K9.out.step hb)
  clear K9
  clear hb
  (try go_wp2_with fail)
  refine hK.out _ _ ⟨(K10.out.cf _ (.tail _ (.tail _ (.head _)))).1, (K10.out.cf _ (.tail _ (.head _))).1, (K10.out.cf _ (.head _)).1⟩ (fun hHeld => ?_)
  clear hK K
  (try simp only [Act.put, List.getElem_toArray, List.getElem_cons_zero, List.getElem_cons_succ, List.setIfInBounds_toArray, List.set_cons_zero, List.set_cons_succ])
  refine wpAnyH_ready (rs := [4]) (by kernel_rfl) (by simp) ?_
  refine AllReadyH.cons rfl (fun K hK => ?_) AllReadyH.nil
  (try simp only [List.getElem_toArray, List.getElem_cons_zero, List.getElem_cons_succ])
  go_simp
  refine (HRR.out _).mono ?_
  rintro e w112 ⟨rfl, hb⟩
  have K11 := Lib.hid (K10.out.step hb)
  clear K10
  clear hb
  (try go_wp2_with fail)
  refine hK.out _ _ ⟨(K11.out.cf _ (.tail _ (.tail _ (.head _)))).1, (K11.out.cf _ (.tail _ (.head _))).1, (K11.out.cf _ (.head _)).1⟩ (fun hHeld => ?_)
  clear hK K
  (try simp only [Act.put, List.getElem_toArray, List.getElem_cons_zero, List.getElem_cons_succ, List.setIfInBounds_toArray, List.set_cons_zero, List.set_cons_succ])
  refine wpAnyH_take (i := 5) (v := ?v5_3) rfl (by kernel_rfl) (by kernel_rfl) (by kernel_rfl) (fun _ _ _ h => h) (Or.inl ⟨by rfl, ?hy5_3⟩) hHeld ?_
  case hy5_3 => (intro w hSw; (try dsimp only at hSw); have q0 := ld_cfg rt_cfg hSw.1 HC.out; have q1 := ld_cfg rt_cfg hSw.2.1 HOK.out; have q2 := ld_cfg rt_rcfg hSw.2.2 HOK.out; (try simp only [List.getElem_toArray, List.getElem_cons_zero, List.getElem_cons_succ]); go_simp <;> with_reducible rfl)
  (try simp only [Act.put, List.getElem_toArray, List.getElem_cons_zero, List.getElem_cons_succ, List.setIfInBounds_toArray, List.set_cons_zero, List.set_cons_succ])
  refine wpAnyH_take (i := 6) (v := ?v6_4) rfl (by kernel_rfl) (by kernel_rfl) (by kernel_rfl) (fun _ _ _ h => h) (Or.inl ⟨by rfl, ?hy6_4⟩) hHeld ?_
  case hy6_4 => (intro w hSw; (try dsimp only at hSw); have q0 := ld_cfg rt_cfg hSw.1 HC.out; have q1 := ld_cfg rt_cfg hSw.2.1 HOK.out; have q2 := ld_cfg rt_rcfg hSw.2.2 HOK.out; (try simp only [List.getElem_toArray, List.getElem_cons_zero, List.getElem_cons_succ]); go_simp <;> with_reducible rfl)
  (try simp only [Act.put, List.getElem_toArray, List.getElem_cons_zero, List.getElem_cons_succ, List.setIfInBounds_toArray, List.set_cons_zero, List.set_cons_succ])
  refine wpAnyH_take (i := 7) (v := ?v7_5) rfl (by kernel_rfl) (by kernel_rfl) (by kernel_rfl) (fun _ _ _ h => h) (Or.inl ⟨by rfl, ?hy7_5⟩) hHeld ?_
  case hy7_5 => (intro w hSw; (try dsimp only at hSw); have q0 := ld_cfg rt_cfg hSw.1 HC.out; have q1 := ld_cfg rt_cfg hSw.2.1 HOK.out; have q2 := ld_cfg rt_rcfg hSw.2.2 HOK.out; (try simp only [List.getElem_toArray, List.getElem_cons_zero, List.getElem_cons_succ]); go_simp <;> with_reducible rfl)
  (try simp only [Act.put, List.getElem_toArray, List.getElem_cons_zero, List.getElem_cons_succ, List.setIfInBounds_toArray, List.set_cons_zero, List.set_cons_succ])
  refine wpAnyH_take (i := 9) (v := ?v9_6) rfl (by kernel_rfl) (by kernel_rfl) (by kernel_rfl) (fun _ _ _ h => h) (Or.inl ⟨by rfl, ?hy9_6⟩) hHeld ?_
  case hy9_6 => (intro w hSw; (try dsimp only at hSw); have q0 := ld_cfg rt_cfg hSw.1 HC.out; have q1 := ld_cfg rt_cfg hSw.2.1 HOK.out; have q2 := ld_cfg rt_rcfg hSw.2.2 HOK.out; (try simp only [List.getElem_toArray, List.getElem_cons_zero, List.getElem_cons_succ]); go_simp <;> with_reducible rfl)
  (try simp only [Act.put, List.getElem_toArray, List.getElem_cons_zero, List.getElem_cons_succ, List.setIfInBounds_toArray, List.set_cons_zero, List.set_cons_succ])
  refine wpAnyH_ready (rs := [8]) (by kernel_rfl) (by simp) ?_
  refine AllReadyH.cons rfl (fun K hK => ?_) AllReadyH.nil
  (try simp only [List.getElem_toArray, List.getElem_cons_zero, List.getElem_cons_succ])
  go_simp
  refine (HSZ.out _).mono ?_
  rintro e w113 ⟨rfl, hb⟩
  have K12 := Lib.hid (K11.out.step hb)
  clear K11
  clear hb
  (try go_wp2_with fail)
  refine hK.out _ _ ⟨(K12.out.cf _ (.tail _ (.tail _ (.head _)))).1, (K12.out.cf _ (.tail _ (.head _))).1, (K12.out.cf _ (.head _)).1⟩ (fun hHeld => ?_)
  clear hK K
  (try simp only [Act.put, List.getElem_toArray, List.getElem_cons_zero, List.getElem_cons_succ, List.setIfInBounds_toArray, List.set_cons_zero, List.set_cons_succ])
  refine wpAnyH_ready (rs := [10]) (by kernel_rfl) (by simp) ?_
  refine AllReadyH.cons rfl (fun K hK => ?_) AllReadyH.nil
  (try simp only [List.getElem_toArray, List.getElem_cons_zero, List.getElem_cons_succ])
  go_simp
  refine (mof_any x0 HC.out _).mono ?_
  rintro e w114 ⟨rfl, hb⟩
  have K13 := Lib.hid (K12.out.step hb)
  clear K12
  clear hb
  (try go_wp2_with fail)
  refine hK.out _ _ ⟨(K13.out.cf _ (.tail _ (.tail _ (.head _)))).1, (K13.out.cf _ (.tail _ (.head _))).1, (K13.out.cf _ (.head _)).1⟩ (fun hHeld => ?_)
  clear hK K
  (try simp only [Act.put, List.getElem_toArray, List.getElem_cons_zero, List.getElem_cons_succ, List.setIfInBounds_toArray, List.set_cons_zero, List.set_cons_succ])
  refine wpAnyH_ready (rs := [11]) (by kernel_rfl) (by simp) ?_
  refine AllReadyH.cons rfl (fun K hK => ?_) AllReadyH.nil
  (try simp only [List.getElem_toArray, List.getElem_cons_zero, List.getElem_cons_succ])
  go_simp
  refine (HSR.out _).mono ?_
  rintro e w115 ⟨rfl, hb⟩
  have K14 := Lib.hid (K13.out.step hb)
  clear K13
  clear hb
  (try go_wp2_with fail)
  refine hK.out _ _ ⟨(K14.out.cf _ (.tail _ (.tail _ (.head _)))).1, (K14.out.cf _ (.tail _ (.head _))).1, (K14.out.cf _ (.head _)).1⟩ (fun hHeld => ?_)
  clear hK K
  (try simp only [Act.put, List.getElem_toArray, List.getElem_cons_zero, List.getElem_cons_succ, List.setIfInBounds_toArray, List.set_cons_zero, List.set_cons_succ])
  refine wpAnyH_take (i := 12) (v := ?v12_7) rfl (by kernel_rfl) (by kernel_rfl) (by kernel_rfl) (fun _ _ _ h => h) (Or.inl ⟨by rfl, ?hy12_7⟩) hHeld ?_
  case hy12_7 => (intro w hSw; (try dsimp only at hSw); have q0 := ld_cfg rt_cfg hSw.1 HC.out; have q1 := ld_cfg rt_cfg hSw.2.1 HOK.out; have q2 := ld_cfg rt_rcfg hSw.2.2 HOK.out; (try simp only [List.getElem_toArray, List.getElem_cons_zero, List.getElem_cons_succ]); go_simp <;> with_reducible rfl)
  (try simp only [Act.put, List.getElem_toArray, List.getElem_cons_zero, List.getElem_cons_succ, List.setIfInBounds_toArray, List.set_cons_zero, List.set_cons_succ])
  refine wpAnyH_take (i := 13) (v := ?v13_8) rfl (by kernel_rfl) (by kernel_rfl) (by kernel_rfl) (fun _ _ _ h => h) (Or.inl ⟨by rfl, ?hy13_8⟩) hHeld ?_
  case hy13_8 => (intro w hSw; (try dsimp only at hSw); have q0 := ld_cfg rt_cfg hSw.1 HC.out; have q1 := ld_cfg rt_cfg hSw.2.1 HOK.out; have q2 := ld_cfg rt_rcfg hSw.2.2 HOK.out; (try simp only [List.getElem_toArray, List.getElem_cons_zero, List.getElem_cons_succ]); go_simp <;> with_reducible rfl)
  (try simp only [Act.put, List.getElem_toArray, List.getElem_cons_zero, List.getElem_cons_succ, List.setIfInBounds_toArray, List.set_cons_zero, List.set_cons_succ])
  refine wpAnyH_take (i := 14) (v := ?v14_9) rfl (by kernel_rfl) (by kernel_rfl) (by kernel_rfl) (fun _ _ _ h => h) (Or.inl ⟨by rfl, ?hy14_9⟩) hHeld ?_
  case hy14_9 => (intro w hSw; (try dsimp only at hSw); have q0 := ld_cfg rt_cfg hSw.1 HC.out; have q1 := ld_cfg rt_cfg hSw.2.1 HOK.out; have q2 := ld_cfg rt_rcfg hSw.2.2 HOK.out; (try simp only [List.getElem_toArray, List.getElem_cons_zero, List.getElem_cons_succ]); go_simp <;> with_reducible rfl)
  (try simp only [Act.put, List.getElem_toArray, List.getElem_cons_zero, List.getElem_cons_succ, List.setIfInBounds_toArray, List.set_cons_zero, List.set_cons_succ])
  refine wpAnyH_take (i := 15) (v := ?v15_10) rfl (by kernel_rfl) (by kernel_rfl) (by kernel_rfl) (fun _ _ _ h => h) (Or.inl ⟨by rfl, ?hy15_10⟩) hHeld ?_
  case hy15_10 => (intro w hSw; (try dsimp only at hSw); have q0 := ld_cfg rt_cfg hSw.1 HC.out; have q1 := ld_cfg rt_cfg hSw.2.1 HOK.out; have q2 := ld_cfg rt_rcfg hSw.2.2 HOK.out; (try simp only [List.getElem_toArray, List.getElem_cons_zero, List.getElem_cons_succ]); go_simp <;> with_reducible rfl)
  (try simp only [Act.put, List.getElem_toArray, List.getElem_cons_zero, List.getElem_cons_succ, List.setIfInBounds_toArray, List.set_cons_zero, List.set_cons_succ])
  refine wpAnyH_take (i := 17) (v := ?v17_11) rfl (by kernel_rfl) (by kernel_rfl) (by kernel_rfl) (fun _ _ _ h => h) (Or.inl ⟨by rfl, ?hy17_11⟩) hHeld ?_
  case hy17_11 => (intro w hSw; (try dsimp only at hSw); have q0 := ld_cfg rt_cfg hSw.1 HC.out; have q1 := ld_cfg rt_cfg hSw.2.1 HOK.out; have q2 := ld_cfg rt_rcfg hSw.2.2 HOK.out; (try simp only [List.getElem_toArray, List.getElem_cons_zero, List.getElem_cons_succ]); go_simp <;> with_reducible rfl)
  (try simp only [Act.put, List.getElem_toArray, List.getElem_cons_zero, List.getElem_cons_succ, List.setIfInBounds_toArray, List.set_cons_zero, List.set_cons_succ])
  refine wpAnyH_ready (rs := [16]) (by kernel_rfl) (by simp) ?_
  refine AllReadyH.cons rfl (fun K hK => ?_) AllReadyH.nil
  (try simp only [List.getElem_toArray, List.getElem_cons_zero, List.getElem_cons_succ])
  go_simp
  refine (mbytes_any x0 HC.out _).mono ?_
  rw [HB.out, HNB.out]
  rintro e w116 ⟨Ab1, cb1, rfl, ho, hb⟩
  have K15 := Lib.hid (K14.out.own hb ho)
  clear K14
  clear ho hb
  (try go_wp2_with fail)
  refine hK.out _ _ ⟨(K15.out.cf _ (.tail _ (.tail _ (.head _)))).1, (K15.out.cf _ (.tail _ (.head _))).1, (K15.out.cf _ (.head _)).1⟩ (fun hHeld => ?_)
  clear hK K
  (try simp only [Act.put, List.getElem_toArray, List.getElem_cons_zero, List.getElem_cons_succ, List.setIfInBounds_toArray, List.set_cons_zero, List.set_cons_succ])
  refine wpAnyH_ready (rs := [18]) (by kernel_rfl) (by simp) ?_
  refine AllReadyH.cons rfl (fun K hK => ?_) AllReadyH.nil
  (try simp only [List.getElem_toArray, List.getElem_cons_zero, List.getElem_cons_succ])
  go_simp
  refine (mof_any x0 HC.out _).mono ?_
  rintro e w117 ⟨rfl, hb⟩
  have K16 := Lib.hid (K15.out.step hb)
  clear K15
  clear hb
  (try go_wp2_with fail)
  refine hK.out _ _ ⟨(K16.out.cf _ (.tail _ (.tail _ (.head _)))).1, (K16.out.cf _ (.tail _ (.head _))).1, (K16.out.cf _ (.head _)).1⟩ (fun hHeld => ?_)
  clear hK K
  (try simp only [Act.put, List.getElem_toArray, List.getElem_cons_zero, List.getElem_cons_succ, List.setIfInBounds_toArray, List.set_cons_zero, List.set_cons_succ])
  refine wpAnyH_ready (rs := [19]) (by kernel_rfl) (by simp) ?_
  refine AllReadyH.cons rfl (fun K hK => ?_) AllReadyH.nil
  (try simp only [List.getElem_toArray, List.getElem_cons_zero, List.getElem_cons_succ])
  go_simp
  refine (rmbytes_any x0 HC.out _).mono ?_
  rw [HB.out, HNB.out]
  rintro e w118 ⟨Ab2, cb2, rfl, ho, hb⟩
  have K17 := Lib.hid (K16.out.own hb ho)
  clear K16
  clear ho hb
  (try go_wp2_with fail)
  refine hK.out _ _ ⟨(K17.out.cf _ (.tail _ (.tail _ (.head _)))).1, (K17.out.cf _ (.tail _ (.head _))).1, (K17.out.cf _ (.head _)).1⟩ (fun hHeld => ?_)
  clear hK K
  (try simp only [Act.put, List.getElem_toArray, List.getElem_cons_zero, List.getElem_cons_succ, List.setIfInBounds_toArray, List.set_cons_zero, List.set_cons_succ])
  refine wpAnyH_ready (rs := [20]) (by kernel_rfl) (by simp) ?_
  refine AllReadyH.cons rfl (fun K hK => ?_) AllReadyH.nil
  (try simp only [List.getElem_toArray, List.getElem_cons_zero, List.getElem_cons_succ])
  go_simp
  refine (al_same _ _ _ _ _ _ B B _ (by exact (K17.out.hw.row _ (.tail _ (.head _))).1) (by exact (K17.out.hw.row _ (.head _)).1) (by exact Nat.le_trans (K17.out.hw.row _ (.tail _ (.head _))).2.1 (K17.out.hw.row _ (.tail _ (.head _))).2.2) (by exact Nat.le_trans (K17.out.hw.row _ (.head _)).2.1 (K17.out.hw.row _ (.head _)).2.2) true (beq_self_eq_true _)).mono ?_
  rintro e w119 ⟨rfl, hb⟩
  have K18 := Lib.hid (K17.out.step hb)
  clear K17
  clear hb
  (try go_wp2_with fail)
  refine hK.out _ _ ⟨(K18.out.cf _ (.tail _ (.tail _ (.head _)))).1, (K18.out.cf _ (.tail _ (.head _))).1, (K18.out.cf _ (.head _)).1⟩ (fun hHeld => ?_)
  clear hK K
  (try simp only [Act.put, List.getElem_toArray, List.getElem_cons_zero, List.getElem_cons_succ, List.setIfInBounds_toArray, List.set_cons_zero, List.set_cons_succ])
  refine wpAnyH_take (i := 21) (v := ?v21_12) rfl (by kernel_rfl) (by kernel_rfl) (by kernel_rfl) (fun _ _ _ h => h) (Or.inl ⟨by rfl, ?hy21_12⟩) hHeld ?_
  case hy21_12 => (intro w hSw; (try dsimp only at hSw); have q0 := ld_cfg rt_cfg hSw.1 HC.out; have q1 := ld_cfg rt_cfg hSw.2.1 HOK.out; have q2 := ld_cfg rt_rcfg hSw.2.2 HOK.out; (try simp only [List.getElem_toArray, List.getElem_cons_zero, List.getElem_cons_succ]); go_simp <;> with_reducible rfl)
  (try simp only [Act.put, List.getElem_toArray, List.getElem_cons_zero, List.getElem_cons_succ, List.setIfInBounds_toArray, List.set_cons_zero, List.set_cons_succ])
  refine wpAnyH_take (i := 22) (v := ?v22_13) rfl (by kernel_rfl) (by kernel_rfl) (by kernel_rfl) (fun _ _ _ h => h) (Or.inl ⟨by rfl, ?hy22_13⟩) hHeld ?_
  case hy22_13 => (intro w hSw; (try dsimp only at hSw); have q0 := ld_cfg rt_cfg hSw.1 HC.out; have q1 := ld_cfg rt_cfg hSw.2.1 HOK.out; have q2 := ld_cfg rt_rcfg hSw.2.2 HOK.out; (try simp only [List.getElem_toArray, List.getElem_cons_zero, List.getElem_cons_succ]); go_simp <;> with_reducible rfl)
  (try simp only [Act.put, List.getElem_toArray, List.getElem_cons_zero, List.getElem_cons_succ, List.setIfInBounds_toArray, List.set_cons_zero, List.set_cons_succ])
  refine wpAnyH_take (i := 23) (v := ?v23_14) rfl (by kernel_rfl) (by kernel_rfl) (by kernel_rfl) (fun _ _ _ h => h) (Or.inl ⟨by rfl, ?hy23_14⟩) hHeld ?_
  case hy23_14 => (intro w hSw; (try dsimp only at hSw); have q0 := ld_cfg rt_cfg hSw.1 HC.out; have q1 := ld_cfg rt_cfg hSw.2.1 HOK.out; have q2 := ld_cfg rt_rcfg hSw.2.2 HOK.out; (try simp only [List.getElem_toArray, List.getElem_cons_zero, List.getElem_cons_succ]); go_simp <;> with_reducible rfl)
  (try simp only [Act.put, List.getElem_toArray, List.getElem_cons_zero, List.getElem_cons_succ, List.setIfInBounds_toArray, List.set_cons_zero, List.set_cons_succ])
  refine wpAnyH_take (i := 25) (v := ?v25_15) rfl (by kernel_rfl) (by kernel_rfl) (by kernel_rfl) (fun _ _ _ h => h) (Or.inl ⟨by rfl, ?hy25_15⟩) hHeld ?_
  case hy25_15 => (intro w hSw; (try dsimp only at hSw); have q0 := ld_cfg rt_cfg hSw.1 HC.out; have q1 := ld_cfg rt_cfg hSw.2.1 HOK.out; have q2 := ld_cfg rt_rcfg hSw.2.2 HOK.out; (try simp only [List.getElem_toArray, List.getElem_cons_zero, List.getElem_cons_succ]); go_simp <;> with_reducible rfl)
  (try simp only [Act.put, List.getElem_toArray, List.getElem_cons_zero, List.getElem_cons_succ, List.setIfInBounds_toArray, List.set_cons_zero, List.set_cons_succ])
  refine wpAnyH_ready (rs := [24]) (by kernel_rfl) (by simp) ?_
  refine AllReadyH.cons rfl (fun K hK => ?_) AllReadyH.nil
  (try simp only [List.getElem_toArray, List.getElem_cons_zero, List.getElem_cons_succ])
  go_simp
  refine (mof_any R HOK.out _).mono ?_
  rintro e w120 ⟨rfl, hb⟩
  have K19 := Lib.hid (K18.out.step hb)
  clear K18
  clear hb
  (try go_wp2_with fail)
  refine hK.out _ _ ⟨(K19.out.cf _ (.tail _ (.tail _ (.head _)))).1, (K19.out.cf _ (.tail _ (.head _))).1, (K19.out.cf _ (.head _)).1⟩ (fun hHeld => ?_)
  clear hK K
  (try simp only [Act.put, List.getElem_toArray, List.getElem_cons_zero, List.getElem_cons_succ, List.setIfInBounds_toArray, List.set_cons_zero, List.set_cons_succ])
  refine wpAnyH_take (i := 26) (v := ?v26_16) rfl (by kernel_rfl) (by kernel_rfl) (by kernel_rfl) (fun _ _ _ h => h) (Or.inl ⟨by rfl, ?hy26_16⟩) hHeld ?_
  case hy26_16 => (intro w hSw; (try dsimp only at hSw); have q0 := ld_cfg rt_cfg hSw.1 HC.out; have q1 := ld_cfg rt_cfg hSw.2.1 HOK.out; have q2 := ld_cfg rt_rcfg hSw.2.2 HOK.out; (try simp only [List.getElem_toArray, List.getElem_cons_zero, List.getElem_cons_succ]); go_simp <;> with_reducible rfl)
  (try simp only [Act.put, List.getElem_toArray, List.getElem_cons_zero, List.getElem_cons_succ, List.setIfInBounds_toArray, List.set_cons_zero, List.set_cons_succ])
  refine wpAnyH_take (i := 27) (v := ?v27_17) rfl (by kernel_rfl) (by kernel_rfl) (by kernel_rfl) (fun _ _ _ h => h) (Or.inl ⟨by rfl, ?hy27_17⟩) hHeld ?_
  case hy27_17 => (intro w hSw; (try dsimp only at hSw); have q0 := ld_cfg rt_cfg hSw.1 HC.out; have q1 := ld_cfg rt_cfg hSw.2.1 HOK.out; have q2 := ld_cfg rt_rcfg hSw.2.2 HOK.out; (try simp only [List.getElem_toArray, List.getElem_cons_zero, List.getElem_cons_succ]); go_simp <;> with_reducible rfl)
  (try simp only [Act.put, List.getElem_toArray, List.getElem_cons_zero, List.getElem_cons_succ, List.setIfInBounds_toArray, List.set_cons_zero, List.set_cons_succ])
  refine wpAnyH_take (i := 28) (v := ?v28_18) rfl (by kernel_rfl) (by kernel_rfl) (by kernel_rfl) (fun _ _ _ h => h) (Or.inl ⟨by rfl, ?hy28_18⟩) hHeld ?_
  case hy28_18 => (intro w hSw; (try dsimp only at hSw); have q0 := ld_cfg rt_cfg hSw.1 HC.out; have q1 := ld_cfg rt_cfg hSw.2.1 HOK.out; have q2 := ld_cfg rt_rcfg hSw.2.2 HOK.out; (try simp only [List.getElem_toArray, List.getElem_cons_zero, List.getElem_cons_succ]); go_simp <;> with_reducible rfl)
  (try simp only [Act.put, List.getElem_toArray, List.getElem_cons_zero, List.getElem_cons_succ, List.setIfInBounds_toArray, List.set_cons_zero, List.set_cons_succ])
  refine wpAnyH_take (i := 29) (v := ?v29_19) rfl (by kernel_rfl) (by kernel_rfl) (by kernel_rfl) (fun _ _ _ h => h) (Or.inl ⟨by rfl, ?hy29_19⟩) hHeld ?_
  case hy29_19 => (intro w hSw; (try dsimp only at hSw); have q0 := ld_cfg rt_cfg hSw.1 HC.out; have q1 := ld_cfg rt_cfg hSw.2.1 HOK.out; have q2 := ld_cfg rt_rcfg hSw.2.2 HOK.out; (try simp only [List.getElem_toArray, List.getElem_cons_zero, List.getElem_cons_succ]); go_simp <;> with_reducible rfl)
  (try simp only [Act.put, List.getElem_toArray, List.getElem_cons_zero, List.getElem_cons_succ, List.setIfInBounds_toArray, List.set_cons_zero, List.set_cons_succ])
  refine wpAnyH_take (i := 30) (v := ?v30_20) rfl (by kernel_rfl) (by kernel_rfl) (by kernel_rfl) (fun _ _ _ h => h) (Or.inl ⟨by rfl, ?hy30_20⟩) hHeld ?_
  case hy30_20 => (intro w hSw; (try dsimp only at hSw); have q0 := ld_cfg rt_cfg hSw.1 HC.out; have q1 := ld_cfg rt_cfg hSw.2.1 HOK.out; have q2 := ld_cfg rt_rcfg hSw.2.2 HOK.out; (try simp only [List.getElem_toArray, List.getElem_cons_zero, List.getElem_cons_succ]); go_simp <;> with_reducible rfl)
  (try simp only [Act.put, List.getElem_toArray, List.getElem_cons_zero, List.getElem_cons_succ, List.setIfInBounds_toArray, List.set_cons_zero, List.set_cons_succ])
  refine wpAnyH_take (i := 31) (v := ?v31_21) rfl (by kernel_rfl) (by kernel_rfl) (by kernel_rfl) (fun _ _ _ h => h) (Or.inl ⟨by rfl, ?hy31_21⟩) hHeld ?_
  case hy31_21 => (intro w hSw; (try dsimp only at hSw); have q0 := ld_cfg rt_cfg hSw.1 HC.out; have q1 := ld_cfg rt_cfg hSw.2.1 HOK.out; have q2 := ld_cfg rt_rcfg hSw.2.2 HOK.out; (try simp only [List.getElem_toArray, List.getElem_cons_zero, List.getElem_cons_succ]); go_simp <;> with_reducible rfl)
  (try simp only [Act.put, List.getElem_toArray, List.getElem_cons_zero, List.getElem_cons_succ, List.setIfInBounds_toArray, List.set_cons_zero, List.set_cons_succ])
  refine wpAnyH_take (i := 32) (v := ?v32_22) rfl (by kernel_rfl) (by kernel_rfl) (by kernel_rfl) (fun _ _ _ h => h) (Or.inl ⟨by rfl, ?hy32_22⟩) hHeld ?_
  case hy32_22 => (intro w hSw; (try dsimp only at hSw); have q0 := ld_cfg rt_cfg hSw.1 HC.out; have q1 := ld_cfg rt_cfg hSw.2.1 HOK.out; have q2 := ld_cfg rt_rcfg hSw.2.2 HOK.out; (try simp only [List.getElem_toArray, List.getElem_cons_zero, List.getElem_cons_succ]); go_simp <;> with_reducible rfl)
  (try simp only [Act.put, List.getElem_toArray, List.getElem_cons_zero, List.getElem_cons_succ, List.setIfInBounds_toArray, List.set_cons_zero, List.set_cons_succ])
  refine wpAnyH_take (i := 33) (v := ?v33_23) rfl (by kernel_rfl) (by kernel_rfl) (by kernel_rfl) (fun _ _ _ h => h) (Or.inl ⟨by rfl, ?hy33_23⟩) hHeld ?_
  case hy33_23 => (intro w hSw; (try dsimp only at hSw); have q0 := ld_cfg rt_cfg hSw.1 HC.out; have q1 := ld_cfg rt_cfg hSw.2.1 HOK.out; have q2 := ld_cfg rt_rcfg hSw.2.2 HOK.out; (try simp only [List.getElem_toArray, List.getElem_cons_zero, List.getElem_cons_succ]); go_simp <;> with_reducible rfl)
  (try simp only [Act.put, List.getElem_toArray, List.getElem_cons_zero, List.getElem_cons_succ, List.setIfInBounds_toArray, List.set_cons_zero, List.set_cons_succ])
  refine wpAnyH_take (i := 34) (v := ?v34_24) rfl (by kernel_rfl) (by kernel_rfl) (by kernel_rfl) (fun _ _ _ h => h) (Or.inl ⟨by rfl, ?hy34_24⟩) hHeld ?_
  case hy34_24 => (intro w hSw; (try dsimp only at hSw); have q0 := ld_cfg rt_cfg hSw.1 HC.out; have q1 := ld_cfg rt_cfg hSw.2.1 HOK.out; have q2 := ld_cfg rt_rcfg hSw.2.2 HOK.out; (try simp only [List.getElem_toArray, List.getElem_cons_zero, List.getElem_cons_succ]); go_simp <;> with_reducible rfl)
  (try simp only [Act.put, List.getElem_toArray, List.getElem_cons_zero, List.getElem_cons_succ, List.setIfInBounds_toArray, List.set_cons_zero, List.set_cons_succ])
  refine wpAnyH_take (i := 35) (v := ?v35_25) rfl (by kernel_rfl) (by kernel_rfl) (by kernel_rfl) (fun _ _ _ h => h) (Or.inl ⟨by rfl, ?hy35_25⟩) hHeld ?_
  case hy35_25 => (intro w hSw; (try dsimp only at hSw); have q0 := ld_cfg rt_cfg hSw.1 HC.out; have q1 := ld_cfg rt_cfg hSw.2.1 HOK.out; have q2 := ld_cfg rt_rcfg hSw.2.2 HOK.out; (try simp only [List.getElem_toArray, List.getElem_cons_zero, List.getElem_cons_succ]); go_simp <;> with_reducible rfl)
  (try simp only [Act.put, List.getElem_toArray, List.getElem_cons_zero, List.getElem_cons_succ, List.setIfInBounds_toArray, List.set_cons_zero, List.set_cons_succ])
  refine wpAnyH_ready (rs := [36]) (by kernel_rfl) (by simp) ?_
  refine AllReadyH.cons rfl (fun K hK => ?_) AllReadyH.nil
  (try simp only [List.getElem_toArray, List.getElem_cons_zero, List.getElem_cons_succ])
  go_simp
  refine (al_same _ _ _ _ _ _ l1 l1 _ (by exact (K19.out.hw.row _ (.tail _ (.tail _ (.head _)))).1) (by exact (K19.out.hw.row _ (.tail _ (.tail _ (.tail _ (.head _))))).1) (by exact Nat.le_trans (K19.out.hw.row _ (.tail _ (.tail _ (.head _)))).2.1 (K19.out.hw.row _ (.tail _ (.tail _ (.head _)))).2.2) (by exact Nat.le_trans (K19.out.hw.row _ (.tail _ (.tail _ (.tail _ (.head _))))).2.1 (K19.out.hw.row _ (.tail _ (.tail _ (.tail _ (.head _))))).2.2) true (beq_self_eq_true _)).mono ?_
  rintro e w121 ⟨rfl, hb⟩
  have K20 := Lib.hid (K19.out.step hb)
  clear K19
  clear hb
  (try go_wp2_with fail)
  refine hK.out _ _ ⟨(K20.out.cf _ (.tail _ (.tail _ (.head _)))).1, (K20.out.cf _ (.tail _ (.head _))).1, (K20.out.cf _ (.head _)).1⟩ (fun hHeld => ?_)
  clear hK K
  (try simp only [Act.put, List.getElem_toArray, List.getElem_cons_zero, List.getElem_cons_succ, List.setIfInBounds_toArray, List.set_cons_zero, List.set_cons_succ])
  refine wpAnyH_take (i := 37) (v := ?v37_26) rfl (by kernel_rfl) (by kernel_rfl) (by kernel_rfl) (fun _ _ _ h => h) (Or.inl ⟨by rfl, ?hy37_26⟩) hHeld ?_
  case hy37_26 => (intro w hSw; (try dsimp only at hSw); have q0 := ld_cfg rt_cfg hSw.1 HC.out; have q1 := ld_cfg rt_cfg hSw.2.1 HOK.out; have q2 := ld_cfg rt_rcfg hSw.2.2 HOK.out; (try simp only [List.getElem_toArray, List.getElem_cons_zero, List.getElem_cons_succ]); go_simp <;> with_reducible rfl)
  (try simp only [Act.put, List.getElem_toArray, List.getElem_cons_zero, List.getElem_cons_succ, List.setIfInBounds_toArray, List.set_cons_zero, List.set_cons_succ])
  refine wpAnyH_take (i := 38) (v := ?v38_27) rfl (by kernel_rfl) (by kernel_rfl) (by kernel_rfl) (fun _ _ _ h => h) (Or.inl ⟨by rfl, ?hy38_27⟩) hHeld ?_
  case hy38_27 => (intro w hSw; (try dsimp only at hSw); have q0 := ld_cfg rt_cfg hSw.1 HC.out; have q1 := ld_cfg rt_cfg hSw.2.1 HOK.out; have q2 := ld_cfg rt_rcfg hSw.2.2 HOK.out; (try simp only [List.getElem_toArray, List.getElem_cons_zero, List.getElem_cons_succ]); go_simp <;> with_reducible rfl)
  (try simp only [Act.put, List.getElem_toArray, List.getElem_cons_zero, List.getElem_cons_succ, List.setIfInBounds_toArray, List.set_cons_zero, List.set_cons_succ])
  refine wpAnyH_done (by kernel_rfl) ?_ _
  go_wp2_with fail
  go_ret
  exact ⟨rfl, K20.out.hw.bel⟩
theorem ModeAnswers_walk (x0 : Cfg) (A1 : Option Addr) (n1 c1 : Nat) (l1 : List UInt8) (w : World) (h0 : x0.ok) (h1 : RB w w.heap.size A1 n1 l1) (m1 : n1 ≤ c1 ∧ c1 ≤ maxLen) :
    Calls Tryz.prog 3 #[x0.val, .slice A1 n1 c1] w fun e w' => e = .returned (.bool true) ∧ Below w.heap.size w w' := by
  by_cases h : n1 > 300
  · exact answers_long x0 A1 n1 c1 l1 w h0 h1 m1 h
  · exact answers_ok x0 A1 n1 c1 l1 w h0 h1 m1 (by omega)
end Go.Proofs.YtdhnknkochbekaaGreat
