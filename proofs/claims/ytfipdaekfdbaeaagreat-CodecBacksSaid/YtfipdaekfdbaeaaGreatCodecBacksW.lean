/- Layer 17: the walk of the statement CodecBacks. No condition. -/
import Derived.Test.YtfipdaekfdbaeaaGreatCdV
import Derived.Test.YtfipdaekfdbaeaaGreatCdR
import Derived.Test.YtfipdaekfdbaeaaGreatUseBytes
namespace Go.Proofs.YtfipdaekfdbaeaaGreat
open Go.RowKit
set_option linter.unusedVariables false
set_option linter.unusedSimpArgs false
attribute [local irreducible] Cfg.val Cfg.cells rtB Rt zK sizeC AV bytC rawC zeroC turnC wayC encL decL tableL backL passesR cntP idB codM codB prtC plnL pcel zcel cU pntB tldB
attribute [local go_sem ↓] ex_ldC ex_ldR ex_ldP ex_ldPr
set_option maxRecDepth 100000 in
set_option maxHeartbeats 8000000 in
theorem backs_long (x0 : Cfg) (A1 : Option Addr) (n1 c1 : Nat) (l1 : List UInt8) (w : World) (h0 : x0.ok) (h1 : RB w w.heap.size A1 n1 l1) (m1 : n1 ≤ c1 ∧ c1 ≤ maxLen) (h : n1 > 100) :
    Calls Tryz.prog 4 #[x0.val, .slice A1 n1 c1] w fun e w' => e = .returned (.bool true) ∧ Below w.heap.size w w' := by
  have d1 : decide ((100 : Int) < (n1 : Int)) = true := decide_eq_true (by omega)
  have HC := Lib.hid h0
  have K0 := Lib.hid ((DK.start w).add h1 m1.1 m1.2)
  have HL1 := Lib.hid h1.len
  have HM1 := Lib.hid m1
  clear h0 h1 m1 h
  go_enter Tryz.func4, Tryz.ntmps4
  go_wp2_with (first | (refine wpList_boxB rfl 24 (.tmp 0) rfl x0.cells (val_agg _) ?_; intro w1 p_c hc1 hb1 hx1; have K1 := Lib.hid (K0.out.boxed hb1 hc1 HC.out); clear hc1 hb1 hx1; have q_c := ld_cfg rt_cfg (K1.out.cf _ (.head _)).1 (K1.out.cf _ (.head _)).2))
  refine (calive_any _).mono ?_
  rintro e w2 ⟨rfl, hb⟩
  have K2 := Lib.hid (K1.out.step hb)
  clear K1
  clear hb
  (try clear q_c)
  (try clear f0_c)
  (try clear f1_c)
  (try clear f2_c)
  have q_c := ld_cfg rt_cfg (K2.out.cf _ (.head _)).1 (K2.out.cf _ (.head _)).2
  go_wp2_with fail
  go_ret
  exact ⟨rfl, K2.out.hw.bel⟩
set_option maxRecDepth 100000 in
set_option maxHeartbeats 8000000 in
theorem backs_ok (x0 : Cfg) (A1 : Option Addr) (n1 c1 : Nat) (l1 : List UInt8) (w : World) (h0 : x0.ok) (h1 : RB w w.heap.size A1 n1 l1) (m1 : n1 ≤ c1 ∧ c1 ≤ maxLen) (h : n1 ≤ 100) :
    Calls Tryz.prog 4 #[x0.val, .slice A1 n1 c1] w fun e w' => e = .returned (.bool true) ∧ Below w.heap.size w w' := by
  have d1 : decide ((100 : Int) < (n1 : Int)) = false := decide_eq_false (by omega)
  obtain ⟨p, s, t, q, hB⟩ : ∃ p s t q, codB x0 l1 = (⟨p, s, t⟩, q) := ⟨_, _, _, _, rfl⟩
  have HB := Lib.hid hB
  have b1 : (q == q) = true := beq_self_eq_true _
  have HC := Lib.hid h0
  have K0 := Lib.hid ((DK.start w).add h1 m1.1 m1.2)
  have HL1 := Lib.hid h1.len
  have HM1 := Lib.hid m1
  clear h0 h1 m1 hB
  go_enter Tryz.func4, Tryz.ntmps4
  go_wp2_with (first | (refine wpList_boxB rfl 24 (.tmp 0) rfl x0.cells (val_agg _) ?_; intro w1 p_c hc1 hb1 hx1; have K1 := Lib.hid (K0.out.boxed hb1 hc1 HC.out); clear hc1 hb1 hx1; have q_c := ld_cfg rt_cfg (K1.out.cf _ (.head _)).1 (K1.out.cf _ (.head _)).2))
  refine (calive_any _).mono ?_
  rintro e w2 ⟨rfl, hb⟩
  have K2 := Lib.hid (K1.out.step hb)
  clear K1
  clear hb
  (try clear q_c)
  (try clear f0_c)
  (try clear f1_c)
  (try clear f2_c)
  have q_c := ld_cfg rt_cfg (K2.out.cf _ (.head _)).1 (K2.out.cf _ (.head _)).2
  go_wp2_with fail
  refine (copy_any A1 n1 c1 0 l1 _ (by exact (K2.out.hw.row _ (.head _)).1) (by omega)).mono ?_
  rintro e w3 ⟨Ao, co, rfl, ho, hb⟩
  have K3 := Lib.hid (K2.out.own hb ho)
  clear K2
  clear ho hb
  (try clear q_c)
  (try clear f0_c)
  (try clear f1_c)
  (try clear f2_c)
  have q_c := ld_cfg rt_cfg (K3.out.cf _ (.head _)).1 (K3.out.cf _ (.head _)).2
  go_wp2_with fail
  refine (cback_r x0 HC.out Ao n1 co l1 _ (by exact (K3.out.hw.row _ (.head _)).1) (by exact (K3.out.hw.row _ (.head _)).2.1)).mono ?_
  rw [HB.out]
  (try dsimp only)
  rintro e w4 ⟨Aas, cas, Aat, cat, rfl, ho1, ho2, hb⟩
  have K4 := Lib.hid (K3.out.two hb ho1 ho2)
  clear K3
  clear ho1 ho2 hb
  (try clear q_c)
  (try clear f0_c)
  (try clear f1_c)
  (try clear f2_c)
  have q_c := ld_cfg rt_cfg (K4.out.cf _ (.head _)).1 (K4.out.cf _ (.head _)).2
  go_wp2_with (first | (with_reducible show wpList _ _ _ (⟨some 6, .alloc _, _, _, _, _⟩ :: _) _ _; refine wpList_newB rt_prt rfl rfl ?_; intro w5 p_a hc1 hb1 hx1; have Vw5 := Lib.hid (And.intro hc1 (And.intro hb1 hx1)); clear hc1 hb1 hx1) | (refine wpList_stB rt_prt rfl (.tmp 6) (.tmp 21) rfl p_a 0 rfl zcel (pcel p Aas s.length cas Aat t.length cat) rfl pcel_one (by exact pcel_len) (by exact Vw5.out.1) (by rw [zcel_len]; decide) ?_; intro w6 hc1 ho1 hs1; have K5 := Lib.hid (K4.out.pvar Vw5.out.2.1 Vw5.out.2.2 ho1 hc1 pcel_len); clear hc1 ho1 hs1 Vw5; have q_c := ld_cfg rt_cfg (K5.out.cf _ (.head _)).1 (K5.out.cf _ (.head _)).2))
  refine (mof_any x0 HC.out _).mono ?_
  rintro e w7 ⟨rfl, hb⟩
  have K6 := Lib.hid (K5.out.step hb)
  clear K5
  clear hb
  (try clear q_c)
  (try clear f0_c)
  (try clear f1_c)
  (try clear f2_c)
  (try clear q_a)
  (try clear f0_a)
  (try clear f1_a)
  (try clear f2_a)
  have q_c := ld_cfg rt_cfg (K6.out.cf _ (.head _)).1 (K6.out.cf _ (.head _)).2
  go_wp2_with fail
  refine (rcback_any x0 HC.out A1 n1 c1 l1 _ (by exact (K6.out.hw.row _ (.tail _ (.tail _ (.tail _ (.head _))))).1) (by exact HM1.out.1)).mono ?_
  rw [HB.out]
  (try dsimp only)
  rintro e w8 ⟨Abs, cbs, Abt, cbt, rfl, ho1, ho2, hb⟩
  have K7 := Lib.hid (K6.out.two hb ho1 ho2)
  clear K6
  clear ho1 ho2 hb
  (try clear q_c)
  (try clear f0_c)
  (try clear f1_c)
  (try clear f2_c)
  (try clear q_a)
  (try clear f0_a)
  (try clear f1_a)
  (try clear f2_a)
  have q_c := ld_cfg rt_cfg (K7.out.cf _ (.head _)).1 (K7.out.cf _ (.head _)).2
  go_wp2_with (first | (with_reducible show wpList _ _ _ (⟨some 8, .alloc _, _, _, _, _⟩ :: _) _ _; refine wpList_newB rt_rprt rfl rfl ?_; intro w9 p_b hc1 hb1 hx1; have Vw9 := Lib.hid (And.intro hc1 (And.intro hb1 hx1)); clear hc1 hb1 hx1) | (refine wpList_stB rt_rprt rfl (.tmp 8) (.tmp 28) rfl p_b 0 rfl zcel (pcel p Abs s.length cbs Abt t.length cbt) rfl pcel_one (by exact pcel_len) (by exact Vw9.out.1) (by rw [zcel_len]; decide) ?_; intro w10 hc1 ho1 hs1; have K8 := Lib.hid (K7.out.pvar Vw9.out.2.1 Vw9.out.2.2 ho1 hc1 pcel_len); clear hc1 ho1 hs1 Vw9; have q_c := ld_cfg rt_cfg (K8.out.cf _ (.head _)).1 (K8.out.cf _ (.head _)).2; have q_b := ld_prt rt_rprt (K8.out.pt _ (.head _)); have q_a := ld_prt rt_prt (K8.out.pt _ (.tail _ (.head _)))))
  refine (csame_any p Aas Aat Abs Abt s.length t.length s.length t.length cas cat cbs cbt s t _ (by exact (K8.out.hw.row _ (.tail _ (.tail _ (.tail _ (.head _))))).1) (by exact (K8.out.hw.row _ (.tail _ (.tail _ (.head _)))).1) (by exact (K8.out.hw.row _ (.tail _ (.head _))).1) (by exact (K8.out.hw.row _ (.head _)).1) (by exact Nat.le_trans (K8.out.hw.row _ (.tail _ (.tail _ (.tail _ (.head _))))).2.1 (K8.out.hw.row _ (.tail _ (.tail _ (.tail _ (.head _))))).2.2) (by exact Nat.le_trans (K8.out.hw.row _ (.tail _ (.tail _ (.head _)))).2.1 (K8.out.hw.row _ (.tail _ (.tail _ (.head _)))).2.2) (by exact Nat.le_trans (K8.out.hw.row _ (.tail _ (.head _))).2.1 (K8.out.hw.row _ (.tail _ (.head _))).2.2) (by exact Nat.le_trans (K8.out.hw.row _ (.head _)).2.1 (K8.out.hw.row _ (.head _)).2.2)).mono ?_
  rintro e w11 ⟨rfl, hb⟩
  have K9 := Lib.hid (K8.out.step hb)
  clear K8
  clear hb
  (try clear q_c)
  (try clear f0_c)
  (try clear f1_c)
  (try clear f2_c)
  (try clear q_b)
  (try clear f0_b)
  (try clear f1_b)
  (try clear f2_b)
  (try clear q_a)
  (try clear f0_a)
  (try clear f1_a)
  (try clear f2_a)
  have q_c := ld_cfg rt_cfg (K9.out.cf _ (.head _)).1 (K9.out.cf _ (.head _)).2
  go_wp2_with fail
  refine (al_same _ _ _ _ _ _ l1 l1 _ (by exact (K9.out.hw.row _ (.tail _ (.tail _ (.tail _ (.tail _ (.head _)))))).1) (by exact (K9.out.hw.row _ (.tail _ (.tail _ (.tail _ (.tail _ (.tail _ (.head _))))))).1) (by exact Nat.le_trans (K9.out.hw.row _ (.tail _ (.tail _ (.tail _ (.tail _ (.head _)))))).2.1 (K9.out.hw.row _ (.tail _ (.tail _ (.tail _ (.tail _ (.head _)))))).2.2) (by exact Nat.le_trans (K9.out.hw.row _ (.tail _ (.tail _ (.tail _ (.tail _ (.tail _ (.head _))))))).2.1 (K9.out.hw.row _ (.tail _ (.tail _ (.tail _ (.tail _ (.tail _ (.head _))))))).2.2) true (beq_self_eq_true _)).mono ?_
  rintro e w12 ⟨rfl, hb⟩
  have K10 := Lib.hid (K9.out.step hb)
  clear K9
  clear hb
  (try clear q_c)
  (try clear f0_c)
  (try clear f1_c)
  (try clear f2_c)
  (try clear q_b)
  (try clear f0_b)
  (try clear f1_b)
  (try clear f2_b)
  (try clear q_a)
  (try clear f0_a)
  (try clear f1_a)
  (try clear f2_a)
  have q_c := ld_cfg rt_cfg (K10.out.cf _ (.head _)).1 (K10.out.cf _ (.head _)).2
  go_wp2_with fail
  go_ret
  exact ⟨rfl, K10.out.hw.bel⟩
theorem CodecBacks_walk (x0 : Cfg) (A1 : Option Addr) (n1 c1 : Nat) (l1 : List UInt8) (w : World) (h0 : x0.ok) (h1 : RB w w.heap.size A1 n1 l1) (m1 : n1 ≤ c1 ∧ c1 ≤ maxLen) :
    Calls Tryz.prog 4 #[x0.val, .slice A1 n1 c1] w fun e w' => e = .returned (.bool true) ∧ Below w.heap.size w w' := by
  by_cases h : n1 > 100
  · exact backs_long x0 A1 n1 c1 l1 w h0 h1 m1 h
  · exact backs_ok x0 A1 n1 c1 l1 w h0 h1 m1 (by omega)
end Go.Proofs.YtfipdaekfdbaeaaGreat
