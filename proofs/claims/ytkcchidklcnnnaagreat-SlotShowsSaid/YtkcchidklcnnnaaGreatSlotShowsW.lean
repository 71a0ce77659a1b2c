/- Layer 18: the walk of the statement SlotShows. No condition. -/
import Derived.Test.YtkcchidklcnnnaaGreatSlV
namespace Go.Proofs.YtkcchidklcnnnaaGreat
open Go.RowKit
set_option linter.unusedVariables false
set_option linter.unusedSimpArgs false
attribute [local irreducible] Cfg.val Cfg.cells rtB Rt zK sizeC zeroC hcel zh pSl rSl aSl hasS ofS tmS tmN Sl.row Sl.tm inB instS retS putS offS doS upTo allS Cl.cells Cl.val pcel zcel codB codM showS shortS pntB prtC wayC idB cU17 s1 s2 upS
attribute [local go_sem ↓] ex_ldC ex_ldPt ex_ldPr ex_ldK18
set_option maxRecDepth 100000 in
set_option maxHeartbeats 4000000 in
theorem shows_long (A0 : Option Addr) (n0 c0 : Nat) (l0 : List Cl) (A1 : Option Addr) (n1 c1 : Nat) (l1 : List UInt8) (x2 : Cl) (w : World) (h0 : CLs w w.heap.size A0 n0 l0) (m0 : n0 ≤ c0 ∧ c0 ≤ maxLen) (h1 : RB w w.heap.size A1 n1 l1) (m1 : n1 ≤ c1 ∧ c1 ≤ maxLen) (h2 : x2.ok) (h : 100 < n0) :
    Calls Tryz.prog 4 #[.slice A0 n0 c0, .slice A1 n1 c1, x2.val] w fun e w' => e = .returned (.bool true) ∧ Below w.heap.size w w' := by
  have d1 : decide ((100 : Int) < (n0 : Int)) = true := decide_eq_true (by omega)
  have HK := Lib.hid h2
  have K0 := Lib.hid (SG.start w)
  clear h0 m0 h1 m1 h2 h
  go_enter Tryz.func4, Tryz.ntmps4
  go_wp2_with (first | ((with_reducible show wpList _ _ _ (⟨some 5, .box _ _, _, _, _, _⟩ :: _) _ _); refine wpList_boxB rfl 37 (.tmp 2) rfl (x2.cells) (cl_val _) ?_; intro w1 p_k hc1 hb1 hx1; have K1 := Lib.hid (K0.out.new hb1 hx1 hc1); have HZk := Lib.hid (Nat.le_trans K0.out.bel.size hx1); clear hc1 hb1 hx1; skip))
  refine (slalive_any _).mono ?_
  rintro e w2 ⟨rfl, hb⟩
  have K2 := Lib.hid (K1.out.step hb)
  clear K1
  clear hb
  (try clear q_k)
  (try clear f0_k)
  (try clear f1_k)
  (try clear f2_k)
  skip
  go_wp2_with fail
  go_ret
  exact ⟨rfl, K2.out.bel⟩
set_option maxRecDepth 100000 in
set_option maxHeartbeats 4000000 in
theorem shows_long2 (A0 : Option Addr) (n0 c0 : Nat) (l0 : List Cl) (A1 : Option Addr) (n1 c1 : Nat) (l1 : List UInt8) (x2 : Cl) (w : World) (h0 : CLs w w.heap.size A0 n0 l0) (m0 : n0 ≤ c0 ∧ c0 ≤ maxLen) (h1 : RB w w.heap.size A1 n1 l1) (m1 : n1 ≤ c1 ∧ c1 ≤ maxLen) (h2 : x2.ok) (h : n0 ≤ 100 ∧ 300 < n1) :
    Calls Tryz.prog 4 #[.slice A0 n0 c0, .slice A1 n1 c1, x2.val] w fun e w' => e = .returned (.bool true) ∧ Below w.heap.size w w' := by
  have d1 : decide ((100 : Int) < (n0 : Int)) = false := decide_eq_false (by omega)
  have d2 : decide ((300 : Int) < (n1 : Int)) = true := decide_eq_true (by omega)
  have HK := Lib.hid h2
  have K0 := Lib.hid (SG.start w)
  clear h0 m0 h1 m1 h2 h
  go_enter Tryz.func4, Tryz.ntmps4
  go_wp2_with (first | ((with_reducible show wpList _ _ _ (⟨some 5, .box _ _, _, _, _, _⟩ :: _) _ _); refine wpList_boxB rfl 37 (.tmp 2) rfl (x2.cells) (cl_val _) ?_; intro w1 p_k hc1 hb1 hx1; have K1 := Lib.hid (K0.out.new hb1 hx1 hc1); have HZk := Lib.hid (Nat.le_trans K0.out.bel.size hx1); clear hc1 hb1 hx1; skip))
  refine (slalive_any _).mono ?_
  rintro e w2 ⟨rfl, hb⟩
  have K2 := Lib.hid (K1.out.step hb)
  clear K1
  clear hb
  (try clear q_k)
  (try clear f0_k)
  (try clear f1_k)
  (try clear f2_k)
  skip
  go_wp2_with fail
  go_ret
  exact ⟨rfl, K2.out.bel⟩
set_option maxRecDepth 100000 in
set_option maxHeartbeats 4000000 in
theorem shows_ok (A0 : Option Addr) (n0 c0 : Nat) (l0 : List Cl) (A1 : Option Addr) (n1 c1 : Nat) (l1 : List UInt8) (x2 : Cl) (w : World) (h0 : CLs w w.heap.size A0 n0 l0) (m0 : n0 ≤ c0 ∧ c0 ≤ maxLen) (h1 : RB w w.heap.size A1 n1 l1) (m1 : n1 ≤ c1 ∧ c1 ≤ maxLen) (h2 : x2.ok) (h : n0 ≤ 100) (h' : n1 ≤ 300) :
    Calls Tryz.prog 4 #[.slice A0 n0 c0, .slice A1 n1 c1, x2.val] w fun e w' => e = .returned (.bool true) ∧ Below w.heap.size w w' := by
  have HK := Lib.hid h2
  have HKS := Lib.hid (And.intro h0.2.1 (And.intro h0.len h0))
  have Hin := Lib.hid (And.intro h1 m1)
  have HN1 := Lib.hid h'
  have d1 : decide ((100 : Int) < (n0 : Int)) = false := decide_eq_false (by omega)
  have d2 : decide ((300 : Int) < (n1 : Int)) = false := decide_eq_false (by omega)
  have K0 := Lib.hid (SG.start w)
  clear h0 m0 h1 m1 h2 h'
  go_enter Tryz.func4, Tryz.ntmps4
  go_wp2_with (first | ((with_reducible show wpList _ _ _ (⟨some 5, .box _ _, _, _, _, _⟩ :: _) _ _); refine wpList_boxB rfl 37 (.tmp 2) rfl (x2.cells) (cl_val _) ?_; intro w1 p_k hc1 hb1 hx1; have K1 := Lib.hid (K0.out.new hb1 hx1 hc1); have HZk := Lib.hid (Nat.le_trans K0.out.bel.size hx1); clear hc1 hb1 hx1; skip))
  refine (slalive_any _).mono ?_
  rintro e w2 ⟨rfl, hb⟩
  have K2 := Lib.hid (K1.out.step hb)
  clear K1
  clear hb
  (try clear q_k)
  (try clear f0_k)
  (try clear f1_k)
  (try clear f2_k)
  skip
  go_wp2_with fail
  refine (new18_any _).mono ?_
  rintro e w3 ⟨p_s, rfl, hc, hx, hb⟩
  have HZs := Lib.hid (Nat.le_trans K2.out.bel.size hx)
  have K3 := Lib.hid (K2.out.new hb hx hc)
  clear K2
  clear hc hx hb
  (try clear q_k)
  (try clear f0_k)
  (try clear f1_k)
  (try clear f2_k)
  skip
  go_wp2_with (first | ((with_reducible show wpList _ _ _ (⟨some 32, .box _ _, _, _, _, _⟩ :: _) _ _); refine wpList_boxB rfl 33 (.tmp 31) rfl (rSl zSl) rz_lit ?_; intro w4 p_r hc1 hb1 hx1; have K4 := Lib.hid (K3.out.new hb1 hx1 hc1); have HZr := Lib.hid (Nat.le_trans K3.out.bel.size hx1); clear hc1 hb1 hx1; skip))
  go_loopw [9] (fun t wr => ∃ i : Nat, i ≤ n0 ∧ t = .int .i64 (i : Int) ∧ Hid (SG w [] [] [(33, p_r, rSl (upTo l0 i)), (69, p_s, pSl (upTo l0 i)), (37, p_k, x2.cells)] wr)) (fun t _ => n0 - (intOf t).toNat)
  case atStart => exact ⟨0, Nat.zero_le _, rfl, (by rw [upTo_0]; exact K4)⟩
  case round =>
    obtain ⟨i, hi, rfl, K50⟩ := hrel
    by_cases hlt : i < n0
    · obtain ⟨b0, o0, kk, rfl, -, hki0, hko0, hrg⟩ := (HKS.out.2.2.below K50.out.bel).at_ hlt
      have hki := Lib.hid hki0
      have hko := Lib.hid hko0
      have lk := ld_at hko0 hrg
      clear hki0 hko0 hrg
      go_wp2_with fail
      refine (do_any p_s p_r (upTo l0 i) (upTo l0 i) (upTo_ok HKS.out.1 i) (upTo_ok HKS.out.1 i) (Nat.le_trans (upTo_n l0 i) (by have := HKS.out.2.1; omega)) (Nat.le_trans (upTo_n l0 i) (by have := HKS.out.2.1; omega)) kk hko.out _ (by exact (K50.out.blk _ (.tail _ (.head _)))) (by exact (K50.out.blk _ (.head _)))).mono ?_
      rintro e w51 ⟨b, rfl, -, hc, hc', ho⟩
      rw [← upTo_next hki.out] at hc hc'
      have K51 := Lib.hid (K50.out.mut2 (by decide) (by decide) HZr.out HZs.out ho.swap_ hc' hc)
      clear K50
      clear hc hc' ho lk
      go_wp2_with fail
      go_roundw
      case rel => exact ⟨i + 1, by omega, by go_num, K51⟩
      case measure => simp [intOf]; omega
    · obtain rfl : i = n0 := by omega
      have HSO := Lib.hid (upTo_ok HKS.out.1 i)
      have HNS : Hid ((upTo l0 i).n ≤ 1000000) := Lib.hid (Nat.le_trans (upTo_n l0 i) (by have := HKS.out.2.1; omega))
      obtain ⟨S, hS⟩ : ∃ S, upTo l0 i = S := ⟨_, rfl⟩
      rw [hS] at K50 HSO HNS
      clear hlt hi hS
      obtain ⟨p1, sa, na, q1, hX⟩ : ∃ p s t q, showS S l1 = (⟨p, s, t⟩, q) := ⟨_, _, _, _, rfl⟩
      obtain ⟨p2, sb, nb, q2, hY⟩ : ∃ p s t q, shortS S l1 = (⟨p, s, t⟩, q) := ⟨_, _, _, _, rfl⟩
      have HX := Lib.hid hX
      have HY := Lib.hid hY
      have b1 : (q1 == q1) = true := beq_self_eq_true _
      have b2 : (q2 == q2) = true := beq_self_eq_true _
      clear hX hY
      go_wp2_with fail
      refine (clone18_any S HSO.out p_s _ (by exact (K50.out.blk _ (.tail _ (.head _))))).mono ?_
      rintro e w61 ⟨p_t, rfl, hc, hx, hb⟩
      have HZt := Lib.hid (Nat.le_trans K50.out.bel.size hx)
      have K51 := Lib.hid (K50.out.new hb hx hc)
      clear K50
      clear hc hx hb
      (try clear q_r)
      (try clear f0_r)
      (try clear f1_r)
      (try clear f2_r)
      (try clear q_k)
      (try clear f0_k)
      (try clear f1_k)
      (try clear f2_k)
      have q_k := ld_call HK.out (K51.out.blk _ (.tail _ (.tail _ (.tail _ (.head _)))))
      go_wp2_with (first | ((with_reducible show wpList _ _ _ (⟨some 54, .box _ _, _, _, _, _⟩ :: _) _ _); refine wpList_boxB rfl 33 (.tmp 53) rfl (rSl zSl) rz_lit ?_; intro w62 p_y hc1 hb1 hx1; have K52 := Lib.hid (K51.out.new hb1 hx1 hc1); have HZy := Lib.hid (Nat.le_trans K51.out.bel.size hx1); clear hc1 hb1 hx1; have q_k := ld_call HK.out (K52.out.blk _ (.tail _ (.tail _ (.tail _ (.tail _ (.head _))))))))
      refine (do_any p_t p_y S zSl HSO.out zSl_ok HNS.out zSl_n x2 HK.out _ (by exact (K52.out.blk _ (.tail _ (.head _)))) (by exact (K52.out.blk _ (.head _)))).mono ?_
      rintro e w63 ⟨b, rfl, -, hc, hc', ho⟩
      have K53 := Lib.hid (K52.out.mut2 (by decide) (by decide) HZy.out HZt.out ho.swap_ hc' hc)
      clear K52
      clear hc hc' ho
      (try clear q_y)
      (try clear f0_y)
      (try clear f1_y)
      (try clear f2_y)
      (try clear q_r)
      (try clear f0_r)
      (try clear f1_r)
      (try clear f2_r)
      (try clear q_k)
      (try clear f0_k)
      (try clear f1_k)
      (try clear f2_k)
      go_wp2_with fail
      refine (copy_any A1 n1 c1 0 l1 _ (by exact (Hin.out.1.step K53.out.bel)) (by have := HN1.out; omega)).mono ?_
      rintro e w64 ⟨Ao, co, rfl, ho, hb⟩
      have K54 := Lib.hid (K53.out.ret hb ho)
      clear K53
      clear ho hb
      (try clear q_y)
      (try clear f0_y)
      (try clear f1_y)
      (try clear f2_y)
      (try clear q_r)
      (try clear f0_r)
      (try clear f1_r)
      (try clear f2_r)
      (try clear q_k)
      (try clear f0_k)
      (try clear f1_k)
      (try clear f2_k)
      skip
      go_wp2_with fail
      refine (show18_any S HSO.out p_s Ao n1 co l1 _ (by exact (K54.out.blk _ (.tail _ (.tail _ (.tail _ (.head _)))))) (by exact (K54.out.own _ (.head _)).rb) (by exact (K54.out.own _ (.head _)).cap.1)).mono ?_
      rw [HX.out]
      (try dsimp only)
      rintro e w65 ⟨Aas, cas, Aan, can, rfl, ho1, ho2, hb⟩
      (try dsimp only at ho1 ho2 ⊢)
      have K55 := Lib.hid (K54.out.ret2 hb ho1 ho2)
      clear K54
      clear ho1 ho2 hb
      (try clear q_y)
      (try clear f0_y)
      (try clear f1_y)
      (try clear f2_y)
      (try clear q_r)
      (try clear f0_r)
      (try clear f1_r)
      (try clear f2_r)
      (try clear q_k)
      (try clear f0_k)
      (try clear f1_k)
      (try clear f2_k)
      skip
      go_wp2_with (first | ((with_reducible show wpList _ _ _ (⟨some 12, .alloc _, _, _, _, _⟩ :: _) _ _); refine wpList_newB rt_prt rfl rfl ?_; intro w66 p_a hc1 hb1 hx1; have Vw66 := Lib.hid (And.intro hc1 (And.intro hb1 hx1)); clear hc1 hb1 hx1) | (refine wpList_stB rt_prt rfl (.tmp 12) (.tmp 63) rfl p_a 0 rfl zcel (pcel p1 Aas sa.length cas Aan na.length can) rfl pcel_one (by exact pcel_len) (by exact Vw66.out.1) (by rw [zcel_len]; decide) ?_; intro w67 hc1 ho1 hs1; have K56 := Lib.hid (K55.out.var Vw66.out.2.1 Vw66.out.2.2 ho1 (by rwa [puts_whole _ _ (pcel_len)] at hc1)); clear hc1 ho1 hs1 Vw66; skip))
      refine (rshow18_any S HSO.out p_r A1 n1 c1 l1 _ (by exact (K56.out.blk _ (.tail _ (.tail _ (.tail _ (.head _)))))) (by exact (Hin.out.1.step K56.out.bel)) Hin.out.2.1).mono ?_
      rw [HX.out]
      (try dsimp only)
      rintro e w68 ⟨Abs, cbs, Abn, cbn, rfl, ho1, ho2, hb⟩
      (try dsimp only at ho1 ho2 ⊢)
      have K57 := Lib.hid (K56.out.two hb ho1 ho2)
      clear K56
      clear ho1 ho2 hb
      (try clear q_a)
      (try clear f0_a)
      (try clear f1_a)
      (try clear f2_a)
      (try clear q_y)
      (try clear f0_y)
      (try clear f1_y)
      (try clear f2_y)
      (try clear q_r)
      (try clear f0_r)
      (try clear f1_r)
      (try clear f2_r)
      (try clear q_k)
      (try clear f0_k)
      (try clear f1_k)
      (try clear f2_k)
      skip
      go_wp2_with (first | ((with_reducible show wpList _ _ _ (⟨some 14, .alloc _, _, _, _, _⟩ :: _) _ _); refine wpList_newB rt_rprt rfl rfl ?_; intro w69 p_b hc1 hb1 hx1; have Vw69 := Lib.hid (And.intro hc1 (And.intro hb1 hx1)); clear hc1 hb1 hx1) | (refine wpList_stB rt_rprt rfl (.tmp 14) (.tmp 69) rfl p_b 0 rfl zcel (pcel p1 Abs sa.length cbs Abn na.length cbn) rfl pcel_one (by exact pcel_len) (by exact Vw69.out.1) (by rw [zcel_len]; decide) ?_; intro w70 hc1 ho1 hs1; have K58 := Lib.hid (K57.out.var Vw69.out.2.1 Vw69.out.2.2 ho1 (by rwa [puts_whole _ _ (pcel_len)] at hc1)); clear hc1 ho1 hs1 Vw69; skip))
      refine (short18_any S HSO.out p_s Ao n1 co l1 _ (by exact (K58.out.blk _ (.tail _ (.tail _ (.tail _ (.tail _ (.tail _ (.head _)))))))) (by exact (K58.out.own _ (.tail _ (.tail _ (.head _)))).rb) (by exact (K58.out.own _ (.tail _ (.tail _ (.head _)))).cap.1)).mono ?_
      rw [HY.out]
      (try dsimp only)
      rintro e w71 ⟨Axs, cxs, Axn, cxn, rfl, ho1, ho2, hb⟩
      (try dsimp only at ho1 ho2 ⊢)
      have K59 := Lib.hid (K58.out.ret2 hb ho1 ho2)
      clear K58
      clear ho1 ho2 hb
      (try clear q_b)
      (try clear f0_b)
      (try clear f1_b)
      (try clear f2_b)
      (try clear q_a)
      (try clear f0_a)
      (try clear f1_a)
      (try clear f2_a)
      (try clear q_y)
      (try clear f0_y)
      (try clear f1_y)
      (try clear f2_y)
      (try clear q_r)
      (try clear f0_r)
      (try clear f1_r)
      (try clear f2_r)
      (try clear q_k)
      (try clear f0_k)
      (try clear f1_k)
      (try clear f2_k)
      skip
      go_wp2_with (first | ((with_reducible show wpList _ _ _ (⟨some 16, .alloc _, _, _, _, _⟩ :: _) _ _); refine wpList_newB rt_prt rfl rfl ?_; intro w72 p_x hc1 hb1 hx1; have Vw72 := Lib.hid (And.intro hc1 (And.intro hb1 hx1)); clear hc1 hb1 hx1) | (refine wpList_stB rt_prt rfl (.tmp 16) (.tmp 75) rfl p_x 0 rfl zcel (pcel p2 Axs sb.length cxs Axn nb.length cxn) rfl pcel_one (by exact pcel_len) (by exact Vw72.out.1) (by rw [zcel_len]; decide) ?_; intro w73 hc1 ho1 hs1; have K60 := Lib.hid (K59.out.var Vw72.out.2.1 Vw72.out.2.2 ho1 (by rwa [puts_whole _ _ (pcel_len)] at hc1)); clear hc1 ho1 hs1 Vw72; skip))
      refine (rshort18_any S HSO.out p_r A1 n1 c1 l1 _ (by exact (K60.out.blk _ (.tail _ (.tail _ (.tail _ (.tail _ (.tail _ (.head _)))))))) (by exact (Hin.out.1.step K60.out.bel)) Hin.out.2.1 (by have := HN1.out; omega)).mono ?_
      rw [HY.out]
      (try dsimp only)
      rintro e w74 ⟨Ays, cys, Ayn, cyn, rfl, ho1, ho2, hb⟩
      (try dsimp only at ho1 ho2 ⊢)
      have K61 := Lib.hid (K60.out.two hb ho1 ho2)
      clear K60
      clear ho1 ho2 hb
      (try clear q_x)
      (try clear f0_x)
      (try clear f1_x)
      (try clear f2_x)
      (try clear q_b)
      (try clear f0_b)
      (try clear f1_b)
      (try clear f2_b)
      (try clear q_a)
      (try clear f0_a)
      (try clear f1_a)
      (try clear f2_a)
      (try clear q_y)
      (try clear f0_y)
      (try clear f1_y)
      (try clear f2_y)
      (try clear q_r)
      (try clear f0_r)
      (try clear f1_r)
      (try clear f2_r)
      (try clear q_k)
      (try clear f0_k)
      (try clear f1_k)
      (try clear f2_k)
      skip
      go_wp2_with (first | ((with_reducible show wpList _ _ _ (⟨some 18, .alloc _, _, _, _, _⟩ :: _) _ _); refine wpList_newB rt_rprt rfl rfl ?_; intro w75 p_yy hc1 hb1 hx1; have Vw75 := Lib.hid (And.intro hc1 (And.intro hb1 hx1)); clear hc1 hb1 hx1) | (refine wpList_stB rt_rprt rfl (.tmp 18) (.tmp 81) rfl p_yy 0 rfl zcel (pcel p2 Ays sb.length cys Ayn nb.length cyn) rfl pcel_one (by exact pcel_len) (by exact Vw75.out.1) (by rw [zcel_len]; decide) ?_; intro w76 hc1 ho1 hs1; have K62 := Lib.hid (K61.out.var Vw75.out.2.1 Vw75.out.2.2 ho1 (by rwa [puts_whole _ _ (pcel_len)] at hc1)); clear hc1 ho1 hs1 Vw75; have q_y := ld_prt rt_rprt (K62.out.blk _ (.head _)); have q_x := ld_prt rt_prt (K62.out.blk _ (.tail _ (.head _))); have q_b := ld_prt rt_rprt (K62.out.blk _ (.tail _ (.tail _ (.head _)))); have q_a := ld_prt rt_prt (K62.out.blk _ (.tail _ (.tail _ (.tail _ (.head _)))))))
      refine (csame_any p1 Aas Aan Abs Abn sa.length na.length sa.length na.length cas can cbs cbn sa na _ (by exact (K62.out.own _ (.tail _ (.tail _ (.tail _ (.head _))))).rb) (by exact (K62.out.own _ (.tail _ (.tail _ (.head _)))).rb) (by exact (K62.out.row _ (.tail _ (.tail _ (.tail _ (.head _))))).1) (by exact (K62.out.row _ (.tail _ (.tail _ (.head _)))).1) (by exact Nat.le_trans (K62.out.own _ (.tail _ (.tail _ (.tail _ (.head _))))).cap.1 (K62.out.own _ (.tail _ (.tail _ (.tail _ (.head _))))).cap.2) (by exact Nat.le_trans (K62.out.own _ (.tail _ (.tail _ (.head _)))).cap.1 (K62.out.own _ (.tail _ (.tail _ (.head _)))).cap.2) (by exact Nat.le_trans (K62.out.row _ (.tail _ (.tail _ (.tail _ (.head _))))).2.1 (K62.out.row _ (.tail _ (.tail _ (.tail _ (.head _))))).2.2) (by exact Nat.le_trans (K62.out.row _ (.tail _ (.tail _ (.head _)))).2.1 (K62.out.row _ (.tail _ (.tail _ (.head _)))).2.2)).mono ?_
      rintro e w77 ⟨rfl, hb⟩
      have K63 := Lib.hid (K62.out.step hb)
      clear K62
      clear hb
      (try clear q_y)
      (try clear f0_y)
      (try clear f1_y)
      (try clear f2_y)
      (try clear q_x)
      (try clear f0_x)
      (try clear f1_x)
      (try clear f2_x)
      (try clear q_b)
      (try clear f0_b)
      (try clear f1_b)
      (try clear f2_b)
      (try clear q_a)
      (try clear f0_a)
      (try clear f1_a)
      (try clear f2_a)
      (try clear q_z)
      (try clear f0_z)
      (try clear f1_z)
      (try clear f2_z)
      (try clear q_r)
      (try clear f0_r)
      (try clear f1_r)
      (try clear f2_r)
      (try clear q_k)
      (try clear f0_k)
      (try clear f1_k)
      (try clear f2_k)
      have q_y := ld_prt rt_rprt (K63.out.blk _ (.head _))
      have q_x := ld_prt rt_prt (K63.out.blk _ (.tail _ (.head _)))
      have q_b := ld_prt rt_rprt (K63.out.blk _ (.tail _ (.tail _ (.head _))))
      have q_a := ld_prt rt_prt (K63.out.blk _ (.tail _ (.tail _ (.tail _ (.head _)))))
      go_wp2_with fail
      refine (csame_any p2 Axs Axn Ays Ayn sb.length nb.length sb.length nb.length cxs cxn cys cyn sb nb _ (by exact (K63.out.own _ (.tail _ (.head _))).rb) (by exact (K63.out.own _ (.head _)).rb) (by exact (K63.out.row _ (.tail _ (.head _))).1) (by exact (K63.out.row _ (.head _)).1) (by exact Nat.le_trans (K63.out.own _ (.tail _ (.head _))).cap.1 (K63.out.own _ (.tail _ (.head _))).cap.2) (by exact Nat.le_trans (K63.out.own _ (.head _)).cap.1 (K63.out.own _ (.head _)).cap.2) (by exact Nat.le_trans (K63.out.row _ (.tail _ (.head _))).2.1 (K63.out.row _ (.tail _ (.head _))).2.2) (by exact Nat.le_trans (K63.out.row _ (.head _)).2.1 (K63.out.row _ (.head _)).2.2)).mono ?_
      rintro e w78 ⟨rfl, hb⟩
      have K64 := Lib.hid (K63.out.step hb)
      clear K63
      clear hb
      (try clear q_y)
      (try clear f0_y)
      (try clear f1_y)
      (try clear f2_y)
      (try clear q_x)
      (try clear f0_x)
      (try clear f1_x)
      (try clear f2_x)
      (try clear q_b)
      (try clear f0_b)
      (try clear f1_b)
      (try clear f2_b)
      (try clear q_a)
      (try clear f0_a)
      (try clear f1_a)
      (try clear f2_a)
      (try clear q_z)
      (try clear f0_z)
      (try clear f1_z)
      (try clear f2_z)
      (try clear q_r)
      (try clear f0_r)
      (try clear f1_r)
      (try clear f2_r)
      (try clear q_k)
      (try clear f0_k)
      (try clear f1_k)
      (try clear f2_k)
      have q_y := ld_prt rt_rprt (K64.out.blk _ (.head _))
      have q_x := ld_prt rt_prt (K64.out.blk _ (.tail _ (.head _)))
      have q_b := ld_prt rt_rprt (K64.out.blk _ (.tail _ (.tail _ (.head _))))
      have q_a := ld_prt rt_prt (K64.out.blk _ (.tail _ (.tail _ (.tail _ (.head _)))))
      go_wp2_with fail
      refine (al_same _ _ _ _ _ _ l1 l1 _ (by exact (K64.out.own _ (.tail _ (.tail _ (.tail _ (.tail _ (.head _)))))).rb) (by exact (Hin.out.1.step K64.out.bel)) (by exact Nat.le_trans (K64.out.own _ (.tail _ (.tail _ (.tail _ (.tail _ (.head _)))))).cap.1 (K64.out.own _ (.tail _ (.tail _ (.tail _ (.tail _ (.head _)))))).cap.2) (by exact Nat.le_trans Hin.out.2.1 Hin.out.2.2) true (beq_self_eq_true _)).mono ?_
      rintro e w79 ⟨rfl, hb⟩
      have K65 := Lib.hid (K64.out.step hb)
      clear K64
      clear hb
      (try clear q_y)
      (try clear f0_y)
      (try clear f1_y)
      (try clear f2_y)
      (try clear q_x)
      (try clear f0_x)
      (try clear f1_x)
      (try clear f2_x)
      (try clear q_b)
      (try clear f0_b)
      (try clear f1_b)
      (try clear f2_b)
      (try clear q_a)
      (try clear f0_a)
      (try clear f1_a)
      (try clear f2_a)
      (try clear q_z)
      (try clear f0_z)
      (try clear f1_z)
      (try clear f2_z)
      (try clear q_r)
      (try clear f0_r)
      (try clear f1_r)
      (try clear f2_r)
      (try clear q_k)
      (try clear f0_k)
      (try clear f1_k)
      (try clear f2_k)
      have q_y := ld_prt rt_rprt (K65.out.blk _ (.head _))
      have q_x := ld_prt rt_prt (K65.out.blk _ (.tail _ (.head _)))
      have q_b := ld_prt rt_rprt (K65.out.blk _ (.tail _ (.tail _ (.head _))))
      have q_a := ld_prt rt_prt (K65.out.blk _ (.tail _ (.tail _ (.tail _ (.head _)))))
      go_wp2_with fail
      refine (agree_any p_s p_r S HSO.out _ (by exact (K65.out.blk _ (.tail _ (.tail _ (.tail _ (.tail _ (.tail _ (.tail _ (.tail _ (.head _)))))))))) (by exact (K65.out.blk _ (.tail _ (.tail _ (.tail _ (.tail _ (.tail _ (.tail _ (.head _)))))))))).mono ?_
      rintro e w80 ⟨rfl, hb⟩
      have K66 := Lib.hid (K65.out.step hb)
      clear K65
      clear hb
      (try clear q_y)
      (try clear f0_y)
      (try clear f1_y)
      (try clear f2_y)
      (try clear q_x)
      (try clear f0_x)
      (try clear f1_x)
      (try clear f2_x)
      (try clear q_b)
      (try clear f0_b)
      (try clear f1_b)
      (try clear f2_b)
      (try clear q_a)
      (try clear f0_a)
      (try clear f1_a)
      (try clear f2_a)
      (try clear q_z)
      (try clear f0_z)
      (try clear f1_z)
      (try clear f2_z)
      (try clear q_r)
      (try clear f0_r)
      (try clear f1_r)
      (try clear f2_r)
      (try clear q_k)
      (try clear f0_k)
      (try clear f1_k)
      (try clear f2_k)
      skip
      go_wp2_with fail
      go_ret
      exact ⟨rfl, K66.out.bel⟩
theorem SlotShows_walk (A0 : Option Addr) (n0 c0 : Nat) (l0 : List Cl) (A1 : Option Addr) (n1 c1 : Nat) (l1 : List UInt8) (x2 : Cl) (w : World) (h0 : CLs w w.heap.size A0 n0 l0) (m0 : n0 ≤ c0 ∧ c0 ≤ maxLen) (h1 : RB w w.heap.size A1 n1 l1) (m1 : n1 ≤ c1 ∧ c1 ≤ maxLen) (h2 : x2.ok) :
    Calls Tryz.prog 4 #[.slice A0 n0 c0, .slice A1 n1 c1, x2.val] w fun e w' => e = .returned (.bool true) ∧ Below w.heap.size w w' := by
  by_cases h : 100 < n0
  · exact shows_long A0 n0 c0 l0 A1 n1 c1 l1 x2 w h0 m0 h1 m1 h2 h
  by_cases h' : 300 < n1
  · exact shows_long2 A0 n0 c0 l0 A1 n1 c1 l1 x2 w h0 m0 h1 m1 h2 ⟨by omega, h'⟩
  · exact shows_ok A0 n0 c0 l0 A1 n1 c1 l1 x2 w h0 m0 h1 m1 h2 (by omega) (by omega)
end Go.Proofs.YtkcchidklcnnnaaGreat
