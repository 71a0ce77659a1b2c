/- Layer 17: the walk of the statement CodecPlain. No condition. -/
import Derived.Test.YtfipdaekfdbaeaaGreatCdV

namespace Go.Proofs.YtfipdaekfdbaeaaGreat
open Go.RowKit
set_option linter.unusedVariables false
set_option linter.unusedSimpArgs false
theorem below_draw2 (w : World) : Below w.heap.size w w.drew := (Below.refl _ _).drew
attribute [local irreducible] Cfg.val Cfg.cells rtB Rt zK sizeC AV bytC rawC zeroC turnC wayC encL decL tableL backL passesR cntP idB codM codB prtC plnL pcel zcel cU pntB tldB
attribute [local go_sem ↓] ex_ldC ex_ldR ex_ldP ex_ldPr
set_option maxRecDepth 100000 in
set_option maxHeartbeats 8000000 in
theorem plain_long (x0 : Int) (A1 : Option Addr) (n1 c1 : Nat) (l1 : List UInt8) (x2 : Cfg) (w : World) (h0 : (Lit.int .i64 x0).wf = true) (h1 : RB w w.heap.size A1 n1 l1) (m1 : n1 ≤ c1 ∧ c1 ≤ maxLen) (h2 : x2.ok) (h : n1 > 100) :
    Calls Tryz.prog 7 #[.int .i64 x0, .slice A1 n1 c1, x2.val] w fun e w' => e = .returned (.bool true) ∧ Below w.heap.size w w' := by
  have d1 : decide ((100 : Int) < (n1 : Int)) = true := decide_eq_true (by omega)
  have HC := Lib.hid h2
  have K0 := Lib.hid ((DK.start w).add h1 m1.1 m1.2)
  have HL1 := Lib.hid h1.len
  have HM1 := Lib.hid m1
  clear h2 h0 h1 m1 h
  go_enter Tryz.func7, Tryz.ntmps7
  go_wp2_with (first | (refine wpList_boxB rfl 24 (.tmp 2) rfl x2.cells (val_agg _) ?_; intro w1 p_c hc1 hb1 hx1; have K1 := Lib.hid (K0.out.boxed hb1 hc1 HC.out); clear hc1 hb1 hx1; have q_c := ld_cfg rt_cfg (K1.out.cf _ (.head _)).1 (K1.out.cf _ (.head _)).2))
  refine (calive_any _).mono ?_
  rintro e w2 ⟨rfl, hb⟩
  have K2 := Lib.hid (K1.out.step hb)
  clear K1
  clear hb
  (try clear q_c)
  (try clear f0_c)
  (try clear f1_c)
  (try clear f2_c)
  have q_c := ld_cfg rt_cfg (K2.out.cf _ (.head _)).1 (K2.out.cf _ (.head _)).2
  go_wp2_with fail
  go_ret
  exact ⟨rfl, K2.out.hw.bel⟩
set_option maxRecDepth 100000 in
set_option maxHeartbeats 8000000 in
theorem plain_neg (x0 : Int) (A1 : Option Addr) (n1 c1 : Nat) (l1 : List UInt8) (x2 : Cfg) (w : World) (h0 : (Lit.int .i64 x0).wf = true) (h1 : RB w w.heap.size A1 n1 l1) (m1 : n1 ≤ c1 ∧ c1 ≤ maxLen) (h2 : x2.ok) (h : n1 ≤ 100) (hp : x0 < 0) :
    Calls Tryz.prog 7 #[.int .i64 x0, .slice A1 n1 c1, x2.val] w fun e w' => e = .returned (.bool true) ∧ Below w.heap.size w w' := by
  have d1 : decide ((100 : Int) < (n1 : Int)) = false := decide_eq_false (by omega)
  have HE := Lib.hid (pln_no (p := x0) (n := l1) (by rw [h1.len]; omega))
  have d2 : decide (x0 < 0) = true := decide_eq_true hp
  have HC := Lib.hid h2
  have K0 := Lib.hid ((DK.start w).add h1 m1.1 m1.2)
  have HL1 := Lib.hid h1.len
  have HM1 := Lib.hid m1
  clear h2 h0 h1 m1 h hp
  go_enter Tryz.func7, Tryz.ntmps7
  go_wp2_with (first | (refine wpList_boxB rfl 24 (.tmp 2) rfl x2.cells (val_agg _) ?_; intro w1 p_c hc1 hb1 hx1; have K1 := Lib.hid (K0.out.boxed hb1 hc1 HC.out); clear hc1 hb1 hx1; have q_c := ld_cfg rt_cfg (K1.out.cf _ (.head _)).1 (K1.out.cf _ (.head _)).2))
  refine (calive_any _).mono ?_
  rintro e w2 ⟨rfl, hb⟩
  have K2 := Lib.hid (K1.out.step hb)
  clear K1
  clear hb
  (try clear q_c)
  (try clear f0_c)
  (try clear f1_c)
  (try clear f2_c)
  have q_c := ld_cfg rt_cfg (K2.out.cf _ (.head _)).1 (K2.out.cf _ (.head _)).2
  go_wp2_with fail
  refine (cplain_any x0 _ n1 c1 l1 _ (by exact (K2.out.hw.row _ (.head _)).1)).mono ?_
  rw [HE.out]
  (try dsimp only)
  rintro e w3 ⟨Aa, ca, rfl, ho, hb⟩
  have K3 := Lib.hid (K2.out.own hb ho)
  clear K2
  clear ho hb
  (try clear q_c)
  (try clear f0_c)
  (try clear f1_c)
  (try clear f2_c)
  have q_c := ld_cfg rt_cfg (K3.out.cf _ (.head _)).1 (K3.out.cf _ (.head _)).2
  go_wp2_with fail
  go_ret
  exact ⟨rfl, K3.out.hw.bel⟩
set_option maxRecDepth 100000 in
set_option maxHeartbeats 8000000 in
theorem plain_big (x0 : Int) (A1 : Option Addr) (n1 c1 : Nat) (l1 : List UInt8) (x2 : Cfg) (w : World) (h0 : (Lit.int .i64 x0).wf = true) (h1 : RB w w.heap.size A1 n1 l1) (m1 : n1 ≤ c1 ∧ c1 ≤ maxLen) (h2 : x2.ok) (h : n1 ≤ 100) (hp : 3 < x0) :
    Calls Tryz.prog 7 #[.int .i64 x0, .slice A1 n1 c1, x2.val] w fun e w' => e = .returned (.bool true) ∧ Below w.heap.size w w' := by
  have d1 : decide ((100 : Int) < (n1 : Int)) = false := decide_eq_false (by omega)
  have HE := Lib.hid (pln_no (p := x0) (n := l1) (by rw [h1.len]; omega))
  have d2 : decide (x0 < 0) = false := decide_eq_false (by omega)
  have d3 : decide (3 < x0) = true := decide_eq_true hp
  have HC := Lib.hid h2
  have K0 := Lib.hid ((DK.start w).add h1 m1.1 m1.2)
  have HL1 := Lib.hid h1.len
  have HM1 := Lib.hid m1
  clear h2 h0 h1 m1 h hp
  go_enter Tryz.func7, Tryz.ntmps7
  go_wp2_with (first | (refine wpList_boxB rfl 24 (.tmp 2) rfl x2.cells (val_agg _) ?_; intro w1 p_c hc1 hb1 hx1; have K1 := Lib.hid (K0.out.boxed hb1 hc1 HC.out); clear hc1 hb1 hx1; have q_c := ld_cfg rt_cfg (K1.out.cf _ (.head _)).1 (K1.out.cf _ (.head _)).2))
  refine (calive_any _).mono ?_
  rintro e w2 ⟨rfl, hb⟩
  have K2 := Lib.hid (K1.out.step hb)
  clear K1
  clear hb
  (try clear q_c)
  (try clear f0_c)
  (try clear f1_c)
  (try clear f2_c)
  have q_c := ld_cfg rt_cfg (K2.out.cf _ (.head _)).1 (K2.out.cf _ (.head _)).2
  go_wp2_with fail
  refine (cplain_any x0 _ n1 c1 l1 _ (by exact (K2.out.hw.row _ (.head _)).1)).mono ?_
  rw [HE.out]
  (try dsimp only)
  rintro e w3 ⟨Aa, ca, rfl, ho, hb⟩
  have K3 := Lib.hid (K2.out.own hb ho)
  clear K2
  clear ho hb
  (try clear q_c)
  (try clear f0_c)
  (try clear f1_c)
  (try clear f2_c)
  have q_c := ld_cfg rt_cfg (K3.out.cf _ (.head _)).1 (K3.out.cf _ (.head _)).2
  go_wp2_with fail
  go_ret
  exact ⟨rfl, K3.out.hw.bel⟩
set_option maxRecDepth 100000 in
set_option maxHeartbeats 8000000 in
theorem plain_19 (x0 : Int) (A1 : Option Addr) (n1 c1 : Nat) (l1 : List UInt8) (x2 : Cfg) (w : World) (h0 : (Lit.int .i64 x0).wf = true) (h1 : RB w w.heap.size A1 n1 l1) (m1 : n1 ≤ c1 ∧ c1 ≤ maxLen) (h2 : x2.ok) (h : n1 ≤ 100) (hp : 0 ≤ x0 ∧ x0 ≤ 3) (h19 : 19 < n1) :
    Calls Tryz.prog 7 #[.int .i64 x0, .slice A1 n1 c1, x2.val] w fun e w' => e = .returned (.bool true) ∧ Below w.heap.size w w' := by
  have d1 : decide ((100 : Int) < (n1 : Int)) = false := decide_eq_false (by omega)
  have HE := Lib.hid (pln_no (p := x0) (n := l1) (by rw [h1.len]; omega))
  have d2 : decide (x0 < 0) = false := decide_eq_false (by omega)
  have d3 : decide (3 < x0) = false := decide_eq_false (by omega)
  have d4 : decide ((19 : Int) < (n1 : Int)) = true := decide_eq_true (by omega)
  have HC := Lib.hid h2
  have K0 := Lib.hid ((DK.start w).add h1 m1.1 m1.2)
  have HL1 := Lib.hid h1.len
  have HM1 := Lib.hid m1
  clear h2 h0 h1 m1 h hp h19
  go_enter Tryz.func7, Tryz.ntmps7
  go_wp2_with (first | (refine wpList_boxB rfl 24 (.tmp 2) rfl x2.cells (val_agg _) ?_; intro w1 p_c hc1 hb1 hx1; have K1 := Lib.hid (K0.out.boxed hb1 hc1 HC.out); clear hc1 hb1 hx1; have q_c := ld_cfg rt_cfg (K1.out.cf _ (.head _)).1 (K1.out.cf _ (.head _)).2))
  refine (calive_any _).mono ?_
  rintro e w2 ⟨rfl, hb⟩
  have K2 := Lib.hid (K1.out.step hb)
  clear K1
  clear hb
  (try clear q_c)
  (try clear f0_c)
  (try clear f1_c)
  (try clear f2_c)
  have q_c := ld_cfg rt_cfg (K2.out.cf _ (.head _)).1 (K2.out.cf _ (.head _)).2
  go_wp2_with fail
  refine (cplain_any x0 _ n1 c1 l1 _ (by exact (K2.out.hw.row _ (.head _)).1)).mono ?_
  rw [HE.out]
  (try dsimp only)
  rintro e w3 ⟨Aa, ca, rfl, ho, hb⟩
  have K3 := Lib.hid (K2.out.own hb ho)
  clear K2
  clear ho hb
  (try clear q_c)
  (try clear f0_c)
  (try clear f1_c)
  (try clear f2_c)
  have q_c := ld_cfg rt_cfg (K3.out.cf _ (.head _)).1 (K3.out.cf _ (.head _)).2
  go_wp2_with fail
  go_ret
  exact ⟨rfl, K3.out.hw.bel⟩
set_option maxRecDepth 100000 in
set_option maxHeartbeats 8000000 in
theorem plain_no (x0 : Int) (A1 : Option Addr) (n1 c1 : Nat) (l1 : List UInt8) (x2 : Cfg) (w : World) (h0 : (Lit.int .i64 x0).wf = true) (h1 : RB w w.heap.size A1 n1 l1) (m1 : n1 ≤ c1 ∧ c1 ≤ maxLen) (h2 : x2.ok) (h : n1 ≤ 100) (hp : 0 ≤ x0 ∧ x0 ≤ 3) (h19 : n1 ≤ 19) (P : Int) (S M : List UInt8) (q : Int) (hB : codB x2 (idB x0 l1) = (⟨P, S, M⟩, q)) (hq : q ≠ 0) (hr : rtB x2 = false) :
    Calls Tryz.prog 7 #[.int .i64 x0, .slice A1 n1 c1, x2.val] w fun e w' => e = .returned (.bool true) ∧ Below w.heap.size w w' := by
  have d1 : decide ((100 : Int) < (n1 : Int)) = false := decide_eq_false (by omega)
  have d2 : decide (x0 < 0) = false := decide_eq_false (by omega)
  have d3 : decide (3 < x0) = false := decide_eq_false (by omega)
  have d4 : decide ((19 : Int) < (n1 : Int)) = false := decide_eq_false (by omega)
  have hE := pln_ok (p := x0) (n := l1) ⟨hp, by rw [h1.len]; omega⟩
  have hf := first_of (p := x0) (m := l1.length) hp.1 hp.2 (by rw [h1.len]; omega)
  have hg : (idB x0 l1).getD 0 0 = b8 (64 * x0 + l1.length) := by unfold idB; rfl
  have hd : (idB x0 l1).drop 1 = l1 := by unfold idB; rfl
  have hil : (idB x0 l1).length = n1 + 1 := by rw [idB_len, h1.len]
  obtain ⟨b0, hb0⟩ : ∃ b, b8 (64 * x0 + l1.length) = b := ⟨_, rfl⟩
  rw [hb0] at hf hg
  obtain ⟨X, hX⟩ : ∃ X, idB x0 l1 = X := ⟨_, rfl⟩
  rw [hX] at hE hg hd hil hB
  obtain ⟨z, hz⟩ : ∃ z, n1 + 1 = z := ⟨_, rfl⟩
  have ht : tldB b0 = (z : Int) := by rw [hf.2, h1.len]; omega
  rw [hz] at hil
  have HE := Lib.hid hE
  have HB := Lib.hid hB
  have HI := Lib.hid hil
  have HG := Lib.hid hg
  have HD := Lib.hid hd
  have HZ := Lib.hid hz
  have HPT := Lib.hid (fun u => cpoint_any b0 u)
  have HTL := Lib.hid (fun u => ctold_any b0 u)
  rw [hf.1] at HPT
  rw [ht] at HTL
  have e0 : ((z : Int) != (n1 : Int) + 1) = false := by rw [bne_eq_false_iff_eq]; omega
  have e1 : ((z : Int) != (z : Int)) = false := bne_self_eq_false _
  have e2 : (x0 != x0) = false := bne_self_eq_false _
  have i0 : 0 < z := by omega
  have I0 := Lib.hid i0
  have H19 : Hid (n1 ≤ 19) := Lib.hid h19
  have HR := Lib.hid (fun u => mright_any x2 h2 false hr u)
  have q0 : (q != 0) = true := bne_iff_ne.2 hq
  have HC := Lib.hid h2
  have K0 := Lib.hid ((DK.start w).add h1 m1.1 m1.2)
  have HL1 := Lib.hid h1.len
  have HM1 := Lib.hid m1
  clear h2 h0 h1 m1 h hp hE hf hg hd hil hb0 hX hz ht hB hr hq
  go_enter Tryz.func7, Tryz.ntmps7
  go_wp2_with (first | (refine wpList_boxB rfl 24 (.tmp 2) rfl x2.cells (val_agg _) ?_; intro w1 p_c hc1 hb1 hx1; have K1 := Lib.hid (K0.out.boxed hb1 hc1 HC.out); clear hc1 hb1 hx1; have q_c := ld_cfg rt_cfg (K1.out.cf _ (.head _)).1 (K1.out.cf _ (.head _)).2))
  refine (calive_any _).mono ?_
  rintro e w2 ⟨rfl, hb⟩
  have K2 := Lib.hid (K1.out.step hb)
  clear K1
  clear hb
  (try clear q_c)
  (try clear f0_c)
  (try clear f1_c)
  (try clear f2_c)
  have q_c := ld_cfg rt_cfg (K2.out.cf _ (.head _)).1 (K2.out.cf _ (.head _)).2
  go_wp2_with fail
  refine (cplain_any x0 _ n1 c1 l1 _ (by exact (K2.out.hw.row _ (.head _)).1)).mono ?_
  rw [HE.out]
  (try dsimp only)
  rw [HI.out]
  rintro e w3 ⟨Aa, ca, rfl, ho, hb⟩
  have K3 := Lib.hid (K2.out.own hb ho)
  clear K2
  clear ho hb
  (try clear q_c)
  (try clear f0_c)
  (try clear f1_c)
  (try clear f2_c)
  have q_c := ld_cfg rt_cfg (K3.out.cf _ (.head _)).1 (K3.out.cf _ (.head _)).2
  obtain ⟨ga, oa, rfl⟩ : ∃ ga oa, Aa = some ⟨ga, oa, none⟩ := (K3.out.hw.row _ (.head _)).1.some_ I0.out
  have HFI := Lib.hid (fun (u : World) (hu : RB u u.heap.size (some ⟨ga, oa, none⟩) z X) => first_cell hu I0.out)
  rw [HG.out] at HFI
  have fa := HFI.out _ (K3.out.hw.row _ (.head _)).1
  have hc1 := cut_1 (some ⟨ga, oa, none⟩) z ca I0.out
  go_wp2_with fail
  refine (HPT.out _).mono ?_
  rintro e u1 ⟨rfl, rfl⟩
  go_wp2_with fail
  refine (HTL.out _).mono ?_
  rintro e u2 ⟨rfl, rfl⟩
  go_wp2_with fail
  have hrs := (K3.out.hw.row _ (.head _)).1.rest I0.out (K3.out.hw.row _ (.head _)).2.1
  rw [HD.out] at hrs
  have HRS := Lib.hid hrs
  clear hrs
  have HMZ : Hid (z - 1 ≤ maxLen) := Lib.hid (Nat.le_trans (Nat.sub_le z 1) (by exact Nat.le_trans (K3.out.hw.row _ (.head _)).2.1 (K3.out.hw.row _ (.head _)).2.2))
  refine (al_same _ _ _ _ _ _ l1 l1 _ (by exact HRS.out) (by exact (K3.out.hw.row _ (.tail _ (.head _))).1) (by exact HMZ.out) (by exact Nat.le_trans (K3.out.hw.row _ (.tail _ (.head _))).2.1 (K3.out.hw.row _ (.tail _ (.head _))).2.2) true (beq_self_eq_true _)).mono ?_
  rintro e w4 ⟨rfl, hb⟩
  have K4 := Lib.hid (K3.out.step hb)
  clear K3
  clear hb fa hc1 HRS HMZ
  (try clear q_c)
  (try clear f0_c)
  (try clear f1_c)
  (try clear f2_c)
  have q_c := ld_cfg rt_cfg (K4.out.cf _ (.head _)).1 (K4.out.cf _ (.head _)).2
  go_wp2_with fail
  refine (cback_r x2 HC.out (some ⟨ga, oa, none⟩) z ca X _ (by exact (K4.out.hw.row _ (.head _)).1) (by exact (K4.out.hw.row _ (.head _)).2.1)).mono ?_
  rw [HB.out]
  (try dsimp only)
  rintro e w5 ⟨Aps, cps, Apt, cpt, rfl, ho1, ho2, hb⟩
  have K5 := Lib.hid (K4.out.two hb ho1 ho2)
  clear K4
  clear ho1 ho2 hb
  (try clear q_c)
  (try clear f0_c)
  (try clear f1_c)
  (try clear f2_c)
  have q_c := ld_cfg rt_cfg (K5.out.cf _ (.head _)).1 (K5.out.cf _ (.head _)).2
  go_wp2_with (first | (with_reducible show wpList _ _ _ (⟨some 9, .alloc _, _, _, _, _⟩ :: _) _ _; refine wpList_newB rt_prt rfl rfl ?_; intro w6 p_p hc1 hb1 hx1; have Vw6 := Lib.hid (And.intro hc1 (And.intro hb1 hx1)); clear hc1 hb1 hx1) | (refine wpList_stB rt_prt rfl (.tmp 9) (.tmp 78) rfl p_p 0 rfl zcel (pcel P Aps S.length cps Apt M.length cpt) rfl pcel_one (by exact pcel_len) (by exact Vw6.out.1) (by rw [zcel_len]; decide) ?_; intro w7 hc1 ho1 hs1; have K6 := Lib.hid (K5.out.pvar Vw6.out.2.1 Vw6.out.2.2 ho1 hc1 pcel_len); clear hc1 ho1 hs1 Vw6; have q_c := ld_cfg rt_cfg (K6.out.cf _ (.head _)).1 (K6.out.cf _ (.head _)).2))
  refine (HR.out _).mono ?_
  rintro e w8 ⟨rfl, hb⟩
  have K7 := Lib.hid (K6.out.step hb)
  clear K6
  clear hb
  (try clear q_c)
  (try clear f0_c)
  (try clear f1_c)
  (try clear f2_c)
  (try clear q_p)
  (try clear f0_p)
  (try clear f1_p)
  (try clear f2_p)
  have q_c := ld_cfg rt_cfg (K7.out.cf _ (.head _)).1 (K7.out.cf _ (.head _)).2
  go_wp2_with fail
  go_ret
  exact ⟨rfl, K7.out.hw.bel⟩
set_option maxRecDepth 100000 in
set_option maxHeartbeats 8000000 in
theorem plain_size (x0 : Int) (A1 : Option Addr) (n1 c1 : Nat) (l1 : List UInt8) (x2 : Cfg) (w : World) (h0 : (Lit.int .i64 x0).wf = true) (h1 : RB w w.heap.size A1 n1 l1) (m1 : n1 ≤ c1 ∧ c1 ≤ maxLen) (h2 : x2.ok) (h : n1 ≤ 100) (hp : 0 ≤ x0 ∧ x0 ≤ 3) (h19 : n1 ≤ 19) (P : Int) (S M : List UInt8) (q : Int) (hB : codB x2 (idB x0 l1) = (⟨P, S, M⟩, q)) (hq : q ≠ 0) (hr : rtB x2 = true) (hs : ¬ (n1 : Int) = x2.s + x2.n) :
    Calls Tryz.prog 7 #[.int .i64 x0, .slice A1 n1 c1, x2.val] w fun e w' => e = .returned (.bool true) ∧ Below w.heap.size w w' := by
  have d1 : decide ((100 : Int) < (n1 : Int)) = false := decide_eq_false (by omega)
  have d2 : decide (x0 < 0) = false := decide_eq_false (by omega)
  have d3 : decide (3 < x0) = false := decide_eq_false (by omega)
  have d4 : decide ((19 : Int) < (n1 : Int)) = false := decide_eq_false (by omega)
  have hE := pln_ok (p := x0) (n := l1) ⟨hp, by rw [h1.len]; omega⟩
  have hf := first_of (p := x0) (m := l1.length) hp.1 hp.2 (by rw [h1.len]; omega)
  have hg : (idB x0 l1).getD 0 0 = b8 (64 * x0 + l1.length) := by unfold idB; rfl
  have hd : (idB x0 l1).drop 1 = l1 := by unfold idB; rfl
  have hil : (idB x0 l1).length = n1 + 1 := by rw [idB_len, h1.len]
  obtain ⟨b0, hb0⟩ : ∃ b, b8 (64 * x0 + l1.length) = b := ⟨_, rfl⟩
  rw [hb0] at hf hg
  obtain ⟨X, hX⟩ : ∃ X, idB x0 l1 = X := ⟨_, rfl⟩
  rw [hX] at hE hg hd hil hB
  obtain ⟨z, hz⟩ : ∃ z, n1 + 1 = z := ⟨_, rfl⟩
  have ht : tldB b0 = (z : Int) := by rw [hf.2, h1.len]; omega
  rw [hz] at hil
  have HE := Lib.hid hE
  have HB := Lib.hid hB
  have HI := Lib.hid hil
  have HG := Lib.hid hg
  have HD := Lib.hid hd
  have HZ := Lib.hid hz
  have HPT := Lib.hid (fun u => cpoint_any b0 u)
  have HTL := Lib.hid (fun u => ctold_any b0 u)
  rw [hf.1] at HPT
  rw [ht] at HTL
  have e0 : ((z : Int) != (n1 : Int) + 1) = false := by rw [bne_eq_false_iff_eq]; omega
  have e1 : ((z : Int) != (z : Int)) = false := bne_self_eq_false _
  have e2 : (x0 != x0) = false := bne_self_eq_false _
  have i0 : 0 < z := by omega
  have I0 := Lib.hid i0
  have H19 : Hid (n1 ≤ 19) := Lib.hid h19
  have HR := Lib.hid (fun u => mright_any x2 h2 true hr u)
  have HS := Lib.hid (fun u => msize_any x2 h2 _ rfl u)
  rw [size_ok hr] at HS
  obtain ⟨y, hy⟩ : ∃ y, 1 + (x2.s + x2.n) = y := ⟨_, rfl⟩
  rw [hy] at HS
  have q0 : (q != 0) = true := bne_iff_ne.2 hq
  have d9 : ((z : Int) != y) = true := by rw [bne_iff_ne]; omega
  have HC := Lib.hid h2
  have K0 := Lib.hid ((DK.start w).add h1 m1.1 m1.2)
  have HL1 := Lib.hid h1.len
  have HM1 := Lib.hid m1
  clear h2 h0 h1 m1 h hp hE hf hg hd hil hb0 hX hz ht hB hr hq hs hy
  go_enter Tryz.func7, Tryz.ntmps7
  go_wp2_with (first | (refine wpList_boxB rfl 24 (.tmp 2) rfl x2.cells (val_agg _) ?_; intro w1 p_c hc1 hb1 hx1; have K1 := Lib.hid (K0.out.boxed hb1 hc1 HC.out); clear hc1 hb1 hx1; have q_c := ld_cfg rt_cfg (K1.out.cf _ (.head _)).1 (K1.out.cf _ (.head _)).2))
  refine (calive_any _).mono ?_
  rintro e w2 ⟨rfl, hb⟩
  have K2 := Lib.hid (K1.out.step hb)
  clear K1
  clear hb
  (try clear q_c)
  (try clear f0_c)
  (try clear f1_c)
  (try clear f2_c)
  have q_c := ld_cfg rt_cfg (K2.out.cf _ (.head _)).1 (K2.out.cf _ (.head _)).2
  go_wp2_with fail
  refine (cplain_any x0 _ n1 c1 l1 _ (by exact (K2.out.hw.row _ (.head _)).1)).mono ?_
  rw [HE.out]
  (try dsimp only)
  rw [HI.out]
  rintro e w3 ⟨Aa, ca, rfl, ho, hb⟩
  have K3 := Lib.hid (K2.out.own hb ho)
  clear K2
  clear ho hb
  (try clear q_c)
  (try clear f0_c)
  (try clear f1_c)
  (try clear f2_c)
  have q_c := ld_cfg rt_cfg (K3.out.cf _ (.head _)).1 (K3.out.cf _ (.head _)).2
  obtain ⟨ga, oa, rfl⟩ : ∃ ga oa, Aa = some ⟨ga, oa, none⟩ := (K3.out.hw.row _ (.head _)).1.some_ I0.out
  have HFI := Lib.hid (fun (u : World) (hu : RB u u.heap.size (some ⟨ga, oa, none⟩) z X) => first_cell hu I0.out)
  rw [HG.out] at HFI
  have fa := HFI.out _ (K3.out.hw.row _ (.head _)).1
  have hc1 := cut_1 (some ⟨ga, oa, none⟩) z ca I0.out
  go_wp2_with fail
  refine (HPT.out _).mono ?_
  rintro e u1 ⟨rfl, rfl⟩
  go_wp2_with fail
  refine (HTL.out _).mono ?_
  rintro e u2 ⟨rfl, rfl⟩
  go_wp2_with fail
  have hrs := (K3.out.hw.row _ (.head _)).1.rest I0.out (K3.out.hw.row _ (.head _)).2.1
  rw [HD.out] at hrs
  have HRS := Lib.hid hrs
  clear hrs
  have HMZ : Hid (z - 1 ≤ maxLen) := Lib.hid (Nat.le_trans (Nat.sub_le z 1) (by exact Nat.le_trans (K3.out.hw.row _ (.head _)).2.1 (K3.out.hw.row _ (.head _)).2.2))
  refine (al_same _ _ _ _ _ _ l1 l1 _ (by exact HRS.out) (by exact (K3.out.hw.row _ (.tail _ (.head _))).1) (by exact HMZ.out) (by exact Nat.le_trans (K3.out.hw.row _ (.tail _ (.head _))).2.1 (K3.out.hw.row _ (.tail _ (.head _))).2.2) true (beq_self_eq_true _)).mono ?_
  rintro e w4 ⟨rfl, hb⟩
  have K4 := Lib.hid (K3.out.step hb)
  clear K3
  clear hb fa hc1 HRS HMZ
  (try clear q_c)
  (try clear f0_c)
  (try clear f1_c)
  (try clear f2_c)
  have q_c := ld_cfg rt_cfg (K4.out.cf _ (.head _)).1 (K4.out.cf _ (.head _)).2
  go_wp2_with fail
  refine (cback_r x2 HC.out (some ⟨ga, oa, none⟩) z ca X _ (by exact (K4.out.hw.row _ (.head _)).1) (by exact (K4.out.hw.row _ (.head _)).2.1)).mono ?_
  rw [HB.out]
  (try dsimp only)
  rintro e w5 ⟨Aps, cps, Apt, cpt, rfl, ho1, ho2, hb⟩
  have K5 := Lib.hid (K4.out.two hb ho1 ho2)
  clear K4
  clear ho1 ho2 hb
  (try clear q_c)
  (try clear f0_c)
  (try clear f1_c)
  (try clear f2_c)
  have q_c := ld_cfg rt_cfg (K5.out.cf _ (.head _)).1 (K5.out.cf _ (.head _)).2
  go_wp2_with (first | (with_reducible show wpList _ _ _ (⟨some 9, .alloc _, _, _, _, _⟩ :: _) _ _; refine wpList_newB rt_prt rfl rfl ?_; intro w6 p_p hc1 hb1 hx1; have Vw6 := Lib.hid (And.intro hc1 (And.intro hb1 hx1)); clear hc1 hb1 hx1) | (refine wpList_stB rt_prt rfl (.tmp 9) (.tmp 78) rfl p_p 0 rfl zcel (pcel P Aps S.length cps Apt M.length cpt) rfl pcel_one (by exact pcel_len) (by exact Vw6.out.1) (by rw [zcel_len]; decide) ?_; intro w7 hc1 ho1 hs1; have K6 := Lib.hid (K5.out.pvar Vw6.out.2.1 Vw6.out.2.2 ho1 hc1 pcel_len); clear hc1 ho1 hs1 Vw6; have q_c := ld_cfg rt_cfg (K6.out.cf _ (.head _)).1 (K6.out.cf _ (.head _)).2))
  refine (HR.out _).mono ?_
  rintro e w8 ⟨rfl, hb⟩
  have K7 := Lib.hid (K6.out.step hb)
  clear K6
  clear hb
  (try clear q_c)
  (try clear f0_c)
  (try clear f1_c)
  (try clear f2_c)
  (try clear q_p)
  (try clear f0_p)
  (try clear f1_p)
  (try clear f2_p)
  have q_c := ld_cfg rt_cfg (K7.out.cf _ (.head _)).1 (K7.out.cf _ (.head _)).2
  go_wp2_with fail
  refine (HS.out _).mono ?_
  rintro e w9 ⟨rfl, hb⟩
  have K8 := Lib.hid (K7.out.step hb)
  clear K7
  clear hb
  (try clear q_c)
  (try clear f0_c)
  (try clear f1_c)
  (try clear f2_c)
  (try clear q_p)
  (try clear f0_p)
  (try clear f1_p)
  (try clear f2_p)
  have q_c := ld_cfg rt_cfg (K8.out.cf _ (.head _)).1 (K8.out.cf _ (.head _)).2
  go_wp2_with fail
  go_ret
  exact ⟨rfl, K8.out.hw.bel⟩
set_option maxRecDepth 100000 in
set_option maxHeartbeats 8000000 in
theorem plain_other (x0 : Int) (A1 : Option Addr) (n1 c1 : Nat) (l1 : List UInt8) (x2 : Cfg) (w : World) (h0 : (Lit.int .i64 x0).wf = true) (h1 : RB w w.heap.size A1 n1 l1) (m1 : n1 ≤ c1 ∧ c1 ≤ maxLen) (h2 : x2.ok) (h : n1 ≤ 100) (hp : 0 ≤ x0 ∧ x0 ≤ 3) (h19 : n1 ≤ 19) (S M : List UInt8) (hB : codB x2 (idB x0 l1) = (⟨x0, S, M⟩, 0)) (hr : rtB x2 = true) (hs : (n1 : Int) = x2.s + x2.n) (hm : ¬ x2.m = 0) :
    Calls Tryz.prog 7 #[.int .i64 x0, .slice A1 n1 c1, x2.val] w fun e w' => e = .returned (.bool true) ∧ Below w.heap.size w w' := by
  have d1 : decide ((100 : Int) < (n1 : Int)) = false := decide_eq_false (by omega)
  have d2 : decide (x0 < 0) = false := decide_eq_false (by omega)
  have d3 : decide (3 < x0) = false := decide_eq_false (by omega)
  have d4 : decide ((19 : Int) < (n1 : Int)) = false := decide_eq_false (by omega)
  have hE := pln_ok (p := x0) (n := l1) ⟨hp, by rw [h1.len]; omega⟩
  have hf := first_of (p := x0) (m := l1.length) hp.1 hp.2 (by rw [h1.len]; omega)
  have hg : (idB x0 l1).getD 0 0 = b8 (64 * x0 + l1.length) := by unfold idB; rfl
  have hd : (idB x0 l1).drop 1 = l1 := by unfold idB; rfl
  have hil : (idB x0 l1).length = n1 + 1 := by rw [idB_len, h1.len]
  obtain ⟨b0, hb0⟩ : ∃ b, b8 (64 * x0 + l1.length) = b := ⟨_, rfl⟩
  rw [hb0] at hf hg
  obtain ⟨X, hX⟩ : ∃ X, idB x0 l1 = X := ⟨_, rfl⟩
  rw [hX] at hE hg hd hil hB
  obtain ⟨z, hz⟩ : ∃ z, n1 + 1 = z := ⟨_, rfl⟩
  have ht : tldB b0 = (z : Int) := by rw [hf.2, h1.len]; omega
  rw [hz] at hil
  have HE := Lib.hid hE
  have HB := Lib.hid hB
  have HI := Lib.hid hil
  have HG := Lib.hid hg
  have HD := Lib.hid hd
  have HZ := Lib.hid hz
  have HPT := Lib.hid (fun u => cpoint_any b0 u)
  have HTL := Lib.hid (fun u => ctold_any b0 u)
  rw [hf.1] at HPT
  rw [ht] at HTL
  have e0 : ((z : Int) != (n1 : Int) + 1) = false := by rw [bne_eq_false_iff_eq]; omega
  have e1 : ((z : Int) != (z : Int)) = false := bne_self_eq_false _
  have e2 : (x0 != x0) = false := bne_self_eq_false _
  have i0 : 0 < z := by omega
  have I0 := Lib.hid i0
  have H19 : Hid (n1 ≤ 19) := Lib.hid h19
  have HR := Lib.hid (fun u => mright_any x2 h2 true hr u)
  have HS := Lib.hid (fun u => msize_any x2 h2 (z : Int) (by rw [size_ok hr]; omega) u)
  have dm : (x2.m != 0) = true := bne_iff_ne.2 hm
  have HC := Lib.hid h2
  have K0 := Lib.hid ((DK.start w).add h1 m1.1 m1.2)
  have HL1 := Lib.hid h1.len
  have HM1 := Lib.hid m1
  clear h2 h0 h1 m1 h hp hE hf hg hd hil hb0 hX hz ht hB hr hs hm
  go_enter Tryz.func7, Tryz.ntmps7
  go_wp2_with (first | (refine wpList_boxB rfl 24 (.tmp 2) rfl x2.cells (val_agg _) ?_; intro w1 p_c hc1 hb1 hx1; have K1 := Lib.hid (K0.out.boxed hb1 hc1 HC.out); clear hc1 hb1 hx1; have q_c := ld_cfg rt_cfg (K1.out.cf _ (.head _)).1 (K1.out.cf _ (.head _)).2))
  refine (calive_any _).mono ?_
  rintro e w2 ⟨rfl, hb⟩
  have K2 := Lib.hid (K1.out.step hb)
  clear K1
  clear hb
  (try clear q_c)
  (try clear f0_c)
  (try clear f1_c)
  (try clear f2_c)
  have q_c := ld_cfg rt_cfg (K2.out.cf _ (.head _)).1 (K2.out.cf _ (.head _)).2
  go_wp2_with fail
  refine (cplain_any x0 _ n1 c1 l1 _ (by exact (K2.out.hw.row _ (.head _)).1)).mono ?_
  rw [HE.out]
  (try dsimp only)
  rw [HI.out]
  rintro e w3 ⟨Aa, ca, rfl, ho, hb⟩
  have K3 := Lib.hid (K2.out.own hb ho)
  clear K2
  clear ho hb
  (try clear q_c)
  (try clear f0_c)
  (try clear f1_c)
  (try clear f2_c)
  have q_c := ld_cfg rt_cfg (K3.out.cf _ (.head _)).1 (K3.out.cf _ (.head _)).2
  obtain ⟨ga, oa, rfl⟩ : ∃ ga oa, Aa = some ⟨ga, oa, none⟩ := (K3.out.hw.row _ (.head _)).1.some_ I0.out
  have HFI := Lib.hid (fun (u : World) (hu : RB u u.heap.size (some ⟨ga, oa, none⟩) z X) => first_cell hu I0.out)
  rw [HG.out] at HFI
  have fa := HFI.out _ (K3.out.hw.row _ (.head _)).1
  have hc1 := cut_1 (some ⟨ga, oa, none⟩) z ca I0.out
  go_wp2_with fail
  refine (HPT.out _).mono ?_
  rintro e u1 ⟨rfl, rfl⟩
  go_wp2_with fail
  refine (HTL.out _).mono ?_
  rintro e u2 ⟨rfl, rfl⟩
  go_wp2_with fail
  have hrs := (K3.out.hw.row _ (.head _)).1.rest I0.out (K3.out.hw.row _ (.head _)).2.1
  rw [HD.out] at hrs
  have HRS := Lib.hid hrs
  clear hrs
  have HMZ : Hid (z - 1 ≤ maxLen) := Lib.hid (Nat.le_trans (Nat.sub_le z 1) (by exact Nat.le_trans (K3.out.hw.row _ (.head _)).2.1 (K3.out.hw.row _ (.head _)).2.2))
  refine (al_same _ _ _ _ _ _ l1 l1 _ (by exact HRS.out) (by exact (K3.out.hw.row _ (.tail _ (.head _))).1) (by exact HMZ.out) (by exact Nat.le_trans (K3.out.hw.row _ (.tail _ (.head _))).2.1 (K3.out.hw.row _ (.tail _ (.head _))).2.2) true (beq_self_eq_true _)).mono ?_
  rintro e w4 ⟨rfl, hb⟩
  have K4 := Lib.hid (K3.out.step hb)
  clear K3
  clear hb fa hc1 HRS HMZ
  (try clear q_c)
  (try clear f0_c)
  (try clear f1_c)
  (try clear f2_c)
  have q_c := ld_cfg rt_cfg (K4.out.cf _ (.head _)).1 (K4.out.cf _ (.head _)).2
  go_wp2_with fail
  refine (cback_r x2 HC.out (some ⟨ga, oa, none⟩) z ca X _ (by exact (K4.out.hw.row _ (.head _)).1) (by exact (K4.out.hw.row _ (.head _)).2.1)).mono ?_
  rw [HB.out]
  (try dsimp only)
  rintro e w5 ⟨Aps, cps, Apt, cpt, rfl, ho1, ho2, hb⟩
  have K5 := Lib.hid (K4.out.two hb ho1 ho2)
  clear K4
  clear ho1 ho2 hb
  (try clear q_c)
  (try clear f0_c)
  (try clear f1_c)
  (try clear f2_c)
  have q_c := ld_cfg rt_cfg (K5.out.cf _ (.head _)).1 (K5.out.cf _ (.head _)).2
  go_wp2_with (first | (with_reducible show wpList _ _ _ (⟨some 9, .alloc _, _, _, _, _⟩ :: _) _ _; refine wpList_newB rt_prt rfl rfl ?_; intro w6 p_p hc1 hb1 hx1; have Vw6 := Lib.hid (And.intro hc1 (And.intro hb1 hx1)); clear hc1 hb1 hx1) | (refine wpList_stB rt_prt rfl (.tmp 9) (.tmp 78) rfl p_p 0 rfl zcel (pcel x0 Aps S.length cps Apt M.length cpt) rfl pcel_one (by exact pcel_len) (by exact Vw6.out.1) (by rw [zcel_len]; decide) ?_; intro w7 hc1 ho1 hs1; have K6 := Lib.hid (K5.out.pvar Vw6.out.2.1 Vw6.out.2.2 ho1 hc1 pcel_len); clear hc1 ho1 hs1 Vw6; have q_c := ld_cfg rt_cfg (K6.out.cf _ (.head _)).1 (K6.out.cf _ (.head _)).2))
  refine (HR.out _).mono ?_
  rintro e w8 ⟨rfl, hb⟩
  have K7 := Lib.hid (K6.out.step hb)
  clear K6
  clear hb
  (try clear q_c)
  (try clear f0_c)
  (try clear f1_c)
  (try clear f2_c)
  (try clear q_p)
  (try clear f0_p)
  (try clear f1_p)
  (try clear f2_p)
  have q_c := ld_cfg rt_cfg (K7.out.cf _ (.head _)).1 (K7.out.cf _ (.head _)).2
  go_wp2_with fail
  refine (HS.out _).mono ?_
  rintro e w9 ⟨rfl, hb⟩
  have K8 := Lib.hid (K7.out.step hb)
  clear K7
  clear hb
  (try clear q_c)
  (try clear f0_c)
  (try clear f1_c)
  (try clear f2_c)
  (try clear q_p)
  (try clear f0_p)
  (try clear f1_p)
  (try clear f2_p)
  have q_c := ld_cfg rt_cfg (K8.out.cf _ (.head _)).1 (K8.out.cf _ (.head _)).2
  go_wp2_with fail
  (try clear q_c)
  (try clear f0_c)
  (try clear f1_c)
  (try clear f2_c)
  (try clear q_p)
  (try clear f0_p)
  (try clear f1_p)
  (try clear f2_p)
  have HD2 : Blk 24 w9.drew p_c x2.cells ∧ Blk 39 w9.drew p_p (pcel x0 Aps S.length cps Apt M.length cpt) := ⟨(K8.out.cf _ (.head _)).1, (K8.out.pt _ (.head _))⟩
  have xx : (x0 == x0) = true := beq_self_eq_true _
  have K9 := Lib.hid (K8.out.step (below_draw2 w9))
  clear K8
  refine wp_region_held_drew (S := fun w' => Blk 24 w' p_c x2.cells ∧ Blk 39 w' p_p (pcel x0 Aps S.length cps Apt M.length cpt)) (by kernel_rfl) HD2 (fun hHeld => ?_)
  (try dsimp only at hHeld)
  refine wpAnyH_take (i := 0) (v := ?v0_1) rfl (by kernel_rfl) (by kernel_rfl) (by kernel_rfl) (fun _ _ _ h => h) (Or.inl ⟨by rfl, ?hy0_1⟩) hHeld ?_
  case hy0_1 => (intro w hSw; (try dsimp only at hSw); have q0 := cf0 hSw.1; have q1 := cf1 hSw.1; have q2 := pc0 hSw.2; have q3 := pc1 hSw.2; have q4 := pc2 hSw.2; (try simp only [List.getElem_toArray, List.getElem_cons_zero, List.getElem_cons_succ]); go_simp <;> with_reducible rfl)
  (try simp only [Act.put, List.getElem_toArray, List.getElem_cons_zero, List.getElem_cons_succ, List.setIfInBounds_toArray, List.set_cons_zero, List.set_cons_succ])
  refine wpAnyH_take (i := 1) (v := ?v1_2) rfl (by kernel_rfl) (by kernel_rfl) (by kernel_rfl) (fun _ _ _ h => h) (Or.inl ⟨by rfl, ?hy1_2⟩) hHeld ?_
  case hy1_2 => (intro w hSw; (try dsimp only at hSw); have q0 := cf0 hSw.1; have q1 := cf1 hSw.1; have q2 := pc0 hSw.2; have q3 := pc1 hSw.2; have q4 := pc2 hSw.2; (try simp only [List.getElem_toArray, List.getElem_cons_zero, List.getElem_cons_succ]); go_simp <;> with_reducible rfl)
  (try simp only [Act.put, List.getElem_toArray, List.getElem_cons_zero, List.getElem_cons_succ, List.setIfInBounds_toArray, List.set_cons_zero, List.set_cons_succ])
  refine wpAnyH_take (i := 2) (v := ?v2_3) rfl (by kernel_rfl) (by kernel_rfl) (by kernel_rfl) (fun _ _ _ h => h) (Or.inl ⟨by rfl, ?hy2_3⟩) hHeld ?_
  case hy2_3 => (intro w hSw; (try dsimp only at hSw); have q0 := cf0 hSw.1; have q1 := cf1 hSw.1; have q2 := pc0 hSw.2; have q3 := pc1 hSw.2; have q4 := pc2 hSw.2; (try simp only [List.getElem_toArray, List.getElem_cons_zero, List.getElem_cons_succ]); go_simp <;> with_reducible rfl)
  (try simp only [Act.put, List.getElem_toArray, List.getElem_cons_zero, List.getElem_cons_succ, List.setIfInBounds_toArray, List.set_cons_zero, List.set_cons_succ])
  refine wpAnyH_take (i := 3) (v := ?v3_4) rfl (by kernel_rfl) (by kernel_rfl) (by kernel_rfl) (fun _ _ _ h => h) (Or.inl ⟨by rfl, ?hy3_4⟩) hHeld ?_
  case hy3_4 => (intro w hSw; (try dsimp only at hSw); have q0 := cf0 hSw.1; have q1 := cf1 hSw.1; have q2 := pc0 hSw.2; have q3 := pc1 hSw.2; have q4 := pc2 hSw.2; (try simp only [List.getElem_toArray, List.getElem_cons_zero, List.getElem_cons_succ]); go_simp <;> with_reducible rfl)
  (try simp only [Act.put, List.getElem_toArray, List.getElem_cons_zero, List.getElem_cons_succ, List.setIfInBounds_toArray, List.set_cons_zero, List.set_cons_succ])
  refine wpAnyH_take (i := 4) (v := ?v4_5) rfl (by kernel_rfl) (by kernel_rfl) (by kernel_rfl) (fun _ _ _ h => h) (Or.inl ⟨by rfl, ?hy4_5⟩) hHeld ?_
  case hy4_5 => (intro w hSw; (try dsimp only at hSw); have q0 := cf0 hSw.1; have q1 := cf1 hSw.1; have q2 := pc0 hSw.2; have q3 := pc1 hSw.2; have q4 := pc2 hSw.2; (try simp only [List.getElem_toArray, List.getElem_cons_zero, List.getElem_cons_succ]); go_simp <;> with_reducible rfl)
  (try simp only [Act.put, List.getElem_toArray, List.getElem_cons_zero, List.getElem_cons_succ, List.setIfInBounds_toArray, List.set_cons_zero, List.set_cons_succ])
  refine wpAnyH_take (i := 5) (v := ?v5_6) rfl (by kernel_rfl) (by kernel_rfl) (by kernel_rfl) (fun _ _ _ h => h) (Or.inl ⟨by rfl, ?hy5_6⟩) hHeld ?_
  case hy5_6 => (intro w hSw; (try dsimp only at hSw); have q0 := cf0 hSw.1; have q1 := cf1 hSw.1; have q2 := pc0 hSw.2; have q3 := pc1 hSw.2; have q4 := pc2 hSw.2; (try simp only [List.getElem_toArray, List.getElem_cons_zero, List.getElem_cons_succ]); go_simp <;> with_reducible rfl)
  (try simp only [Act.put, List.getElem_toArray, List.getElem_cons_zero, List.getElem_cons_succ, List.setIfInBounds_toArray, List.set_cons_zero, List.set_cons_succ])
  refine wpAnyH_take (i := 6) (v := ?v6_7) rfl (by kernel_rfl) (by kernel_rfl) (by kernel_rfl) (fun _ _ _ h => h) (Or.inl ⟨by rfl, ?hy6_7⟩) hHeld ?_
  case hy6_7 => (intro w hSw; (try dsimp only at hSw); have q0 := cf0 hSw.1; have q1 := cf1 hSw.1; have q2 := pc0 hSw.2; have q3 := pc1 hSw.2; have q4 := pc2 hSw.2; (try simp only [List.getElem_toArray, List.getElem_cons_zero, List.getElem_cons_succ]); go_simp <;> with_reducible rfl)
  (try simp only [Act.put, List.getElem_toArray, List.getElem_cons_zero, List.getElem_cons_succ, List.setIfInBounds_toArray, List.set_cons_zero, List.set_cons_succ])
  refine wpAnyH_take (i := 7) (v := ?v7_8) rfl (by kernel_rfl) (by kernel_rfl) (by kernel_rfl) (fun _ _ _ h => h) (Or.inl ⟨by rfl, ?hy7_8⟩) hHeld ?_
  case hy7_8 => (intro w hSw; (try dsimp only at hSw); have q0 := cf0 hSw.1; have q1 := cf1 hSw.1; have q2 := pc0 hSw.2; have q3 := pc1 hSw.2; have q4 := pc2 hSw.2; (try simp only [List.getElem_toArray, List.getElem_cons_zero, List.getElem_cons_succ]); go_simp <;> with_reducible rfl)
  (try simp only [Act.put, List.getElem_toArray, List.getElem_cons_zero, List.getElem_cons_succ, List.setIfInBounds_toArray, List.set_cons_zero, List.set_cons_succ])
  refine wpAnyH_take (i := 8) (v := ?v8_9) rfl (by kernel_rfl) (by kernel_rfl) (by kernel_rfl) (fun _ _ _ h => h) (Or.inl ⟨by rfl, ?hy8_9⟩) hHeld ?_
  case hy8_9 => (intro w hSw; (try dsimp only at hSw); have q0 := cf0 hSw.1; have q1 := cf1 hSw.1; have q2 := pc0 hSw.2; have q3 := pc1 hSw.2; have q4 := pc2 hSw.2; (try simp only [List.getElem_toArray, List.getElem_cons_zero, List.getElem_cons_succ]); go_simp <;> with_reducible rfl)
  (try simp only [Act.put, List.getElem_toArray, List.getElem_cons_zero, List.getElem_cons_succ, List.setIfInBounds_toArray, List.set_cons_zero, List.set_cons_succ])
  refine wpAnyH_take (i := 9) (v := ?v9_10) rfl (by kernel_rfl) (by kernel_rfl) (by kernel_rfl) (fun _ _ _ h => h) (Or.inl ⟨by rfl, ?hy9_10⟩) hHeld ?_
  case hy9_10 => (intro w hSw; (try dsimp only at hSw); have q0 := cf0 hSw.1; have q1 := cf1 hSw.1; have q2 := pc0 hSw.2; have q3 := pc1 hSw.2; have q4 := pc2 hSw.2; (try simp only [List.getElem_toArray, List.getElem_cons_zero, List.getElem_cons_succ]); go_simp <;> with_reducible rfl)
  (try simp only [Act.put, List.getElem_toArray, List.getElem_cons_zero, List.getElem_cons_succ, List.setIfInBounds_toArray, List.set_cons_zero, List.set_cons_succ])
  refine wpAnyH_take (i := 10) (v := ?v10_11) rfl (by kernel_rfl) (by kernel_rfl) (by kernel_rfl) (fun _ _ _ h => h) (Or.inl ⟨by rfl, ?hy10_11⟩) hHeld ?_
  case hy10_11 => (intro w hSw; (try dsimp only at hSw); have q0 := cf0 hSw.1; have q1 := cf1 hSw.1; have q2 := pc0 hSw.2; have q3 := pc1 hSw.2; have q4 := pc2 hSw.2; (try simp only [List.getElem_toArray, List.getElem_cons_zero, List.getElem_cons_succ]); go_simp <;> with_reducible rfl)
  (try simp only [Act.put, List.getElem_toArray, List.getElem_cons_zero, List.getElem_cons_succ, List.setIfInBounds_toArray, List.set_cons_zero, List.set_cons_succ])
  refine wpAnyH_take (i := 11) (v := ?v11_12) rfl (by kernel_rfl) (by kernel_rfl) (by kernel_rfl) (fun _ _ _ h => h) (Or.inl ⟨by rfl, ?hy11_12⟩) hHeld ?_
  case hy11_12 => (intro w hSw; (try dsimp only at hSw); have q0 := cf0 hSw.1; have q1 := cf1 hSw.1; have q2 := pc0 hSw.2; have q3 := pc1 hSw.2; have q4 := pc2 hSw.2; (try simp only [List.getElem_toArray, List.getElem_cons_zero, List.getElem_cons_succ]); go_simp <;> with_reducible rfl)
  (try simp only [Act.put, List.getElem_toArray, List.getElem_cons_zero, List.getElem_cons_succ, List.setIfInBounds_toArray, List.set_cons_zero, List.set_cons_succ])
  refine wpAnyH_take (i := 12) (v := ?v12_13) rfl (by kernel_rfl) (by kernel_rfl) (by kernel_rfl) (fun _ _ _ h => h) (Or.inl ⟨by rfl, ?hy12_13⟩) hHeld ?_
  case hy12_13 => (intro w hSw; (try dsimp only at hSw); have q0 := cf0 hSw.1; have q1 := cf1 hSw.1; have q2 := pc0 hSw.2; have q3 := pc1 hSw.2; have q4 := pc2 hSw.2; (try simp only [List.getElem_toArray, List.getElem_cons_zero, List.getElem_cons_succ]); go_simp <;> with_reducible rfl)
  (try simp only [Act.put, List.getElem_toArray, List.getElem_cons_zero, List.getElem_cons_succ, List.setIfInBounds_toArray, List.set_cons_zero, List.set_cons_succ])
  refine wpAnyH_take (i := 13) (v := undef) rfl (by kernel_rfl) (by kernel_rfl) (by kernel_rfl) (fun _ _ _ h => h) (Or.inr ⟨by rfl, rfl⟩) hHeld ?_
  (try simp only [Act.put, List.getElem_toArray, List.getElem_cons_zero, List.getElem_cons_succ, List.setIfInBounds_toArray, List.set_cons_zero, List.set_cons_succ])
  refine wpAnyH_take (i := 14) (v := undef) rfl (by kernel_rfl) (by kernel_rfl) (by kernel_rfl) (fun _ _ _ h => h) (Or.inr ⟨by rfl, rfl⟩) hHeld ?_
  (try simp only [Act.put, List.getElem_toArray, List.getElem_cons_zero, List.getElem_cons_succ, List.setIfInBounds_toArray, List.set_cons_zero, List.set_cons_succ])
  refine wpAnyH_take (i := 15) (v := undef) rfl (by kernel_rfl) (by kernel_rfl) (by kernel_rfl) (fun _ _ _ h => h) (Or.inr ⟨by rfl, rfl⟩) hHeld ?_
  (try simp only [Act.put, List.getElem_toArray, List.getElem_cons_zero, List.getElem_cons_succ, List.setIfInBounds_toArray, List.set_cons_zero, List.set_cons_succ])
  refine wpAnyH_take (i := 16) (v := undef) rfl (by kernel_rfl) (by kernel_rfl) (by kernel_rfl) (fun _ _ _ h => h) (Or.inr ⟨by rfl, rfl⟩) hHeld ?_
  (try simp only [Act.put, List.getElem_toArray, List.getElem_cons_zero, List.getElem_cons_succ, List.setIfInBounds_toArray, List.set_cons_zero, List.set_cons_succ])
  refine wpAnyH_take (i := 17) (v := undef) rfl (by kernel_rfl) (by kernel_rfl) (by kernel_rfl) (fun _ _ _ h => h) (Or.inr ⟨by rfl, rfl⟩) hHeld ?_
  (try simp only [Act.put, List.getElem_toArray, List.getElem_cons_zero, List.getElem_cons_succ, List.setIfInBounds_toArray, List.set_cons_zero, List.set_cons_succ])
  refine wpAnyH_take (i := 18) (v := undef) rfl (by kernel_rfl) (by kernel_rfl) (by kernel_rfl) (fun _ _ _ h => h) (Or.inr ⟨by rfl, rfl⟩) hHeld ?_
  (try simp only [Act.put, List.getElem_toArray, List.getElem_cons_zero, List.getElem_cons_succ, List.setIfInBounds_toArray, List.set_cons_zero, List.set_cons_succ])
  refine wpAnyH_take (i := 19) (v := undef) rfl (by kernel_rfl) (by kernel_rfl) (by kernel_rfl) (fun _ _ _ h => h) (Or.inr ⟨by rfl, rfl⟩) hHeld ?_
  (try simp only [Act.put, List.getElem_toArray, List.getElem_cons_zero, List.getElem_cons_succ, List.setIfInBounds_toArray, List.set_cons_zero, List.set_cons_succ])
  refine wpAnyH_take (i := 20) (v := undef) rfl (by kernel_rfl) (by kernel_rfl) (by kernel_rfl) (fun _ _ _ h => h) (Or.inr ⟨by rfl, rfl⟩) hHeld ?_
  (try simp only [Act.put, List.getElem_toArray, List.getElem_cons_zero, List.getElem_cons_succ, List.setIfInBounds_toArray, List.set_cons_zero, List.set_cons_succ])
  refine wpAnyH_take (i := 21) (v := undef) rfl (by kernel_rfl) (by kernel_rfl) (by kernel_rfl) (fun _ _ _ h => h) (Or.inr ⟨by rfl, rfl⟩) hHeld ?_
  (try simp only [Act.put, List.getElem_toArray, List.getElem_cons_zero, List.getElem_cons_succ, List.setIfInBounds_toArray, List.set_cons_zero, List.set_cons_succ])
  refine wpAnyH_take (i := 22) (v := undef) rfl (by kernel_rfl) (by kernel_rfl) (by kernel_rfl) (fun _ _ _ h => h) (Or.inr ⟨by rfl, rfl⟩) hHeld ?_
  (try simp only [Act.put, List.getElem_toArray, List.getElem_cons_zero, List.getElem_cons_succ, List.setIfInBounds_toArray, List.set_cons_zero, List.set_cons_succ])
  refine wpAnyH_take (i := 23) (v := undef) rfl (by kernel_rfl) (by kernel_rfl) (by kernel_rfl) (fun _ _ _ h => h) (Or.inr ⟨by rfl, rfl⟩) hHeld ?_
  (try simp only [Act.put, List.getElem_toArray, List.getElem_cons_zero, List.getElem_cons_succ, List.setIfInBounds_toArray, List.set_cons_zero, List.set_cons_succ])
  refine wpAnyH_take (i := 24) (v := undef) rfl (by kernel_rfl) (by kernel_rfl) (by kernel_rfl) (fun _ _ _ h => h) (Or.inr ⟨by rfl, rfl⟩) hHeld ?_
  (try simp only [Act.put, List.getElem_toArray, List.getElem_cons_zero, List.getElem_cons_succ, List.setIfInBounds_toArray, List.set_cons_zero, List.set_cons_succ])
  refine wpAnyH_take (i := 25) (v := undef) rfl (by kernel_rfl) (by kernel_rfl) (by kernel_rfl) (fun _ _ _ h => h) (Or.inr ⟨by rfl, rfl⟩) hHeld ?_
  (try simp only [Act.put, List.getElem_toArray, List.getElem_cons_zero, List.getElem_cons_succ, List.setIfInBounds_toArray, List.set_cons_zero, List.set_cons_succ])
  refine wpAnyH_take (i := 26) (v := undef) rfl (by kernel_rfl) (by kernel_rfl) (by kernel_rfl) (fun _ _ _ h => h) (Or.inr ⟨by rfl, rfl⟩) hHeld ?_
  (try simp only [Act.put, List.getElem_toArray, List.getElem_cons_zero, List.getElem_cons_succ, List.setIfInBounds_toArray, List.set_cons_zero, List.set_cons_succ])
  refine wpAnyH_take (i := 27) (v := undef) rfl (by kernel_rfl) (by kernel_rfl) (by kernel_rfl) (fun _ _ _ h => h) (Or.inr ⟨by rfl, rfl⟩) hHeld ?_
  (try simp only [Act.put, List.getElem_toArray, List.getElem_cons_zero, List.getElem_cons_succ, List.setIfInBounds_toArray, List.set_cons_zero, List.set_cons_succ])
  refine wpAnyH_take (i := 28) (v := undef) rfl (by kernel_rfl) (by kernel_rfl) (by kernel_rfl) (fun _ _ _ h => h) (Or.inr ⟨by rfl, rfl⟩) hHeld ?_
  (try simp only [Act.put, List.getElem_toArray, List.getElem_cons_zero, List.getElem_cons_succ, List.setIfInBounds_toArray, List.set_cons_zero, List.set_cons_succ])
  refine wpAnyH_take (i := 29) (v := ?v29_30) rfl (by kernel_rfl) (by kernel_rfl) (by kernel_rfl) (fun _ _ _ h => h) (Or.inl ⟨by rfl, ?hy29_30⟩) hHeld ?_
  case hy29_30 => (intro w hSw; (try dsimp only at hSw); have q0 := cf0 hSw.1; have q1 := cf1 hSw.1; have q2 := pc0 hSw.2; have q3 := pc1 hSw.2; have q4 := pc2 hSw.2; (try simp only [List.getElem_toArray, List.getElem_cons_zero, List.getElem_cons_succ]); go_simp <;> with_reducible rfl)
  (try simp only [Act.put, List.getElem_toArray, List.getElem_cons_zero, List.getElem_cons_succ, List.setIfInBounds_toArray, List.set_cons_zero, List.set_cons_succ])
  refine wpAnyH_take (i := 30) (v := ?v30_31) rfl (by kernel_rfl) (by kernel_rfl) (by kernel_rfl) (fun _ _ _ h => h) (Or.inl ⟨by rfl, ?hy30_31⟩) hHeld ?_
  case hy30_31 => (intro w hSw; (try dsimp only at hSw); have q0 := cf0 hSw.1; have q1 := cf1 hSw.1; have q2 := pc0 hSw.2; have q3 := pc1 hSw.2; have q4 := pc2 hSw.2; (try simp only [List.getElem_toArray, List.getElem_cons_zero, List.getElem_cons_succ]); go_simp <;> with_reducible rfl)
  (try simp only [Act.put, List.getElem_toArray, List.getElem_cons_zero, List.getElem_cons_succ, List.setIfInBounds_toArray, List.set_cons_zero, List.set_cons_succ])
  refine wpAnyH_take (i := 31) (v := ?v31_32) rfl (by kernel_rfl) (by kernel_rfl) (by kernel_rfl) (fun _ _ _ h => h) (Or.inl ⟨by rfl, ?hy31_32⟩) hHeld ?_
  case hy31_32 => (intro w hSw; (try dsimp only at hSw); have q0 := cf0 hSw.1; have q1 := cf1 hSw.1; have q2 := pc0 hSw.2; have q3 := pc1 hSw.2; have q4 := pc2 hSw.2; (try simp only [List.getElem_toArray, List.getElem_cons_zero, List.getElem_cons_succ]); go_simp <;> with_reducible rfl)
  (try simp only [Act.put, List.getElem_toArray, List.getElem_cons_zero, List.getElem_cons_succ, List.setIfInBounds_toArray, List.set_cons_zero, List.set_cons_succ])
  refine wpAnyH_done (by kernel_rfl) ?_ _
  clear hHeld HD2
  go_wp2_with fail
  go_ret
  exact ⟨rfl, K9.out.hw.bel⟩
set_option maxRecDepth 100000 in
set_option maxHeartbeats 8000000 in
theorem plain_plain (x0 : Int) (A1 : Option Addr) (n1 c1 : Nat) (l1 : List UInt8) (x2 : Cfg) (w : World) (h0 : (Lit.int .i64 x0).wf = true) (h1 : RB w w.heap.size A1 n1 l1) (m1 : n1 ≤ c1 ∧ c1 ≤ maxLen) (h2 : x2.ok) (h : n1 ≤ 100) (hp : 0 ≤ x0 ∧ x0 ≤ 3) (h19 : n1 ≤ 19) (S M : List UInt8) (hB : codB x2 (idB x0 l1) = (⟨x0, S, M⟩, 0)) (hr : rtB x2 = true) (hs : (n1 : Int) = x2.s + x2.n) (hm : x2.m = 0) (k : Nat) (hk : x2.s = (k : Int)) (hkn : k ≤ n1) (hS : S = l1.take k) (hM : M = l1.drop k) :
    Calls Tryz.prog 7 #[.int .i64 x0, .slice A1 n1 c1, x2.val] w fun e w' => e = .returned (.bool true) ∧ Below w.heap.size w w' := by
  have d1 : decide ((100 : Int) < (n1 : Int)) = false := decide_eq_false (by omega)
  have d2 : decide (x0 < 0) = false := decide_eq_false (by omega)
  have d3 : decide (3 < x0) = false := decide_eq_false (by omega)
  have d4 : decide ((19 : Int) < (n1 : Int)) = false := decide_eq_false (by omega)
  have hE := pln_ok (p := x0) (n := l1) ⟨hp, by rw [h1.len]; omega⟩
  have hf := first_of (p := x0) (m := l1.length) hp.1 hp.2 (by rw [h1.len]; omega)
  have hg : (idB x0 l1).getD 0 0 = b8 (64 * x0 + l1.length) := by unfold idB; rfl
  have hd : (idB x0 l1).drop 1 = l1 := by unfold idB; rfl
  have hil : (idB x0 l1).length = n1 + 1 := by rw [idB_len, h1.len]
  obtain ⟨b0, hb0⟩ : ∃ b, b8 (64 * x0 + l1.length) = b := ⟨_, rfl⟩
  rw [hb0] at hf hg
  obtain ⟨X, hX⟩ : ∃ X, idB x0 l1 = X := ⟨_, rfl⟩
  rw [hX] at hE hg hd hil hB
  obtain ⟨z, hz⟩ : ∃ z, n1 + 1 = z := ⟨_, rfl⟩
  have ht : tldB b0 = (z : Int) := by rw [hf.2, h1.len]; omega
  rw [hz] at hil
  have HE := Lib.hid hE
  have HB := Lib.hid hB
  have HI := Lib.hid hil
  have HG := Lib.hid hg
  have HD := Lib.hid hd
  have HZ := Lib.hid hz
  have HPT := Lib.hid (fun u => cpoint_any b0 u)
  have HTL := Lib.hid (fun u => ctold_any b0 u)
  rw [hf.1] at HPT
  rw [ht] at HTL
  have e0 : ((z : Int) != (n1 : Int) + 1) = false := by rw [bne_eq_false_iff_eq]; omega
  have e1 : ((z : Int) != (z : Int)) = false := bne_self_eq_false _
  have e2 : (x0 != x0) = false := bne_self_eq_false _
  have i0 : 0 < z := by omega
  have I0 := Lib.hid i0
  have H19 : Hid (n1 ≤ 19) := Lib.hid h19
  have HR := Lib.hid (fun u => mright_any x2 h2 true hr u)
  have HS := Lib.hid (fun u => msize_any x2 h2 (z : Int) (by rw [size_ok hr]; omega) u)
  have dm : (x2.m != 0) = false := by rw [hm]; rfl
  have HKS := Lib.hid hk
  have HKN := Lib.hid hkn
  have hcap := m1.1
  have HCA := Lib.hid (fun (u : World) (hu : RB u u.heap.size A1 n1 l1) => (hu.part (i := 0) (j := k) (by omega) hkn hcap : RB u u.heap.size (cutA A1 c1 0) (k - 0) ((l1.take k).drop 0)))
  have HCB := Lib.hid (fun (u : World) (hu : RB u u.heap.size A1 n1 l1) => (hu.part (i := k) (j := n1) hkn (Nat.le_refl _) hcap : RB u u.heap.size (cutA A1 c1 k) (n1 - k) ((l1.take n1).drop k)))
  rw [Nat.sub_zero, List.drop_zero, ← hS] at HCA
  rw [List.take_of_length_le (by rw [h1.len]; exact Nat.le_refl _), ← hM] at HCB
  have HC := Lib.hid h2
  have K0 := Lib.hid ((DK.start w).add h1 m1.1 m1.2)
  have HL1 := Lib.hid h1.len
  have HM1 := Lib.hid m1
  clear h2 h0 h1 m1 h hp hE hf hg hd hil hb0 hX hz ht hB hr hs hm hk hkn hS hM hcap
  go_enter Tryz.func7, Tryz.ntmps7
  go_wp2_with (first | (refine wpList_boxB rfl 24 (.tmp 2) rfl x2.cells (val_agg _) ?_; intro w1 p_c hc1 hb1 hx1; have K1 := Lib.hid (K0.out.boxed hb1 hc1 HC.out); clear hc1 hb1 hx1; have q_c := ld_cfg rt_cfg (K1.out.cf _ (.head _)).1 (K1.out.cf _ (.head _)).2))
  refine (calive_any _).mono ?_
  rintro e w2 ⟨rfl, hb⟩
  have K2 := Lib.hid (K1.out.step hb)
  clear K1
  clear hb
  (try clear q_c)
  (try clear f0_c)
  (try clear f1_c)
  (try clear f2_c)
  have q_c := ld_cfg rt_cfg (K2.out.cf _ (.head _)).1 (K2.out.cf _ (.head _)).2
  go_wp2_with fail
  refine (cplain_any x0 _ n1 c1 l1 _ (by exact (K2.out.hw.row _ (.head _)).1)).mono ?_
  rw [HE.out]
  (try dsimp only)
  rw [HI.out]
  rintro e w3 ⟨Aa, ca, rfl, ho, hb⟩
  have K3 := Lib.hid (K2.out.own hb ho)
  clear K2
  clear ho hb
  (try clear q_c)
  (try clear f0_c)
  (try clear f1_c)
  (try clear f2_c)
  have q_c := ld_cfg rt_cfg (K3.out.cf _ (.head _)).1 (K3.out.cf _ (.head _)).2
  obtain ⟨ga, oa, rfl⟩ : ∃ ga oa, Aa = some ⟨ga, oa, none⟩ := (K3.out.hw.row _ (.head _)).1.some_ I0.out
  have HFI := Lib.hid (fun (u : World) (hu : RB u u.heap.size (some ⟨ga, oa, none⟩) z X) => first_cell hu I0.out)
  rw [HG.out] at HFI
  have fa := HFI.out _ (K3.out.hw.row _ (.head _)).1
  have hc1 := cut_1 (some ⟨ga, oa, none⟩) z ca I0.out
  go_wp2_with fail
  refine (HPT.out _).mono ?_
  rintro e u1 ⟨rfl, rfl⟩
  go_wp2_with fail
  refine (HTL.out _).mono ?_
  rintro e u2 ⟨rfl, rfl⟩
  go_wp2_with fail
  have hrs := (K3.out.hw.row _ (.head _)).1.rest I0.out (K3.out.hw.row _ (.head _)).2.1
  rw [HD.out] at hrs
  have HRS := Lib.hid hrs
  clear hrs
  have HMZ : Hid (z - 1 ≤ maxLen) := Lib.hid (Nat.le_trans (Nat.sub_le z 1) (by exact Nat.le_trans (K3.out.hw.row _ (.head _)).2.1 (K3.out.hw.row _ (.head _)).2.2))
  refine (al_same _ _ _ _ _ _ l1 l1 _ (by exact HRS.out) (by exact (K3.out.hw.row _ (.tail _ (.head _))).1) (by exact HMZ.out) (by exact Nat.le_trans (K3.out.hw.row _ (.tail _ (.head _))).2.1 (K3.out.hw.row _ (.tail _ (.head _))).2.2) true (beq_self_eq_true _)).mono ?_
  rintro e w4 ⟨rfl, hb⟩
  have K4 := Lib.hid (K3.out.step hb)
  clear K3
  clear hb fa hc1 HRS HMZ
  (try clear q_c)
  (try clear f0_c)
  (try clear f1_c)
  (try clear f2_c)
  have q_c := ld_cfg rt_cfg (K4.out.cf _ (.head _)).1 (K4.out.cf _ (.head _)).2
  go_wp2_with fail
  refine (cback_r x2 HC.out (some ⟨ga, oa, none⟩) z ca X _ (by exact (K4.out.hw.row _ (.head _)).1) (by exact (K4.out.hw.row _ (.head _)).2.1)).mono ?_
  rw [HB.out]
  (try dsimp only)
  rintro e w5 ⟨Aps, cps, Apt, cpt, rfl, ho1, ho2, hb⟩
  have K5 := Lib.hid (K4.out.two hb ho1 ho2)
  clear K4
  clear ho1 ho2 hb
  (try clear q_c)
  (try clear f0_c)
  (try clear f1_c)
  (try clear f2_c)
  have q_c := ld_cfg rt_cfg (K5.out.cf _ (.head _)).1 (K5.out.cf _ (.head _)).2
  go_wp2_with (first | (with_reducible show wpList _ _ _ (⟨some 9, .alloc _, _, _, _, _⟩ :: _) _ _; refine wpList_newB rt_prt rfl rfl ?_; intro w6 p_p hc1 hb1 hx1; have Vw6 := Lib.hid (And.intro hc1 (And.intro hb1 hx1)); clear hc1 hb1 hx1) | (refine wpList_stB rt_prt rfl (.tmp 9) (.tmp 78) rfl p_p 0 rfl zcel (pcel x0 Aps S.length cps Apt M.length cpt) rfl pcel_one (by exact pcel_len) (by exact Vw6.out.1) (by rw [zcel_len]; decide) ?_; intro w7 hc1 ho1 hs1; have K6 := Lib.hid (K5.out.pvar Vw6.out.2.1 Vw6.out.2.2 ho1 hc1 pcel_len); clear hc1 ho1 hs1 Vw6; have q_c := ld_cfg rt_cfg (K6.out.cf _ (.head _)).1 (K6.out.cf _ (.head _)).2))
  refine (HR.out _).mono ?_
  rintro e w8 ⟨rfl, hb⟩
  have K7 := Lib.hid (K6.out.step hb)
  clear K6
  clear hb
  (try clear q_c)
  (try clear f0_c)
  (try clear f1_c)
  (try clear f2_c)
  (try clear q_p)
  (try clear f0_p)
  (try clear f1_p)
  (try clear f2_p)
  have q_c := ld_cfg rt_cfg (K7.out.cf _ (.head _)).1 (K7.out.cf _ (.head _)).2
  go_wp2_with fail
  refine (HS.out _).mono ?_
  rintro e w9 ⟨rfl, hb⟩
  have K8 := Lib.hid (K7.out.step hb)
  clear K7
  clear hb
  (try clear q_c)
  (try clear f0_c)
  (try clear f1_c)
  (try clear f2_c)
  (try clear q_p)
  (try clear f0_p)
  (try clear f1_p)
  (try clear f2_p)
  have q_c := ld_cfg rt_cfg (K8.out.cf _ (.head _)).1 (K8.out.cf _ (.head _)).2
  go_wp2_with fail
  (try clear q_c)
  (try clear f0_c)
  (try clear f1_c)
  (try clear f2_c)
  (try clear q_p)
  (try clear f0_p)
  (try clear f1_p)
  (try clear f2_p)
  have HD2 : Blk 24 w9.drew p_c x2.cells ∧ Blk 39 w9.drew p_p (pcel x0 Aps S.length cps Apt M.length cpt) := ⟨(K8.out.cf _ (.head _)).1, (K8.out.pt _ (.head _))⟩
  have hch := cut_h A1 n1 c1 k (by have := HKN.out; have := HM1.out; omega)
  have hcl := cut_l A1 n1 c1 k (by have := HKN.out; omega)
  have HCH := Lib.hid hch
  have HCL := Lib.hid hcl
  clear hch hcl
  have xx : (x0 == x0) = true := beq_self_eq_true _
  have K9 := Lib.hid (K8.out.step (below_draw2 w9))
  clear K8
  refine wp_region_held_drew (S := fun w' => Blk 24 w' p_c x2.cells ∧ Blk 39 w' p_p (pcel x0 Aps S.length cps Apt M.length cpt)) (by kernel_rfl) HD2 (fun hHeld => ?_)
  (try dsimp only at hHeld)
  refine wpAnyH_take (i := 0) (v := ?v0_33) rfl (by kernel_rfl) (by kernel_rfl) (by kernel_rfl) (fun _ _ _ h => h) (Or.inl ⟨by rfl, ?hy0_33⟩) hHeld ?_
  case hy0_33 => (intro w hSw; (try dsimp only at hSw); have q0 := cf0 hSw.1; have q1 := cf1 hSw.1; have q2 := pc0 hSw.2; have q3 := pc1 hSw.2; have q4 := pc2 hSw.2; rw [HKS.out] at q1; have q5 := HCH.out w; have q6 := HCL.out w; have q7 : (k : Int) ≤ (c1 : Int) := (by have := HKN.out; have := HM1.out; omega); have q8 : (k : Int) ≤ (n1 : Int) := (by have := HKN.out; omega); (try simp only [List.getElem_toArray, List.getElem_cons_zero, List.getElem_cons_succ]); go_simp <;> with_reducible rfl)
  (try simp only [Act.put, List.getElem_toArray, List.getElem_cons_zero, List.getElem_cons_succ, List.setIfInBounds_toArray, List.set_cons_zero, List.set_cons_succ])
  refine wpAnyH_take (i := 1) (v := ?v1_34) rfl (by kernel_rfl) (by kernel_rfl) (by kernel_rfl) (fun _ _ _ h => h) (Or.inl ⟨by rfl, ?hy1_34⟩) hHeld ?_
  case hy1_34 => (intro w hSw; (try dsimp only at hSw); have q0 := cf0 hSw.1; have q1 := cf1 hSw.1; have q2 := pc0 hSw.2; have q3 := pc1 hSw.2; have q4 := pc2 hSw.2; rw [HKS.out] at q1; have q5 := HCH.out w; have q6 := HCL.out w; have q7 : (k : Int) ≤ (c1 : Int) := (by have := HKN.out; have := HM1.out; omega); have q8 : (k : Int) ≤ (n1 : Int) := (by have := HKN.out; omega); (try simp only [List.getElem_toArray, List.getElem_cons_zero, List.getElem_cons_succ]); go_simp <;> with_reducible rfl)
  (try simp only [Act.put, List.getElem_toArray, List.getElem_cons_zero, List.getElem_cons_succ, List.setIfInBounds_toArray, List.set_cons_zero, List.set_cons_succ])
  refine wpAnyH_take (i := 2) (v := ?v2_35) rfl (by kernel_rfl) (by kernel_rfl) (by kernel_rfl) (fun _ _ _ h => h) (Or.inl ⟨by rfl, ?hy2_35⟩) hHeld ?_
  case hy2_35 => (intro w hSw; (try dsimp only at hSw); have q0 := cf0 hSw.1; have q1 := cf1 hSw.1; have q2 := pc0 hSw.2; have q3 := pc1 hSw.2; have q4 := pc2 hSw.2; rw [HKS.out] at q1; have q5 := HCH.out w; have q6 := HCL.out w; have q7 : (k : Int) ≤ (c1 : Int) := (by have := HKN.out; have := HM1.out; omega); have q8 : (k : Int) ≤ (n1 : Int) := (by have := HKN.out; omega); (try simp only [List.getElem_toArray, List.getElem_cons_zero, List.getElem_cons_succ]); go_simp <;> with_reducible rfl)
  (try simp only [Act.put, List.getElem_toArray, List.getElem_cons_zero, List.getElem_cons_succ, List.setIfInBounds_toArray, List.set_cons_zero, List.set_cons_succ])
  refine wpAnyH_take (i := 3) (v := ?v3_36) rfl (by kernel_rfl) (by kernel_rfl) (by kernel_rfl) (fun _ _ _ h => h) (Or.inl ⟨by rfl, ?hy3_36⟩) hHeld ?_
  case hy3_36 => (intro w hSw; (try dsimp only at hSw); have q0 := cf0 hSw.1; have q1 := cf1 hSw.1; have q2 := pc0 hSw.2; have q3 := pc1 hSw.2; have q4 := pc2 hSw.2; rw [HKS.out] at q1; have q5 := HCH.out w; have q6 := HCL.out w; have q7 : (k : Int) ≤ (c1 : Int) := (by have := HKN.out; have := HM1.out; omega); have q8 : (k : Int) ≤ (n1 : Int) := (by have := HKN.out; omega); (try simp only [List.getElem_toArray, List.getElem_cons_zero, List.getElem_cons_succ]); go_simp <;> with_reducible rfl)
  (try simp only [Act.put, List.getElem_toArray, List.getElem_cons_zero, List.getElem_cons_succ, List.setIfInBounds_toArray, List.set_cons_zero, List.set_cons_succ])
  refine wpAnyH_take (i := 4) (v := ?v4_37) rfl (by kernel_rfl) (by kernel_rfl) (by kernel_rfl) (fun _ _ _ h => h) (Or.inl ⟨by rfl, ?hy4_37⟩) hHeld ?_
  case hy4_37 => (intro w hSw; (try dsimp only at hSw); have q0 := cf0 hSw.1; have q1 := cf1 hSw.1; have q2 := pc0 hSw.2; have q3 := pc1 hSw.2; have q4 := pc2 hSw.2; rw [HKS.out] at q1; have q5 := HCH.out w; have q6 := HCL.out w; have q7 : (k : Int) ≤ (c1 : Int) := (by have := HKN.out; have := HM1.out; omega); have q8 : (k : Int) ≤ (n1 : Int) := (by have := HKN.out; omega); (try simp only [List.getElem_toArray, List.getElem_cons_zero, List.getElem_cons_succ]); go_simp <;> with_reducible rfl)
  (try simp only [Act.put, List.getElem_toArray, List.getElem_cons_zero, List.getElem_cons_succ, List.setIfInBounds_toArray, List.set_cons_zero, List.set_cons_succ])
  refine wpAnyH_take (i := 5) (v := ?v5_38) rfl (by kernel_rfl) (by kernel_rfl) (by kernel_rfl) (fun _ _ _ h => h) (Or.inl ⟨by rfl, ?hy5_38⟩) hHeld ?_
  case hy5_38 => (intro w hSw; (try dsimp only at hSw); have q0 := cf0 hSw.1; have q1 := cf1 hSw.1; have q2 := pc0 hSw.2; have q3 := pc1 hSw.2; have q4 := pc2 hSw.2; rw [HKS.out] at q1; have q5 := HCH.out w; have q6 := HCL.out w; have q7 : (k : Int) ≤ (c1 : Int) := (by have := HKN.out; have := HM1.out; omega); have q8 : (k : Int) ≤ (n1 : Int) := (by have := HKN.out; omega); (try simp only [List.getElem_toArray, List.getElem_cons_zero, List.getElem_cons_succ]); go_simp <;> with_reducible rfl)
  (try simp only [Act.put, List.getElem_toArray, List.getElem_cons_zero, List.getElem_cons_succ, List.setIfInBounds_toArray, List.set_cons_zero, List.set_cons_succ])
  refine wpAnyH_take (i := 6) (v := ?v6_39) rfl (by kernel_rfl) (by kernel_rfl) (by kernel_rfl) (fun _ _ _ h => h) (Or.inl ⟨by rfl, ?hy6_39⟩) hHeld ?_
  case hy6_39 => (intro w hSw; (try dsimp only at hSw); have q0 := cf0 hSw.1; have q1 := cf1 hSw.1; have q2 := pc0 hSw.2; have q3 := pc1 hSw.2; have q4 := pc2 hSw.2; rw [HKS.out] at q1; have q5 := HCH.out w; have q6 := HCL.out w; have q7 : (k : Int) ≤ (c1 : Int) := (by have := HKN.out; have := HM1.out; omega); have q8 : (k : Int) ≤ (n1 : Int) := (by have := HKN.out; omega); (try simp only [List.getElem_toArray, List.getElem_cons_zero, List.getElem_cons_succ]); go_simp <;> with_reducible rfl)
  (try simp only [Act.put, List.getElem_toArray, List.getElem_cons_zero, List.getElem_cons_succ, List.setIfInBounds_toArray, List.set_cons_zero, List.set_cons_succ])
  refine wpAnyH_take (i := 7) (v := ?v7_40) rfl (by kernel_rfl) (by kernel_rfl) (by kernel_rfl) (fun _ _ _ h => h) (Or.inl ⟨by rfl, ?hy7_40⟩) hHeld ?_
  case hy7_40 => (intro w hSw; (try dsimp only at hSw); have q0 := cf0 hSw.1; have q1 := cf1 hSw.1; have q2 := pc0 hSw.2; have q3 := pc1 hSw.2; have q4 := pc2 hSw.2; rw [HKS.out] at q1; have q5 := HCH.out w; have q6 := HCL.out w; have q7 : (k : Int) ≤ (c1 : Int) := (by have := HKN.out; have := HM1.out; omega); have q8 : (k : Int) ≤ (n1 : Int) := (by have := HKN.out; omega); (try simp only [List.getElem_toArray, List.getElem_cons_zero, List.getElem_cons_succ]); go_simp <;> with_reducible rfl)
  (try simp only [Act.put, List.getElem_toArray, List.getElem_cons_zero, List.getElem_cons_succ, List.setIfInBounds_toArray, List.set_cons_zero, List.set_cons_succ])
  refine wpAnyH_take (i := 8) (v := ?v8_41) rfl (by kernel_rfl) (by kernel_rfl) (by kernel_rfl) (fun _ _ _ h => h) (Or.inl ⟨by rfl, ?hy8_41⟩) hHeld ?_
  case hy8_41 => (intro w hSw; (try dsimp only at hSw); have q0 := cf0 hSw.1; have q1 := cf1 hSw.1; have q2 := pc0 hSw.2; have q3 := pc1 hSw.2; have q4 := pc2 hSw.2; rw [HKS.out] at q1; have q5 := HCH.out w; have q6 := HCL.out w; have q7 : (k : Int) ≤ (c1 : Int) := (by have := HKN.out; have := HM1.out; omega); have q8 : (k : Int) ≤ (n1 : Int) := (by have := HKN.out; omega); (try simp only [List.getElem_toArray, List.getElem_cons_zero, List.getElem_cons_succ]); go_simp <;> with_reducible rfl)
  (try simp only [Act.put, List.getElem_toArray, List.getElem_cons_zero, List.getElem_cons_succ, List.setIfInBounds_toArray, List.set_cons_zero, List.set_cons_succ])
  refine wpAnyH_take (i := 9) (v := ?v9_42) rfl (by kernel_rfl) (by kernel_rfl) (by kernel_rfl) (fun _ _ _ h => h) (Or.inl ⟨by rfl, ?hy9_42⟩) hHeld ?_
  case hy9_42 => (intro w hSw; (try dsimp only at hSw); have q0 := cf0 hSw.1; have q1 := cf1 hSw.1; have q2 := pc0 hSw.2; have q3 := pc1 hSw.2; have q4 := pc2 hSw.2; rw [HKS.out] at q1; have q5 := HCH.out w; have q6 := HCL.out w; have q7 : (k : Int) ≤ (c1 : Int) := (by have := HKN.out; have := HM1.out; omega); have q8 : (k : Int) ≤ (n1 : Int) := (by have := HKN.out; omega); (try simp only [List.getElem_toArray, List.getElem_cons_zero, List.getElem_cons_succ]); go_simp <;> with_reducible rfl)
  (try simp only [Act.put, List.getElem_toArray, List.getElem_cons_zero, List.getElem_cons_succ, List.setIfInBounds_toArray, List.set_cons_zero, List.set_cons_succ])
  refine wpAnyH_take (i := 10) (v := ?v10_43) rfl (by kernel_rfl) (by kernel_rfl) (by kernel_rfl) (fun _ _ _ h => h) (Or.inl ⟨by rfl, ?hy10_43⟩) hHeld ?_
  case hy10_43 => (intro w hSw; (try dsimp only at hSw); have q0 := cf0 hSw.1; have q1 := cf1 hSw.1; have q2 := pc0 hSw.2; have q3 := pc1 hSw.2; have q4 := pc2 hSw.2; rw [HKS.out] at q1; have q5 := HCH.out w; have q6 := HCL.out w; have q7 : (k : Int) ≤ (c1 : Int) := (by have := HKN.out; have := HM1.out; omega); have q8 : (k : Int) ≤ (n1 : Int) := (by have := HKN.out; omega); (try simp only [List.getElem_toArray, List.getElem_cons_zero, List.getElem_cons_succ]); go_simp <;> with_reducible rfl)
  (try simp only [Act.put, List.getElem_toArray, List.getElem_cons_zero, List.getElem_cons_succ, List.setIfInBounds_toArray, List.set_cons_zero, List.set_cons_succ])
  refine wpAnyH_take (i := 11) (v := ?v11_44) rfl (by kernel_rfl) (by kernel_rfl) (by kernel_rfl) (fun _ _ _ h => h) (Or.inl ⟨by rfl, ?hy11_44⟩) hHeld ?_
  case hy11_44 => (intro w hSw; (try dsimp only at hSw); have q0 := cf0 hSw.1; have q1 := cf1 hSw.1; have q2 := pc0 hSw.2; have q3 := pc1 hSw.2; have q4 := pc2 hSw.2; rw [HKS.out] at q1; have q5 := HCH.out w; have q6 := HCL.out w; have q7 : (k : Int) ≤ (c1 : Int) := (by have := HKN.out; have := HM1.out; omega); have q8 : (k : Int) ≤ (n1 : Int) := (by have := HKN.out; omega); (try simp only [List.getElem_toArray, List.getElem_cons_zero, List.getElem_cons_succ]); go_simp <;> with_reducible rfl)
  (try simp only [Act.put, List.getElem_toArray, List.getElem_cons_zero, List.getElem_cons_succ, List.setIfInBounds_toArray, List.set_cons_zero, List.set_cons_succ])
  refine wpAnyH_take (i := 12) (v := ?v12_45) rfl (by kernel_rfl) (by kernel_rfl) (by kernel_rfl) (fun _ _ _ h => h) (Or.inl ⟨by rfl, ?hy12_45⟩) hHeld ?_
  case hy12_45 => (intro w hSw; (try dsimp only at hSw); have q0 := cf0 hSw.1; have q1 := cf1 hSw.1; have q2 := pc0 hSw.2; have q3 := pc1 hSw.2; have q4 := pc2 hSw.2; rw [HKS.out] at q1; have q5 := HCH.out w; have q6 := HCL.out w; have q7 : (k : Int) ≤ (c1 : Int) := (by have := HKN.out; have := HM1.out; omega); have q8 : (k : Int) ≤ (n1 : Int) := (by have := HKN.out; omega); (try simp only [List.getElem_toArray, List.getElem_cons_zero, List.getElem_cons_succ]); go_simp <;> with_reducible rfl)
  (try simp only [Act.put, List.getElem_toArray, List.getElem_cons_zero, List.getElem_cons_succ, List.setIfInBounds_toArray, List.set_cons_zero, List.set_cons_succ])
  refine wpAnyH_take (i := 13) (v := ?v13_46) rfl (by kernel_rfl) (by kernel_rfl) (by kernel_rfl) (fun _ _ _ h => h) (Or.inl ⟨by rfl, ?hy13_46⟩) hHeld ?_
  case hy13_46 => (intro w hSw; (try dsimp only at hSw); have q0 := cf0 hSw.1; have q1 := cf1 hSw.1; have q2 := pc0 hSw.2; have q3 := pc1 hSw.2; have q4 := pc2 hSw.2; rw [HKS.out] at q1; have q5 := HCH.out w; have q6 := HCL.out w; have q7 : (k : Int) ≤ (c1 : Int) := (by have := HKN.out; have := HM1.out; omega); have q8 : (k : Int) ≤ (n1 : Int) := (by have := HKN.out; omega); (try simp only [List.getElem_toArray, List.getElem_cons_zero, List.getElem_cons_succ]); go_simp <;> with_reducible rfl)
  (try simp only [Act.put, List.getElem_toArray, List.getElem_cons_zero, List.getElem_cons_succ, List.setIfInBounds_toArray, List.set_cons_zero, List.set_cons_succ])
  refine wpAnyH_take (i := 14) (v := ?v14_47) rfl (by kernel_rfl) (by kernel_rfl) (by kernel_rfl) (fun _ _ _ h => h) (Or.inl ⟨by rfl, ?hy14_47⟩) hHeld ?_
  case hy14_47 => (intro w hSw; (try dsimp only at hSw); have q0 := cf0 hSw.1; have q1 := cf1 hSw.1; have q2 := pc0 hSw.2; have q3 := pc1 hSw.2; have q4 := pc2 hSw.2; rw [HKS.out] at q1; have q5 := HCH.out w; have q6 := HCL.out w; have q7 : (k : Int) ≤ (c1 : Int) := (by have := HKN.out; have := HM1.out; omega); have q8 : (k : Int) ≤ (n1 : Int) := (by have := HKN.out; omega); (try simp only [List.getElem_toArray, List.getElem_cons_zero, List.getElem_cons_succ]); go_simp <;> with_reducible rfl)
  (try simp only [Act.put, List.getElem_toArray, List.getElem_cons_zero, List.getElem_cons_succ, List.setIfInBounds_toArray, List.set_cons_zero, List.set_cons_succ])
  refine wpAnyH_take (i := 15) (v := ?v15_48) rfl (by kernel_rfl) (by kernel_rfl) (by kernel_rfl) (fun _ _ _ h => h) (Or.inl ⟨by rfl, ?hy15_48⟩) hHeld ?_
  case hy15_48 => (intro w hSw; (try dsimp only at hSw); have q0 := cf0 hSw.1; have q1 := cf1 hSw.1; have q2 := pc0 hSw.2; have q3 := pc1 hSw.2; have q4 := pc2 hSw.2; rw [HKS.out] at q1; have q5 := HCH.out w; have q6 := HCL.out w; have q7 : (k : Int) ≤ (c1 : Int) := (by have := HKN.out; have := HM1.out; omega); have q8 : (k : Int) ≤ (n1 : Int) := (by have := HKN.out; omega); (try simp only [List.getElem_toArray, List.getElem_cons_zero, List.getElem_cons_succ]); go_simp <;> with_reducible rfl)
  (try simp only [Act.put, List.getElem_toArray, List.getElem_cons_zero, List.getElem_cons_succ, List.setIfInBounds_toArray, List.set_cons_zero, List.set_cons_succ])
  refine wpAnyH_take (i := 16) (v := ?v16_49) rfl (by kernel_rfl) (by kernel_rfl) (by kernel_rfl) (fun _ _ _ h => h) (Or.inl ⟨by rfl, ?hy16_49⟩) hHeld ?_
  case hy16_49 => (intro w hSw; (try dsimp only at hSw); have q0 := cf0 hSw.1; have q1 := cf1 hSw.1; have q2 := pc0 hSw.2; have q3 := pc1 hSw.2; have q4 := pc2 hSw.2; rw [HKS.out] at q1; have q5 := HCH.out w; have q6 := HCL.out w; have q7 : (k : Int) ≤ (c1 : Int) := (by have := HKN.out; have := HM1.out; omega); have q8 : (k : Int) ≤ (n1 : Int) := (by have := HKN.out; omega); (try simp only [List.getElem_toArray, List.getElem_cons_zero, List.getElem_cons_succ]); go_simp <;> with_reducible rfl)
  (try simp only [Act.put, List.getElem_toArray, List.getElem_cons_zero, List.getElem_cons_succ, List.setIfInBounds_toArray, List.set_cons_zero, List.set_cons_succ])
  refine wpAnyH_take (i := 17) (v := ?v17_50) rfl (by kernel_rfl) (by kernel_rfl) (by kernel_rfl) (fun _ _ _ h => h) (Or.inl ⟨by rfl, ?hy17_50⟩) hHeld ?_
  case hy17_50 => (intro w hSw; (try dsimp only at hSw); have q0 := cf0 hSw.1; have q1 := cf1 hSw.1; have q2 := pc0 hSw.2; have q3 := pc1 hSw.2; have q4 := pc2 hSw.2; rw [HKS.out] at q1; have q5 := HCH.out w; have q6 := HCL.out w; have q7 : (k : Int) ≤ (c1 : Int) := (by have := HKN.out; have := HM1.out; omega); have q8 : (k : Int) ≤ (n1 : Int) := (by have := HKN.out; omega); (try simp only [List.getElem_toArray, List.getElem_cons_zero, List.getElem_cons_succ]); go_simp <;> with_reducible rfl)
  (try simp only [Act.put, List.getElem_toArray, List.getElem_cons_zero, List.getElem_cons_succ, List.setIfInBounds_toArray, List.set_cons_zero, List.set_cons_succ])
  refine wpAnyH_take (i := 18) (v := ?v18_51) rfl (by kernel_rfl) (by kernel_rfl) (by kernel_rfl) (fun _ _ _ h => h) (Or.inl ⟨by rfl, ?hy18_51⟩) hHeld ?_
  case hy18_51 => (intro w hSw; (try dsimp only at hSw); have q0 := cf0 hSw.1; have q1 := cf1 hSw.1; have q2 := pc0 hSw.2; have q3 := pc1 hSw.2; have q4 := pc2 hSw.2; rw [HKS.out] at q1; have q5 := HCH.out w; have q6 := HCL.out w; have q7 : (k : Int) ≤ (c1 : Int) := (by have := HKN.out; have := HM1.out; omega); have q8 : (k : Int) ≤ (n1 : Int) := (by have := HKN.out; omega); (try simp only [List.getElem_toArray, List.getElem_cons_zero, List.getElem_cons_succ]); go_simp <;> with_reducible rfl)
  (try simp only [Act.put, List.getElem_toArray, List.getElem_cons_zero, List.getElem_cons_succ, List.setIfInBounds_toArray, List.set_cons_zero, List.set_cons_succ])
  refine wpAnyH_ready (rs := [19]) (by kernel_rfl) (by simp) ?_
  refine AllReadyH.cons rfl (fun K hK => ?_) AllReadyH.nil
  (try simp only [List.getElem_toArray, List.getElem_cons_zero, List.getElem_cons_succ])
  go_simp
  refine (al_same _ _ _ _ _ _ S S _ (by exact (K9.out.hw.row _ (.tail _ (.head _))).1) (by exact HCA.out _ (K9.out.hw.row _ (.tail _ (.tail _ (.tail _ (.head _))))).1) (by exact Nat.le_trans (K9.out.hw.row _ (.tail _ (.head _))).2.1 (K9.out.hw.row _ (.tail _ (.head _))).2.2) (by exact Nat.le_trans HKN.out (Nat.le_trans HM1.out.1 HM1.out.2)) true (beq_self_eq_true _)).mono ?_
  rintro e w110 ⟨rfl, hb⟩
  have K10 := Lib.hid (K9.out.step hb)
  clear K9
  clear hb
  (try go_wp2_with fail)
  refine hK.out _ _ ⟨(K10.out.cf _ (.head _)).1, (K10.out.pt _ (.head _))⟩ (fun hHeld => ?_)
  clear hK K
  (try simp only [Act.put, List.getElem_toArray, List.getElem_cons_zero, List.getElem_cons_succ, List.setIfInBounds_toArray, List.set_cons_zero, List.set_cons_succ])
  refine wpAnyH_take (i := 20) (v := ?v20_52) rfl (by kernel_rfl) (by kernel_rfl) (by kernel_rfl) (fun _ _ _ h => h) (Or.inl ⟨by rfl, ?hy20_52⟩) hHeld ?_
  case hy20_52 => (intro w hSw; (try dsimp only at hSw); have q0 := cf0 hSw.1; have q1 := cf1 hSw.1; have q2 := pc0 hSw.2; have q3 := pc1 hSw.2; have q4 := pc2 hSw.2; rw [HKS.out] at q1; have q5 := HCH.out w; have q6 := HCL.out w; have q7 : (k : Int) ≤ (c1 : Int) := (by have := HKN.out; have := HM1.out; omega); have q8 : (k : Int) ≤ (n1 : Int) := (by have := HKN.out; omega); (try simp only [List.getElem_toArray, List.getElem_cons_zero, List.getElem_cons_succ]); go_simp <;> with_reducible rfl)
  (try simp only [Act.put, List.getElem_toArray, List.getElem_cons_zero, List.getElem_cons_succ, List.setIfInBounds_toArray, List.set_cons_zero, List.set_cons_succ])
  refine wpAnyH_take (i := 21) (v := ?v21_53) rfl (by kernel_rfl) (by kernel_rfl) (by kernel_rfl) (fun _ _ _ h => h) (Or.inl ⟨by rfl, ?hy21_53⟩) hHeld ?_
  case hy21_53 => (intro w hSw; (try dsimp only at hSw); have q0 := cf0 hSw.1; have q1 := cf1 hSw.1; have q2 := pc0 hSw.2; have q3 := pc1 hSw.2; have q4 := pc2 hSw.2; rw [HKS.out] at q1; have q5 := HCH.out w; have q6 := HCL.out w; have q7 : (k : Int) ≤ (c1 : Int) := (by have := HKN.out; have := HM1.out; omega); have q8 : (k : Int) ≤ (n1 : Int) := (by have := HKN.out; omega); (try simp only [List.getElem_toArray, List.getElem_cons_zero, List.getElem_cons_succ]); go_simp <;> with_reducible rfl)
  (try simp only [Act.put, List.getElem_toArray, List.getElem_cons_zero, List.getElem_cons_succ, List.setIfInBounds_toArray, List.set_cons_zero, List.set_cons_succ])
  refine wpAnyH_take (i := 22) (v := ?v22_54) rfl (by kernel_rfl) (by kernel_rfl) (by kernel_rfl) (fun _ _ _ h => h) (Or.inl ⟨by rfl, ?hy22_54⟩) hHeld ?_
  case hy22_54 => (intro w hSw; (try dsimp only at hSw); have q0 := cf0 hSw.1; have q1 := cf1 hSw.1; have q2 := pc0 hSw.2; have q3 := pc1 hSw.2; have q4 := pc2 hSw.2; rw [HKS.out] at q1; have q5 := HCH.out w; have q6 := HCL.out w; have q7 : (k : Int) ≤ (c1 : Int) := (by have := HKN.out; have := HM1.out; omega); have q8 : (k : Int) ≤ (n1 : Int) := (by have := HKN.out; omega); (try simp only [List.getElem_toArray, List.getElem_cons_zero, List.getElem_cons_succ]); go_simp <;> with_reducible rfl)
  (try simp only [Act.put, List.getElem_toArray, List.getElem_cons_zero, List.getElem_cons_succ, List.setIfInBounds_toArray, List.set_cons_zero, List.set_cons_succ])
  refine wpAnyH_take (i := 23) (v := ?v23_55) rfl (by kernel_rfl) (by kernel_rfl) (by kernel_rfl) (fun _ _ _ h => h) (Or.inl ⟨by rfl, ?hy23_55⟩) hHeld ?_
  case hy23_55 => (intro w hSw; (try dsimp only at hSw); have q0 := cf0 hSw.1; have q1 := cf1 hSw.1; have q2 := pc0 hSw.2; have q3 := pc1 hSw.2; have q4 := pc2 hSw.2; rw [HKS.out] at q1; have q5 := HCH.out w; have q6 := HCL.out w; have q7 : (k : Int) ≤ (c1 : Int) := (by have := HKN.out; have := HM1.out; omega); have q8 : (k : Int) ≤ (n1 : Int) := (by have := HKN.out; omega); (try simp only [List.getElem_toArray, List.getElem_cons_zero, List.getElem_cons_succ]); go_simp <;> with_reducible rfl)
  (try simp only [Act.put, List.getElem_toArray, List.getElem_cons_zero, List.getElem_cons_succ, List.setIfInBounds_toArray, List.set_cons_zero, List.set_cons_succ])
  refine wpAnyH_take (i := 24) (v := ?v24_56) rfl (by kernel_rfl) (by kernel_rfl) (by kernel_rfl) (fun _ _ _ h => h) (Or.inl ⟨by rfl, ?hy24_56⟩) hHeld ?_
  case hy24_56 => (intro w hSw; (try dsimp only at hSw); have q0 := cf0 hSw.1; have q1 := cf1 hSw.1; have q2 := pc0 hSw.2; have q3 := pc1 hSw.2; have q4 := pc2 hSw.2; rw [HKS.out] at q1; have q5 := HCH.out w; have q6 := HCL.out w; have q7 : (k : Int) ≤ (c1 : Int) := (by have := HKN.out; have := HM1.out; omega); have q8 : (k : Int) ≤ (n1 : Int) := (by have := HKN.out; omega); (try simp only [List.getElem_toArray, List.getElem_cons_zero, List.getElem_cons_succ]); go_simp <;> with_reducible rfl)
  (try simp only [Act.put, List.getElem_toArray, List.getElem_cons_zero, List.getElem_cons_succ, List.setIfInBounds_toArray, List.set_cons_zero, List.set_cons_succ])
  refine wpAnyH_take (i := 25) (v := ?v25_57) rfl (by kernel_rfl) (by kernel_rfl) (by kernel_rfl) (fun _ _ _ h => h) (Or.inl ⟨by rfl, ?hy25_57⟩) hHeld ?_
  case hy25_57 => (intro w hSw; (try dsimp only at hSw); have q0 := cf0 hSw.1; have q1 := cf1 hSw.1; have q2 := pc0 hSw.2; have q3 := pc1 hSw.2; have q4 := pc2 hSw.2; rw [HKS.out] at q1; have q5 := HCH.out w; have q6 := HCL.out w; have q7 : (k : Int) ≤ (c1 : Int) := (by have := HKN.out; have := HM1.out; omega); have q8 : (k : Int) ≤ (n1 : Int) := (by have := HKN.out; omega); (try simp only [List.getElem_toArray, List.getElem_cons_zero, List.getElem_cons_succ]); go_simp <;> with_reducible rfl)
  (try simp only [Act.put, List.getElem_toArray, List.getElem_cons_zero, List.getElem_cons_succ, List.setIfInBounds_toArray, List.set_cons_zero, List.set_cons_succ])
  refine wpAnyH_take (i := 26) (v := ?v26_58) rfl (by kernel_rfl) (by kernel_rfl) (by kernel_rfl) (fun _ _ _ h => h) (Or.inl ⟨by rfl, ?hy26_58⟩) hHeld ?_
  case hy26_58 => (intro w hSw; (try dsimp only at hSw); have q0 := cf0 hSw.1; have q1 := cf1 hSw.1; have q2 := pc0 hSw.2; have q3 := pc1 hSw.2; have q4 := pc2 hSw.2; rw [HKS.out] at q1; have q5 := HCH.out w; have q6 := HCL.out w; have q7 : (k : Int) ≤ (c1 : Int) := (by have := HKN.out; have := HM1.out; omega); have q8 : (k : Int) ≤ (n1 : Int) := (by have := HKN.out; omega); (try simp only [List.getElem_toArray, List.getElem_cons_zero, List.getElem_cons_succ]); go_simp <;> with_reducible rfl)
  (try simp only [Act.put, List.getElem_toArray, List.getElem_cons_zero, List.getElem_cons_succ, List.setIfInBounds_toArray, List.set_cons_zero, List.set_cons_succ])
  refine wpAnyH_ready (rs := [27]) (by kernel_rfl) (by simp) ?_
  refine AllReadyH.cons rfl (fun K hK => ?_) AllReadyH.nil
  (try simp only [List.getElem_toArray, List.getElem_cons_zero, List.getElem_cons_succ])
  go_simp
  refine (al_same _ _ _ _ _ _ M M _ (by exact (K10.out.hw.row _ (.head _)).1) (by exact HCB.out _ (K10.out.hw.row _ (.tail _ (.tail _ (.tail _ (.head _))))).1) (by exact Nat.le_trans (K10.out.hw.row _ (.head _)).2.1 (K10.out.hw.row _ (.head _)).2.2) (by exact Nat.le_trans (Nat.sub_le _ _) (Nat.le_trans HM1.out.1 HM1.out.2)) true (beq_self_eq_true _)).mono ?_
  rintro e w111 ⟨rfl, hb⟩
  have K11 := Lib.hid (K10.out.step hb)
  clear K10
  clear hb
  (try go_wp2_with fail)
  refine hK.out _ _ ⟨(K11.out.cf _ (.head _)).1, (K11.out.pt _ (.head _))⟩ (fun hHeld => ?_)
  clear hK K
  (try simp only [Act.put, List.getElem_toArray, List.getElem_cons_zero, List.getElem_cons_succ, List.setIfInBounds_toArray, List.set_cons_zero, List.set_cons_succ])
  refine wpAnyH_take (i := 28) (v := ?v28_59) rfl (by kernel_rfl) (by kernel_rfl) (by kernel_rfl) (fun _ _ _ h => h) (Or.inl ⟨by rfl, ?hy28_59⟩) hHeld ?_
  case hy28_59 => (intro w hSw; (try dsimp only at hSw); have q0 := cf0 hSw.1; have q1 := cf1 hSw.1; have q2 := pc0 hSw.2; have q3 := pc1 hSw.2; have q4 := pc2 hSw.2; rw [HKS.out] at q1; have q5 := HCH.out w; have q6 := HCL.out w; have q7 : (k : Int) ≤ (c1 : Int) := (by have := HKN.out; have := HM1.out; omega); have q8 : (k : Int) ≤ (n1 : Int) := (by have := HKN.out; omega); (try simp only [List.getElem_toArray, List.getElem_cons_zero, List.getElem_cons_succ]); go_simp <;> with_reducible rfl)
  (try simp only [Act.put, List.getElem_toArray, List.getElem_cons_zero, List.getElem_cons_succ, List.setIfInBounds_toArray, List.set_cons_zero, List.set_cons_succ])
  refine wpAnyH_take (i := 29) (v := ?v29_60) rfl (by kernel_rfl) (by kernel_rfl) (by kernel_rfl) (fun _ _ _ h => h) (Or.inl ⟨by rfl, ?hy29_60⟩) hHeld ?_
  case hy29_60 => (intro w hSw; (try dsimp only at hSw); have q0 := cf0 hSw.1; have q1 := cf1 hSw.1; have q2 := pc0 hSw.2; have q3 := pc1 hSw.2; have q4 := pc2 hSw.2; rw [HKS.out] at q1; have q5 := HCH.out w; have q6 := HCL.out w; have q7 : (k : Int) ≤ (c1 : Int) := (by have := HKN.out; have := HM1.out; omega); have q8 : (k : Int) ≤ (n1 : Int) := (by have := HKN.out; omega); (try simp only [List.getElem_toArray, List.getElem_cons_zero, List.getElem_cons_succ]); go_simp <;> with_reducible rfl)
  (try simp only [Act.put, List.getElem_toArray, List.getElem_cons_zero, List.getElem_cons_succ, List.setIfInBounds_toArray, List.set_cons_zero, List.set_cons_succ])
  refine wpAnyH_take (i := 30) (v := ?v30_61) rfl (by kernel_rfl) (by kernel_rfl) (by kernel_rfl) (fun _ _ _ h => h) (Or.inl ⟨by rfl, ?hy30_61⟩) hHeld ?_
  case hy30_61 => (intro w hSw; (try dsimp only at hSw); have q0 := cf0 hSw.1; have q1 := cf1 hSw.1; have q2 := pc0 hSw.2; have q3 := pc1 hSw.2; have q4 := pc2 hSw.2; rw [HKS.out] at q1; have q5 := HCH.out w; have q6 := HCL.out w; have q7 : (k : Int) ≤ (c1 : Int) := (by have := HKN.out; have := HM1.out; omega); have q8 : (k : Int) ≤ (n1 : Int) := (by have := HKN.out; omega); (try simp only [List.getElem_toArray, List.getElem_cons_zero, List.getElem_cons_succ]); go_simp <;> with_reducible rfl)
  (try simp only [Act.put, List.getElem_toArray, List.getElem_cons_zero, List.getElem_cons_succ, List.setIfInBounds_toArray, List.set_cons_zero, List.set_cons_succ])
  refine wpAnyH_take (i := 31) (v := ?v31_62) rfl (by kernel_rfl) (by kernel_rfl) (by kernel_rfl) (fun _ _ _ h => h) (Or.inl ⟨by rfl, ?hy31_62⟩) hHeld ?_
  case hy31_62 => (intro w hSw; (try dsimp only at hSw); have q0 := cf0 hSw.1; have q1 := cf1 hSw.1; have q2 := pc0 hSw.2; have q3 := pc1 hSw.2; have q4 := pc2 hSw.2; rw [HKS.out] at q1; have q5 := HCH.out w; have q6 := HCL.out w; have q7 : (k : Int) ≤ (c1 : Int) := (by have := HKN.out; have := HM1.out; omega); have q8 : (k : Int) ≤ (n1 : Int) := (by have := HKN.out; omega); (try simp only [List.getElem_toArray, List.getElem_cons_zero, List.getElem_cons_succ]); go_simp <;> with_reducible rfl)
  (try simp only [Act.put, List.getElem_toArray, List.getElem_cons_zero, List.getElem_cons_succ, List.setIfInBounds_toArray, List.set_cons_zero, List.set_cons_succ])
  refine wpAnyH_done (by kernel_rfl) ?_ _
  clear hHeld HD2
  go_wp2_with fail
  go_ret
  exact ⟨rfl, K11.out.hw.bel⟩
theorem CodecPlain_walk (x0 : Int) (A1 : Option Addr) (n1 c1 : Nat) (l1 : List UInt8) (x2 : Cfg) (w : World) (h0 : (Lit.int .i64 x0).wf = true) (h1 : RB w w.heap.size A1 n1 l1) (m1 : n1 ≤ c1 ∧ c1 ≤ maxLen) (h2 : x2.ok) :
    Calls Tryz.prog 7 #[.int .i64 x0, .slice A1 n1 c1, x2.val] w fun e w' => e = .returned (.bool true) ∧ Below w.heap.size w w' := by
  by_cases h : n1 > 100
  · exact plain_long x0 A1 n1 c1 l1 x2 w h0 h1 m1 h2 h
  have h : n1 ≤ 100 := by omega
  by_cases hp : x0 < 0
  · exact plain_neg x0 A1 n1 c1 l1 x2 w h0 h1 m1 h2 h hp
  by_cases hp2 : 3 < x0
  · exact plain_big x0 A1 n1 c1 l1 x2 w h0 h1 m1 h2 h hp2
  by_cases h19 : 19 < n1
  · exact plain_19 x0 A1 n1 c1 l1 x2 w h0 h1 m1 h2 h ⟨by omega, by omega⟩ h19
  have hp : 0 ≤ x0 ∧ x0 ≤ 3 := ⟨by omega, by omega⟩
  have h19 : n1 ≤ 19 := by omega
  cases hr : rtB x2
  · exact plain_no x0 A1 n1 c1 l1 x2 w h0 h1 m1 h2 h hp h19 0 [] [] 19 (codB_state hr) (by decide) hr
  by_cases hs : (n1 : Int) = x2.s + x2.n
  · have hB := plain_back (n := l1) hr hp (by rw [h1.len]; exact hs)
    by_cases hm : x2.m = 0
    · obtain ⟨_, r2, r3, _⟩ := rt_unf (rt_of hr)
      rw [way_plain hm] at hB
      exact plain_plain x0 A1 n1 c1 l1 x2 w h0 h1 m1 h2 h hp h19 _ _ hB hr hs hm x2.s.toNat (by omega) (by omega) rfl rfl
    · exact plain_other x0 A1 n1 c1 l1 x2 w h0 h1 m1 h2 h hp h19 _ _ hB hr hs hm
  · exact plain_size x0 A1 n1 c1 l1 x2 w h0 h1 m1 h2 h hp h19 0 [] [] 11 (codB_range hr (by rw [idB_len, h1.len]; omega)) (by decide) hr hs
end Go.Proofs.YtfipdaekfdbaeaaGreat
