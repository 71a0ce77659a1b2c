/- Layer 17: the walk of the statement CodecApart. No condition. -/
import Derived.Test.YtfipdaekfdbaeaaGreatCdV

namespace Go.Proofs.YtfipdaekfdbaeaaGreat
open Go.RowKit
set_option linter.unusedVariables false
set_option linter.unusedSimpArgs false
attribute [local irreducible] Cfg.val Cfg.cells rtB Rt zK sizeC AV bytC rawC zeroC turnC wayC encL decL tableL backL passesR cntP idB codM codB prtC plnL pcel zcel cU pntB tldB
attribute [local go_sem ↓] ex_ldC ex_ldR ex_ldP ex_ldPr
set_option maxRecDepth 100000 in
set_option maxHeartbeats 8000000 in
theorem apart_bad1 (x0 : Cfg) (x1 : Int) (x2 : Int) (A3 : Option Addr) (n3 c3 : Nat) (l3 : List UInt8) (A4 : Option Addr) (n4 c4 : Nat) (l4 : List UInt8) (A5 : Option Addr) (n5 c5 : Nat) (l5 : List UInt8) (A6 : Option Addr) (n6 c6 : Nat) (l6 : List UInt8) (w : World) (h0 : x0.ok) (h1 : (Lit.int .i64 x1).wf = true) (h2 : (Lit.int .i64 x2).wf = true) (h3 : RB w w.heap.size A3 n3 l3) (m3 : n3 ≤ c3 ∧ c3 ≤ maxLen) (h4 : RB w w.heap.size A4 n4 l4) (m4 : n4 ≤ c4 ∧ c4 ≤ maxLen) (h5 : RB w w.heap.size A5 n5 l5) (m5 : n5 ≤ c5 ∧ c5 ≤ maxLen) (h6 : RB w w.heap.size A6 n6 l6) (m6 : n6 ≤ c6 ∧ c6 ≤ maxLen) (q : Int) (hq : q ≠ 0) (hX : codM x0 x1 l3 l4 = ([], q)) :
    Calls Tryz.prog 6 #[x0.val, .int .i64 x1, .int .i64 x2, .slice A3 n3 c3, .slice A4 n4 c4, .slice A5 n5 c5, .slice A6 n6 c6] w fun e w' => e = .returned (.bool true) ∧ Below w.heap.size w w' := by
  have HX := Lib.hid hX
  have b1 : (q != 0) = true := bne_iff_ne.2 hq
  obtain ⟨Y, r, hY⟩ : ∃ Y r, codM x0 x2 l5 l6 = (Y, r) := ⟨_, _, rfl⟩
  have HY := Lib.hid hY
  obtain ⟨nY, hnY⟩ : ∃ n, Y.length = n := ⟨_, rfl⟩
  have HNY := Lib.hid hnY
  have HC := Lib.hid h0
  have K0 := Lib.hid (((((DK.start w).add h3 m3.1 m3.2).add h4 m4.1 m4.2).add h5 m5.1 m5.2).add h6 m6.1 m6.2)
  have HL3 := Lib.hid h3.len
  have HM3 := Lib.hid m3
  have HL4 := Lib.hid h4.len
  have HM4 := Lib.hid m4
  have HL5 := Lib.hid h5.len
  have HM5 := Lib.hid m5
  have HL6 := Lib.hid h6.len
  have HM6 := Lib.hid m6
  clear h0 h1 h2 h3 m3 h4 m4 h5 m5 h6 m6 hX hq hY hnY
  go_enter Tryz.func6, Tryz.ntmps6
  go_wp2_with (first | (refine wpList_boxB rfl 24 (.tmp 0) rfl x0.cells (val_agg _) ?_; intro w1 p_c hc1 hb1 hx1; have K1 := Lib.hid (K0.out.boxed hb1 hc1 HC.out); clear hc1 hb1 hx1; have q_c := ld_cfg rt_cfg (K1.out.cf _ (.head _)).1 (K1.out.cf _ (.head _)).2))
  refine (calive_any _).mono ?_
  rintro e w2 ⟨rfl, hb⟩
  have K2 := Lib.hid (K1.out.step hb)
  clear K1
  clear hb
  (try clear q_c)
  (try clear f0_c)
  (try clear f1_c)
  (try clear f2_c)
  have q_c := ld_cfg rt_cfg (K2.out.cf _ (.head _)).1 (K2.out.cf _ (.head _)).2
  go_wp2_with fail
  refine (cmake_any x0 HC.out x1 _ n3 c3 l3 _ n4 c4 l4 _ (by exact (K2.out.hw.row _ (.tail _ (.tail _ (.tail _ (.head _))))).1) (by exact (K2.out.hw.row _ (.tail _ (.tail _ (.head _)))).1)).mono ?_
  rw [HX.out]
  (try dsimp only)
  rintro e w3 ⟨Aa, ca, rfl, ho, hb⟩
  have K3 := Lib.hid (K2.out.own hb ho)
  clear K2
  clear ho hb
  (try clear q_c)
  (try clear f0_c)
  (try clear f1_c)
  (try clear f2_c)
  have q_c := ld_cfg rt_cfg (K3.out.cf _ (.head _)).1 (K3.out.cf _ (.head _)).2
  go_wp2_with fail
  refine (cmake_any x0 HC.out x2 _ n5 c5 l5 _ n6 c6 l6 _ (by exact (K3.out.hw.row _ (.tail _ (.tail _ (.head _)))).1) (by exact (K3.out.hw.row _ (.tail _ (.head _))).1)).mono ?_
  rw [HY.out]
  (try dsimp only)
  rw [HNY.out]
  rintro e w4 ⟨Ab, cb, rfl, ho, hb⟩
  have K4 := Lib.hid (K3.out.own hb ho)
  clear K3
  clear ho hb
  (try clear q_c)
  (try clear f0_c)
  (try clear f1_c)
  (try clear f2_c)
  have q_c := ld_cfg rt_cfg (K4.out.cf _ (.head _)).1 (K4.out.cf _ (.head _)).2
  go_wp2_with fail
  go_ret
  exact ⟨rfl, K4.out.hw.bel⟩
set_option maxRecDepth 100000 in
set_option maxHeartbeats 8000000 in
theorem apart_bad2 (x0 : Cfg) (x1 : Int) (x2 : Int) (A3 : Option Addr) (n3 c3 : Nat) (l3 : List UInt8) (A4 : Option Addr) (n4 c4 : Nat) (l4 : List UInt8) (A5 : Option Addr) (n5 c5 : Nat) (l5 : List UInt8) (A6 : Option Addr) (n6 c6 : Nat) (l6 : List UInt8) (w : World) (h0 : x0.ok) (h1 : (Lit.int .i64 x1).wf = true) (h2 : (Lit.int .i64 x2).wf = true) (h3 : RB w w.heap.size A3 n3 l3) (m3 : n3 ≤ c3 ∧ c3 ≤ maxLen) (h4 : RB w w.heap.size A4 n4 l4) (m4 : n4 ≤ c4 ∧ c4 ≤ maxLen) (h5 : RB w w.heap.size A5 n5 l5) (m5 : n5 ≤ c5 ∧ c5 ≤ maxLen) (h6 : RB w w.heap.size A6 n6 l6) (m6 : n6 ≤ c6 ∧ c6 ≤ maxLen) (X : List UInt8) (m : Nat) (hm : X.length = m + 1) (q : Int) (hq : q ≠ 0) (hX : codM x0 x1 l3 l4 = (X, 0)) (hY : codM x0 x2 l5 l6 = ([], q)) :
    Calls Tryz.prog 6 #[x0.val, .int .i64 x1, .int .i64 x2, .slice A3 n3 c3, .slice A4 n4 c4, .slice A5 n5 c5, .slice A6 n6 c6] w fun e w' => e = .returned (.bool true) ∧ Below w.heap.size w w' := by
  have HX := Lib.hid hX
  have HY := Lib.hid hY
  have HNX := Lib.hid hm
  have b1 : (q != 0) = true := bne_iff_ne.2 hq
  have b2 : (((m + 1 : Nat) : Int) == 0) = false := by rw [beq_eq_false_iff_ne]; omega
  have b3 : ((m : Int) + 1 == 0) = false := by rw [beq_eq_false_iff_ne]; omega
  have HC := Lib.hid h0
  have K0 := Lib.hid (((((DK.start w).add h3 m3.1 m3.2).add h4 m4.1 m4.2).add h5 m5.1 m5.2).add h6 m6.1 m6.2)
  have HL3 := Lib.hid h3.len
  have HM3 := Lib.hid m3
  have HL4 := Lib.hid h4.len
  have HM4 := Lib.hid m4
  have HL5 := Lib.hid h5.len
  have HM5 := Lib.hid m5
  have HL6 := Lib.hid h6.len
  have HM6 := Lib.hid m6
  clear h0 h1 h2 h3 m3 h4 m4 h5 m5 h6 m6 hX hq hY hm
  go_enter Tryz.func6, Tryz.ntmps6
  go_wp2_with (first | (refine wpList_boxB rfl 24 (.tmp 0) rfl x0.cells (val_agg _) ?_; intro w1 p_c hc1 hb1 hx1; have K1 := Lib.hid (K0.out.boxed hb1 hc1 HC.out); clear hc1 hb1 hx1; have q_c := ld_cfg rt_cfg (K1.out.cf _ (.head _)).1 (K1.out.cf _ (.head _)).2))
  refine (calive_any _).mono ?_
  rintro e w2 ⟨rfl, hb⟩
  have K2 := Lib.hid (K1.out.step hb)
  clear K1
  clear hb
  (try clear q_c)
  (try clear f0_c)
  (try clear f1_c)
  (try clear f2_c)
  have q_c := ld_cfg rt_cfg (K2.out.cf _ (.head _)).1 (K2.out.cf _ (.head _)).2
  go_wp2_with fail
  refine (cmake_any x0 HC.out x1 _ n3 c3 l3 _ n4 c4 l4 _ (by exact (K2.out.hw.row _ (.tail _ (.tail _ (.tail _ (.head _))))).1) (by exact (K2.out.hw.row _ (.tail _ (.tail _ (.head _)))).1)).mono ?_
  rw [HX.out]
  (try dsimp only)
  rw [HNX.out]
  rintro e w3 ⟨Aa, ca, rfl, ho, hb⟩
  have K3 := Lib.hid (K2.out.own hb ho)
  clear K2
  clear ho hb
  (try clear q_c)
  (try clear f0_c)
  (try clear f1_c)
  (try clear f2_c)
  have q_c := ld_cfg rt_cfg (K3.out.cf _ (.head _)).1 (K3.out.cf _ (.head _)).2
  go_wp2_with fail
  refine (cmake_any x0 HC.out x2 _ n5 c5 l5 _ n6 c6 l6 _ (by exact (K3.out.hw.row _ (.tail _ (.tail _ (.head _)))).1) (by exact (K3.out.hw.row _ (.tail _ (.head _))).1)).mono ?_
  rw [HY.out]
  (try dsimp only)
  rintro e w4 ⟨Ab, cb, rfl, ho, hb⟩
  have K4 := Lib.hid (K3.out.own hb ho)
  clear K3
  clear ho hb
  (try clear q_c)
  (try clear f0_c)
  (try clear f1_c)
  (try clear f2_c)
  have q_c := ld_cfg rt_cfg (K4.out.cf _ (.head _)).1 (K4.out.cf _ (.head _)).2
  go_wp2_with fail
  go_ret
  exact ⟨rfl, K4.out.hw.bel⟩
set_option maxRecDepth 100000 in
set_option maxHeartbeats 8000000 in
theorem apart_0 (x0 : Cfg) (x1 : Int) (x2 : Int) (A3 : Option Addr) (n3 c3 : Nat) (l3 : List UInt8) (A4 : Option Addr) (n4 c4 : Nat) (l4 : List UInt8) (A5 : Option Addr) (n5 c5 : Nat) (l5 : List UInt8) (A6 : Option Addr) (n6 c6 : Nat) (l6 : List UInt8) (w : World) (h0 : x0.ok) (h1 : (Lit.int .i64 x1).wf = true) (h2 : (Lit.int .i64 x2).wf = true) (h3 : RB w w.heap.size A3 n3 l3) (m3 : n3 ≤ c3 ∧ c3 ≤ maxLen) (h4 : RB w w.heap.size A4 n4 l4) (m4 : n4 ≤ c4 ∧ c4 ≤ maxLen) (h5 : RB w w.heap.size A5 n5 l5) (m5 : n5 ≤ c5 ∧ c5 ≤ maxLen) (h6 : RB w w.heap.size A6 n6 l6) (m6 : n6 ≤ c6 ∧ c6 ≤ maxLen) (X Y : List UInt8) (hX : codM x0 x1 l3 l4 = (X, 0)) (hY : codM x0 x2 l5 l6 = (Y, 0)) (hp : ¬ x1 = x2) (hv : (X == Y) = false) :
    Calls Tryz.prog 6 #[x0.val, .int .i64 x1, .int .i64 x2, .slice A3 n3 c3, .slice A4 n4 c4, .slice A5 n5 c5, .slice A6 n6 c6] w fun e w' => e = .returned (.bool true) ∧ Below w.heap.size w w' := by
  have HX := Lib.hid hX
  have HY := Lib.hid hY
  obtain ⟨nX, hnX⟩ : ∃ n, X.length = n := ⟨_, rfl⟩
  have HNX := Lib.hid hnX
  obtain ⟨nY, hnY⟩ : ∃ n, Y.length = n := ⟨_, rfl⟩
  have HNY := Lib.hid hnY
  have HV := Lib.hid hv
  have b1 : (x1 == x2) = false := by rw [beq_eq_false_iff_ne]; exact hp
  have HC := Lib.hid h0
  have K0 := Lib.hid (((((DK.start w).add h3 m3.1 m3.2).add h4 m4.1 m4.2).add h5 m5.1 m5.2).add h6 m6.1 m6.2)
  have HL3 := Lib.hid h3.len
  have HM3 := Lib.hid m3
  have HL4 := Lib.hid h4.len
  have HM4 := Lib.hid m4
  have HL5 := Lib.hid h5.len
  have HM5 := Lib.hid m5
  have HL6 := Lib.hid h6.len
  have HM6 := Lib.hid m6
  clear h0 h1 h2 h3 m3 h4 m4 h5 m5 h6 m6 hX hY hv hp hnX hnY
  go_enter Tryz.func6, Tryz.ntmps6
  go_wp2_with (first | (refine wpList_boxB rfl 24 (.tmp 0) rfl x0.cells (val_agg _) ?_; intro w1 p_c hc1 hb1 hx1; have K1 := Lib.hid (K0.out.boxed hb1 hc1 HC.out); clear hc1 hb1 hx1; have q_c := ld_cfg rt_cfg (K1.out.cf _ (.head _)).1 (K1.out.cf _ (.head _)).2))
  refine (calive_any _).mono ?_
  rintro e w2 ⟨rfl, hb⟩
  have K2 := Lib.hid (K1.out.step hb)
  clear K1
  clear hb
  (try clear q_c)
  (try clear f0_c)
  (try clear f1_c)
  (try clear f2_c)
  have q_c := ld_cfg rt_cfg (K2.out.cf _ (.head _)).1 (K2.out.cf _ (.head _)).2
  go_wp2_with fail
  refine (cmake_any x0 HC.out x1 _ n3 c3 l3 _ n4 c4 l4 _ (by exact (K2.out.hw.row _ (.tail _ (.tail _ (.tail _ (.head _))))).1) (by exact (K2.out.hw.row _ (.tail _ (.tail _ (.head _)))).1)).mono ?_
  rw [HX.out]
  (try dsimp only)
  rw [HNX.out]
  rintro e w3 ⟨Aa, ca, rfl, ho, hb⟩
  have K3 := Lib.hid (K2.out.own hb ho)
  clear K2
  clear ho hb
  (try clear q_c)
  (try clear f0_c)
  (try clear f1_c)
  (try clear f2_c)
  have q_c := ld_cfg rt_cfg (K3.out.cf _ (.head _)).1 (K3.out.cf _ (.head _)).2
  go_wp2_with fail
  refine (cmake_any x0 HC.out x2 _ n5 c5 l5 _ n6 c6 l6 _ (by exact (K3.out.hw.row _ (.tail _ (.tail _ (.head _)))).1) (by exact (K3.out.hw.row _ (.tail _ (.head _))).1)).mono ?_
  rw [HY.out]
  (try dsimp only)
  rw [HNY.out]
  rintro e w4 ⟨Ab, cb, rfl, ho, hb⟩
  have K4 := Lib.hid (K3.out.own hb ho)
  clear K3
  clear ho hb
  (try clear q_c)
  (try clear f0_c)
  (try clear f1_c)
  (try clear f2_c)
  have q_c := ld_cfg rt_cfg (K4.out.cf _ (.head _)).1 (K4.out.cf _ (.head _)).2
  go_wp2_with fail
  refine (al_same _ _ _ _ _ _ X Y _ (by exact (K4.out.hw.row _ (.tail _ (.head _))).1) (by exact (K4.out.hw.row _ (.head _)).1) (by exact Nat.le_trans (K4.out.hw.row _ (.tail _ (.head _))).2.1 (K4.out.hw.row _ (.tail _ (.head _))).2.2) (by exact Nat.le_trans (K4.out.hw.row _ (.head _)).2.1 (K4.out.hw.row _ (.head _)).2.2) false (HV.out)).mono ?_
  rintro e w5 ⟨rfl, hb⟩
  have K5 := Lib.hid (K4.out.step hb)
  clear K4
  clear hb
  (try clear q_c)
  (try clear f0_c)
  (try clear f1_c)
  (try clear f2_c)
  have q_c := ld_cfg rt_cfg (K5.out.cf _ (.head _)).1 (K5.out.cf _ (.head _)).2
  go_wp2_with fail
  go_ret
  exact ⟨rfl, K5.out.hw.bel⟩
set_option maxRecDepth 100000 in
set_option maxHeartbeats 8000000 in
theorem apart_1 (x0 : Cfg) (x1 : Int) (x2 : Int) (A3 : Option Addr) (n3 c3 : Nat) (l3 : List UInt8) (A4 : Option Addr) (n4 c4 : Nat) (l4 : List UInt8) (A5 : Option Addr) (n5 c5 : Nat) (l5 : List UInt8) (A6 : Option Addr) (n6 c6 : Nat) (l6 : List UInt8) (w : World) (h0 : x0.ok) (h1 : (Lit.int .i64 x1).wf = true) (h2 : (Lit.int .i64 x2).wf = true) (h3 : RB w w.heap.size A3 n3 l3) (m3 : n3 ≤ c3 ∧ c3 ≤ maxLen) (h4 : RB w w.heap.size A4 n4 l4) (m4 : n4 ≤ c4 ∧ c4 ≤ maxLen) (h5 : RB w w.heap.size A5 n5 l5) (m5 : n5 ≤ c5 ∧ c5 ≤ maxLen) (h6 : RB w w.heap.size A6 n6 l6) (m6 : n6 ≤ c6 ∧ c6 ≤ maxLen) (X Y : List UInt8) (hX : codM x0 x1 l3 l4 = (X, 0)) (hY : codM x0 x2 l5 l6 = (Y, 0)) (hp : x1 = x2) (hs : (l3 == l5) = false) (hv : (X == Y) = false) :
    Calls Tryz.prog 6 #[x0.val, .int .i64 x1, .int .i64 x2, .slice A3 n3 c3, .slice A4 n4 c4, .slice A5 n5 c5, .slice A6 n6 c6] w fun e w' => e = .returned (.bool true) ∧ Below w.heap.size w w' := by
  have HX := Lib.hid hX
  have HY := Lib.hid hY
  obtain ⟨nX, hnX⟩ : ∃ n, X.length = n := ⟨_, rfl⟩
  have HNX := Lib.hid hnX
  obtain ⟨nY, hnY⟩ : ∃ n, Y.length = n := ⟨_, rfl⟩
  have HNY := Lib.hid hnY
  have HV := Lib.hid hv
  have HS := Lib.hid hs
  have b1 : (x1 == x2) = true := beq_iff_eq.2 hp
  have HC := Lib.hid h0
  have K0 := Lib.hid (((((DK.start w).add h3 m3.1 m3.2).add h4 m4.1 m4.2).add h5 m5.1 m5.2).add h6 m6.1 m6.2)
  have HL3 := Lib.hid h3.len
  have HM3 := Lib.hid m3
  have HL4 := Lib.hid h4.len
  have HM4 := Lib.hid m4
  have HL5 := Lib.hid h5.len
  have HM5 := Lib.hid m5
  have HL6 := Lib.hid h6.len
  have HM6 := Lib.hid m6
  clear h0 h1 h2 h3 m3 h4 m4 h5 m5 h6 m6 hX hY hv hp hs hnX hnY
  go_enter Tryz.func6, Tryz.ntmps6
  go_wp2_with (first | (refine wpList_boxB rfl 24 (.tmp 0) rfl x0.cells (val_agg _) ?_; intro w1 p_c hc1 hb1 hx1; have K1 := Lib.hid (K0.out.boxed hb1 hc1 HC.out); clear hc1 hb1 hx1; have q_c := ld_cfg rt_cfg (K1.out.cf _ (.head _)).1 (K1.out.cf _ (.head _)).2))
  refine (calive_any _).mono ?_
  rintro e w2 ⟨rfl, hb⟩
  have K2 := Lib.hid (K1.out.step hb)
  clear K1
  clear hb
  (try clear q_c)
  (try clear f0_c)
  (try clear f1_c)
  (try clear f2_c)
  have q_c := ld_cfg rt_cfg (K2.out.cf _ (.head _)).1 (K2.out.cf _ (.head _)).2
  go_wp2_with fail
  refine (cmake_any x0 HC.out x1 _ n3 c3 l3 _ n4 c4 l4 _ (by exact (K2.out.hw.row _ (.tail _ (.tail _ (.tail _ (.head _))))).1) (by exact (K2.out.hw.row _ (.tail _ (.tail _ (.head _)))).1)).mono ?_
  rw [HX.out]
  (try dsimp only)
  rw [HNX.out]
  rintro e w3 ⟨Aa, ca, rfl, ho, hb⟩
  have K3 := Lib.hid (K2.out.own hb ho)
  clear K2
  clear ho hb
  (try clear q_c)
  (try clear f0_c)
  (try clear f1_c)
  (try clear f2_c)
  have q_c := ld_cfg rt_cfg (K3.out.cf _ (.head _)).1 (K3.out.cf _ (.head _)).2
  go_wp2_with fail
  refine (cmake_any x0 HC.out x2 _ n5 c5 l5 _ n6 c6 l6 _ (by exact (K3.out.hw.row _ (.tail _ (.tail _ (.head _)))).1) (by exact (K3.out.hw.row _ (.tail _ (.head _))).1)).mono ?_
  rw [HY.out]
  (try dsimp only)
  rw [HNY.out]
  rintro e w4 ⟨Ab, cb, rfl, ho, hb⟩
  have K4 := Lib.hid (K3.out.own hb ho)
  clear K3
  clear ho hb
  (try clear q_c)
  (try clear f0_c)
  (try clear f1_c)
  (try clear f2_c)
  have q_c := ld_cfg rt_cfg (K4.out.cf _ (.head _)).1 (K4.out.cf _ (.head _)).2
  go_wp2_with fail
  refine (al_same _ _ _ _ _ _ l3 l5 _ (by exact (K4.out.hw.row _ (.tail _ (.tail _ (.tail _ (.tail _ (.tail _ (.head _))))))).1) (by exact (K4.out.hw.row _ (.tail _ (.tail _ (.tail _ (.head _))))).1) (by exact Nat.le_trans (K4.out.hw.row _ (.tail _ (.tail _ (.tail _ (.tail _ (.tail _ (.head _))))))).2.1 (K4.out.hw.row _ (.tail _ (.tail _ (.tail _ (.tail _ (.tail _ (.head _))))))).2.2) (by exact Nat.le_trans (K4.out.hw.row _ (.tail _ (.tail _ (.tail _ (.head _))))).2.1 (K4.out.hw.row _ (.tail _ (.tail _ (.tail _ (.head _))))).2.2) false (HS.out)).mono ?_
  rintro e w5 ⟨rfl, hb⟩
  have K5 := Lib.hid (K4.out.step hb)
  clear K4
  clear hb
  (try clear q_c)
  (try clear f0_c)
  (try clear f1_c)
  (try clear f2_c)
  have q_c := ld_cfg rt_cfg (K5.out.cf _ (.head _)).1 (K5.out.cf _ (.head _)).2
  go_wp2_with fail
  refine (al_same _ _ _ _ _ _ X Y _ (by exact (K5.out.hw.row _ (.tail _ (.head _))).1) (by exact (K5.out.hw.row _ (.head _)).1) (by exact Nat.le_trans (K5.out.hw.row _ (.tail _ (.head _))).2.1 (K5.out.hw.row _ (.tail _ (.head _))).2.2) (by exact Nat.le_trans (K5.out.hw.row _ (.head _)).2.1 (K5.out.hw.row _ (.head _)).2.2) false (HV.out)).mono ?_
  rintro e w6 ⟨rfl, hb⟩
  have K6 := Lib.hid (K5.out.step hb)
  clear K5
  clear hb
  (try clear q_c)
  (try clear f0_c)
  (try clear f1_c)
  (try clear f2_c)
  have q_c := ld_cfg rt_cfg (K6.out.cf _ (.head _)).1 (K6.out.cf _ (.head _)).2
  go_wp2_with fail
  go_ret
  exact ⟨rfl, K6.out.hw.bel⟩
set_option maxRecDepth 100000 in
set_option maxHeartbeats 8000000 in
theorem apart_2 (x0 : Cfg) (x1 : Int) (x2 : Int) (A3 : Option Addr) (n3 c3 : Nat) (l3 : List UInt8) (A4 : Option Addr) (n4 c4 : Nat) (l4 : List UInt8) (A5 : Option Addr) (n5 c5 : Nat) (l5 : List UInt8) (A6 : Option Addr) (n6 c6 : Nat) (l6 : List UInt8) (w : World) (h0 : x0.ok) (h1 : (Lit.int .i64 x1).wf = true) (h2 : (Lit.int .i64 x2).wf = true) (h3 : RB w w.heap.size A3 n3 l3) (m3 : n3 ≤ c3 ∧ c3 ≤ maxLen) (h4 : RB w w.heap.size A4 n4 l4) (m4 : n4 ≤ c4 ∧ c4 ≤ maxLen) (h5 : RB w w.heap.size A5 n5 l5) (m5 : n5 ≤ c5 ∧ c5 ≤ maxLen) (h6 : RB w w.heap.size A6 n6 l6) (m6 : n6 ≤ c6 ∧ c6 ≤ maxLen) (X Y : List UInt8) (hX : codM x0 x1 l3 l4 = (X, 0)) (hY : codM x0 x2 l5 l6 = (Y, 0)) (hp : x1 = x2) (hs : (l3 == l5) = true) (b : Bool) (ht : (l4 == l6) = b) (hv : (X == Y) = b) :
    Calls Tryz.prog 6 #[x0.val, .int .i64 x1, .int .i64 x2, .slice A3 n3 c3, .slice A4 n4 c4, .slice A5 n5 c5, .slice A6 n6 c6] w fun e w' => e = .returned (.bool true) ∧ Below w.heap.size w w' := by
  have HX := Lib.hid hX
  have HY := Lib.hid hY
  obtain ⟨nX, hnX⟩ : ∃ n, X.length = n := ⟨_, rfl⟩
  have HNX := Lib.hid hnX
  obtain ⟨nY, hnY⟩ : ∃ n, Y.length = n := ⟨_, rfl⟩
  have HNY := Lib.hid hnY
  have HV := Lib.hid hv
  have HS := Lib.hid hs
  have HT := Lib.hid ht
  have b1 : (x1 == x2) = true := beq_iff_eq.2 hp
  have b2 : (b == b) = true := beq_self_eq_true _
  have HC := Lib.hid h0
  have K0 := Lib.hid (((((DK.start w).add h3 m3.1 m3.2).add h4 m4.1 m4.2).add h5 m5.1 m5.2).add h6 m6.1 m6.2)
  have HL3 := Lib.hid h3.len
  have HM3 := Lib.hid m3
  have HL4 := Lib.hid h4.len
  have HM4 := Lib.hid m4
  have HL5 := Lib.hid h5.len
  have HM5 := Lib.hid m5
  have HL6 := Lib.hid h6.len
  have HM6 := Lib.hid m6
  clear h0 h1 h2 h3 m3 h4 m4 h5 m5 h6 m6 hX hY hv hp hs ht hnX hnY
  go_enter Tryz.func6, Tryz.ntmps6
  go_wp2_with (first | (refine wpList_boxB rfl 24 (.tmp 0) rfl x0.cells (val_agg _) ?_; intro w1 p_c hc1 hb1 hx1; have K1 := Lib.hid (K0.out.boxed hb1 hc1 HC.out); clear hc1 hb1 hx1; have q_c := ld_cfg rt_cfg (K1.out.cf _ (.head _)).1 (K1.out.cf _ (.head _)).2))
  refine (calive_any _).mono ?_
  rintro e w2 ⟨rfl, hb⟩
  have K2 := Lib.hid (K1.out.step hb)
  clear K1
  clear hb
  (try clear q_c)
  (try clear f0_c)
  (try clear f1_c)
  (try clear f2_c)
  have q_c := ld_cfg rt_cfg (K2.out.cf _ (.head _)).1 (K2.out.cf _ (.head _)).2
  go_wp2_with fail
  refine (cmake_any x0 HC.out x1 _ n3 c3 l3 _ n4 c4 l4 _ (by exact (K2.out.hw.row _ (.tail _ (.tail _ (.tail _ (.head _))))).1) (by exact (K2.out.hw.row _ (.tail _ (.tail _ (.head _)))).1)).mono ?_
  rw [HX.out]
  (try dsimp only)
  rw [HNX.out]
  rintro e w3 ⟨Aa, ca, rfl, ho, hb⟩
  have K3 := Lib.hid (K2.out.own hb ho)
  clear K2
  clear ho hb
  (try clear q_c)
  (try clear f0_c)
  (try clear f1_c)
  (try clear f2_c)
  have q_c := ld_cfg rt_cfg (K3.out.cf _ (.head _)).1 (K3.out.cf _ (.head _)).2
  go_wp2_with fail
  refine (cmake_any x0 HC.out x2 _ n5 c5 l5 _ n6 c6 l6 _ (by exact (K3.out.hw.row _ (.tail _ (.tail _ (.head _)))).1) (by exact (K3.out.hw.row _ (.tail _ (.head _))).1)).mono ?_
  rw [HY.out]
  (try dsimp only)
  rw [HNY.out]
  rintro e w4 ⟨Ab, cb, rfl, ho, hb⟩
  have K4 := Lib.hid (K3.out.own hb ho)
  clear K3
  clear ho hb
  (try clear q_c)
  (try clear f0_c)
  (try clear f1_c)
  (try clear f2_c)
  have q_c := ld_cfg rt_cfg (K4.out.cf _ (.head _)).1 (K4.out.cf _ (.head _)).2
  go_wp2_with fail
  refine (al_same _ _ _ _ _ _ l3 l5 _ (by exact (K4.out.hw.row _ (.tail _ (.tail _ (.tail _ (.tail _ (.tail _ (.head _))))))).1) (by exact (K4.out.hw.row _ (.tail _ (.tail _ (.tail _ (.head _))))).1) (by exact Nat.le_trans (K4.out.hw.row _ (.tail _ (.tail _ (.tail _ (.tail _ (.tail _ (.head _))))))).2.1 (K4.out.hw.row _ (.tail _ (.tail _ (.tail _ (.tail _ (.tail _ (.head _))))))).2.2) (by exact Nat.le_trans (K4.out.hw.row _ (.tail _ (.tail _ (.tail _ (.head _))))).2.1 (K4.out.hw.row _ (.tail _ (.tail _ (.tail _ (.head _))))).2.2) true (HS.out)).mono ?_
  rintro e w5 ⟨rfl, hb⟩
  have K5 := Lib.hid (K4.out.step hb)
  clear K4
  clear hb
  (try clear q_c)
  (try clear f0_c)
  (try clear f1_c)
  (try clear f2_c)
  have q_c := ld_cfg rt_cfg (K5.out.cf _ (.head _)).1 (K5.out.cf _ (.head _)).2
  go_wp2_with fail
  refine (al_same _ _ _ _ _ _ l4 l6 _ (by exact (K5.out.hw.row _ (.tail _ (.tail _ (.tail _ (.tail _ (.head _)))))).1) (by exact (K5.out.hw.row _ (.tail _ (.tail _ (.head _)))).1) (by exact Nat.le_trans (K5.out.hw.row _ (.tail _ (.tail _ (.tail _ (.tail _ (.head _)))))).2.1 (K5.out.hw.row _ (.tail _ (.tail _ (.tail _ (.tail _ (.head _)))))).2.2) (by exact Nat.le_trans (K5.out.hw.row _ (.tail _ (.tail _ (.head _)))).2.1 (K5.out.hw.row _ (.tail _ (.tail _ (.head _)))).2.2) b (HT.out)).mono ?_
  rintro e w6 ⟨rfl, hb⟩
  have K6 := Lib.hid (K5.out.step hb)
  clear K5
  clear hb
  (try clear q_c)
  (try clear f0_c)
  (try clear f1_c)
  (try clear f2_c)
  have q_c := ld_cfg rt_cfg (K6.out.cf _ (.head _)).1 (K6.out.cf _ (.head _)).2
  go_wp2_with fail
  refine (al_same _ _ _ _ _ _ X Y _ (by exact (K6.out.hw.row _ (.tail _ (.head _))).1) (by exact (K6.out.hw.row _ (.head _)).1) (by exact Nat.le_trans (K6.out.hw.row _ (.tail _ (.head _))).2.1 (K6.out.hw.row _ (.tail _ (.head _))).2.2) (by exact Nat.le_trans (K6.out.hw.row _ (.head _)).2.1 (K6.out.hw.row _ (.head _)).2.2) b (HV.out)).mono ?_
  rintro e w7 ⟨rfl, hb⟩
  have K7 := Lib.hid (K6.out.step hb)
  clear K6
  clear hb
  (try clear q_c)
  (try clear f0_c)
  (try clear f1_c)
  (try clear f2_c)
  have q_c := ld_cfg rt_cfg (K7.out.cf _ (.head _)).1 (K7.out.cf _ (.head _)).2
  go_wp2_with fail
  go_ret
  exact ⟨rfl, K7.out.hw.bel⟩
theorem CodecApart_walk (x0 : Cfg) (x1 : Int) (x2 : Int) (A3 : Option Addr) (n3 c3 : Nat) (l3 : List UInt8) (A4 : Option Addr) (n4 c4 : Nat) (l4 : List UInt8) (A5 : Option Addr) (n5 c5 : Nat) (l5 : List UInt8) (A6 : Option Addr) (n6 c6 : Nat) (l6 : List UInt8) (w : World) (h0 : x0.ok) (h1 : (Lit.int .i64 x1).wf = true) (h2 : (Lit.int .i64 x2).wf = true) (h3 : RB w w.heap.size A3 n3 l3) (m3 : n3 ≤ c3 ∧ c3 ≤ maxLen) (h4 : RB w w.heap.size A4 n4 l4) (m4 : n4 ≤ c4 ∧ c4 ≤ maxLen) (h5 : RB w w.heap.size A5 n5 l5) (m5 : n5 ≤ c5 ∧ c5 ≤ maxLen) (h6 : RB w w.heap.size A6 n6 l6) (m6 : n6 ≤ c6 ∧ c6 ≤ maxLen) :
    Calls Tryz.prog 6 #[x0.val, .int .i64 x1, .int .i64 x2, .slice A3 n3 c3, .slice A4 n4 c4, .slice A5 n5 c5, .slice A6 n6 c6] w fun e w' => e = .returned (.bool true) ∧ Below w.heap.size w w' := by
  rcases codM_cases x0 x1 l3 l4 with ⟨_, e⟩ | ⟨_, _, e⟩ | ⟨hr, hn, e⟩
  · exact apart_bad1 x0 x1 x2 A3 n3 c3 l3 A4 n4 c4 l4 A5 n5 c5 l5 A6 n6 c6 l6 w h0 h1 h2 h3 m3 h4 m4 h5 m5 h6 m6 19 (by decide) e
  · exact apart_bad1 x0 x1 x2 A3 n3 c3 l3 A4 n4 c4 l4 A5 n5 c5 l5 A6 n6 c6 l6 w h0 h1 h2 h3 m3 h4 m4 h5 m5 h6 m6 11 (by decide) e
  rcases codM_cases x0 x2 l5 l6 with ⟨_, f⟩ | ⟨_, _, f⟩ | ⟨_, hm, f⟩
  · exact apart_bad2 x0 x1 x2 A3 n3 c3 l3 A4 n4 c4 l4 A5 n5 c5 l5 A6 n6 c6 l6 w h0 h1 h2 h3 m3 h4 m4 h5 m5 h6 m6 _ _ idB_len 19 (by decide) e f
  · exact apart_bad2 x0 x1 x2 A3 n3 c3 l3 A4 n4 c4 l4 A5 n5 c5 l5 A6 n6 c6 l6 w h0 h1 h2 h3 m3 h4 m4 h5 m5 h6 m6 _ _ idB_len 11 (by decide) e f
  have hv := apart hr h0.k hn hm
  by_cases hp : x1 = x2
  · rw [decide_eq_true hp, Bool.true_and] at hv
    cases hs : (l3 == l5)
    · rw [hs, Bool.false_and] at hv
      exact apart_1 x0 x1 x2 A3 n3 c3 l3 A4 n4 c4 l4 A5 n5 c5 l5 A6 n6 c6 l6 w h0 h1 h2 h3 m3 h4 m4 h5 m5 h6 m6 _ _ e f hp hs hv
    · rw [hs, Bool.true_and] at hv
      exact apart_2 x0 x1 x2 A3 n3 c3 l3 A4 n4 c4 l4 A5 n5 c5 l5 A6 n6 c6 l6 w h0 h1 h2 h3 m3 h4 m4 h5 m5 h6 m6 _ _ e f hp hs _ rfl hv
  · rw [decide_eq_false hp, Bool.false_and] at hv
    exact apart_0 x0 x1 x2 A3 n3 c3 l3 A4 n4 c4 l4 A5 n5 c5 l5 A6 n6 c6 l6 w h0 h1 h2 h3 m3 h4 m4 h5 m5 h6 m6 _ _ e f hp hv
end Go.Proofs.YtfipdaekfdbaeaaGreat
