/- Layer 16: the walk of the statement ModeSizes. No condition. -/
import Derived.Test.YtdhnknkochbekaaGreatMdV

namespace Go.Proofs.YtdhnknkochbekaaGreat
open Go.RowKit
set_option linter.unusedVariables false
set_option linter.unusedSimpArgs false
attribute [local irreducible] Cfg.val Cfg.cells rtB Rt zK sizeC AV bytC rawC zeroC turnC wayC encL decL tableL backL passesR cntP readC cU dU bU
attribute [local go_sem ↓] ex_ldC ex_ldR
set_option maxRecDepth 100000 in
set_option maxHeartbeats 8000000 in
theorem sizes_long (x0 : Cfg) (A1 : Option Addr) (n1 c1 : Nat) (l1 : List UInt8) (w : World) (h0 : x0.ok) (h1 : RB w w.heap.size A1 n1 l1) (m1 : n1 ≤ c1 ∧ c1 ≤ maxLen) (h : n1 > 100) :
    Calls Tryz.prog 6 #[x0.val, .slice A1 n1 c1] w fun e w' => e = .returned (.bool true) ∧ Below w.heap.size w w' := by
  have d1 : decide ((100 : Int) < (n1 : Int)) = true := decide_eq_true (by omega)
  have HC := Lib.hid h0
  have K0 := Lib.hid ((MK.start w).add h1 m1.1 m1.2)
  have HM := Lib.hid m1
  clear h0 h1 m1 h
  go_enter Tryz.func6, Tryz.ntmps6
  go_wp2_with (first | (refine wpList_boxB rfl 24 (.tmp 0) rfl x0.cells (val_agg _) ?_; intro w1 p_c hc1 hb1 hx1; have K1 := Lib.hid (K0.out.boxed hb1 hc1 HC.out); clear hc1 hb1 hx1; have q_c := ld_cfg rt_cfg (K1.out.cf _ (.head _)).1 (K1.out.cf _ (.head _)).2))
  refine (malive_any _).mono ?_
  rintro e w2 ⟨rfl, hb⟩
  have K2 := Lib.hid (K1.out.step hb)
  clear K1
  clear hb
  (try clear q_c)
  (try clear f0_c)
  (try clear f1_c)
  (try clear f2_c)
  have q_c := ld_cfg rt_cfg (K2.out.cf _ (.head _)).1 (K2.out.cf _ (.head _)).2
  go_wp2_with fail
  go_ret
  exact ⟨rfl, K2.out.hw.bel⟩
set_option maxRecDepth 100000 in
set_option maxHeartbeats 8000000 in
theorem sizes_no (x0 : Cfg) (A1 : Option Addr) (n1 c1 : Nat) (l1 : List UInt8) (w : World) (h0 : x0.ok) (h1 : RB w w.heap.size A1 n1 l1) (m1 : n1 ≤ c1 ∧ c1 ≤ maxLen) (h : n1 ≤ 100) (hr : rtB x0 = false) :
    Calls Tryz.prog 6 #[x0.val, .slice A1 n1 c1] w fun e w' => e = .returned (.bool true) ∧ Below w.heap.size w w' := by
  have HE1 : Hid (turnC x0 false l1 = ([], 19)) := Lib.hid (turn_state hr)
  have HE2 : Hid (turnC x0 true l1 = ([], 19)) := Lib.hid (turn_state hr)
  have HR := Lib.hid (fun u => mright_any x0 h0 false hr u)
  have HS := Lib.hid (fun u => msize_any x0 h0 0 (size_no hr) u)
  have HC := Lib.hid h0
  have K0 := Lib.hid ((MK.start w).add h1 m1.1 m1.2)
  have HM := Lib.hid m1
  clear h0 h1 m1 hr
  go_enter Tryz.func6, Tryz.ntmps6
  go_wp2_with (first | (refine wpList_boxB rfl 24 (.tmp 0) rfl x0.cells (val_agg _) ?_; intro w1 p_c hc1 hb1 hx1; have K1 := Lib.hid (K0.out.boxed hb1 hc1 HC.out); clear hc1 hb1 hx1; have q_c := ld_cfg rt_cfg (K1.out.cf _ (.head _)).1 (K1.out.cf _ (.head _)).2))
  refine (malive_any _).mono ?_
  rintro e w2 ⟨rfl, hb⟩
  have K2 := Lib.hid (K1.out.step hb)
  clear K1
  clear hb
  (try clear q_c)
  (try clear f0_c)
  (try clear f1_c)
  (try clear f2_c)
  have q_c := ld_cfg rt_cfg (K2.out.cf _ (.head _)).1 (K2.out.cf _ (.head _)).2
  go_wp2_with fail
  refine (mturn_any x0 HC.out A1 n1 c1 l1 _ (by exact (K2.out.hw.row _ (.head _)).1) (by exact (K2.out.hw.row _ (.head _)).2.1) (by omega)).mono ?_
  rw [HE1.out]
  rintro e w3 ⟨Ax, cx, rfl, ho, hb⟩
  have K3 := Lib.hid (K2.out.own hb ho)
  clear K2
  clear ho hb
  (try clear q_c)
  (try clear f0_c)
  (try clear f1_c)
  (try clear f2_c)
  have q_c := ld_cfg rt_cfg (K3.out.cf _ (.head _)).1 (K3.out.cf _ (.head _)).2
  go_wp2_with fail
  refine (mback_any x0 HC.out A1 n1 c1 l1 _ (by exact (K3.out.hw.row _ (.tail _ (.head _))).1) (by exact (K3.out.hw.row _ (.tail _ (.head _))).2.1) (by omega)).mono ?_
  rw [HE2.out]
  rintro e w4 ⟨Ay, cy, rfl, ho, hb⟩
  have K4 := Lib.hid (K3.out.own hb ho)
  clear K3
  clear ho hb
  (try clear q_c)
  (try clear f0_c)
  (try clear f1_c)
  (try clear f2_c)
  have q_c := ld_cfg rt_cfg (K4.out.cf _ (.head _)).1 (K4.out.cf _ (.head _)).2
  go_wp2_with fail
  refine (HR.out _).mono ?_
  rintro e w5 ⟨rfl, hb⟩
  have K5 := Lib.hid (K4.out.step hb)
  clear K4
  clear hb
  (try clear q_c)
  (try clear f0_c)
  (try clear f1_c)
  (try clear f2_c)
  have q_c := ld_cfg rt_cfg (K5.out.cf _ (.head _)).1 (K5.out.cf _ (.head _)).2
  go_wp2_with fail
  refine (HS.out _).mono ?_
  rintro e w6 ⟨rfl, hb⟩
  have K6 := Lib.hid (K5.out.step hb)
  clear K5
  clear hb
  (try clear q_c)
  (try clear f0_c)
  (try clear f1_c)
  (try clear f2_c)
  have q_c := ld_cfg rt_cfg (K6.out.cf _ (.head _)).1 (K6.out.cf _ (.head _)).2
  go_wp2_with fail
  go_ret
  exact ⟨rfl, K6.out.hw.bel⟩
set_option maxRecDepth 100000 in
set_option maxHeartbeats 8000000 in
theorem sizes_len (x0 : Cfg) (A1 : Option Addr) (n1 c1 : Nat) (l1 : List UInt8) (w : World) (h0 : x0.ok) (h1 : RB w w.heap.size A1 n1 l1) (m1 : n1 ≤ c1 ∧ c1 ≤ maxLen) (h : n1 ≤ 100) (hr : rtB x0 = true) (hl : ¬ (l1.length : Int) = x0.s + x0.n) :
    Calls Tryz.prog 6 #[x0.val, .slice A1 n1 c1] w fun e w' => e = .returned (.bool true) ∧ Below w.heap.size w w' := by
  have HL := Lib.hid h1.len
  obtain ⟨r1, r2, r3, r4, r5, r6⟩ := rt_unf (rt_of hr)
  obtain ⟨z, hz⟩ : ∃ z, sizeC x0 = z := ⟨_, rfl⟩
  have hz2 : z = 1 + (x0.s + x0.n) := by rw [← hz, size_ok hr]
  have HS := Lib.hid (fun u => msize_any x0 h0 z hz u)
  have HR := Lib.hid (fun u => mright_any x0 h0 true hr u)
  have hz3 : 6 ≤ z ∧ z ≤ 20 := ⟨by omega, by omega⟩
  have d6 : decide (z < 6) = false := decide_eq_false (by omega)
  have d20 : decide ((20 : Int) < z) = false := decide_eq_false (by omega)
  have HE1 : Hid (turnC x0 false l1 = ([], 11)) := Lib.hid (turn_range hr hl)
  have HE2 : Hid (turnC x0 true l1 = ([], 11)) := Lib.hid (turn_range hr hl)
  have dne : ((n1 : Int) != z - 1) = true := by rw [bne_iff_ne]; have := HL.out; omega
  have HC := Lib.hid h0
  have K0 := Lib.hid ((MK.start w).add h1 m1.1 m1.2)
  have HM := Lib.hid m1
  clear h0 h1 m1 hr hl hz hz2 r1 r2 r3 r4 r5 r6
  go_enter Tryz.func6, Tryz.ntmps6
  go_wp2_with (first | (refine wpList_boxB rfl 24 (.tmp 0) rfl x0.cells (val_agg _) ?_; intro w1 p_c hc1 hb1 hx1; have K1 := Lib.hid (K0.out.boxed hb1 hc1 HC.out); clear hc1 hb1 hx1; have q_c := ld_cfg rt_cfg (K1.out.cf _ (.head _)).1 (K1.out.cf _ (.head _)).2))
  refine (malive_any _).mono ?_
  rintro e w2 ⟨rfl, hb⟩
  have K2 := Lib.hid (K1.out.step hb)
  clear K1
  clear hb
  (try clear q_c)
  (try clear f0_c)
  (try clear f1_c)
  (try clear f2_c)
  have q_c := ld_cfg rt_cfg (K2.out.cf _ (.head _)).1 (K2.out.cf _ (.head _)).2
  go_wp2_with fail
  refine (mturn_any x0 HC.out A1 n1 c1 l1 _ (by exact (K2.out.hw.row _ (.head _)).1) (by exact (K2.out.hw.row _ (.head _)).2.1) (by omega)).mono ?_
  rw [HE1.out]
  rintro e w3 ⟨Ax, cx, rfl, ho, hb⟩
  have K3 := Lib.hid (K2.out.own hb ho)
  clear K2
  clear ho hb
  (try clear q_c)
  (try clear f0_c)
  (try clear f1_c)
  (try clear f2_c)
  have q_c := ld_cfg rt_cfg (K3.out.cf _ (.head _)).1 (K3.out.cf _ (.head _)).2
  go_wp2_with fail
  refine (mback_any x0 HC.out A1 n1 c1 l1 _ (by exact (K3.out.hw.row _ (.tail _ (.head _))).1) (by exact (K3.out.hw.row _ (.tail _ (.head _))).2.1) (by omega)).mono ?_
  rw [HE2.out]
  rintro e w4 ⟨Ay, cy, rfl, ho, hb⟩
  have K4 := Lib.hid (K3.out.own hb ho)
  clear K3
  clear ho hb
  (try clear q_c)
  (try clear f0_c)
  (try clear f1_c)
  (try clear f2_c)
  have q_c := ld_cfg rt_cfg (K4.out.cf _ (.head _)).1 (K4.out.cf _ (.head _)).2
  go_wp2_with fail
  refine (HR.out _).mono ?_
  rintro e w5 ⟨rfl, hb⟩
  have K5 := Lib.hid (K4.out.step hb)
  clear K4
  clear hb
  (try clear q_c)
  (try clear f0_c)
  (try clear f1_c)
  (try clear f2_c)
  have q_c := ld_cfg rt_cfg (K5.out.cf _ (.head _)).1 (K5.out.cf _ (.head _)).2
  go_wp2_with fail
  refine (HS.out _).mono ?_
  rintro e w6 ⟨rfl, hb⟩
  have K6 := Lib.hid (K5.out.step hb)
  clear K5
  clear hb
  (try clear q_c)
  (try clear f0_c)
  (try clear f1_c)
  (try clear f2_c)
  have q_c := ld_cfg rt_cfg (K6.out.cf _ (.head _)).1 (K6.out.cf _ (.head _)).2
  go_wp2_with fail
  refine (HS.out _).mono ?_
  rintro e w7 ⟨rfl, hb⟩
  have K7 := Lib.hid (K6.out.step hb)
  clear K6
  clear hb
  (try clear q_c)
  (try clear f0_c)
  (try clear f1_c)
  (try clear f2_c)
  have q_c := ld_cfg rt_cfg (K7.out.cf _ (.head _)).1 (K7.out.cf _ (.head _)).2
  go_wp2_with fail
  refine (HS.out _).mono ?_
  rintro e w8 ⟨rfl, hb⟩
  have K8 := Lib.hid (K7.out.step hb)
  clear K7
  clear hb
  (try clear q_c)
  (try clear f0_c)
  (try clear f1_c)
  (try clear f2_c)
  have q_c := ld_cfg rt_cfg (K8.out.cf _ (.head _)).1 (K8.out.cf _ (.head _)).2
  go_wp2_with fail
  go_ret
  exact ⟨rfl, K8.out.hw.bel⟩
set_option maxRecDepth 100000 in
set_option maxHeartbeats 8000000 in
theorem sizes_plain (x0 : Cfg) (A1 : Option Addr) (n1 c1 : Nat) (l1 : List UInt8) (w : World) (h0 : x0.ok) (h1 : RB w w.heap.size A1 n1 l1) (m1 : n1 ≤ c1 ∧ c1 ≤ maxLen) (h : n1 ≤ 100) (hr : rtB x0 = true) (hl : (l1.length : Int) = x0.s + x0.n) (hm : x0.m = 0) :
    Calls Tryz.prog 6 #[x0.val, .slice A1 n1 c1] w fun e w' => e = .returned (.bool true) ∧ Below w.heap.size w w' := by
  have HL := Lib.hid h1.len
  obtain ⟨r1, r2, r3, r4, r5, r6⟩ := rt_unf (rt_of hr)
  obtain ⟨z, hz⟩ : ∃ z, sizeC x0 = z := ⟨_, rfl⟩
  have hz2 : z = 1 + (x0.s + x0.n) := by rw [← hz, size_ok hr]
  have HS := Lib.hid (fun u => msize_any x0 h0 z hz u)
  have HR := Lib.hid (fun u => mright_any x0 h0 true hr u)
  have hz3 : 6 ≤ z ∧ z ≤ 20 := ⟨by omega, by omega⟩
  have d6 : decide (z < 6) = false := decide_eq_false (by omega)
  have d20 : decide ((20 : Int) < z) = false := decide_eq_false (by omega)
  have dne : ((n1 : Int) != z - 1) = false := by rw [bne_eq_false_iff_eq]; have := HL.out; omega
  have HE1 : Hid (turnC x0 false l1 = (l1, 0)) := Lib.hid (by rw [turn_ok hr hl, way_plain hm])
  have HE2 : Hid (turnC x0 true l1 = (l1, 0)) := Lib.hid (by rw [turn_ok hr hl, way_plain hm])
  have dm : (x0.m != 0) = false := by rw [hm]; rfl
  have HC := Lib.hid h0
  have K0 := Lib.hid ((MK.start w).add h1 m1.1 m1.2)
  have HM := Lib.hid m1
  clear h0 h1 m1 hr hl hm hz hz2 r1 r2 r3 r4 r5 r6
  go_enter Tryz.func6, Tryz.ntmps6
  go_wp2_with (first | (refine wpList_boxB rfl 24 (.tmp 0) rfl x0.cells (val_agg _) ?_; intro w1 p_c hc1 hb1 hx1; have K1 := Lib.hid (K0.out.boxed hb1 hc1 HC.out); clear hc1 hb1 hx1; have q_c := ld_cfg rt_cfg (K1.out.cf _ (.head _)).1 (K1.out.cf _ (.head _)).2))
  refine (malive_any _).mono ?_
  rintro e w2 ⟨rfl, hb⟩
  have K2 := Lib.hid (K1.out.step hb)
  clear K1
  clear hb
  (try clear q_c)
  (try clear f0_c)
  (try clear f1_c)
  (try clear f2_c)
  have q_c := ld_cfg rt_cfg (K2.out.cf _ (.head _)).1 (K2.out.cf _ (.head _)).2
  go_wp2_with fail
  refine (mturn_any x0 HC.out A1 n1 c1 l1 _ (by exact (K2.out.hw.row _ (.head _)).1) (by exact (K2.out.hw.row _ (.head _)).2.1) (by omega)).mono ?_
  rw [HE1.out]
  dsimp only
  rw [HL.out]
  rintro e w3 ⟨Ax, cx, rfl, ho, hb⟩
  have K3 := Lib.hid (K2.out.own hb ho)
  clear K2
  clear ho hb
  (try clear q_c)
  (try clear f0_c)
  (try clear f1_c)
  (try clear f2_c)
  have q_c := ld_cfg rt_cfg (K3.out.cf _ (.head _)).1 (K3.out.cf _ (.head _)).2
  go_wp2_with fail
  refine (mback_any x0 HC.out A1 n1 c1 l1 _ (by exact (K3.out.hw.row _ (.tail _ (.head _))).1) (by exact (K3.out.hw.row _ (.tail _ (.head _))).2.1) (by omega)).mono ?_
  rw [HE2.out]
  dsimp only
  rw [HL.out]
  rintro e w4 ⟨Ay, cy, rfl, ho, hb⟩
  have K4 := Lib.hid (K3.out.own hb ho)
  clear K3
  clear ho hb
  (try clear q_c)
  (try clear f0_c)
  (try clear f1_c)
  (try clear f2_c)
  have q_c := ld_cfg rt_cfg (K4.out.cf _ (.head _)).1 (K4.out.cf _ (.head _)).2
  go_wp2_with fail
  refine (HR.out _).mono ?_
  rintro e w5 ⟨rfl, hb⟩
  have K5 := Lib.hid (K4.out.step hb)
  clear K4
  clear hb
  (try clear q_c)
  (try clear f0_c)
  (try clear f1_c)
  (try clear f2_c)
  have q_c := ld_cfg rt_cfg (K5.out.cf _ (.head _)).1 (K5.out.cf _ (.head _)).2
  go_wp2_with fail
  refine (HS.out _).mono ?_
  rintro e w6 ⟨rfl, hb⟩
  have K6 := Lib.hid (K5.out.step hb)
  clear K5
  clear hb
  (try clear q_c)
  (try clear f0_c)
  (try clear f1_c)
  (try clear f2_c)
  have q_c := ld_cfg rt_cfg (K6.out.cf _ (.head _)).1 (K6.out.cf _ (.head _)).2
  go_wp2_with fail
  refine (HS.out _).mono ?_
  rintro e w7 ⟨rfl, hb⟩
  have K7 := Lib.hid (K6.out.step hb)
  clear K6
  clear hb
  (try clear q_c)
  (try clear f0_c)
  (try clear f1_c)
  (try clear f2_c)
  have q_c := ld_cfg rt_cfg (K7.out.cf _ (.head _)).1 (K7.out.cf _ (.head _)).2
  go_wp2_with fail
  refine (HS.out _).mono ?_
  rintro e w8 ⟨rfl, hb⟩
  have K8 := Lib.hid (K7.out.step hb)
  clear K7
  clear hb
  (try clear q_c)
  (try clear f0_c)
  (try clear f1_c)
  (try clear f2_c)
  have q_c := ld_cfg rt_cfg (K8.out.cf _ (.head _)).1 (K8.out.cf _ (.head _)).2
  have f0_c := cf0 (K8.out.cf _ (.head _)).1
  have f1_c := cf1 (K8.out.cf _ (.head _)).1
  have f2_c := cf2 (K8.out.cf _ (.head _)).1
  go_wp2_with fail
  refine (al_same _ _ _ _ _ _ l1 l1 _ (by exact (K8.out.hw.row _ (.tail _ (.head _))).1) (by exact (K8.out.hw.row _ (.tail _ (.tail _ (.head _)))).1) (by exact Nat.le_trans (K8.out.hw.row _ (.tail _ (.head _))).2.1 (K8.out.hw.row _ (.tail _ (.head _))).2.2) (by exact Nat.le_trans (K8.out.hw.row _ (.tail _ (.tail _ (.head _)))).2.1 (K8.out.hw.row _ (.tail _ (.tail _ (.head _)))).2.2) true (beq_self_eq_true _)).mono ?_
  rintro e w9 ⟨rfl, hb⟩
  have K9 := Lib.hid (K8.out.step hb)
  clear K8
  clear hb
  (try clear q_c)
  (try clear f0_c)
  (try clear f1_c)
  (try clear f2_c)
  have q_c := ld_cfg rt_cfg (K9.out.cf _ (.head _)).1 (K9.out.cf _ (.head _)).2
  go_wp2_with fail
  refine (al_same _ _ _ _ _ _ l1 l1 _ (by exact (K9.out.hw.row _ (.head _)).1) (by exact (K9.out.hw.row _ (.tail _ (.tail _ (.head _)))).1) (by exact Nat.le_trans (K9.out.hw.row _ (.head _)).2.1 (K9.out.hw.row _ (.head _)).2.2) (by exact Nat.le_trans (K9.out.hw.row _ (.tail _ (.tail _ (.head _)))).2.1 (K9.out.hw.row _ (.tail _ (.tail _ (.head _)))).2.2) true (beq_self_eq_true _)).mono ?_
  rintro e w10 ⟨rfl, hb⟩
  have K10 := Lib.hid (K9.out.step hb)
  clear K9
  clear hb
  (try clear q_c)
  (try clear f0_c)
  (try clear f1_c)
  (try clear f2_c)
  have q_c := ld_cfg rt_cfg (K10.out.cf _ (.head _)).1 (K10.out.cf _ (.head _)).2
  go_wp2_with fail
  go_ret
  exact ⟨rfl, K10.out.hw.bel⟩
set_option maxRecDepth 100000 in
set_option maxHeartbeats 8000000 in
theorem sizes_ok (x0 : Cfg) (A1 : Option Addr) (n1 c1 : Nat) (l1 : List UInt8) (w : World) (h0 : x0.ok) (h1 : RB w w.heap.size A1 n1 l1) (m1 : n1 ≤ c1 ∧ c1 ≤ maxLen) (h : n1 ≤ 100) (hr : rtB x0 = true) (hl : (l1.length : Int) = x0.s + x0.n) (hm : ¬ x0.m = 0) :
    Calls Tryz.prog 6 #[x0.val, .slice A1 n1 c1] w fun e w' => e = .returned (.bool true) ∧ Below w.heap.size w w' := by
  have HL := Lib.hid h1.len
  obtain ⟨r1, r2, r3, r4, r5, r6⟩ := rt_unf (rt_of hr)
  obtain ⟨z, hz⟩ : ∃ z, sizeC x0 = z := ⟨_, rfl⟩
  have hz2 : z = 1 + (x0.s + x0.n) := by rw [← hz, size_ok hr]
  have HS := Lib.hid (fun u => msize_any x0 h0 z hz u)
  have HR := Lib.hid (fun u => mright_any x0 h0 true hr u)
  have hz3 : 6 ≤ z ∧ z ≤ 20 := ⟨by omega, by omega⟩
  have d6 : decide (z < 6) = false := decide_eq_false (by omega)
  have d20 : decide ((20 : Int) < z) = false := decide_eq_false (by omega)
  have dne : ((n1 : Int) != z - 1) = false := by rw [bne_eq_false_iff_eq]; have := HL.out; omega
  obtain ⟨X, hX⟩ : ∃ X, wayC x0 false l1 = X := ⟨_, rfl⟩
  obtain ⟨Y, hY⟩ : ∃ Y, wayC x0 true l1 = Y := ⟨_, rfl⟩
  have HX : Hid (X.length = n1) := Lib.hid (by rw [← hX, way_len (rt_of hr) h0.k hl, HL.out])
  have HY : Hid (Y.length = n1) := Lib.hid (by rw [← hY, way_len (rt_of hr) h0.k hl, HL.out])
  have HE1 : Hid (turnC x0 false l1 = (X, 0)) := Lib.hid (by rw [turn_ok hr hl, hX])
  have HE2 : Hid (turnC x0 true l1 = (Y, 0)) := Lib.hid (by rw [turn_ok hr hl, hY])
  clear hX hY
  have dm : (x0.m != 0) = true := by rw [bne_iff_ne]; exact hm
  have HC := Lib.hid h0
  have K0 := Lib.hid ((MK.start w).add h1 m1.1 m1.2)
  have HM := Lib.hid m1
  clear h0 h1 m1 hr hl hm hz hz2 r1 r2 r3 r4 r5 r6
  go_enter Tryz.func6, Tryz.ntmps6
  go_wp2_with (first | (refine wpList_boxB rfl 24 (.tmp 0) rfl x0.cells (val_agg _) ?_; intro w1 p_c hc1 hb1 hx1; have K1 := Lib.hid (K0.out.boxed hb1 hc1 HC.out); clear hc1 hb1 hx1; have q_c := ld_cfg rt_cfg (K1.out.cf _ (.head _)).1 (K1.out.cf _ (.head _)).2))
  refine (malive_any _).mono ?_
  rintro e w2 ⟨rfl, hb⟩
  have K2 := Lib.hid (K1.out.step hb)
  clear K1
  clear hb
  (try clear q_c)
  (try clear f0_c)
  (try clear f1_c)
  (try clear f2_c)
  have q_c := ld_cfg rt_cfg (K2.out.cf _ (.head _)).1 (K2.out.cf _ (.head _)).2
  go_wp2_with fail
  refine (mturn_any x0 HC.out A1 n1 c1 l1 _ (by exact (K2.out.hw.row _ (.head _)).1) (by exact (K2.out.hw.row _ (.head _)).2.1) (by omega)).mono ?_
  rw [HE1.out]
  dsimp only
  rw [HX.out]
  rintro e w3 ⟨Ax, cx, rfl, ho, hb⟩
  have K3 := Lib.hid (K2.out.own hb ho)
  clear K2
  clear ho hb
  (try clear q_c)
  (try clear f0_c)
  (try clear f1_c)
  (try clear f2_c)
  have q_c := ld_cfg rt_cfg (K3.out.cf _ (.head _)).1 (K3.out.cf _ (.head _)).2
  go_wp2_with fail
  refine (mback_any x0 HC.out A1 n1 c1 l1 _ (by exact (K3.out.hw.row _ (.tail _ (.head _))).1) (by exact (K3.out.hw.row _ (.tail _ (.head _))).2.1) (by omega)).mono ?_
  rw [HE2.out]
  dsimp only
  rw [HY.out]
  rintro e w4 ⟨Ay, cy, rfl, ho, hb⟩
  have K4 := Lib.hid (K3.out.own hb ho)
  clear K3
  clear ho hb
  (try clear q_c)
  (try clear f0_c)
  (try clear f1_c)
  (try clear f2_c)
  have q_c := ld_cfg rt_cfg (K4.out.cf _ (.head _)).1 (K4.out.cf _ (.head _)).2
  go_wp2_with fail
  refine (HR.out _).mono ?_
  rintro e w5 ⟨rfl, hb⟩
  have K5 := Lib.hid (K4.out.step hb)
  clear K4
  clear hb
  (try clear q_c)
  (try clear f0_c)
  (try clear f1_c)
  (try clear f2_c)
  have q_c := ld_cfg rt_cfg (K5.out.cf _ (.head _)).1 (K5.out.cf _ (.head _)).2
  go_wp2_with fail
  refine (HS.out _).mono ?_
  rintro e w6 ⟨rfl, hb⟩
  have K6 := Lib.hid (K5.out.step hb)
  clear K5
  clear hb
  (try clear q_c)
  (try clear f0_c)
  (try clear f1_c)
  (try clear f2_c)
  have q_c := ld_cfg rt_cfg (K6.out.cf _ (.head _)).1 (K6.out.cf _ (.head _)).2
  go_wp2_with fail
  refine (HS.out _).mono ?_
  rintro e w7 ⟨rfl, hb⟩
  have K7 := Lib.hid (K6.out.step hb)
  clear K6
  clear hb
  (try clear q_c)
  (try clear f0_c)
  (try clear f1_c)
  (try clear f2_c)
  have q_c := ld_cfg rt_cfg (K7.out.cf _ (.head _)).1 (K7.out.cf _ (.head _)).2
  go_wp2_with fail
  refine (HS.out _).mono ?_
  rintro e w8 ⟨rfl, hb⟩
  have K8 := Lib.hid (K7.out.step hb)
  clear K7
  clear hb
  (try clear q_c)
  (try clear f0_c)
  (try clear f1_c)
  (try clear f2_c)
  have q_c := ld_cfg rt_cfg (K8.out.cf _ (.head _)).1 (K8.out.cf _ (.head _)).2
  have f0_c := cf0 (K8.out.cf _ (.head _)).1
  have f1_c := cf1 (K8.out.cf _ (.head _)).1
  have f2_c := cf2 (K8.out.cf _ (.head _)).1
  go_wp2_with fail
  go_ret
  exact ⟨rfl, K8.out.hw.bel⟩
theorem ModeSizes_walk (x0 : Cfg) (A1 : Option Addr) (n1 c1 : Nat) (l1 : List UInt8) (w : World) (h0 : x0.ok) (h1 : RB w w.heap.size A1 n1 l1) (m1 : n1 ≤ c1 ∧ c1 ≤ maxLen) :
    Calls Tryz.prog 6 #[x0.val, .slice A1 n1 c1] w fun e w' => e = .returned (.bool true) ∧ Below w.heap.size w w' := by
  by_cases h : n1 > 100
  · exact sizes_long x0 A1 n1 c1 l1 w h0 h1 m1 h
  cases hr : rtB x0
  · exact sizes_no x0 A1 n1 c1 l1 w h0 h1 m1 (by omega) hr
  by_cases hl : (l1.length : Int) = x0.s + x0.n
  · by_cases hm : x0.m = 0
    · exact sizes_plain x0 A1 n1 c1 l1 w h0 h1 m1 (by omega) hr hl hm
    · exact sizes_ok x0 A1 n1 c1 l1 w h0 h1 m1 (by omega) hr hl hm
  · exact sizes_len x0 A1 n1 c1 l1 w h0 h1 m1 (by omega) hr hl
end Go.Proofs.YtdhnknkochbekaaGreat
