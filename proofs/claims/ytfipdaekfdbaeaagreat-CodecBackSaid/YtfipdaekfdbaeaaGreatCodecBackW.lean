/- Layer 17: the walk of the statement CodecBack. No condition. -/
import Derived.Test.YtfipdaekfdbaeaaGreatCdV
import Derived.Deep.CutBlock
namespace Go.Proofs.YtfipdaekfdbaeaaGreat
open Go.RowKit
set_option linter.unusedVariables false
set_option linter.unusedSimpArgs false
attribute [local irreducible] Cfg.val Cfg.cells rtB Rt zK sizeC AV bytC rawC zeroC turnC wayC encL decL tableL backL passesR cntP idB codM codB prtC plnL pcel zcel cU pntB tldB
attribute [local go_sem ↓] ex_ldC ex_ldR ex_ldP ex_ldPr
set_option maxRecDepth 100000 in
set_option maxHeartbeats 8000000 in
theorem back_no (x0 : Cfg) (x1 : Int) (A2 : Option Addr) (n2 c2 : Nat) (l2 : List UInt8) (A3 : Option Addr) (n3 c3 : Nat) (l3 : List UInt8) (A4 : Option Addr) (n4 c4 : Nat) (l4 : List UInt8) (w : World) (h0 : x0.ok) (h1 : (Lit.int .i64 x1).wf = true) (h2 : RB w w.heap.size A2 n2 l2) (m2 : n2 ≤ c2 ∧ c2 ≤ maxLen) (h3 : RB w w.heap.size A3 n3 l3) (m3 : n3 ≤ c3 ∧ c3 ≤ maxLen) (h4 : RB w w.heap.size A4 n4 l4) (m4 : n4 ≤ c4 ∧ c4 ≤ maxLen) (hr : rtB x0 = false) :
    Calls Tryz.prog 5 #[x0.val, .int .i64 x1, .slice A2 n2 c2, .slice A3 n3 c3, .slice A4 n4 c4] w fun e w' => e = .returned (.bool true) ∧ Below w.heap.size w w' := by
  have HR := Lib.hid (fun u => mright_any x0 h0 false hr u)
  have HS := Lib.hid (fun u => msize_any x0 h0 0 (size_no hr) u)
  have HC := Lib.hid h0
  have K0 := Lib.hid ((((DK.start w).add h2 m2.1 m2.2).add h3 m3.1 m3.2).add h4 m4.1 m4.2)
  have HL2 := Lib.hid h2.len
  have HM2 := Lib.hid m2
  have HL3 := Lib.hid h3.len
  have HM3 := Lib.hid m3
  have HL4 := Lib.hid h4.len
  have HM4 := Lib.hid m4
  clear h0 h1 h2 m2 h3 m3 h4 m4 hr
  go_enter Tryz.func5, Tryz.ntmps5
  go_wp2_with (first | (refine wpList_boxB rfl 24 (.tmp 0) rfl x0.cells (val_agg _) ?_; intro w1 p_c hc1 hb1 hx1; have K1 := Lib.hid (K0.out.boxed hb1 hc1 HC.out); clear hc1 hb1 hx1; have q_c := ld_cfg rt_cfg (K1.out.cf _ (.head _)).1 (K1.out.cf _ (.head _)).2))
  refine (calive_any _).mono ?_
  rintro e w2 ⟨rfl, hb⟩
  have K2 := Lib.hid (K1.out.step hb)
  clear K1
  clear hb
  (try clear q_c)
  (try clear f0_c)
  (try clear f1_c)
  (try clear f2_c)
  have q_c := ld_cfg rt_cfg (K2.out.cf _ (.head _)).1 (K2.out.cf _ (.head _)).2
  go_wp2_with fail
  refine (HR.out _).mono ?_
  rintro e w3 ⟨rfl, hb⟩
  have K3 := Lib.hid (K2.out.step hb)
  clear K2
  clear hb
  (try clear q_c)
  (try clear f0_c)
  (try clear f1_c)
  (try clear f2_c)
  have q_c := ld_cfg rt_cfg (K3.out.cf _ (.head _)).1 (K3.out.cf _ (.head _)).2
  go_wp2_with fail
  refine (HS.out _).mono ?_
  rintro e w4 ⟨rfl, hb⟩
  have K4 := Lib.hid (K3.out.step hb)
  clear K3
  clear hb
  (try clear q_c)
  (try clear f0_c)
  (try clear f1_c)
  (try clear f2_c)
  have q_c := ld_cfg rt_cfg (K4.out.cf _ (.head _)).1 (K4.out.cf _ (.head _)).2
  go_wp2_with fail
  go_ret
  exact ⟨rfl, K4.out.hw.bel⟩
set_option maxRecDepth 100000 in
set_option maxHeartbeats 8000000 in
theorem back_yes (x0 : Cfg) (x1 : Int) (A2 : Option Addr) (n2 c2 : Nat) (l2 : List UInt8) (A3 : Option Addr) (n3 c3 : Nat) (l3 : List UInt8) (A4 : Option Addr) (n4 c4 : Nat) (l4 : List UInt8) (w : World) (h0 : x0.ok) (h1 : (Lit.int .i64 x1).wf = true) (h2 : RB w w.heap.size A2 n2 l2) (m2 : n2 ≤ c2 ∧ c2 ≤ maxLen) (h3 : RB w w.heap.size A3 n3 l3) (m3 : n3 ≤ c3 ∧ c3 ≤ maxLen) (h4 : RB w w.heap.size A4 n4 l4) (m4 : n4 ≤ c4 ∧ c4 ≤ maxLen) (hr : rtB x0 = true) :
    Calls Tryz.prog 5 #[x0.val, .int .i64 x1, .slice A2 n2 c2, .slice A3 n3 c3, .slice A4 n4 c4] w fun e w' => e = .returned (.bool true) ∧ Below w.heap.size w w' := by
  have HR := Lib.hid (fun u => mright_any x0 h0 true hr u)
  obtain ⟨r1, r2, r3, r4, r5, r6⟩ := rt_unf (rt_of hr)
  have HRT := Lib.hid hr
  have HK := Lib.hid h0.k
  obtain ⟨z, hz⟩ : ∃ z : Nat, 1 + (x0.s + x0.n) = (z : Int) := ⟨(1 + (x0.s + x0.n)).toNat, by omega⟩
  have HZ := Lib.hid hz
  have HZ6 : Hid (6 ≤ z ∧ z ≤ 20) := Lib.hid (by omega)
  have HS := Lib.hid (fun u => msize_any x0 h0 (z : Int) (by rw [size_ok hr, hz]) u)
  have HC := Lib.hid h0
  have K0 := Lib.hid ((((DK.start w).add h2 m2.1 m2.2).add h3 m3.1 m3.2).add h4 m4.1 m4.2)
  have HL2 := Lib.hid h2.len
  have HM2 := Lib.hid m2
  have HL3 := Lib.hid h3.len
  have HM3 := Lib.hid m3
  have HL4 := Lib.hid h4.len
  have HM4 := Lib.hid m4
  clear h0 h1 h2 m2 h3 m3 h4 m4 hr r1 r4 r5 r6 hz
  go_enter Tryz.func5, Tryz.ntmps5
  go_wp2_with (first | (refine wpList_boxB rfl 24 (.tmp 0) rfl x0.cells (val_agg _) ?_; intro w1 p_c hc1 hb1 hx1; have K1 := Lib.hid (K0.out.boxed hb1 hc1 HC.out); clear hc1 hb1 hx1; have q_c := ld_cfg rt_cfg (K1.out.cf _ (.head _)).1 (K1.out.cf _ (.head _)).2))
  refine (calive_any _).mono ?_
  rintro e w2 ⟨rfl, hb⟩
  have K2 := Lib.hid (K1.out.step hb)
  clear K1
  clear hb
  (try clear q_c)
  (try clear f0_c)
  (try clear f1_c)
  (try clear f2_c)
  have q_c := ld_cfg rt_cfg (K2.out.cf _ (.head _)).1 (K2.out.cf _ (.head _)).2
  go_wp2_with fail
  refine (HR.out _).mono ?_
  rintro e w3 ⟨rfl, hb⟩
  have K3 := Lib.hid (K2.out.step hb)
  clear K2
  clear hb
  (try clear q_c)
  (try clear f0_c)
  (try clear f1_c)
  (try clear f2_c)
  have q_c := ld_cfg rt_cfg (K3.out.cf _ (.head _)).1 (K3.out.cf _ (.head _)).2
  have f0_c := cf0 (K3.out.cf _ (.head _)).1
  have f1_c := cf1 (K3.out.cf _ (.head _)).1
  have f2_c := cf2 (K3.out.cf _ (.head _)).1
  obtain ⟨bP, hbP⟩ : ∃ b, decide ((n2 : Int) = x0.s ∧ (n3 : Int) = x0.n ∧ 0 ≤ x1 ∧ x1 ≤ 2) = b := ⟨_, rfl⟩
  have HBP := Lib.hid hbP
  clear hbP
  go_upto_region 5 with fail
  go_cut [46] from 27 to 45 (fun s46 wx => s46 = .bool bP ∧ w3 = wx)
  case first =>
    by_cases p0 : (n2 : Int) = x0.s
    · have e0 : ((n2 : Int) == x0.s) = true := beq_iff_eq.2 p0
      have P0 := Lib.hid p0
      clear p0
      by_cases p1 : (n3 : Int) = x0.n
      · have e1 : ((n3 : Int) == x0.n) = true := beq_iff_eq.2 p1
        have P1 := Lib.hid p1
        clear p1
        by_cases p2 : 0 ≤ x1
        · have e2 : decide (0 ≤ x1) = true := decide_eq_true p2
          by_cases p3 : x1 ≤ 2
          · have e3 : decide (x1 ≤ 2) = true := decide_eq_true p3
            go_wp2_with fail
            go_meet
            exact ⟨by rw [← HBP.out, decide_eq_true ⟨P0.out, P1.out, p2, p3⟩], rfl⟩
          · have e3 : decide (x1 ≤ 2) = false := decide_eq_false p3
            go_wp2_with fail
            go_meet
            exact ⟨by rw [← HBP.out, decide_eq_false (fun e => by have h := e.2.2.2; omega)], rfl⟩
        · have e2 : decide (0 ≤ x1) = false := decide_eq_false p2
          go_wp2_with fail
          go_meet
          exact ⟨by rw [← HBP.out, decide_eq_false (fun e => by have h := e.2.2.1; omega)], rfl⟩
      · have e1 : ((n3 : Int) == x0.n) = false := by rw [beq_eq_false_iff_ne]; exact p1
        have P1 := Lib.hid p1
        clear p1
        go_wp2_with fail
        go_meet
        exact ⟨by rw [← HBP.out, decide_eq_false (fun e => P1.out e.2.1)], rfl⟩
    · have e0 : ((n2 : Int) == x0.s) = false := by rw [beq_eq_false_iff_ne]; exact p0
      have P0 := Lib.hid p0
      clear p0
      go_wp2_with fail
      go_meet
      exact ⟨by rw [← HBP.out, decide_eq_false (fun e => P0.out e.1)], rfl⟩
  case rest =>
    obtain ⟨rfl, rfl⟩ := hcut
    go_upto_if 46 with fail
    go_cut [11, 12, 13, 14] from 47 to 114 (fun _ _ _ _ wx => Hid (DK w [(A4, n4, c4, l4), (A3, n3, c3, l3), (A2, n2, c2, l2)] [(24, p_c, x0)] [] wx))
    case first =>
      cases bP
      · go_wp2_with fail
        go_meet
        exact Lib.hid (K3.out.over (by intro r hr; rcases List.mem_cons.1 hr with rfl | hr; exact .head _; rcases List.mem_cons.1 hr with rfl | hr; exact .tail _ (.head _); rcases List.mem_cons.1 hr with rfl | hr; exact .tail _ (.tail _ (.head _)); cases hr) (by intro r hr; rcases List.mem_cons.1 hr with rfl | hr; exact .head _; cases hr) (by intro r hr; cases hr))
      obtain ⟨p0, p1, p2, p3⟩ := of_decide_eq_true HBP.out
      have hn : (0 ≤ x1 ∧ x1 ≤ 2) ∧ (l2.length : Int) = x0.s ∧ (l3.length : Int) = x0.n := ⟨⟨p2, p3⟩, by rw [HL2.out]; exact p0, by rw [HL3.out]; exact p1⟩
      have hm := codM_ok HRT.out hn
      have hb := made_back HRT.out HK.out hn
      have hl := made_len HRT.out HK.out hn.2
      have hf := first_of (p := x1) (m := (wayC x0 false (l2 ++ l3)).length) p2 (by omega) (by have := HZ6.out; have := HZ.out; omega)
      have hg : (idB x1 (wayC x0 false (l2 ++ l3))).getD 0 0 = b8 (64 * x1 + (wayC x0 false (l2 ++ l3)).length) := by unfold idB; rfl
      have hil : (idB x1 (wayC x0 false (l2 ++ l3))).length = z := by rw [idB_len]; have := HZ.out; omega
      obtain ⟨b0, hb0⟩ : ∃ b, b8 (64 * x1 + (wayC x0 false (l2 ++ l3)).length) = b := ⟨_, rfl⟩
      rw [hb0] at hf hg
      have ht : tldB b0 = (z : Int) := by rw [hf.2]; have := HZ.out; omega
      obtain ⟨X, hX⟩ : ∃ X, idB x1 (wayC x0 false (l2 ++ l3)) = X := ⟨_, rfl⟩
      rw [hX] at hm hb hg hil
      have HM := Lib.hid hm
      have HB := Lib.hid hb
      have HI := Lib.hid hil
      have HG := Lib.hid hg
      have HPT := Lib.hid (fun u => cpoint_any b0 u)
      have HTL := Lib.hid (fun u => ctold_any b0 u)
      rw [hf.1] at HPT
      rw [ht] at HTL
      have d0 : ((z : Int) != 1 + x0.s + x0.n) = false := by rw [bne_eq_false_iff_eq]; have := HZ.out; omega
      have d1 : ((z : Int) != (z : Int)) = false := bne_self_eq_false _
      have d2 : (x1 != x1) = false := bne_self_eq_false _
      have i0 : 0 < z := by have := HZ6.out; omega
      have I0 := Lib.hid i0
      clear p0 p1 p2 p3 hn hm hb hl hf hg hil ht hX hb0
      go_wp2_with fail
      refine (cmake_any x0 HC.out x1 _ n2 c2 l2 _ n3 c3 l3 _ (by exact (K3.out.hw.row _ (.tail _ (.tail _ (.head _)))).1) (by exact (K3.out.hw.row _ (.tail _ (.head _))).1)).mono ?_
      rw [HM.out]
      (try dsimp only)
      rw [HI.out]
      rintro e w4 ⟨Aa, ca, rfl, ho, hb⟩
      have K4 := Lib.hid (K3.out.own hb ho)
      clear K3
      clear ho hb
      (try clear q_c)
      (try clear f0_c)
      (try clear f1_c)
      (try clear f2_c)
      have q_c := ld_cfg rt_cfg (K4.out.cf _ (.head _)).1 (K4.out.cf _ (.head _)).2
      have f0_c := cf0 (K4.out.cf _ (.head _)).1
      have f1_c := cf1 (K4.out.cf _ (.head _)).1
      have f2_c := cf2 (K4.out.cf _ (.head _)).1
      obtain ⟨ga, oa, rfl⟩ : ∃ ga oa, Aa = some ⟨ga, oa, none⟩ := (K4.out.hw.row _ (.head _)).1.some_ I0.out
      have HFI := Lib.hid (fun (u : World) (hu : RB u u.heap.size (some ⟨ga, oa, none⟩) z X) => first_cell hu I0.out)
      rw [HG.out] at HFI
      go_wp2_with fail
      refine (cback_r x0 HC.out (some ⟨ga, oa, none⟩) z ca X _ (by exact (K4.out.hw.row _ (.head _)).1) (by exact (K4.out.hw.row _ (.head _)).2.1)).mono ?_
      rw [HB.out]
      (try dsimp only)
      rintro e w5 ⟨Aps, cps, Apt, cpt, rfl, ho1, ho2, hb⟩
      have K5 := Lib.hid (K4.out.two hb ho1 ho2)
      clear K4
      clear ho1 ho2 hb
      (try clear q_c)
      (try clear f0_c)
      (try clear f1_c)
      (try clear f2_c)
      have q_c := ld_cfg rt_cfg (K5.out.cf _ (.head _)).1 (K5.out.cf _ (.head _)).2
      go_wp2_with (first | (with_reducible show wpList _ _ _ (⟨some 13, .alloc _, _, _, _, _⟩ :: _) _ _; refine wpList_newB rt_prt rfl rfl ?_; intro w6 p_p hc1 hb1 hx1; have Vw6 := Lib.hid (And.intro hc1 (And.intro hb1 hx1)); clear hc1 hb1 hx1) | (refine wpList_stB rt_prt rfl (.tmp 13) (.tmp 59) rfl p_p 0 rfl zcel (pcel x1 Aps l2.length cps Apt l3.length cpt) rfl pcel_one (by exact pcel_len) (by exact Vw6.out.1) (by rw [zcel_len]; decide) ?_; intro w7 hc1 ho1 hs1; have K6 := Lib.hid (K5.out.pvar Vw6.out.2.1 Vw6.out.2.2 ho1 hc1 pcel_len); clear hc1 ho1 hs1 Vw6; have q_c := ld_cfg rt_cfg (K6.out.cf _ (.head _)).1 (K6.out.cf _ (.head _)).2; have f0_c := cf0 (K6.out.cf _ (.head _)).1; have f1_c := cf1 (K6.out.cf _ (.head _)).1; have f2_c := cf2 (K6.out.cf _ (.head _)).1; have f0_p := pc0 (K6.out.pt _ (.head _)); have f1_p := pc1 (K6.out.pt _ (.head _)); have f2_p := pc2 (K6.out.pt _ (.head _)); have fa := HFI.out _ (K6.out.hw.row _ (.tail _ (.tail _ (.head _)))).1))
      refine (HPT.out _).mono ?_
      rintro e u1 ⟨rfl, rfl⟩
      go_wp2_with fail
      refine (HTL.out _).mono ?_
      rintro e u2 ⟨rfl, rfl⟩
      go_wp2_with fail
      refine (al_same _ _ _ _ _ _ l2 l2 _ (by exact (K6.out.hw.row _ (.tail _ (.head _))).1) (by exact (K6.out.hw.row _ (.tail _ (.tail _ (.tail _ (.tail _ (.tail _ (.head _))))))).1) (by exact Nat.le_trans (K6.out.hw.row _ (.tail _ (.head _))).2.1 (K6.out.hw.row _ (.tail _ (.head _))).2.2) (by exact Nat.le_trans (K6.out.hw.row _ (.tail _ (.tail _ (.tail _ (.tail _ (.tail _ (.head _))))))).2.1 (K6.out.hw.row _ (.tail _ (.tail _ (.tail _ (.tail _ (.tail _ (.head _))))))).2.2) true (beq_self_eq_true _)).mono ?_
      rintro e w8 ⟨rfl, hb⟩
      have K7 := Lib.hid (K6.out.step hb)
      clear K6
      clear hb
      (try clear q_c)
      (try clear f0_c)
      (try clear f1_c)
      (try clear f2_c)
      (try clear q_p)
      (try clear f0_p)
      (try clear f1_p)
      (try clear f2_p)
      have q_c := ld_cfg rt_cfg (K7.out.cf _ (.head _)).1 (K7.out.cf _ (.head _)).2
      have f0_p := pc0 (K7.out.pt _ (.head _))
      have f1_p := pc1 (K7.out.pt _ (.head _))
      have f2_p := pc2 (K7.out.pt _ (.head _))
      go_wp2_with fail
      refine (al_same _ _ _ _ _ _ l3 l3 _ (by exact (K7.out.hw.row _ (.head _)).1) (by exact (K7.out.hw.row _ (.tail _ (.tail _ (.tail _ (.tail _ (.head _)))))).1) (by exact Nat.le_trans (K7.out.hw.row _ (.head _)).2.1 (K7.out.hw.row _ (.head _)).2.2) (by exact Nat.le_trans (K7.out.hw.row _ (.tail _ (.tail _ (.tail _ (.tail _ (.head _)))))).2.1 (K7.out.hw.row _ (.tail _ (.tail _ (.tail _ (.tail _ (.head _)))))).2.2) true (beq_self_eq_true _)).mono ?_
      rintro e w9 ⟨rfl, hb⟩
      have K8 := Lib.hid (K7.out.step hb)
      clear K7
      clear hb
      (try clear q_c)
      (try clear f0_c)
      (try clear f1_c)
      (try clear f2_c)
      (try clear q_p)
      (try clear f0_p)
      (try clear f1_p)
      (try clear f2_p)
      have q_c := ld_cfg rt_cfg (K8.out.cf _ (.head _)).1 (K8.out.cf _ (.head _)).2
      have f0_p := pc0 (K8.out.pt _ (.head _))
      have f1_p := pc1 (K8.out.pt _ (.head _))
      have f2_p := pc2 (K8.out.pt _ (.head _))
      go_wp2_with fail
      go_meet
      exact Lib.hid (K8.out.over (by intro r hr; rcases List.mem_cons.1 hr with rfl | hr; exact .tail _ (.tail _ (.tail _ (.head _))); rcases List.mem_cons.1 hr with rfl | hr; exact .tail _ (.tail _ (.tail _ (.tail _ (.head _)))); rcases List.mem_cons.1 hr with rfl | hr; exact .tail _ (.tail _ (.tail _ (.tail _ (.tail _ (.head _))))); cases hr) (by intro r hr; rcases List.mem_cons.1 hr with rfl | hr; exact .head _; cases hr) (by intro r hr; cases hr))
    case rest =>
      have K900 := hcut
      clear hcut HBP
      by_cases hl : n4 = z
      · have i0 : 0 < n4 := by have := HZ6.out; omega
        have I0 := Lib.hid i0
        obtain ⟨g4, o4, rfl⟩ : ∃ g4 o4, A4 = some ⟨g4, o4, none⟩ := (K900.out.hw.row _ (.head _)).1.some_ i0
        obtain ⟨y, hy⟩ : ∃ y, l4.getD 0 0 = y := ⟨_, rfl⟩
        have HY := Lib.hid hy
        have HFI := Lib.hid (fun (u : World) (hu : RB u u.heap.size (some ⟨g4, o4, none⟩) n4 l4) => first_cell hu I0.out)
        rw [hy] at HFI
        have d1 : ((n4 : Int) != (z : Int)) = false := by rw [bne_eq_false_iff_eq, hl]
        have d2 : ((n4 : Int) == 0) = false := by rw [beq_eq_false_iff_ne]; omega
        have HPT := Lib.hid (fun u => cpoint_any y u)
        have HTL := Lib.hid (fun u => ctold_any y u)
        have HLZ := Lib.hid hl
        clear hy hl
        by_cases ht : tldB y = (n4 : Int)
        · skip
          obtain ⟨v, hv⟩ : ∃ v, tldB y = v := ⟨_, rfl⟩
          rw [hv] at HTL
          have d3 : (v != (n4 : Int)) = false := by rw [bne_eq_false_iff_eq, ← hv]; exact ht
          have HT := Lib.hid ht
          clear ht hv
          obtain ⟨v3, hv3⟩ : ∃ v, pntB y = v := ⟨_, rfl⟩
          rw [hv3] at HPT
          have HV3 := Lib.hid hv3
          clear hv3
          by_cases h3 : v3 = 3
          · have d4 : (v3 == 3) = true := beq_iff_eq.2 h3
            clear h3
            have q_c := ld_cfg rt_cfg (K900.out.cf _ (.head _)).1 (K900.out.cf _ (.head _)).2
            have f0_c := cf0 (K900.out.cf _ (.head _)).1
            have f1_c := cf1 (K900.out.cf _ (.head _)).1
            have f2_c := cf2 (K900.out.cf _ (.head _)).1
            go_wp2_with fail
            refine (HS.out _).mono ?_
            rintro e w901 ⟨rfl, hb⟩
            have K901 := Lib.hid (K900.out.step hb)
            clear K900
            clear hb
            (try clear q_c)
            (try clear f0_c)
            (try clear f1_c)
            (try clear f2_c)
            have q_c := ld_cfg rt_cfg (K901.out.cf _ (.head _)).1 (K901.out.cf _ (.head _)).2
            have f0_c := cf0 (K901.out.cf _ (.head _)).1
            have f1_c := cf1 (K901.out.cf _ (.head _)).1
            have f2_c := cf2 (K901.out.cf _ (.head _)).1
            have fa := HFI.out _ (K901.out.hw.row _ (.head _)).1
            go_wp2_with fail
            refine (HTL.out _).mono ?_
            rintro e u1 ⟨rfl, rfl⟩
            go_wp2_with fail
            refine (HPT.out _).mono ?_
            rintro e u2 ⟨rfl, rfl⟩
            go_wp2_with fail
            go_ret
            exact ⟨rfl, K901.out.hw.bel⟩
          · have d4 : (v3 == 3) = false := by rw [beq_eq_false_iff_ne]; exact h3
            have H3 := Lib.hid h3
            clear h3
            have hn : (l4.length : Int) = 1 + (x0.s + x0.n) := by rw [HL4.out, HLZ.out]; exact HZ.out.symm
            have htt : tldB (l4.getD 0 0) = l4.length := by rw [HY.out, HL4.out]; exact HT.out
            have hb := codB_ok HRT.out hn htt
            have hmk := back_made HRT.out HK.out hn htt (by rw [HY.out, HV3.out]; exact H3.out)
            obtain ⟨P, S, M, hP⟩ : ∃ P S M, prtC x0 l4 = ⟨P, S, M⟩ := ⟨_, _, _, rfl⟩
            rw [hP] at hb hmk
            dsimp only at hmk
            have HB := Lib.hid hb
            have HMK := Lib.hid hmk.1
            have HSM : Hid (S.length ≤ 1000000 ∧ M.length ≤ 1000000) := Lib.hid (by have := hmk.2.1; have := hmk.2.2; omega)
            clear hn htt hb hmk hP
            have q_c := ld_cfg rt_cfg (K900.out.cf _ (.head _)).1 (K900.out.cf _ (.head _)).2
            have f0_c := cf0 (K900.out.cf _ (.head _)).1
            have f1_c := cf1 (K900.out.cf _ (.head _)).1
            have f2_c := cf2 (K900.out.cf _ (.head _)).1
            go_wp2_with fail
            refine (HS.out _).mono ?_
            rintro e w901 ⟨rfl, hb⟩
            have K901 := Lib.hid (K900.out.step hb)
            clear K900
            clear hb
            (try clear q_c)
            (try clear f0_c)
            (try clear f1_c)
            (try clear f2_c)
            have q_c := ld_cfg rt_cfg (K901.out.cf _ (.head _)).1 (K901.out.cf _ (.head _)).2
            have f0_c := cf0 (K901.out.cf _ (.head _)).1
            have f1_c := cf1 (K901.out.cf _ (.head _)).1
            have f2_c := cf2 (K901.out.cf _ (.head _)).1
            have fa := HFI.out _ (K901.out.hw.row _ (.head _)).1
            go_wp2_with fail
            refine (HTL.out _).mono ?_
            rintro e u1 ⟨rfl, rfl⟩
            go_wp2_with fail
            refine (HPT.out _).mono ?_
            rintro e u2 ⟨rfl, rfl⟩
            clear fa
            go_wp2_with fail
            refine (cback_r x0 HC.out (some ⟨g4, o4, none⟩) n4 c4 l4 _ (by exact (K901.out.hw.row _ (.head _)).1) (by exact (K901.out.hw.row _ (.head _)).2.1)).mono ?_
            rw [HB.out]
            (try dsimp only)
            rintro e w902 ⟨Aps, cps, Apt, cpt, rfl, ho1, ho2, hb⟩
            have K902 := Lib.hid (K901.out.two hb ho1 ho2)
            clear K901
            clear ho1 ho2 hb
            (try clear q_c)
            (try clear f0_c)
            (try clear f1_c)
            (try clear f2_c)
            have q_c := ld_cfg rt_cfg (K902.out.cf _ (.head _)).1 (K902.out.cf _ (.head _)).2
            go_wp2_with (first | (with_reducible show wpList _ _ _ (⟨some 15, .alloc _, _, _, _, _⟩ :: _) _ _; refine wpList_newB rt_prt rfl rfl ?_; intro w903 p_p hc1 hb1 hx1; have Vw903 := Lib.hid (And.intro hc1 (And.intro hb1 hx1)); clear hc1 hb1 hx1) | (refine wpList_stB rt_prt rfl (.tmp 15) (.tmp 145) rfl p_p 0 rfl zcel (pcel P Aps S.length cps Apt M.length cpt) rfl pcel_one (by exact pcel_len) (by exact Vw903.out.1) (by rw [zcel_len]; decide) ?_; intro w904 hc1 ho1 hs1; have K903 := Lib.hid (K902.out.pvar Vw903.out.2.1 Vw903.out.2.2 ho1 hc1 pcel_len); clear hc1 ho1 hs1 Vw903; have q_c := ld_cfg rt_cfg (K903.out.cf _ (.head _)).1 (K903.out.cf _ (.head _)).2; have f0_p := pc0 (K903.out.pt _ (.head _)); have f1_p := pc1 (K903.out.pt _ (.head _)); have f2_p := pc2 (K903.out.pt _ (.head _))))
            refine (cmake_any x0 HC.out P _ S.length cps S _ M.length cpt M _ (by exact (K903.out.hw.row _ (.tail _ (.head _))).1) (by exact (K903.out.hw.row _ (.head _)).1)).mono ?_
            rw [HMK.out]
            (try dsimp only)
            rw [HL4.out]
            rintro e w905 ⟨Ab, cb, rfl, ho, hb⟩
            have K904 := Lib.hid (K903.out.own hb ho)
            clear K903
            clear ho hb
            (try clear q_c)
            (try clear f0_c)
            (try clear f1_c)
            (try clear f2_c)
            (try clear q_p)
            (try clear f0_p)
            (try clear f1_p)
            (try clear f2_p)
            have q_c := ld_cfg rt_cfg (K904.out.cf _ (.head _)).1 (K904.out.cf _ (.head _)).2
            go_wp2_with fail
            refine (al_same _ _ _ _ _ _ l4 l4 _ (by exact (K904.out.hw.row _ (.head _)).1) (by exact (K904.out.hw.row _ (.tail _ (.tail _ (.tail _ (.head _))))).1) (by exact Nat.le_trans (K904.out.hw.row _ (.head _)).2.1 (K904.out.hw.row _ (.head _)).2.2) (by exact Nat.le_trans (K904.out.hw.row _ (.tail _ (.tail _ (.tail _ (.head _))))).2.1 (K904.out.hw.row _ (.tail _ (.tail _ (.tail _ (.head _))))).2.2) true (beq_self_eq_true _)).mono ?_
            rintro e w906 ⟨rfl, hb⟩
            have K905 := Lib.hid (K904.out.step hb)
            clear K904
            clear hb
            (try clear q_c)
            (try clear f0_c)
            (try clear f1_c)
            (try clear f2_c)
            (try clear q_p)
            (try clear f0_p)
            (try clear f1_p)
            (try clear f2_p)
            have q_c := ld_cfg rt_cfg (K905.out.cf _ (.head _)).1 (K905.out.cf _ (.head _)).2
            go_wp2_with fail
            go_ret
            exact ⟨rfl, K905.out.hw.bel⟩
        · skip
          obtain ⟨v, hv⟩ : ∃ v, tldB y = v := ⟨_, rfl⟩
          rw [hv] at HTL
          have d3 : (v != (n4 : Int)) = true := by rw [bne_iff_ne, ← hv]; exact ht
          have HT := Lib.hid ht
          clear ht hv
          have q_c := ld_cfg rt_cfg (K900.out.cf _ (.head _)).1 (K900.out.cf _ (.head _)).2
          have f0_c := cf0 (K900.out.cf _ (.head _)).1
          have f1_c := cf1 (K900.out.cf _ (.head _)).1
          have f2_c := cf2 (K900.out.cf _ (.head _)).1
          go_wp2_with fail
          refine (HS.out _).mono ?_
          rintro e w901 ⟨rfl, hb⟩
          have K901 := Lib.hid (K900.out.step hb)
          clear K900
          clear hb
          (try clear q_c)
          (try clear f0_c)
          (try clear f1_c)
          (try clear f2_c)
          have q_c := ld_cfg rt_cfg (K901.out.cf _ (.head _)).1 (K901.out.cf _ (.head _)).2
          have f0_c := cf0 (K901.out.cf _ (.head _)).1
          have f1_c := cf1 (K901.out.cf _ (.head _)).1
          have f2_c := cf2 (K901.out.cf _ (.head _)).1
          have fa := HFI.out _ (K901.out.hw.row _ (.head _)).1
          go_wp2_with fail
          refine (HTL.out _).mono ?_
          rintro e u1 ⟨rfl, rfl⟩
          go_wp2_with fail
          go_ret
          exact ⟨rfl, K901.out.hw.bel⟩
      · have d1 : ((n4 : Int) != (z : Int)) = true := by rw [bne_iff_ne]; omega
        clear hl
        have q_c := ld_cfg rt_cfg (K900.out.cf _ (.head _)).1 (K900.out.cf _ (.head _)).2
        have f0_c := cf0 (K900.out.cf _ (.head _)).1
        have f1_c := cf1 (K900.out.cf _ (.head _)).1
        have f2_c := cf2 (K900.out.cf _ (.head _)).1
        go_wp2_with fail
        refine (HS.out _).mono ?_
        rintro e w901 ⟨rfl, hb⟩
        have K901 := Lib.hid (K900.out.step hb)
        clear K900
        clear hb
        (try clear q_c)
        (try clear f0_c)
        (try clear f1_c)
        (try clear f2_c)
        have q_c := ld_cfg rt_cfg (K901.out.cf _ (.head _)).1 (K901.out.cf _ (.head _)).2
        have f0_c := cf0 (K901.out.cf _ (.head _)).1
        have f1_c := cf1 (K901.out.cf _ (.head _)).1
        have f2_c := cf2 (K901.out.cf _ (.head _)).1
        go_wp2_with fail
        go_ret
        exact ⟨rfl, K901.out.hw.bel⟩
theorem CodecBack_walk (x0 : Cfg) (x1 : Int) (A2 : Option Addr) (n2 c2 : Nat) (l2 : List UInt8) (A3 : Option Addr) (n3 c3 : Nat) (l3 : List UInt8) (A4 : Option Addr) (n4 c4 : Nat) (l4 : List UInt8) (w : World) (h0 : x0.ok) (h1 : (Lit.int .i64 x1).wf = true) (h2 : RB w w.heap.size A2 n2 l2) (m2 : n2 ≤ c2 ∧ c2 ≤ maxLen) (h3 : RB w w.heap.size A3 n3 l3) (m3 : n3 ≤ c3 ∧ c3 ≤ maxLen) (h4 : RB w w.heap.size A4 n4 l4) (m4 : n4 ≤ c4 ∧ c4 ≤ maxLen) :
    Calls Tryz.prog 5 #[x0.val, .int .i64 x1, .slice A2 n2 c2, .slice A3 n3 c3, .slice A4 n4 c4] w fun e w' => e = .returned (.bool true) ∧ Below w.heap.size w w' := by
  cases hr : rtB x0
  · exact back_no x0 x1 A2 n2 c2 l2 A3 n3 c3 l3 A4 n4 c4 l4 w h0 h1 h2 m2 h3 m3 h4 m4 hr
  · exact back_yes x0 x1 A2 n2 c2 l2 A3 n3 c3 l3 A4 n4 c4 l4 w h0 h1 h2 m2 h3 m3 h4 m4 hr
end Go.Proofs.YtfipdaekfdbaeaaGreat
