/- Layer 18: the walk of the statement SlotIds. No condition. -/
import Derived.Test.YtkcchidklcnnnaaGreatSlV
import Derived.Test.YtkcchidklcnnnaaGreatOpen
namespace Go.Proofs.YtkcchidklcnnnaaGreat
open Go.RowKit
set_option linter.unusedVariables false
set_option linter.unusedSimpArgs false
theorem cl_first (k : Cl) : k.cells[0]? = some (.int .i64 k.t) := rfl
attribute [local irreducible] Cfg.val Cfg.cells rtB Rt zK sizeC zeroC hcel zh pSl rSl aSl hasS ofS tmS tmN Sl.row Sl.tm inB instS retS putS offS doS upTo allS Cl.cells Cl.val pcel zcel codB codM showS shortS pntB prtC wayC idB cU17 s1 s2 upS
attribute [local go_sem ↓] ex_ldC ex_ldPt ex_ldPr ex_ldK18
set_option maxRecDepth 100000 in
set_option maxHeartbeats 4000000 in
theorem ids_long0 (A0 : Option Addr) (n0 c0 : Nat) (l0 : List Cl) (x1 : Int) (A2 : Option Addr) (n2 c2 : Nat) (l2 : List UInt8) (A3 : Option Addr) (n3 c3 : Nat) (l3 : List UInt8) (A4 : Option Addr) (n4 c4 : Nat) (l4 : List UInt8) (y5 : UInt8) (w : World) (h0 : CLs w w.heap.size A0 n0 l0) (m0 : n0 ≤ c0 ∧ c0 ≤ maxLen) (h2 : RB w w.heap.size A2 n2 l2) (m2 : n2 ≤ c2 ∧ c2 ≤ maxLen) (h3 : RB w w.heap.size A3 n3 l3) (m3 : n3 ≤ c3 ∧ c3 ≤ maxLen) (h4 : RB w w.heap.size A4 n4 l4) (m4 : n4 ≤ c4 ∧ c4 ≤ maxLen) (h : 100 < n0) :
    Calls Tryz.prog 5 #[.slice A0 n0 c0, .int .i64 x1, .slice A2 n2 c2, .slice A3 n3 c3, .slice A4 n4 c4, .int .u8 (y5.toNat : Int)] w fun e w' => e = .returned (.bool true) ∧ Below w.heap.size w w' := by
  have d1 : decide ((100 : Int) < (n0 : Int)) = true := decide_eq_true (by omega)
  have hy := y5.toNat_lt
  have K0 := Lib.hid (SG.start w)
  clear h0 m0 h2 m2 h3 m3 h4 m4 h
  go_enter Tryz.func5, Tryz.ntmps5
  go_wp2_with fail
  refine (slalive_any _).mono ?_
  rintro e w1 ⟨rfl, hb⟩
  have K1 := Lib.hid (K0.out.step hb)
  clear K0
  clear hb
  skip
  skip
  go_wp2_with fail
  go_ret
  exact ⟨rfl, K1.out.bel⟩
set_option maxRecDepth 100000 in
set_option maxHeartbeats 4000000 in
theorem ids_long1 (A0 : Option Addr) (n0 c0 : Nat) (l0 : List Cl) (x1 : Int) (A2 : Option Addr) (n2 c2 : Nat) (l2 : List UInt8) (A3 : Option Addr) (n3 c3 : Nat) (l3 : List UInt8) (A4 : Option Addr) (n4 c4 : Nat) (l4 : List UInt8) (y5 : UInt8) (w : World) (h0 : CLs w w.heap.size A0 n0 l0) (m0 : n0 ≤ c0 ∧ c0 ≤ maxLen) (h2 : RB w w.heap.size A2 n2 l2) (m2 : n2 ≤ c2 ∧ c2 ≤ maxLen) (h3 : RB w w.heap.size A3 n3 l3) (m3 : n3 ≤ c3 ∧ c3 ≤ maxLen) (h4 : RB w w.heap.size A4 n4 l4) (m4 : n4 ≤ c4 ∧ c4 ≤ maxLen) (h : n0 ≤ 100 ∧ 300 < n4) :
    Calls Tryz.prog 5 #[.slice A0 n0 c0, .int .i64 x1, .slice A2 n2 c2, .slice A3 n3 c3, .slice A4 n4 c4, .int .u8 (y5.toNat : Int)] w fun e w' => e = .returned (.bool true) ∧ Below w.heap.size w w' := by
  have d1 : decide ((100 : Int) < (n0 : Int)) = false := decide_eq_false (by omega)
  have d2 : decide ((300 : Int) < (n4 : Int)) = true := decide_eq_true (by omega)
  have hy := y5.toNat_lt
  have K0 := Lib.hid (SG.start w)
  clear h0 m0 h2 m2 h3 m3 h4 m4 h
  go_enter Tryz.func5, Tryz.ntmps5
  go_wp2_with fail
  refine (slalive_any _).mono ?_
  rintro e w1 ⟨rfl, hb⟩
  have K1 := Lib.hid (K0.out.step hb)
  clear K0
  clear hb
  skip
  skip
  go_wp2_with fail
  go_ret
  exact ⟨rfl, K1.out.bel⟩
set_option maxRecDepth 100000 in
set_option maxHeartbeats 4000000 in
theorem ids_long2 (A0 : Option Addr) (n0 c0 : Nat) (l0 : List Cl) (x1 : Int) (A2 : Option Addr) (n2 c2 : Nat) (l2 : List UInt8) (A3 : Option Addr) (n3 c3 : Nat) (l3 : List UInt8) (A4 : Option Addr) (n4 c4 : Nat) (l4 : List UInt8) (y5 : UInt8) (w : World) (h0 : CLs w w.heap.size A0 n0 l0) (m0 : n0 ≤ c0 ∧ c0 ≤ maxLen) (h2 : RB w w.heap.size A2 n2 l2) (m2 : n2 ≤ c2 ∧ c2 ≤ maxLen) (h3 : RB w w.heap.size A3 n3 l3) (m3 : n3 ≤ c3 ∧ c3 ≤ maxLen) (h4 : RB w w.heap.size A4 n4 l4) (m4 : n4 ≤ c4 ∧ c4 ≤ maxLen) (h : n0 ≤ 100 ∧ n4 ≤ 300 ∧ 100 < n2) :
    Calls Tryz.prog 5 #[.slice A0 n0 c0, .int .i64 x1, .slice A2 n2 c2, .slice A3 n3 c3, .slice A4 n4 c4, .int .u8 (y5.toNat : Int)] w fun e w' => e = .returned (.bool true) ∧ Below w.heap.size w w' := by
  have d1 : decide ((100 : Int) < (n0 : Int)) = false := decide_eq_false (by omega)
  have d2 : decide ((300 : Int) < (n4 : Int)) = false := decide_eq_false (by omega)
  have d3 : decide ((100 : Int) < (n2 : Int)) = true := decide_eq_true (by omega)
  have hy := y5.toNat_lt
  have K0 := Lib.hid (SG.start w)
  clear h0 m0 h2 m2 h3 m3 h4 m4 h
  go_enter Tryz.func5, Tryz.ntmps5
  go_wp2_with fail
  refine (slalive_any _).mono ?_
  rintro e w1 ⟨rfl, hb⟩
  have K1 := Lib.hid (K0.out.step hb)
  clear K0
  clear hb
  skip
  skip
  go_wp2_with fail
  go_ret
  exact ⟨rfl, K1.out.bel⟩
set_option maxRecDepth 100000 in
set_option maxHeartbeats 4000000 in
theorem ids_long3 (A0 : Option Addr) (n0 c0 : Nat) (l0 : List Cl) (x1 : Int) (A2 : Option Addr) (n2 c2 : Nat) (l2 : List UInt8) (A3 : Option Addr) (n3 c3 : Nat) (l3 : List UInt8) (A4 : Option Addr) (n4 c4 : Nat) (l4 : List UInt8) (y5 : UInt8) (w : World) (h0 : CLs w w.heap.size A0 n0 l0) (m0 : n0 ≤ c0 ∧ c0 ≤ maxLen) (h2 : RB w w.heap.size A2 n2 l2) (m2 : n2 ≤ c2 ∧ c2 ≤ maxLen) (h3 : RB w w.heap.size A3 n3 l3) (m3 : n3 ≤ c3 ∧ c3 ≤ maxLen) (h4 : RB w w.heap.size A4 n4 l4) (m4 : n4 ≤ c4 ∧ c4 ≤ maxLen) (h : n0 ≤ 100 ∧ n4 ≤ 300 ∧ n2 ≤ 100 ∧ 100 < n3) :
    Calls Tryz.prog 5 #[.slice A0 n0 c0, .int .i64 x1, .slice A2 n2 c2, .slice A3 n3 c3, .slice A4 n4 c4, .int .u8 (y5.toNat : Int)] w fun e w' => e = .returned (.bool true) ∧ Below w.heap.size w w' := by
  have d1 : decide ((100 : Int) < (n0 : Int)) = false := decide_eq_false (by omega)
  have d2 : decide ((300 : Int) < (n4 : Int)) = false := decide_eq_false (by omega)
  have d3 : decide ((100 : Int) < (n2 : Int)) = false := decide_eq_false (by omega)
  have d4 : decide ((100 : Int) < (n3 : Int)) = true := decide_eq_true (by omega)
  have hy := y5.toNat_lt
  have K0 := Lib.hid (SG.start w)
  clear h0 m0 h2 m2 h3 m3 h4 m4 h
  go_enter Tryz.func5, Tryz.ntmps5
  go_wp2_with fail
  refine (slalive_any _).mono ?_
  rintro e w1 ⟨rfl, hb⟩
  have K1 := Lib.hid (K0.out.step hb)
  clear K0
  clear hb
  skip
  skip
  go_wp2_with fail
  go_ret
  exact ⟨rfl, K1.out.bel⟩
set_option maxRecDepth 100000 in
set_option maxHeartbeats 4000000 in
theorem ids_ok (A0 : Option Addr) (n0 c0 : Nat) (l0 : List Cl) (x1 : Int) (A2 : Option Addr) (n2 c2 : Nat) (l2 : List UInt8) (A3 : Option Addr) (n3 c3 : Nat) (l3 : List UInt8) (A4 : Option Addr) (n4 c4 : Nat) (l4 : List UInt8) (y5 : UInt8) (w : World) (h0 : CLs w w.heap.size A0 n0 l0) (m0 : n0 ≤ c0 ∧ c0 ≤ maxLen) (h2 : RB w w.heap.size A2 n2 l2) (m2 : n2 ≤ c2 ∧ c2 ≤ maxLen) (h3 : RB w w.heap.size A3 n3 l3) (m3 : n3 ≤ c3 ∧ c3 ≤ maxLen) (h4 : RB w w.heap.size A4 n4 l4) (m4 : n4 ≤ c4 ∧ c4 ≤ maxLen) (h : n0 ≤ 100 ∧ n4 ≤ 300 ∧ n2 ≤ 100 ∧ n3 ≤ 100) :
    Calls Tryz.prog 5 #[.slice A0 n0 c0, .int .i64 x1, .slice A2 n2 c2, .slice A3 n3 c3, .slice A4 n4 c4, .int .u8 (y5.toNat : Int)] w fun e w' => e = .returned (.bool true) ∧ Below w.heap.size w w' := by
  have HKS := Lib.hid (And.intro h0.2.1 (And.intro h0.len h0))
  have Hs := Lib.hid (And.intro h2 m2)
  have Hn := Lib.hid (And.intro h3 m3)
  have Hr := Lib.hid (And.intro h4 m4)
  have HL2 := Lib.hid h2.len
  have HL3 := Lib.hid h3.len
  have HN := Lib.hid h
  obtain ⟨e1, e2, e3, e4⟩ := h
  have d1 : decide ((100 : Int) < (n0 : Int)) = false := decide_eq_false (by omega)
  have d2 : decide ((300 : Int) < (n4 : Int)) = false := decide_eq_false (by omega)
  have d3 : decide ((100 : Int) < (n2 : Int)) = false := decide_eq_false (by omega)
  have d4 : decide ((100 : Int) < (n3 : Int)) = false := decide_eq_false (by omega)
  have hy := y5.toNat_lt
  have K0 := Lib.hid (SG.start w)
  clear h0 m0 h2 m2 h3 m3 h4 m4 e2 e3 e4
  go_enter Tryz.func5, Tryz.ntmps5
  go_wp2_with fail
  refine (slalive_any _).mono ?_
  rintro e w1 ⟨rfl, hb⟩
  have K1 := Lib.hid (K0.out.step hb)
  clear K0
  clear hb
  skip
  skip
  go_wp2_with fail
  refine (new18_any _).mono ?_
  rintro e w2 ⟨p_s, rfl, hc, hx, hb⟩
  have HZs := Lib.hid (Nat.le_trans K1.out.bel.size hx)
  have K2 := Lib.hid (K1.out.new hb hx hc)
  clear K1
  clear hc hx hb
  skip
  skip
  go_wp2_with fail
  go_loopw [14] (fun t wr => ∃ i : Nat, i ≤ n0 ∧ t = .int .i64 (i : Int) ∧ Hid (SG w [] [] [(69, p_s, pSl (upTo l0 i))] wr)) (fun t _ => n0 - (intOf t).toNat)
  case atStart => exact ⟨0, Nat.zero_le _, rfl, (by rw [upTo_0]; exact K2)⟩
  case round =>
    obtain ⟨i, hi, rfl, K50⟩ := hrel
    by_cases hlt : i < n0
    · obtain ⟨b0, o0, kk, rfl, -, hki0, hko0, hrg⟩ := (HKS.out.2.2.below K50.out.bel).at_ hlt
      have hki := Lib.hid hki0
      have hko := Lib.hid hko0
      have HRG := Lib.hid (And.intro hrg (show b0 < wr.heap.size from World.block_lt_of_cell? wr ⟨b0, o0 + i * 21 + 0, none⟩ (hrg 0 _ (cl_first kk))))
      clear hki0 hko0 hrg
      go_wp2_with (first | ((with_reducible show wpList _ _ _ (⟨some 54, .box _ _, _, _, _, _⟩ :: _) _ _); refine wpList_boxB rfl 33 (.tmp 53) rfl (rSl zSl) rz_lit ?_; intro w51 p_y hc1 hb1 hx1; have K51 := Lib.hid (K50.out.new hb1 hx1 hc1); have HZy := Lib.hid (Nat.le_trans K50.out.bel.size hx1); have lk := ld_at hko.out (fun j v hv => (hb1.cell (p := ⟨b0, o0 + i * 21 + j, none⟩) HRG.out.2).trans (HRG.out.1 j v hv)); clear hc1 hb1 hx1; skip))
      refine (do_any p_s p_y (upTo l0 i) zSl (upTo_ok HKS.out.1 i) zSl_ok (Nat.le_trans (upTo_n l0 i) (by have := HKS.out.2.1; have := HN.out; omega)) zSl_n kk hko.out _ (by exact (K51.out.blk _ (.tail _ (.head _)))) (by exact (K51.out.blk _ (.head _)))).mono ?_
      rintro e w52 ⟨b, rfl, -, hc, hc', ho⟩
      rw [← upTo_next hki.out] at hc
      have K52 := Lib.hid (K51.out.mut2 (by decide) (by decide) HZy.out HZs.out ho.swap_ hc' hc)
      clear K51
      clear hc hc' ho lk
      go_wp2_with fail
      go_roundw
      case rel => exact ⟨i + 1, by omega, by go_num, Lib.hid K52.out.tail_⟩
      case measure => simp [intOf]; omega
    · obtain rfl : i = n0 := by omega
      have HSO := Lib.hid (upTo_ok HKS.out.1 i)
      obtain ⟨S, hS⟩ : ∃ S, upTo l0 i = S := ⟨_, rfl⟩
      rw [hS] at K50 HSO
      clear hlt hi hS
      cases hh : hasS S x1
      · have HH := Lib.hid hh
        have HO : Hid (ofS S x1 = zeroC) := Lib.hid (has_no hh).1
        have HT : Hid (tmS S x1 = 0) := Lib.hid (has_no hh).2.1
        clear hh
        go_wp2_with fail
        refine (of18_any S HSO.out p_s x1 _ (by exact (K50.out.blk _ (.head _)))).mono ?_
        rw [HH.out, HO.out]
        rintro e w61 ⟨rfl, hb⟩
        have K51 := Lib.hid (K50.out.step hb)
        clear K50
        clear hb
        skip
        skip
        go_wp2_with (first | ((with_reducible show wpList _ _ _ (⟨some 15, .alloc _, _, _, _, _⟩ :: _) _ _); refine wpList_newB rt_cfg rfl rfl ?_; intro w62 p_c hc1 hb1 hx1; have Vw62 := Lib.hid (And.intro hc1 (And.intro hb1 hx1)); clear hc1 hb1 hx1) | (refine wpList_stB rt_cfg rfl (.tmp 15) (.tmp 64) rfl p_c 0 rfl zeroC.cells (Cfg.cells zeroC) (val_agg _) (cells_one _) (by exact (Cfg.cells_len zeroC_ok).trans zeroC_len.symm) (by exact Vw62.out.1) (by rw [zeroC_len]; decide) ?_; intro w63 hc1 ho1 hs1; have K52 := Lib.hid (K51.out.var Vw62.out.2.1 Vw62.out.2.2 ho1 (by rwa [puts_whole _ _ ((Cfg.cells_len zeroC_ok).trans zeroC_len.symm)] at hc1)); clear hc1 ho1 hs1 Vw62; skip))
        refine (stamp18_any S HSO.out p_s x1 _ (by exact (K52.out.blk _ (.tail _ (.head _))))).mono ?_
        rw [HT.out]
        rintro e w64 ⟨rfl, hb⟩
        have K53 := Lib.hid (K52.out.step hb)
        clear K52
        clear hb
        (try clear q_c)
        (try clear f0_c)
        (try clear f1_c)
        (try clear f2_c)
        skip
        go_wp2_with fail
        go_ret
        exact ⟨rfl, K53.out.bel⟩
      · have HO : Hid (ofS S x1 = S.row x1.toNat) := Lib.hid (has_yes hh).1
        have hv := HSO.out.v _ (has_iff.1 hh).2
        rcases codM_cases (S.row x1.toNat) x1 l2 l3 with ⟨hb, _⟩ | ⟨_, _, hM⟩ | ⟨_, hn, hM⟩
        · rw [hv] at hb; cases hb
        · have HH := Lib.hid hh
          have HM := Lib.hid hM
          clear hh hv hM
          go_wp2_with fail
          refine (of18_any S HSO.out p_s x1 _ (by exact (K50.out.blk _ (.head _)))).mono ?_
          rw [HH.out]
          rintro e w61 ⟨rfl, hb⟩
          have K51 := Lib.hid (K50.out.step hb)
          clear K50
          clear hb
          skip
          skip
          go_wp2_with (first | ((with_reducible show wpList _ _ _ (⟨some 15, .alloc _, _, _, _, _⟩ :: _) _ _); refine wpList_newB rt_cfg rfl rfl ?_; intro w62 p_c hc1 hb1 hx1; have Vw62 := Lib.hid (And.intro hc1 (And.intro hb1 hx1)); clear hc1 hb1 hx1) | (refine wpList_stB rt_cfg rfl (.tmp 15) (.tmp 64) rfl p_c 0 rfl zeroC.cells (Cfg.cells (ofS S x1)) (val_agg _) (cells_one _) (by exact (Cfg.cells_len (ofS_ok HSO.out x1)).trans zeroC_len.symm) (by exact Vw62.out.1) (by rw [zeroC_len]; decide) ?_; intro w63 hc1 ho1 hs1; have K52 := Lib.hid (K51.out.var Vw62.out.2.1 Vw62.out.2.2 ho1 (by rwa [puts_whole _ _ ((Cfg.cells_len (ofS_ok HSO.out x1)).trans zeroC_len.symm)] at hc1)); clear hc1 ho1 hs1 Vw62; have q_c := ld_cfg rt_cfg (K52.out.blk _ (.head _)) (ofS_ok HSO.out x1)))
          refine (cmake_any (ofS S x1) (ofS_ok HSO.out x1) x1 _ n2 c2 l2 _ n3 c3 l3 _ (by exact Hs.out.1.step K52.out.bel) (by exact Hn.out.1.step K52.out.bel)).mono ?_
          rw [HO.out, HM.out]
          (try dsimp only)
          rintro e w64 ⟨Ai, ci, rfl, ho, hb⟩
          have K53 := Lib.hid (K52.out.ret hb ho)
          clear K52
          clear ho hb
          (try clear q_c)
          (try clear f0_c)
          (try clear f1_c)
          (try clear f2_c)
          skip
          go_wp2_with fail
          go_ret
          exact ⟨rfl, K53.out.bel⟩
        · have HH := Lib.hid hh
          obtain ⟨ID, hID⟩ : ∃ ID, idB x1 (wayC (S.row x1.toNat) false (l2 ++ l3)) = ID := ⟨_, rfl⟩
          have hs1 := show_made HSO.out hh hn
          have hs2 := short_made (r := l4) HSO.out hh y5 hn
          have hsz := made_size HSO.out hh hn.2
          have hsz2 := has_size HSO.out hh
          rw [hID] at hs1 hs2 hM hsz
          obtain ⟨nI, hnI⟩ : ∃ nI, ID.length = nI := ⟨_, rfl⟩
          have HNI := Lib.hid hnI
          have HNB : Hid (nI ≤ 20) := Lib.hid (by omega)
          have HM := Lib.hid hM
          have HS1 := Lib.hid hs1
          have HS2 : Hid (shortS S (([y5] ++ ID) ++ l4) = (⟨x1, l2, l3⟩, 0)) := Lib.hid hs2
          have b1 : (x1 == x1) = true := beq_self_eq_true _
          clear hh hv hM hn hID hs1 hs2 hsz hsz2 hnI
          go_wp2_with fail
          refine (of18_any S HSO.out p_s x1 _ (by exact (K50.out.blk _ (.head _)))).mono ?_
          rw [HH.out]
          rintro e w61 ⟨rfl, hb⟩
          have K51 := Lib.hid (K50.out.step hb)
          clear K50
          clear hb
          skip
          skip
          go_wp2_with (first | ((with_reducible show wpList _ _ _ (⟨some 15, .alloc _, _, _, _, _⟩ :: _) _ _); refine wpList_newB rt_cfg rfl rfl ?_; intro w62 p_c hc1 hb1 hx1; have Vw62 := Lib.hid (And.intro hc1 (And.intro hb1 hx1)); clear hc1 hb1 hx1) | (refine wpList_stB rt_cfg rfl (.tmp 15) (.tmp 64) rfl p_c 0 rfl zeroC.cells (Cfg.cells (ofS S x1)) (val_agg _) (cells_one _) (by exact (Cfg.cells_len (ofS_ok HSO.out x1)).trans zeroC_len.symm) (by exact Vw62.out.1) (by rw [zeroC_len]; decide) ?_; intro w63 hc1 ho1 hs1; have K52 := Lib.hid (K51.out.var Vw62.out.2.1 Vw62.out.2.2 ho1 (by rwa [puts_whole _ _ ((Cfg.cells_len (ofS_ok HSO.out x1)).trans zeroC_len.symm)] at hc1)); clear hc1 ho1 hs1 Vw62; have q_c := ld_cfg rt_cfg (K52.out.blk _ (.head _)) (ofS_ok HSO.out x1)))
          refine (cmake_any (ofS S x1) (ofS_ok HSO.out x1) x1 _ n2 c2 l2 _ n3 c3 l3 _ (by exact Hs.out.1.step K52.out.bel) (by exact Hn.out.1.step K52.out.bel)).mono ?_
          rw [HO.out, HM.out]
          (try dsimp only)
          rw [HNI.out]
          rintro e w64 ⟨Ai, ci, rfl, ho, hb⟩
          have K53 := Lib.hid (K52.out.ret hb ho)
          clear K52
          clear ho hb
          (try clear q_c)
          (try clear f0_c)
          (try clear f1_c)
          (try clear f2_c)
          skip
          go_wp2_with fail
          refine (show18_any S HSO.out p_s Ai nI ci ID _ (by exact (K53.out.blk _ (.tail _ (.head _)))) (by exact (K53.out.own _ (.head _)).rb) (by exact (K53.out.own _ (.head _)).cap.1)).mono ?_
          rw [HS1.out]
          (try dsimp only)
          rintro e w65 ⟨Aps, cps, Apn, cpn, rfl, ho1, ho2, hb⟩
          (try dsimp only at ho1 ho2 ⊢)
          have K54 := Lib.hid (K53.out.ret2 hb ho1 ho2)
          clear K53
          clear ho1 ho2 hb
          (try clear q_c)
          (try clear f0_c)
          (try clear f1_c)
          (try clear f2_c)
          skip
          go_wp2_with (first | ((with_reducible show wpList _ _ _ (⟨some 19, .alloc _, _, _, _, _⟩ :: _) _ _); refine wpList_newB rt_prt rfl rfl ?_; intro w66 p_p hc1 hb1 hx1; have Vw66 := Lib.hid (And.intro hc1 (And.intro hb1 hx1)); clear hc1 hb1 hx1) | (refine wpList_stB rt_prt rfl (.tmp 19) (.tmp 88) rfl p_p 0 rfl zcel (pcel x1 Aps l2.length cps Apn l3.length cpn) rfl pcel_one (by exact pcel_len) (by exact Vw66.out.1) (by rw [zcel_len]; decide) ?_; intro w67 hc1 ho1 hs1; have K55 := Lib.hid (K54.out.var Vw66.out.2.1 Vw66.out.2.2 ho1 (by rwa [puts_whole _ _ (pcel_len)] at hc1)); clear hc1 ho1 hs1 Vw66; skip) | ((with_reducible show wpList _ _ _ (⟨some 95, _, _, _, _, _⟩ :: _) _ _); at_builtin; (refine wpList_app rfl (.tmp 93) (.tmp 94) rfl w67.heap.size (some ⟨w67.heap.size, 0, none⟩) 1 1 [y5] rfl (by exact OwnB.lit w67 w67.heap.size [y5] _ 1 rfl rfl (by unfold maxLen; decide) (Nat.le_refl _)) _ Ai nI ci ID rfl (by exact ((K55.out.own _ (.tail _ (.tail _ (.head _)))).rb).step (below_alloc _ _)) (by have := HNB.out; omega) (by exact (below_alloc w67 _).size) ?_); intro A1 c1 w68 ho1 _ hb1; have HO1 := Lib.hid (And.intro ho1 ((below_alloc w67 _).trans hb1)); clear ho1 hb1) | ((with_reducible show wpList _ _ _ (⟨some 97, _, _, _, _, _⟩ :: _) _ _); at_builtin; refine wpList_app rfl (.tmp 95) (.tmp 96) rfl w67.heap.size A1 (1 + nI) c1 ([y5] ++ ID) rfl (by exact HO1.out.1) _ A4 n4 c4 l4 rfl (by exact (Hr.out.1.step (K55.out.step HO1.out.2).bel)) (by have := HNB.out; have := HN.out; omega) (by exact HO1.out.2.size) ?_; intro Ash csh w69 ho2 _ hb2; have K56 := Lib.hid (K55.out.ret (HO1.out.2.trans hb2) ho2); clear ho2 hb2))
          clear HO1 K55
          refine (short18_any S HSO.out p_s Ash (1 + nI + n4) csh (([y5] ++ ID) ++ l4) _ (by exact (K56.out.blk _ (.tail _ (.tail _ (.head _))))) (by exact (K56.out.own _ (.head _)).rb) (by exact (K56.out.own _ (.head _)).cap.1)).mono ?_
          rw [HS2.out]
          (try dsimp only)
          rintro e w70 ⟨Aqs, cqs, Aqn, cqn, rfl, ho1, ho2, hb⟩
          (try dsimp only at ho1 ho2 ⊢)
          have K57 := Lib.hid (K56.out.ret2 hb ho1 ho2)
          clear K56
          clear ho1 ho2 hb
          (try clear q_p)
          (try clear f0_p)
          (try clear f1_p)
          (try clear f2_p)
          (try clear q_c)
          (try clear f0_c)
          (try clear f1_c)
          (try clear f2_c)
          skip
          go_wp2_with (first | ((with_reducible show wpList _ _ _ (⟨some 21, .alloc _, _, _, _, _⟩ :: _) _ _); refine wpList_newB rt_prt rfl rfl ?_; intro w71 p_q hc1 hb1 hx1; have Vw71 := Lib.hid (And.intro hc1 (And.intro hb1 hx1)); clear hc1 hb1 hx1) | (refine wpList_stB rt_prt rfl (.tmp 21) (.tmp 99) rfl p_q 0 rfl zcel (pcel x1 Aqs l2.length cqs Aqn l3.length cqn) rfl pcel_one (by exact pcel_len) (by exact Vw71.out.1) (by rw [zcel_len]; decide) ?_; intro w72 hc1 ho1 hs1; have K58 := Lib.hid (K57.out.var Vw71.out.2.1 Vw71.out.2.2 ho1 (by rwa [puts_whole _ _ (pcel_len)] at hc1)); clear hc1 ho1 hs1 Vw71; have f0_q := pc0 (K58.out.blk _ (.head _)); have f1_q := pc1 (K58.out.blk _ (.head _)); have f2_q := pc2 (K58.out.blk _ (.head _)); have f0_p := pc0 (K58.out.blk _ (.tail _ (.head _))); have f1_p := pc1 (K58.out.blk _ (.tail _ (.head _))); have f2_p := pc2 (K58.out.blk _ (.tail _ (.head _)))))
          refine (al_same _ _ _ _ _ _ l2 l2 _ (by exact (K58.out.own _ (.tail _ (.tail _ (.tail _ (.tail _ (.head _)))))).rb) (by exact Hs.out.1.step K58.out.bel) (by exact Nat.le_trans (K58.out.own _ (.tail _ (.tail _ (.tail _ (.tail _ (.head _)))))).cap.1 (K58.out.own _ (.tail _ (.tail _ (.tail _ (.tail _ (.head _)))))).cap.2) (by exact Nat.le_trans Hs.out.2.1 Hs.out.2.2) true (beq_self_eq_true _)).mono ?_
          rintro e w73 ⟨rfl, hb⟩
          have K59 := Lib.hid (K58.out.step hb)
          clear K58
          clear hb
          (try clear q_q)
          (try clear f0_q)
          (try clear f1_q)
          (try clear f2_q)
          (try clear q_p)
          (try clear f0_p)
          (try clear f1_p)
          (try clear f2_p)
          (try clear q_c)
          (try clear f0_c)
          (try clear f1_c)
          (try clear f2_c)
          have f0_q := pc0 (K59.out.blk _ (.head _))
          have f1_q := pc1 (K59.out.blk _ (.head _))
          have f2_q := pc2 (K59.out.blk _ (.head _))
          have f0_p := pc0 (K59.out.blk _ (.tail _ (.head _)))
          have f1_p := pc1 (K59.out.blk _ (.tail _ (.head _)))
          have f2_p := pc2 (K59.out.blk _ (.tail _ (.head _)))
          go_wp2_with fail
          refine (al_same _ _ _ _ _ _ l3 l3 _ (by exact (K59.out.own _ (.tail _ (.tail _ (.tail _ (.head _))))).rb) (by exact Hn.out.1.step K59.out.bel) (by exact Nat.le_trans (K59.out.own _ (.tail _ (.tail _ (.tail _ (.head _))))).cap.1 (K59.out.own _ (.tail _ (.tail _ (.tail _ (.head _))))).cap.2) (by exact Nat.le_trans Hn.out.2.1 Hn.out.2.2) true (beq_self_eq_true _)).mono ?_
          rintro e w74 ⟨rfl, hb⟩
          have K60 := Lib.hid (K59.out.step hb)
          clear K59
          clear hb
          (try clear q_q)
          (try clear f0_q)
          (try clear f1_q)
          (try clear f2_q)
          (try clear q_p)
          (try clear f0_p)
          (try clear f1_p)
          (try clear f2_p)
          (try clear q_c)
          (try clear f0_c)
          (try clear f1_c)
          (try clear f2_c)
          have f0_q := pc0 (K60.out.blk _ (.head _))
          have f1_q := pc1 (K60.out.blk _ (.head _))
          have f2_q := pc2 (K60.out.blk _ (.head _))
          have f0_p := pc0 (K60.out.blk _ (.tail _ (.head _)))
          have f1_p := pc1 (K60.out.blk _ (.tail _ (.head _)))
          have f2_p := pc2 (K60.out.blk _ (.tail _ (.head _)))
          go_wp2_with fail
          refine (al_same _ _ _ _ _ _ l2 l2 _ (by exact (K60.out.own _ (.tail _ (.head _))).rb) (by exact Hs.out.1.step K60.out.bel) (by exact Nat.le_trans (K60.out.own _ (.tail _ (.head _))).cap.1 (K60.out.own _ (.tail _ (.head _))).cap.2) (by exact Nat.le_trans Hs.out.2.1 Hs.out.2.2) true (beq_self_eq_true _)).mono ?_
          rintro e w75 ⟨rfl, hb⟩
          have K61 := Lib.hid (K60.out.step hb)
          clear K60
          clear hb
          (try clear q_q)
          (try clear f0_q)
          (try clear f1_q)
          (try clear f2_q)
          (try clear q_p)
          (try clear f0_p)
          (try clear f1_p)
          (try clear f2_p)
          (try clear q_c)
          (try clear f0_c)
          (try clear f1_c)
          (try clear f2_c)
          have f0_q := pc0 (K61.out.blk _ (.head _))
          have f1_q := pc1 (K61.out.blk _ (.head _))
          have f2_q := pc2 (K61.out.blk _ (.head _))
          have f0_p := pc0 (K61.out.blk _ (.tail _ (.head _)))
          have f1_p := pc1 (K61.out.blk _ (.tail _ (.head _)))
          have f2_p := pc2 (K61.out.blk _ (.tail _ (.head _)))
          go_wp2_with fail
          refine (al_same _ _ _ _ _ _ l3 l3 _ (by exact (K61.out.own _ (.head _)).rb) (by exact Hn.out.1.step K61.out.bel) (by exact Nat.le_trans (K61.out.own _ (.head _)).cap.1 (K61.out.own _ (.head _)).cap.2) (by exact Nat.le_trans Hn.out.2.1 Hn.out.2.2) true (beq_self_eq_true _)).mono ?_
          rintro e w76 ⟨rfl, hb⟩
          have K62 := Lib.hid (K61.out.step hb)
          clear K61
          clear hb
          (try clear q_q)
          (try clear f0_q)
          (try clear f1_q)
          (try clear f2_q)
          (try clear q_p)
          (try clear f0_p)
          (try clear f1_p)
          (try clear f2_p)
          (try clear q_c)
          (try clear f0_c)
          (try clear f1_c)
          (try clear f2_c)
          have f0_q := pc0 (K62.out.blk _ (.head _))
          have f1_q := pc1 (K62.out.blk _ (.head _))
          have f2_q := pc2 (K62.out.blk _ (.head _))
          have f0_p := pc0 (K62.out.blk _ (.tail _ (.head _)))
          have f1_p := pc1 (K62.out.blk _ (.tail _ (.head _)))
          have f2_p := pc2 (K62.out.blk _ (.tail _ (.head _)))
          go_wp2_with fail
          go_ret
          exact ⟨rfl, K62.out.bel⟩
theorem SlotIds_walk (A0 : Option Addr) (n0 c0 : Nat) (l0 : List Cl) (x1 : Int) (A2 : Option Addr) (n2 c2 : Nat) (l2 : List UInt8) (A3 : Option Addr) (n3 c3 : Nat) (l3 : List UInt8) (A4 : Option Addr) (n4 c4 : Nat) (l4 : List UInt8) (x5 : Int) (w : World) (h0 : CLs w w.heap.size A0 n0 l0) (m0 : n0 ≤ c0 ∧ c0 ≤ maxLen) (h1 : (Lit.int .i64 x1).wf = true) (h2 : RB w w.heap.size A2 n2 l2) (m2 : n2 ≤ c2 ∧ c2 ≤ maxLen) (h3 : RB w w.heap.size A3 n3 l3) (m3 : n3 ≤ c3 ∧ c3 ≤ maxLen) (h4 : RB w w.heap.size A4 n4 l4) (m4 : n4 ≤ c4 ∧ c4 ≤ maxLen) (h5 : (Lit.int .u8 x5).wf = true) :
    Calls Tryz.prog 5 #[.slice A0 n0 c0, .int .i64 x1, .slice A2 n2 c2, .slice A3 n3 c3, .slice A4 n4 c4, .int .u8 x5] w fun e w' => e = .returned (.bool true) ∧ Below w.heap.size w w' := by
  obtain ⟨y, rfl⟩ := byte_of h5
  by_cases e0 : 100 < n0
  · exact ids_long0 A0 n0 c0 l0 x1 A2 n2 c2 l2 A3 n3 c3 l3 A4 n4 c4 l4 y w h0 m0 h2 m2 h3 m3 h4 m4 e0
  by_cases e1 : 300 < n4
  · exact ids_long1 A0 n0 c0 l0 x1 A2 n2 c2 l2 A3 n3 c3 l3 A4 n4 c4 l4 y w h0 m0 h2 m2 h3 m3 h4 m4 ⟨by omega, e1⟩
  by_cases e2 : 100 < n2
  · exact ids_long2 A0 n0 c0 l0 x1 A2 n2 c2 l2 A3 n3 c3 l3 A4 n4 c4 l4 y w h0 m0 h2 m2 h3 m3 h4 m4 ⟨by omega, by omega, e2⟩
  by_cases e3 : 100 < n3
  · exact ids_long3 A0 n0 c0 l0 x1 A2 n2 c2 l2 A3 n3 c3 l3 A4 n4 c4 l4 y w h0 m0 h2 m2 h3 m3 h4 m4 ⟨by omega, by omega, by omega, e3⟩
  · exact ids_ok A0 n0 c0 l0 x1 A2 n2 c2 l2 A3 n3 c3 l3 A4 n4 c4 l4 y w h0 m0 h2 m2 h3 m3 h4 m4 ⟨by omega, by omega, by omega, by omega⟩
end Go.Proofs.YtkcchidklcnnnaaGreat
