/- Layer 18: the walk of the statement SlotStamps. No condition. -/
import Derived.Test.YtkcchidklcnnnaaGreatSlV
namespace Go.Proofs.YtkcchidklcnnnaaGreat
open Go.RowKit
set_option linter.unusedVariables false
set_option linter.unusedSimpArgs false
theorem SlotStamps_n (s : Sl) (k : Nat) (c : Cfg) : (putS s k c).n = s.n + 1 := rfl
theorem SlotStamps_o (s : Sl) (k : Nat) : (offS s k).n = s.n := rfl
attribute [local irreducible] Cfg.val Cfg.cells rtB Rt zK sizeC zeroC hcel zh pSl rSl aSl hasS ofS tmS tmN Sl.row Sl.tm inB instS retS putS offS doS upTo allS Cl.cells Cl.val pcel zcel codB codM showS shortS pntB prtC wayC idB cU17 s1 s2 upS
attribute [local go_sem ↓] ex_ldC ex_ldPt ex_ldPr ex_ldK18
theorem inst_cases (s : Sl) (hs : s.ok) (p : Int) (c : Cfg) : (∃ z, (z == 0) = false ∧ instS s p c = (s, z)) ∨ (∃ u, instS s p c = (u, 0) ∧ tmS u p = ((s.n + 1 : Nat) : Int) ∧ u.n = s.n + 1) := by
  cases hv : inB p
  · exact .inl ⟨11, rfl, inst_range hv⟩
  cases hr : rtB c
  · exact .inl ⟨10, rfl, inst_form hv hr⟩
  cases hh : hasS s p
  · refine .inr ⟨_, inst_ok0 hv hr hh, ?_, SlotStamps_n _ _ _⟩
    have hp := in_cases hv
    have hk : p.toNat < 3 := by omega
    have ht : (putS s p.toNat c).tm p.toNat = s.n + 1 := by rw [put_tm hs hk, if_pos rfl]
    have hy : hasS (putS s p.toNat c) p = true := has_iff.2 ⟨by omega, by rw [ht]; omega⟩
    rw [(has_yes hy).2.1, ht]
  · exact .inl ⟨16, rfl, inst_there hv hr hh⟩
theorem ret_cases (s : Sl) (hs : s.ok) (p : Int) : (∃ z, (z == 0) = false ∧ retS s p = (s, z)) ∨ (∃ u, retS s p = (u, 0) ∧ tmS u p = 0 ∧ u.n = s.n) := by
  cases hv : inB p
  · exact .inl ⟨11, rfl, ret_range hv⟩
  cases hh : hasS s p
  · exact .inl ⟨17, rfl, ret_none hv hh⟩
  · refine .inr ⟨_, ret_ok0 hv hh, ?_, SlotStamps_o _ _⟩
    have hp := in_cases hv
    have hk : p.toNat < 3 := by omega
    have ht : (offS s p.toNat).tm p.toNat = 0 := by rw [off_tm hs hk, if_pos rfl]
    have hn : hasS (offS s p.toNat) p = false := by
      cases hy : hasS (offS s p.toNat) p
      · rfl
      · have := (has_iff.1 hy).2; omega
    rw [(has_no hn).2.1]
set_option maxRecDepth 100000 in
set_option maxHeartbeats 4000000 in
theorem stamps_long (A0 : Option Addr) (n0 c0 : Nat) (l0 : List Cl) (A1 : Option Addr) (n1 c1 : Nat) (l1 : List UInt8) (w : World) (h0 : CLs w w.heap.size A0 n0 l0) (m0 : n0 ≤ c0 ∧ c0 ≤ maxLen) (h1 : RB w w.heap.size A1 n1 l1) (m1 : n1 ≤ c1 ∧ c1 ≤ maxLen) (h : 100 < n0) :
    Calls Tryz.prog 6 #[.slice A0 n0 c0, .slice A1 n1 c1] w fun e w' => e = .returned (.bool true) ∧ Below w.heap.size w w' := by
  have d1 : decide ((100 : Int) < (n0 : Int)) = true := decide_eq_true (by omega)
  have K0 := Lib.hid (SG.start w)
  clear h0 m0 h1 m1 h
  go_enter Tryz.func6, Tryz.ntmps6
  go_wp2_with fail
  refine (slalive_any _).mono ?_
  rintro e w1 ⟨rfl, hb⟩
  have K1 := Lib.hid (K0.out.step hb)
  clear K0
  clear hb
  skip
  skip
  go_wp2_with fail
  go_ret
  exact ⟨rfl, K1.out.bel⟩
set_option maxRecDepth 100000 in
set_option maxHeartbeats 4000000 in
theorem stamps_long2 (A0 : Option Addr) (n0 c0 : Nat) (l0 : List Cl) (A1 : Option Addr) (n1 c1 : Nat) (l1 : List UInt8) (w : World) (h0 : CLs w w.heap.size A0 n0 l0) (m0 : n0 ≤ c0 ∧ c0 ≤ maxLen) (h1 : RB w w.heap.size A1 n1 l1) (m1 : n1 ≤ c1 ∧ c1 ≤ maxLen) (h : n0 ≤ 100 ∧ 300 < n1) :
    Calls Tryz.prog 6 #[.slice A0 n0 c0, .slice A1 n1 c1] w fun e w' => e = .returned (.bool true) ∧ Below w.heap.size w w' := by
  have d1 : decide ((100 : Int) < (n0 : Int)) = false := decide_eq_false (by omega)
  have d2 : decide ((300 : Int) < (n1 : Int)) = true := decide_eq_true (by omega)
  have K0 := Lib.hid (SG.start w)
  clear h0 m0 h1 m1 h
  go_enter Tryz.func6, Tryz.ntmps6
  go_wp2_with fail
  refine (slalive_any _).mono ?_
  rintro e w1 ⟨rfl, hb⟩
  have K1 := Lib.hid (K0.out.step hb)
  clear K0
  clear hb
  skip
  skip
  go_wp2_with fail
  go_ret
  exact ⟨rfl, K1.out.bel⟩
set_option maxRecDepth 100000 in
set_option maxHeartbeats 4000000 in
theorem stamps_ok (A0 : Option Addr) (n0 c0 : Nat) (l0 : List Cl) (A1 : Option Addr) (n1 c1 : Nat) (l1 : List UInt8) (w : World) (h0 : CLs w w.heap.size A0 n0 l0) (m0 : n0 ≤ c0 ∧ c0 ≤ maxLen) (h1 : RB w w.heap.size A1 n1 l1) (m1 : n1 ≤ c1 ∧ c1 ≤ maxLen) (h : n0 ≤ 100) (h' : n1 ≤ 300) :
    Calls Tryz.prog 6 #[.slice A0 n0 c0, .slice A1 n1 c1] w fun e w' => e = .returned (.bool true) ∧ Below w.heap.size w w' := by
  have HKS := Lib.hid (And.intro h0.2.1 (And.intro h0.len h0))
  have HL1 := Lib.hid h1.len
  have Hb := Lib.hid (And.intro h1 m1)
  have d1 : decide ((100 : Int) < (n0 : Int)) = false := decide_eq_false (by omega)
  have d2 : decide ((300 : Int) < (n1 : Int)) = false := decide_eq_false (by omega)
  have K0 := Lib.hid (SG.start w)
  clear h0 m0 h1 m1
  go_enter Tryz.func6, Tryz.ntmps6
  go_wp2_with fail
  refine (slalive_any _).mono ?_
  rintro e w1 ⟨rfl, hb⟩
  have K1 := Lib.hid (K0.out.step hb)
  clear K0
  clear hb
  skip
  skip
  go_wp2_with fail
  refine (new18_any _).mono ?_
  rintro e w2 ⟨p_s, rfl, hc, hx, hb⟩
  have HZs := Lib.hid (Nat.le_trans K1.out.bel.size hx)
  have K2 := Lib.hid (K1.out.new hb hx hc)
  clear K1
  clear hc hx hb
  skip
  skip
  go_wp2_with fail
  go_loopw [6, 7] (fun tp t wr => ∃ i z : Nat, i ≤ n0 ∧ z ≤ (upTo l0 i).n ∧ t = .int .i64 (i : Int) ∧ tp = .int .i64 (z : Int) ∧ Hid (SG w [] [] [(69, p_s, pSl (upTo l0 i))] wr)) (fun _ t _ => n0 - (intOf t).toNat)
  case atStart => exact ⟨0, 0, Nat.zero_le _, Nat.zero_le _, rfl, rfl, (by rw [upTo_0]; exact K2)⟩
  case round =>
    obtain ⟨i, z, hi, hz, rfl, rfl, K50⟩ := hrel
    by_cases hlt : i < n0
    · obtain ⟨b0, o0, kk, rfl, -, hki0, hko0, hrg⟩ := (HKS.out.2.2.below K50.out.bel).at_ hlt
      have hko := Lib.hid hko0
      have lk := ld_at hko0 hrg
      have hnx := upTo_next hki0
      have hnn : (upTo l0 i).n ≤ 100 := Nat.le_trans (upTo_n l0 i) (by have := HKS.out.2.1; omega)
      have HNB := Lib.hid (Nat.le_trans hnn (by decide : 100 ≤ 1000000))
      have HSO := Lib.hid (upTo_ok HKS.out.1 i)
      clear hki0 hko0 hrg
      by_cases ht : kk.t = 0
      · have e0 : (kk.t == 0) = true := by rw [beq_iff_eq]; exact ht
        rw [do_0 ht] at hnx
        rcases inst_cases (upTo l0 i) HSO.out kk.p kk.c with ⟨q, hq, hE⟩ | ⟨u, hE, hu, hun⟩
        · rw [hE] at hnx
          have HX : Hid (upTo l0 (i + 1) = upTo l0 i) := Lib.hid hnx
          have HE := Lib.hid hE
          have HZ : z ≤ (upTo l0 (i + 1)).n := by rw [HX.out]; exact hz
          clear hnx hE ht hz hnn
          go_wp2_with (first | ((with_reducible show wpList _ _ _ (⟨some 8, .alloc _, _, _, _, _⟩ :: _) _ _); refine wpList_newB rt_call rfl rfl ?_; intro w51 p_c hc1 hb1 hx1; have Vw51 := Lib.hid (And.intro hc1 (And.intro hb1 hx1)); clear hc1 hb1 hx1) | (refine wpList_stB rt_call rfl (.tmp 8) (.tmp 37) rfl p_c 0 rfl zCl.cells (Cl.cells kk) (cl_val _) (Cl.cells_one _) (by exact (Cl.cells_len hko.out).trans (Cl.cells_len zCl_ok).symm) (by exact Vw51.out.1) (by rw [Cl.cells_len zCl_ok]; decide) ?_; intro w52 hc1 ho1 hs1; have K51 := Lib.hid (K50.out.var Vw51.out.2.1 Vw51.out.2.2 ho1 (by rwa [puts_whole _ _ ((Cl.cells_len hko.out).trans (Cl.cells_len zCl_ok).symm)] at hc1)); clear hc1 ho1 hs1 Vw51; have f0_c := cl0 (K51.out.blk _ (.head _)); have f1_c := cl1 (K51.out.blk _ (.head _)); have f2_c := ld_ccfg hko.out (K51.out.blk _ (.head _))))
          refine (inst_any (upTo l0 i) HSO.out HNB.out p_s kk.p kk.c hko.out.c _ (by exact (K51.out.blk _ (.tail _ (.head _))))).mono ?_
          rw [HE.out]
          (try dsimp only)
          rintro e w53 ⟨rfl, hc, ho⟩
          (try dsimp only at hc)
          have K52 := Lib.hid (K51.out.mut (T := 69) 1 rfl (by decide) HZs.out ho hc rfl)
          clear K51
          clear hc ho
          (try clear q_c)
          (try clear f0_c)
          (try clear f1_c)
          (try clear f2_c)
          skip
          go_wp2_with fail
          go_roundw
          case rel => exact ⟨i + 1, z, by omega, HZ, by go_num, rfl, Lib.hid (by rw [HX.out]; exact K52.out.tail_)⟩
          case measure => simp [intOf]; omega
        · rw [hE] at hnx
          have HX : Hid (upTo l0 (i + 1) = u) := Lib.hid hnx
          have HUO : Hid u.ok := Lib.hid (by rw [← HX.out]; exact upTo_ok HKS.out.1 _)
          have HE := Lib.hid hE
          have HU := Lib.hid hu
          obtain ⟨m, hm⟩ : ∃ m, m = (upTo l0 i).n + 1 := ⟨_, rfl⟩
          have HM := Lib.hid hm
          have HZ : m ≤ (upTo l0 (i + 1)).n := by rw [HX.out]; omega
          have d3 : decide ((m : Int) ≤ (z : Int)) = false := decide_eq_false (by omega)
          have d4 : decide (m ≤ z) = false := decide_eq_false (by omega)
          clear hnx hE ht hz hnn hu hun hm
          go_wp2_with (first | ((with_reducible show wpList _ _ _ (⟨some 8, .alloc _, _, _, _, _⟩ :: _) _ _); refine wpList_newB rt_call rfl rfl ?_; intro w51 p_c hc1 hb1 hx1; have Vw51 := Lib.hid (And.intro hc1 (And.intro hb1 hx1)); clear hc1 hb1 hx1) | (refine wpList_stB rt_call rfl (.tmp 8) (.tmp 37) rfl p_c 0 rfl zCl.cells (Cl.cells kk) (cl_val _) (Cl.cells_one _) (by exact (Cl.cells_len hko.out).trans (Cl.cells_len zCl_ok).symm) (by exact Vw51.out.1) (by rw [Cl.cells_len zCl_ok]; decide) ?_; intro w52 hc1 ho1 hs1; have K51 := Lib.hid (K50.out.var Vw51.out.2.1 Vw51.out.2.2 ho1 (by rwa [puts_whole _ _ ((Cl.cells_len hko.out).trans (Cl.cells_len zCl_ok).symm)] at hc1)); clear hc1 ho1 hs1 Vw51; have f0_c := cl0 (K51.out.blk _ (.head _)); have f1_c := cl1 (K51.out.blk _ (.head _)); have f2_c := ld_ccfg hko.out (K51.out.blk _ (.head _))))
          refine (inst_any (upTo l0 i) HSO.out HNB.out p_s kk.p kk.c hko.out.c _ (by exact (K51.out.blk _ (.tail _ (.head _))))).mono ?_
          rw [HE.out]
          (try dsimp only)
          rintro e w53 ⟨rfl, hc, ho⟩
          (try dsimp only at hc)
          have K52 := Lib.hid (K51.out.mut (T := 69) 1 rfl (by decide) HZs.out ho hc rfl)
          clear K51
          clear hc ho
          (try clear q_c)
          (try clear f0_c)
          (try clear f1_c)
          (try clear f2_c)
          have f0_c := cl0 (K52.out.blk _ (.head _))
          have f1_c := cl1 (K52.out.blk _ (.head _))
          have f2_c := ld_ccfg hko.out (K52.out.blk _ (.head _))
          go_wp2_with fail
          refine (stamp18_any u HUO.out p_s kk.p _ (by exact (K52.out.blk _ (.tail _ (.head _))))).mono ?_
          rw [HU.out, ← HM.out]
          rintro e w54 ⟨rfl, hb⟩
          have K53 := Lib.hid (K52.out.step hb)
          clear K52
          clear hb
          (try clear q_c)
          (try clear f0_c)
          (try clear f1_c)
          (try clear f2_c)
          have f0_c := cl0 (K53.out.blk _ (.head _))
          have f1_c := cl1 (K53.out.blk _ (.head _))
          have f2_c := ld_ccfg hko.out (K53.out.blk _ (.head _))
          go_wp2_with fail
          refine (stamp18_any u HUO.out p_s kk.p _ (by exact (K53.out.blk _ (.tail _ (.head _))))).mono ?_
          rw [HU.out, ← HM.out]
          rintro e w55 ⟨rfl, hb⟩
          have K54 := Lib.hid (K53.out.step hb)
          clear K53
          clear hb
          (try clear q_c)
          (try clear f0_c)
          (try clear f1_c)
          (try clear f2_c)
          have f0_c := cl0 (K54.out.blk _ (.head _))
          have f1_c := cl1 (K54.out.blk _ (.head _))
          have f2_c := ld_ccfg hko.out (K54.out.blk _ (.head _))
          go_wp2_with fail
          go_roundw
          case rel => exact ⟨i + 1, m, by omega, HZ, by go_num, rfl, Lib.hid (by rw [HX.out]; exact K54.out.tail_)⟩
          case measure => simp [intOf]; omega
      have e0 : (kk.t == 0) = false := by rw [beq_eq_false_iff_ne]; exact ht
      by_cases ht1 : kk.t = 1
      · have e1 : (kk.t == 1) = true := by rw [beq_iff_eq]; exact ht1
        rw [do_1 ht1] at hnx
        rcases ret_cases (upTo l0 i) HSO.out kk.p with ⟨q, hq, hE⟩ | ⟨u, hE, hu, hun⟩
        · rw [hE] at hnx
          have HX : Hid (upTo l0 (i + 1) = upTo l0 i) := Lib.hid hnx
          have HE := Lib.hid hE
          have HZ : z ≤ (upTo l0 (i + 1)).n := by rw [HX.out]; exact hz
          clear hnx hE ht ht1 hz hnn
          go_wp2_with (first | ((with_reducible show wpList _ _ _ (⟨some 8, .alloc _, _, _, _, _⟩ :: _) _ _); refine wpList_newB rt_call rfl rfl ?_; intro w51 p_c hc1 hb1 hx1; have Vw51 := Lib.hid (And.intro hc1 (And.intro hb1 hx1)); clear hc1 hb1 hx1) | (refine wpList_stB rt_call rfl (.tmp 8) (.tmp 37) rfl p_c 0 rfl zCl.cells (Cl.cells kk) (cl_val _) (Cl.cells_one _) (by exact (Cl.cells_len hko.out).trans (Cl.cells_len zCl_ok).symm) (by exact Vw51.out.1) (by rw [Cl.cells_len zCl_ok]; decide) ?_; intro w52 hc1 ho1 hs1; have K51 := Lib.hid (K50.out.var Vw51.out.2.1 Vw51.out.2.2 ho1 (by rwa [puts_whole _ _ ((Cl.cells_len hko.out).trans (Cl.cells_len zCl_ok).symm)] at hc1)); clear hc1 ho1 hs1 Vw51; have f0_c := cl0 (K51.out.blk _ (.head _)); have f1_c := cl1 (K51.out.blk _ (.head _)); have f2_c := ld_ccfg hko.out (K51.out.blk _ (.head _))))
          refine (ret_any (upTo l0 i) HSO.out p_s kk.p _ (by exact (K51.out.blk _ (.tail _ (.head _))))).mono ?_
          rw [HE.out]
          (try dsimp only)
          rintro e w53 ⟨rfl, hc, ho⟩
          (try dsimp only at hc)
          have K52 := Lib.hid (K51.out.mut (T := 69) 1 rfl (by decide) HZs.out ho hc rfl)
          clear K51
          clear hc ho
          (try clear q_c)
          (try clear f0_c)
          (try clear f1_c)
          (try clear f2_c)
          have f0_c := cl0 (K52.out.blk _ (.head _))
          have f1_c := cl1 (K52.out.blk _ (.head _))
          have f2_c := ld_ccfg hko.out (K52.out.blk _ (.head _))
          go_wp2_with fail
          go_roundw
          case rel => exact ⟨i + 1, z, by omega, HZ, by go_num, rfl, Lib.hid (by rw [HX.out]; exact K52.out.tail_)⟩
          case measure => simp [intOf]; omega
        · rw [hE] at hnx
          have HX : Hid (upTo l0 (i + 1) = u) := Lib.hid hnx
          have HUO : Hid u.ok := Lib.hid (by rw [← HX.out]; exact upTo_ok HKS.out.1 _)
          have HE := Lib.hid hE
          have HU := Lib.hid hu
          have HZ : z ≤ (upTo l0 (i + 1)).n := by rw [HX.out]; omega
          clear hnx hE ht ht1 hz hnn hu hun
          go_wp2_with (first | ((with_reducible show wpList _ _ _ (⟨some 8, .alloc _, _, _, _, _⟩ :: _) _ _); refine wpList_newB rt_call rfl rfl ?_; intro w51 p_c hc1 hb1 hx1; have Vw51 := Lib.hid (And.intro hc1 (And.intro hb1 hx1)); clear hc1 hb1 hx1) | (refine wpList_stB rt_call rfl (.tmp 8) (.tmp 37) rfl p_c 0 rfl zCl.cells (Cl.cells kk) (cl_val _) (Cl.cells_one _) (by exact (Cl.cells_len hko.out).trans (Cl.cells_len zCl_ok).symm) (by exact Vw51.out.1) (by rw [Cl.cells_len zCl_ok]; decide) ?_; intro w52 hc1 ho1 hs1; have K51 := Lib.hid (K50.out.var Vw51.out.2.1 Vw51.out.2.2 ho1 (by rwa [puts_whole _ _ ((Cl.cells_len hko.out).trans (Cl.cells_len zCl_ok).symm)] at hc1)); clear hc1 ho1 hs1 Vw51; have f0_c := cl0 (K51.out.blk _ (.head _)); have f1_c := cl1 (K51.out.blk _ (.head _)); have f2_c := ld_ccfg hko.out (K51.out.blk _ (.head _))))
          refine (ret_any (upTo l0 i) HSO.out p_s kk.p _ (by exact (K51.out.blk _ (.tail _ (.head _))))).mono ?_
          rw [HE.out]
          (try dsimp only)
          rintro e w53 ⟨rfl, hc, ho⟩
          (try dsimp only at hc)
          have K52 := Lib.hid (K51.out.mut (T := 69) 1 rfl (by decide) HZs.out ho hc rfl)
          clear K51
          clear hc ho
          (try clear q_c)
          (try clear f0_c)
          (try clear f1_c)
          (try clear f2_c)
          have f0_c := cl0 (K52.out.blk _ (.head _))
          have f1_c := cl1 (K52.out.blk _ (.head _))
          have f2_c := ld_ccfg hko.out (K52.out.blk _ (.head _))
          go_wp2_with fail
          refine (stamp18_any u HUO.out p_s kk.p _ (by exact (K52.out.blk _ (.tail _ (.head _))))).mono ?_
          rw [HU.out]
          rintro e w54 ⟨rfl, hb⟩
          have K53 := Lib.hid (K52.out.step hb)
          clear K52
          clear hb
          (try clear q_c)
          (try clear f0_c)
          (try clear f1_c)
          (try clear f2_c)
          have f0_c := cl0 (K53.out.blk _ (.head _))
          have f1_c := cl1 (K53.out.blk _ (.head _))
          have f2_c := ld_ccfg hko.out (K53.out.blk _ (.head _))
          go_wp2_with fail
          go_roundw
          case rel => exact ⟨i + 1, z, by omega, HZ, by go_num, rfl, Lib.hid (by rw [HX.out]; exact K53.out.tail_)⟩
          case measure => simp [intOf]; omega
      · have e1 : (kk.t == 1) = false := by rw [beq_eq_false_iff_ne]; exact ht1
        rw [do_2 ht ht1] at hnx
        have HX : Hid (upTo l0 (i + 1) = upTo l0 i) := Lib.hid hnx
        have HZ : z ≤ (upTo l0 (i + 1)).n := by rw [HX.out]; exact hz
        clear hnx ht ht1 hz hnn
        go_wp2_with (first | ((with_reducible show wpList _ _ _ (⟨some 8, .alloc _, _, _, _, _⟩ :: _) _ _); refine wpList_newB rt_call rfl rfl ?_; intro w51 p_c hc1 hb1 hx1; have Vw51 := Lib.hid (And.intro hc1 (And.intro hb1 hx1)); clear hc1 hb1 hx1) | (refine wpList_stB rt_call rfl (.tmp 8) (.tmp 37) rfl p_c 0 rfl zCl.cells (Cl.cells kk) (cl_val _) (Cl.cells_one _) (by exact (Cl.cells_len hko.out).trans (Cl.cells_len zCl_ok).symm) (by exact Vw51.out.1) (by rw [Cl.cells_len zCl_ok]; decide) ?_; intro w52 hc1 ho1 hs1; have K51 := Lib.hid (K50.out.var Vw51.out.2.1 Vw51.out.2.2 ho1 (by rwa [puts_whole _ _ ((Cl.cells_len hko.out).trans (Cl.cells_len zCl_ok).symm)] at hc1)); clear hc1 ho1 hs1 Vw51; have f0_c := cl0 (K51.out.blk _ (.head _)); have f1_c := cl1 (K51.out.blk _ (.head _)); have f2_c := ld_ccfg hko.out (K51.out.blk _ (.head _))))
        go_roundw
        case rel => exact ⟨i + 1, z, by omega, HZ, by go_num, rfl, Lib.hid (by rw [HX.out]; exact K51.out.tail_)⟩
        case measure => simp [intOf]; omega
    · obtain rfl : i = n0 := by omega
      have HSO := Lib.hid (upTo_ok HKS.out.1 i)
      obtain ⟨S, hS⟩ : ∃ S, upTo l0 i = S := ⟨_, rfl⟩
      rw [hS] at K50 HSO
      clear hlt hi hz hS
      obtain ⟨⟨⟨pp, sa, na⟩, q⟩, hX⟩ : ∃ X, shortS S l1 = X := ⟨_, rfl⟩
      by_cases hq : q = 0
      · subst hq
        have hsb := short_back HSO.out (l := l1) (by rw [hX])
        rw [hX] at hsb
        obtain ⟨hh, hlen, hsh⟩ := hsb
        dsimp only at hh hlen hsh
        have hz := has_size HSO.out hh
        obtain ⟨z, hz1⟩ : ∃ z : Nat, sizeC (S.row pp.toNat) = (z : Int) := ⟨(sizeC (S.row pp.toNat)).toNat, by omega⟩
        rw [hz1] at hlen hsh hz
        rw [Int.toNat_natCast] at hsh
        have hL := HL1.out
        have hzz : 6 ≤ z ∧ z ≤ 20 := by omega
        have HX := Lib.hid hX
        have HH := Lib.hid hh
        have HSH := Lib.hid hsh
        have HRW : Hid (ofS S pp = S.row pp.toNat) := Lib.hid (has_yes hh).1
        have HZC : Hid (sizeC (ofS S pp) = (z : Int)) := Lib.hid (by rw [HRW.out, hz1])
        obtain ⟨z1, hz2⟩ : ∃ z1, z1 = z + 1 := ⟨_, rfl⟩
        have hzi : 1 + (z : Int) = (z1 : Int) := by omega
        have d5 : decide ((n1 : Int) < (z1 : Int)) = false := decide_eq_false (by omega)
        have d6 : decide (n1 < z1) = false := decide_eq_false (by omega)
        obtain ⟨Az, hAz⟩ : ∃ Az, cutA A1 c1 1 = Az := ⟨_, rfl⟩
        obtain ⟨dd, hd1⟩ : ∃ dd, dd = c1 - 1 := ⟨_, rfl⟩
        have hmm := Hb.out.2
        have hcz : ∀ W : World, (Instr.slice 40 (.slice A1 n1 c1) (some (.int .i64 1)) (some (.int .i64 (z1 : Int))) none).run Tryz.prog W = .ok (.slice Az z dd) W := by
          have hcy := cut_lh A1 n1 c1 1 z1 (by omega) (by omega)
          rw [hAz, ← hd1, show z1 - 1 = z by omega] at hcy
          exact hcy
        have HAZ : Hid (RB w w.heap.size Az z ((l1.drop 1).take z)) := Lib.hid (by
          have := Hb.out.1.part (i := 1) (j := z1) (c := c1) (by omega) (by omega) hmm.1
          rw [hAz, show z1 - 1 = z by omega, List.drop_take, show z1 - 1 = z by omega] at this
          exact this)
        have HZD : Hid (z ≤ dd) := Lib.hid (by omega)
        have b1 : (pp == pp) = true := beq_self_eq_true _
        clear hX hh hlen hsh hz hz1 hL hz2 hAz hd1 hmm
        go_wp2_with fail
        refine (short18_any S HSO.out p_s A1 n1 c1 l1 _ (by exact (K50.out.blk _ (.head _))) (by exact (Hb.out.1.step K50.out.bel)) Hb.out.2.1).mono ?_
        rw [HX.out]
        (try dsimp only)
        rintro e w51 ⟨Aps, cps, Apn, cpn, rfl, ho1, ho2, hb⟩
        (try dsimp only at ho1 ho2 ⊢)
        have K51 := Lib.hid (K50.out.ret2 hb ho1 ho2)
        clear K50
        clear ho1 ho2 hb
        skip
        skip
        go_wp2_with (first | ((with_reducible show wpList _ _ _ (⟨some 9, .alloc _, _, _, _, _⟩ :: _) _ _); refine wpList_newB rt_prt rfl rfl ?_; intro w52 p_p hc1 hb1 hx1; have Vw52 := Lib.hid (And.intro hc1 (And.intro hb1 hx1)); clear hc1 hb1 hx1) | (refine wpList_stB rt_prt rfl (.tmp 9) (.tmp 77) rfl p_p 0 rfl zcel (pcel pp Aps sa.length cps Apn na.length cpn) rfl pcel_one (by exact pcel_len) (by exact Vw52.out.1) (by rw [zcel_len]; decide) ?_; intro w53 hc1 ho1 hs1; have K52 := Lib.hid (K51.out.var Vw52.out.2.1 Vw52.out.2.2 ho1 (by rwa [puts_whole _ _ (pcel_len)] at hc1)); clear hc1 ho1 hs1 Vw52; have f0_p := pc0 (K52.out.blk _ (.head _)); have f1_p := pc1 (K52.out.blk _ (.head _)); have f2_p := pc2 (K52.out.blk _ (.head _))))
        refine (of18_any S HSO.out p_s pp _ (by exact (K52.out.blk _ (.tail _ (.head _))))).mono ?_
        rw [HH.out]
        rintro e w54 ⟨rfl, hb⟩
        have K53 := Lib.hid (K52.out.step hb)
        clear K52
        clear hb
        (try clear q_p)
        (try clear f0_p)
        (try clear f1_p)
        (try clear f2_p)
        have f0_p := pc0 (K53.out.blk _ (.head _))
        have f1_p := pc1 (K53.out.blk _ (.head _))
        have f2_p := pc2 (K53.out.blk _ (.head _))
        go_wp2_with (first | ((with_reducible show wpList _ _ _ (⟨some 11, .alloc _, _, _, _, _⟩ :: _) _ _); refine wpList_newB rt_cfg rfl rfl ?_; intro w55 p_e hc1 hb1 hx1; have Vw55 := Lib.hid (And.intro hc1 (And.intro hb1 hx1)); clear hc1 hb1 hx1) | (refine wpList_stB rt_cfg rfl (.tmp 11) (.tmp 95) rfl p_e 0 rfl zeroC.cells (Cfg.cells (ofS S pp)) (val_agg _) (cells_one _) (by exact (Cfg.cells_len (ofS_ok HSO.out pp)).trans zeroC_len.symm) (by exact Vw55.out.1) (by rw [zeroC_len]; decide) ?_; intro w56 hc1 ho1 hs1; have K54 := Lib.hid (K53.out.var Vw55.out.2.1 Vw55.out.2.2 ho1 (by rwa [puts_whole _ _ ((Cfg.cells_len (ofS_ok HSO.out pp)).trans zeroC_len.symm)] at hc1)); clear hc1 ho1 hs1 Vw55; have q_e := ld_cfg rt_cfg (K54.out.blk _ (.head _)) (ofS_ok HSO.out pp); have f0_p := pc0 (K54.out.blk _ (.tail _ (.head _))); have f1_p := pc1 (K54.out.blk _ (.tail _ (.head _))); have f2_p := pc2 (K54.out.blk _ (.tail _ (.head _)))))
        refine (msize_any (ofS S pp) (ofS_ok HSO.out pp) (z : Int) HZC.out _).mono ?_
        rintro e w57 ⟨rfl, hb⟩
        have K55 := Lib.hid (K54.out.step hb)
        clear K54
        clear hb
        (try clear q_e)
        (try clear f0_e)
        (try clear f1_e)
        (try clear f2_e)
        (try clear q_p)
        (try clear f0_p)
        (try clear f1_p)
        (try clear f2_p)
        have q_e := ld_cfg rt_cfg (K55.out.blk _ (.head _)) (ofS_ok HSO.out pp)
        have f0_p := pc0 (K55.out.blk _ (.tail _ (.head _)))
        have f1_p := pc1 (K55.out.blk _ (.tail _ (.head _)))
        have f2_p := pc2 (K55.out.blk _ (.tail _ (.head _)))
        go_wp2_with fail
        refine (msize_any (ofS S pp) (ofS_ok HSO.out pp) (z : Int) HZC.out _).mono ?_
        rintro e w58 ⟨rfl, hb⟩
        have K56 := Lib.hid (K55.out.step hb)
        clear K55
        clear hb
        (try clear q_e)
        (try clear f0_e)
        (try clear f1_e)
        (try clear f2_e)
        (try clear q_p)
        (try clear f0_p)
        (try clear f1_p)
        (try clear f2_p)
        have q_e := ld_cfg rt_cfg (K56.out.blk _ (.head _)) (ofS_ok HSO.out pp)
        have f0_p := pc0 (K56.out.blk _ (.tail _ (.head _)))
        have f1_p := pc1 (K56.out.blk _ (.tail _ (.head _)))
        have f2_p := pc2 (K56.out.blk _ (.tail _ (.head _)))
        go_wp2_with fail
        refine (show18_any S HSO.out p_s Az z dd ((l1.drop 1).take z) _ (by exact (K56.out.blk _ (.tail _ (.tail _ (.head _))))) (by exact HAZ.out.step K56.out.bel) HZD.out).mono ?_
        rw [HSH.out]
        (try dsimp only)
        rintro e w59 ⟨Aqs, cqs, Aqn, cqn, rfl, ho1, ho2, hb⟩
        (try dsimp only at ho1 ho2 ⊢)
        have K57 := Lib.hid (K56.out.ret2 hb ho1 ho2)
        clear K56
        clear ho1 ho2 hb
        (try clear q_e)
        (try clear f0_e)
        (try clear f1_e)
        (try clear f2_e)
        (try clear q_p)
        (try clear f0_p)
        (try clear f1_p)
        (try clear f2_p)
        skip
        go_wp2_with (first | ((with_reducible show wpList _ _ _ (⟨some 13, .alloc _, _, _, _, _⟩ :: _) _ _); refine wpList_newB rt_prt rfl rfl ?_; intro w60 p_q hc1 hb1 hx1; have Vw60 := Lib.hid (And.intro hc1 (And.intro hb1 hx1)); clear hc1 hb1 hx1) | (refine wpList_stB rt_prt rfl (.tmp 13) (.tmp 115) rfl p_q 0 rfl zcel (pcel pp Aqs sa.length cqs Aqn na.length cqn) rfl pcel_one (by exact pcel_len) (by exact Vw60.out.1) (by rw [zcel_len]; decide) ?_; intro w61 hc1 ho1 hs1; have K58 := Lib.hid (K57.out.var Vw60.out.2.1 Vw60.out.2.2 ho1 (by rwa [puts_whole _ _ (pcel_len)] at hc1)); clear hc1 ho1 hs1 Vw60; have f0_q := pc0 (K58.out.blk _ (.head _)); have f1_q := pc1 (K58.out.blk _ (.head _)); have f2_q := pc2 (K58.out.blk _ (.head _)); have f0_p := pc0 (K58.out.blk _ (.tail _ (.tail _ (.head _)))); have f1_p := pc1 (K58.out.blk _ (.tail _ (.tail _ (.head _)))); have f2_p := pc2 (K58.out.blk _ (.tail _ (.tail _ (.head _))))))
        refine (al_same _ _ _ _ _ _ sa sa _ (by exact (K58.out.own _ (.tail _ (.head _))).rb) (by exact (K58.out.own _ (.tail _ (.tail _ (.tail _ (.head _))))).rb) (by exact Nat.le_trans (K58.out.own _ (.tail _ (.head _))).cap.1 (K58.out.own _ (.tail _ (.head _))).cap.2) (by exact Nat.le_trans (K58.out.own _ (.tail _ (.tail _ (.tail _ (.head _))))).cap.1 (K58.out.own _ (.tail _ (.tail _ (.tail _ (.head _))))).cap.2) true (beq_self_eq_true _)).mono ?_
        rintro e w62 ⟨rfl, hb⟩
        have K59 := Lib.hid (K58.out.step hb)
        clear K58
        clear hb
        (try clear q_q)
        (try clear f0_q)
        (try clear f1_q)
        (try clear f2_q)
        (try clear q_e)
        (try clear f0_e)
        (try clear f1_e)
        (try clear f2_e)
        (try clear q_p)
        (try clear f0_p)
        (try clear f1_p)
        (try clear f2_p)
        have f0_q := pc0 (K59.out.blk _ (.head _))
        have f1_q := pc1 (K59.out.blk _ (.head _))
        have f2_q := pc2 (K59.out.blk _ (.head _))
        have f0_p := pc0 (K59.out.blk _ (.tail _ (.tail _ (.head _))))
        have f1_p := pc1 (K59.out.blk _ (.tail _ (.tail _ (.head _))))
        have f2_p := pc2 (K59.out.blk _ (.tail _ (.tail _ (.head _))))
        go_wp2_with fail
        refine (al_same _ _ _ _ _ _ na na _ (by exact (K59.out.own _ (.head _)).rb) (by exact (K59.out.own _ (.tail _ (.tail _ (.head _)))).rb) (by exact Nat.le_trans (K59.out.own _ (.head _)).cap.1 (K59.out.own _ (.head _)).cap.2) (by exact Nat.le_trans (K59.out.own _ (.tail _ (.tail _ (.head _)))).cap.1 (K59.out.own _ (.tail _ (.tail _ (.head _)))).cap.2) true (beq_self_eq_true _)).mono ?_
        rintro e w63 ⟨rfl, hb⟩
        have K60 := Lib.hid (K59.out.step hb)
        clear K59
        clear hb
        (try clear q_q)
        (try clear f0_q)
        (try clear f1_q)
        (try clear f2_q)
        (try clear q_e)
        (try clear f0_e)
        (try clear f1_e)
        (try clear f2_e)
        (try clear q_p)
        (try clear f0_p)
        (try clear f1_p)
        (try clear f2_p)
        have f0_q := pc0 (K60.out.blk _ (.head _))
        have f1_q := pc1 (K60.out.blk _ (.head _))
        have f2_q := pc2 (K60.out.blk _ (.head _))
        have f0_p := pc0 (K60.out.blk _ (.tail _ (.tail _ (.head _))))
        have f1_p := pc1 (K60.out.blk _ (.tail _ (.tail _ (.head _))))
        have f2_p := pc2 (K60.out.blk _ (.tail _ (.tail _ (.head _))))
        go_wp2_with fail
        go_ret
        exact ⟨rfl, K60.out.bel⟩
      · have hzr := short_zero (s := S) (l := l1) (by rw [hX]; exact hq)
        rw [hX] at hzr
        injection hzr with e1 e2 e3
        subst e1 e2 e3
        have HX := Lib.hid hX
        have b1 : (q != 0) = true := bne_iff_ne.2 hq
        clear hX hq
        go_wp2_with fail
        refine (short18_any S HSO.out p_s A1 n1 c1 l1 _ (by exact (K50.out.blk _ (.head _))) (by exact (Hb.out.1.step K50.out.bel)) Hb.out.2.1).mono ?_
        rw [HX.out]
        (try dsimp only)
        rintro e w51 ⟨Aps, cps, Apn, cpn, rfl, ho1, ho2, hb⟩
        (try dsimp only at ho1 ho2 ⊢)
        have K51 := Lib.hid (K50.out.ret2 hb ho1 ho2)
        clear K50
        clear ho1 ho2 hb
        skip
        skip
        go_wp2_with (first | ((with_reducible show wpList _ _ _ (⟨some 9, .alloc _, _, _, _, _⟩ :: _) _ _); refine wpList_newB rt_prt rfl rfl ?_; intro w52 p_p hc1 hb1 hx1; have Vw52 := Lib.hid (And.intro hc1 (And.intro hb1 hx1)); clear hc1 hb1 hx1) | (refine wpList_stB rt_prt rfl (.tmp 9) (.tmp 77) rfl p_p 0 rfl zcel (pcel 0 Aps 0 cps Apn 0 cpn) rfl pcel_one (by exact pcel_len) (by exact Vw52.out.1) (by rw [zcel_len]; decide) ?_; intro w53 hc1 ho1 hs1; have K52 := Lib.hid (K51.out.var Vw52.out.2.1 Vw52.out.2.2 ho1 (by rwa [puts_whole _ _ (pcel_len)] at hc1)); clear hc1 ho1 hs1 Vw52; have f0_p := pc0 (K52.out.blk _ (.head _)); have f1_p := pc1 (K52.out.blk _ (.head _)); have f2_p := pc2 (K52.out.blk _ (.head _))))
        go_ret
        exact ⟨rfl, K52.out.bel⟩
theorem SlotStamps_walk (A0 : Option Addr) (n0 c0 : Nat) (l0 : List Cl) (A1 : Option Addr) (n1 c1 : Nat) (l1 : List UInt8) (w : World) (h0 : CLs w w.heap.size A0 n0 l0) (m0 : n0 ≤ c0 ∧ c0 ≤ maxLen) (h1 : RB w w.heap.size A1 n1 l1) (m1 : n1 ≤ c1 ∧ c1 ≤ maxLen) :
    Calls Tryz.prog 6 #[.slice A0 n0 c0, .slice A1 n1 c1] w fun e w' => e = .returned (.bool true) ∧ Below w.heap.size w w' := by
  by_cases h : 100 < n0
  · exact stamps_long A0 n0 c0 l0 A1 n1 c1 l1 w h0 m0 h1 m1 h
  by_cases h' : 300 < n1
  · exact stamps_long2 A0 n0 c0 l0 A1 n1 c1 l1 w h0 m0 h1 m1 ⟨by omega, h'⟩
  · exact stamps_ok A0 n0 c0 l0 A1 n1 c1 l1 w h0 m0 h1 m1 (by omega) (by omega)
end Go.Proofs.YtkcchidklcnnnaaGreat
