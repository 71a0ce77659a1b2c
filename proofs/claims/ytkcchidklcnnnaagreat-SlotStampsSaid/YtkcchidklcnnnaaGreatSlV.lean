/- Layer 18: the statements' own first step. No condition. -/
import Derived.Test.YtkcchidklcnnnaaGreatSlW
namespace Go.Proofs.YtkcchidklcnnnaaGreat
open Go.RowKit Go.Shelf
set_option linter.unusedVariables false
set_option linter.unusedSimpArgs false
def s1 : Sl := putS zSl 1 cU17
def s2 : Sl := offS s1 1
theorem s1_ok : s1.ok := put_ok zSl_ok (by decide) cU17_ok cU17_rt
theorem s2_ok : s2.ok := off_ok s1_ok (by decide)
theorem s1_n : s1.n ≤ 1000000 := (by decide : (1 : Nat) ≤ 1000000)
theorem zSl_n : zSl.n ≤ 1000000 := (by decide : (0 : Nat) ≤ 1000000)
theorem z_has : hasS zSl 1 = false := rfl
theorem s1_has : hasS s1 1 = true := rfl
theorem s2_has : hasS s2 1 = false := rfl
theorem al_1 : instS zSl 1 cU17 = (s1, 0) := inst_ok0 in_1 cU17_rt z_has
theorem al_2 : instS s1 1 cU17 = (s1, 16) := inst_there in_1 cU17_rt s1_has
theorem al_3 : instS s1 3 cU17 = (s1, 11) := inst_range (by decide)
theorem al_4 : instS s1 2 zeroC = (s1, 10) := inst_form in_2 zeroC_no
theorem pnt_71 : pntB 71 = 1 := by decide +kernel
theorem al_5 : showS s1 [71, 1, 2, 3, 4, 5, 6, 7] = (⟨1, [1, 2, 3], [4, 5, 6, 7]⟩, 0) := by
  have hp : pntB (([71, 1, 2, 3, 4, 5, 6, 7] : List UInt8).getD 0 0) = 1 := pnt_71
  rw [show_ok (by decide) (by rw [hp]; exact s1_has), hp]
  exact ca_2
theorem size_cU : sizeC cU17 = 8 := by rw [size_ok cU17_rt]; decide
theorem al_6 : shortS s1 [64, 71, 1, 2, 3, 4, 5, 6, 7, 9] = (⟨1, [1, 2, 3], [4, 5, 6, 7]⟩, 0) := by
  have hp : pntB (([64, 71, 1, 2, 3, 4, 5, 6, 7, 9] : List UInt8).getD 1 0) = 1 := pnt_71
  have hr : s1.row (1 : Int).toNat = cU17 := rfl
  rw [short_codB s1_ok (by decide) (by rw [hp]; exact s1_has) (by rw [hp, hr, size_cU]; decide), hp, hr, size_cU]
  exact ca_2
theorem al_7 : ofS s1 1 = cU17 := rfl
theorem al_8 : retS s1 1 = (s2, 0) := ret_ok0 in_1 s1_has
theorem al_9 : retS s2 1 = (s2, 17) := ret_none in_1 s2_has
theorem al_10 : showS s2 [71, 1, 2, 3, 4, 5, 6, 7] = (zPrt, 17) := show_none (by decide) (by
  have hp : pntB (([71, 1, 2, 3, 4, 5, 6, 7] : List UInt8).getD 0 0) = 1 := pnt_71
  rw [hp]; exact s2_has)
theorem al_11 : tmS s1 1 = 1 := rfl
theorem al_12 : tmS s2 1 = 0 := rfl
theorem al_13 (x : PtS s1) : x.1 = 1 := by
  obtain ⟨k, hk, hm⟩ := x
  show k = 1
  rcases (show k = 0 ∨ k = 1 ∨ k = 2 by omega) with rfl | rfl | rfl
  · exact absurd hm (by decide)
  · rfl
  · exact absurd hm (by decide)
theorem al_14 : (upS s1 3).length = 1 := rfl
theorem al_15 : s1.row 1 = cU17 := rfl
theorem OwnB.turned {W W' : World} {base n c B : Nat} {A : Option Addr} {l : List UInt8} {row : Option Nat} (h : OwnB W base A n c l) (hg : W.grownBy W' row) (hr : ∀ r, row = some r → B ≤ r ∧ ∃ o : Obj, W.heap[r]? = some o ∧ o.isCells = false) : OwnB W' base A n c l := by
  refine ⟨h.1, ?_⟩
  rcases h.2 with h0 | ⟨g, cap, cur, hv, hbg, hh, r⟩
  · exact .inl h0
  · exact .inr ⟨g, cap, cur, hv, hbg, (grownBy_keeps_cells hg (fun r e => (hr r e).2) hh rfl).trans hh, r⟩
theorem SG.turned {v W W' : World} {os : List (Option Addr × Nat × Nat × List UInt8)} {bs : List (TypeId × Nat × List Value)} {row : Option Nat} {B : Nat} (k : SG v os [] bs W) (hB : v.heap.size ≤ B) (hg : W.grownBy W' row) (hr : ∀ r, row = some r → B ≤ r ∧ ∃ o : Obj, W.heap[r]? = some o ∧ o.isCells = false) : SG v os [] bs W' :=
  ⟨k.vk.turned hB hg hr, fun r hr2 => (k.own r hr2).turned hg hr, fun r hr => (by cases hr)⟩
theorem SG.tail {v w : World} {os rows : List (Option Addr × Nat × Nat × List UInt8)} {bs : List (TypeId × Nat × List Value)} {b : TypeId × Nat × List Value} (k : SG v os rows (b :: bs) w) : SG v os rows bs w := ⟨k.vk.tail, k.own, k.row⟩
theorem SG.hold {v w : World} {os rows : List (Option Addr × Nat × Nat × List UInt8)} {bs : List (TypeId × Nat × List Value)} {T : TypeId} {q : Nat} {cs : List Value} (k : SG v os rows bs w) (h : Blk T w q cs) (hn : q ∉ bs.map (fun b => b.2.1)) : SG v os rows ((T, q, cs) :: bs) w := ⟨k.vk.hold h hn, k.own, k.row⟩
/-- Beside a block for deferred calls. -/
structure SD (D : Nat) (v : World) (os rows : List (Option Addr × Nat × Nat × List UInt8)) (bs : List (TypeId × Nat × List Value)) (w : World) : Prop where
  sg : SG v os rows bs w
  df : w.heap[D]? = some (.deferred (some []))
section
variable {D : Nat} {v w w1 w' : World} {os rows : List (Option Addr × Nat × Nat × List UInt8)} {bs bs' : List (TypeId × Nat × List Value)} {A B : Option Addr} {n c m d q : Nat} {l r : List UInt8} {T : TypeId} {cs cs0 : List Value}
theorem SD.bel (k : SD D v os rows bs w) : Below v.heap.size v w := k.sg.bel
theorem SD.blk (k : SD D v os rows bs w) : ∀ b ∈ bs, Blk b.1 w b.2.1 b.2.2 := k.sg.blk
theorem SD.own (k : SD D v os rows bs w) : ∀ r ∈ os, OwnB w v.heap.size r.1 r.2.1 r.2.2.1 r.2.2.2 := k.sg.own
theorem SD.step (k : SD D v os rows bs w) (hb : Below w.heap.size w w') : SD D v os rows bs w' := ⟨k.sg.step hb, (keeps_belS hb).same D _ k.df rfl⟩
theorem SD.ret2 (k : SD D v os rows bs w) (hb : Below w.heap.size w w') (h1 : OwnB w' w.heap.size A n c l) (h2 : OwnB w' w.heap.size B m d r) : SD D v ((B, m, d, r) :: (A, n, c, l) :: os) rows bs w' := ⟨k.sg.ret2 hb h1 h2, (k.step hb).df⟩
theorem SD.new (k : SD D v os rows bs w) (hb : Below w.heap.size w w') (hq : w.heap.size ≤ q) (h : Blk T w' q cs) : SD D v os rows ((T, q, cs) :: bs) w' := ⟨k.sg.new hb hq h, (k.step hb).df⟩
theorem SD.var (k : SD D v os rows bs w) (hb : Below w.heap.size w w1) (hq : w.heap.size ≤ q) (ho : Oth [q] w1 w') (h : Blk T w' q cs) : SD D v os rows ((T, q, cs) :: bs) w' :=
  k.new (hb.trans (ho.below (fun j hj => by rw [List.mem_singleton.1 hj]; exact hq) hb.size)) hq h
theorem SD.lit (k : SD D v os rows bs w) (ls : List UInt8) (ds : Array Value) (hc : ds = (bvs ls).toArray) (a : Nat) (ha : w.heap.size = a) : SD D v os rows ((5, a, bvs ls) :: bs) (w.alloc (.cells ds 5)) := ⟨k.sg.lit ls ds hc a ha, (keeps_belS (below_alloc w _)).same D _ k.df rfl⟩
theorem SD.mut (k : SD D v os [] bs w) (i : Nat) (hi : bs[i]? = some (T, q, cs0)) (hT : T ≠ 5) (hq : v.heap.size ≤ q) (ho : Oth [q] w w') (hc : Blk T w' q cs) (e : bs.set i (T, q, cs) = bs') : SD D v os [] bs' w' :=
  ⟨k.sg.mut i hi hT hq ho hc e, (keeps_oth (k.sg.vk.blk _ (List.mem_of_getElem? hi)) ho).same D _ k.df rfl⟩
end
attribute [local irreducible] Cfg.val Cfg.cells rtB Rt zK sizeC zeroC hcel zh pSl rSl aSl hasS ofS tmS tmN Sl.row Sl.tm inB instS retS putS offS doS pcel zcel codB showS shortS pntB prtC cU17 s1 s2 upS
attribute [local go_sem ↓] ex_ldC ex_ldPt
attribute [local go_sem] Oper.semAt_some
set_option maxRecDepth 100000 in
set_option maxHeartbeats 4000000 in
theorem slalive_any (w : World) :
    Calls Tryz.prog 7 #[] w fun e w' => e = .returned (.bool true) ∧ Below w.heap.size w w' := by
  refine (callsIn_wide (n := 3)).1 ?_
  refine callsIn_of_wp_marks Tryz.func7 rfl trivial ?_ rfl
  simp only [Tryz.ntmps7, List.size_toArray, List.length_cons, List.length_nil, Nat.reduceAdd, Nat.reduceSub, Array.replicate_succ, Array.replicate_zero, List.push_toArray, List.append_toArray, List.nil_append, List.cons_append]
  refine wpIn_wide.2 ?_
  have K0 := Lib.hid (SG.start w)
  go_wp2_with (first | ((with_reducible show wpList _ _ _ (⟨some 0, .alloc _, _, _, _, _⟩ :: _) _ _); refine wpList_newV rw_bool rfl rfl rfl ?_; intro w1 p_r hc1 hb1 hx1; have K1 := Lib.hid (K0.out.new hb1 hx1 hc1); have HZr := Lib.hid (Nat.le_trans K0.out.bel.size hx1); clear hc1 hb1 hx1 K0; skip))
  refine (new18_any _).mono ?_
  rintro e w2 ⟨p_s, rfl, hc, hx, hb⟩
  have HZs := Lib.hid (Nat.le_trans K1.out.bel.size hx)
  have K2 := Lib.hid (K1.out.new hb hx hc)
  clear K1
  clear hc hx hb
  (try clear q_r)
  (try clear f0_r)
  (try clear f1_r)
  (try clear f2_r)
  skip
  go_wp2_with (first | ((with_reducible show wpList _ _ _ (⟨some 2, .alloc _, _, _, _, _⟩ :: _) _ _); refine wpList_newB rt_cfg rfl rfl ?_; intro w3 p_c hc1 hb1 hx1; have Vw3 := Lib.hid (And.intro hc1 (And.intro hb1 hx1)); clear hc1 hb1 hx1) | (refine wpList_stB rt_cfg rfl (.tmp 2) (.tmp 25) rfl p_c 0 rfl zeroC.cells (Cfg.cells cU17) cU17_lit (cells_one _) (by exact (Cfg.cells_len cU17_ok).trans zeroC_len.symm) (by exact Vw3.out.1) (by rw [zeroC_len]; decide) ?_; intro w4 hc1 ho1 hs1; have K3 := Lib.hid (K2.out.var Vw3.out.2.1 Vw3.out.2.2 ho1 (by rwa [puts_whole _ _ ((Cfg.cells_len cU17_ok).trans zeroC_len.symm)] at hc1)); clear hc1 ho1 hs1 Vw3; have q_c := ld_cfg rt_cfg (K3.out.blk _ (.head _)) cU17_ok))
  refine (inst_any zSl zSl_ok zSl_n p_s 1 cU17 cU17_ok _ (by exact (K3.out.blk _ (.tail _ (.head _))))).mono ?_
  rw [al_1]
  (try dsimp only)
  rintro e w5 ⟨rfl, hc, ho⟩
  (try dsimp only at hc)
  have K4 := Lib.hid (K3.out.mut (T := 69) 1 rfl (by decide) HZs.out ho hc rfl)
  clear K3
  clear hc ho
  (try clear q_c)
  (try clear f0_c)
  (try clear f1_c)
  (try clear f2_c)
  (try clear q_r)
  (try clear f0_r)
  (try clear f1_r)
  (try clear f2_r)
  have q_c := ld_cfg rt_cfg (K4.out.blk _ (.head _)) cU17_ok
  go_wp2_with fail
  refine (inst_any s1 s1_ok s1_n p_s 1 cU17 cU17_ok _ (by exact (K4.out.blk _ (.tail _ (.head _))))).mono ?_
  rw [al_2]
  (try dsimp only)
  rintro e w6 ⟨rfl, hc, ho⟩
  (try dsimp only at hc)
  have K5 := Lib.hid (K4.out.mut (T := 69) 1 rfl (by decide) HZs.out ho hc rfl)
  clear K4
  clear hc ho
  (try clear q_c)
  (try clear f0_c)
  (try clear f1_c)
  (try clear f2_c)
  (try clear q_r)
  (try clear f0_r)
  (try clear f1_r)
  (try clear f2_r)
  have q_c := ld_cfg rt_cfg (K5.out.blk _ (.head _)) cU17_ok
  go_wp2_with fail
  refine (inst_any s1 s1_ok s1_n p_s 3 cU17 cU17_ok _ (by exact (K5.out.blk _ (.tail _ (.head _))))).mono ?_
  rw [al_3]
  (try dsimp only)
  rintro e w7 ⟨rfl, hc, ho⟩
  (try dsimp only at hc)
  have K6 := Lib.hid (K5.out.mut (T := 69) 1 rfl (by decide) HZs.out ho hc rfl)
  clear K5
  clear hc ho
  (try clear q_c)
  (try clear f0_c)
  (try clear f1_c)
  (try clear f2_c)
  (try clear q_r)
  (try clear f0_r)
  (try clear f1_r)
  (try clear f2_r)
  have q_c := ld_cfg rt_cfg (K6.out.blk _ (.head _)) cU17_ok
  go_wp2_with fail
  rw [← zeroC_val]
  refine (inst_any s1 s1_ok s1_n p_s 2 zeroC zeroC_ok _ (by exact (K6.out.blk _ (.tail _ (.head _))))).mono ?_
  rw [al_4]
  (try dsimp only)
  rintro e w8 ⟨rfl, hc, ho⟩
  (try dsimp only at hc)
  have K7 := Lib.hid (K6.out.mut (T := 69) 1 rfl (by decide) HZs.out ho hc rfl)
  clear K6
  clear hc ho
  (try clear q_c)
  (try clear f0_c)
  (try clear f1_c)
  (try clear f2_c)
  (try clear q_r)
  (try clear f0_r)
  (try clear f1_r)
  (try clear f2_r)
  have q_c := ld_cfg rt_cfg (K7.out.blk _ (.head _)) cU17_ok
  go_wp2_with fail
  have K8 := Lib.hid (K7.out.lit [71, 1, 2, 3, 4, 5, 6, 7] #[.int .u8 71, .int .u8 1, .int .u8 2, .int .u8 3, .int .u8 4, .int .u8 5, .int .u8 6, .int .u8 7] rfl (w8.heap.size) (by simp))
  clear K7
  (try clear q_c)
  (try clear f0_c)
  (try clear f1_c)
  (try clear f2_c)
  (try clear q_r)
  (try clear f0_r)
  (try clear f1_r)
  (try clear f2_r)
  skip
  refine (show18_any s1 s1_ok p_s _ 8 8 [71, 1, 2, 3, 4, 5, 6, 7] _ (by exact (K8.out.blk _ (.tail _ (.tail _ (.head _))))) (by exact (K8.out.blk _ (.head _)).rb) (by decide)).mono ?_
  rw [al_5]
  (try dsimp only)
  rintro e w9 ⟨Aps, cps, Apn, cpn, rfl, ho1, ho2, hb⟩
  (try dsimp only at ho1 ho2 ⊢)
  have K9 := Lib.hid (K8.out.ret2 hb ho1 ho2)
  clear K8
  clear ho1 ho2 hb
  (try clear q_c)
  (try clear f0_c)
  (try clear f1_c)
  (try clear f2_c)
  (try clear q_r)
  (try clear f0_r)
  (try clear f1_r)
  (try clear f2_r)
  skip
  go_wp2_with (first | ((with_reducible show wpList _ _ _ (⟨some 8, .alloc _, _, _, _, _⟩ :: _) _ _); refine wpList_newB rt_prt rfl rfl ?_; intro w10 p_p hc1 hb1 hx1; have Vw10 := Lib.hid (And.intro hc1 (And.intro hb1 hx1)); clear hc1 hb1 hx1) | (refine wpList_stB rt_prt rfl (.tmp 8) (.tmp 43) rfl p_p 0 rfl zcel (pcel 1 Aps 3 cps Apn 4 cpn) rfl pcel_one (by exact pcel_len) (by exact Vw10.out.1) (by rw [zcel_len]; decide) ?_; intro w11 hc1 ho1 hs1; have K10 := Lib.hid (K9.out.var Vw10.out.2.1 Vw10.out.2.2 ho1 (by rwa [puts_whole _ _ (pcel_len)] at hc1)); clear hc1 ho1 hs1 Vw10; skip))
  have HA0 := Lib.hid (below_alloc w11 (.cells #[.int .u8 64] 5))
  refine (copy_any _ 8 8 0 [71, 1, 2, 3, 4, 5, 6, 7] _ (by exact (((K10.out.blk _ (.tail _ (.head _)))).step HA0.out).rb) (by decide)).mono ?_
  rintro e w12 ⟨Acp, ccp, rfl, ho, hb⟩
  have HO := Lib.hid (And.intro ho hb)
  clear ho hb
  go_wp2_with (first | ((with_reducible show wpList _ _ _ (⟨some 51, _, _, _, _, _⟩ :: _) _ _); at_builtin; refine wpList_app rfl (.tmp 49) (.tmp 50) rfl _ Acp 8 ccp [71, 1, 2, 3, 4, 5, 6, 7] rfl (by exact HO.out.1.below (below_alloc _ _)) _ (some ⟨w12.heap.size, 0, none⟩) 1 1 [9] rfl (by exact RB.lit w12 [9] _ 1 _ rfl rfl rfl) (by decide) (by exact Nat.le_trans HO.out.2.size (below_alloc w12 _).size) ?_; intro A1 c1 w13 ho1 _ hb1; have HO1 := Lib.hid (And.intro ho1 ((HO.out.2.trans ((below_alloc w12 _).mono HO.out.2.size)).trans hb1)); clear ho1 hb1) | ((with_reducible show wpList _ _ _ (⟨some 52, _, _, _, _, _⟩ :: _) _ _); at_builtin; refine wpList_app rfl (.tmp 47) (.tmp 51) rfl w11.heap.size (some ⟨w11.heap.size, 0, none⟩) 1 1 [64] rfl (by exact (OwnB.lit w11 w11.heap.size [64] _ 1 rfl rfl (by unfold maxLen; decide) (Nat.le_refl _)).below HO1.out.2) _ A1 9 c1 ([71, 1, 2, 3, 4, 5, 6, 7] ++ [9]) rfl (by exact HO1.out.1.rb) (by decide) (by exact Nat.le_trans HA0.out.size HO1.out.2.size) ?_; intro Ash csh w14 ho2 _ hb2; have K11 := Lib.hid (K10.out.ret ((HA0.out.trans (HO1.out.2.mono HA0.out.size)).trans hb2) ho2); clear ho2 hb2))
  clear HO HO1 HA0 K10
  refine (short18_any s1 s1_ok p_s Ash 10 csh [64, 71, 1, 2, 3, 4, 5, 6, 7, 9] _ (by exact (K11.out.blk _ (.tail _ (.tail _ (.tail _ (.head _)))))) (by exact (K11.out.own _ (.head _)).rb) (by exact (K11.out.own _ (.head _)).cap.1)).mono ?_
  rw [al_6]
  (try dsimp only)
  rintro e w15 ⟨Aqs, cqs, Aqn, cqn, rfl, ho1, ho2, hb⟩
  (try dsimp only at ho1 ho2 ⊢)
  have K12 := Lib.hid (K11.out.ret2 hb ho1 ho2)
  clear K11
  clear ho1 ho2 hb
  (try clear q_p)
  (try clear f0_p)
  (try clear f1_p)
  (try clear f2_p)
  (try clear q_c)
  (try clear f0_c)
  (try clear f1_c)
  (try clear f2_c)
  (try clear q_r)
  (try clear f0_r)
  (try clear f1_r)
  (try clear f2_r)
  skip
  go_wp2_with (first | ((with_reducible show wpList _ _ _ (⟨some 10, .alloc _, _, _, _, _⟩ :: _) _ _); refine wpList_newB rt_prt rfl rfl ?_; intro w16 p_q hc1 hb1 hx1; have Vw16 := Lib.hid (And.intro hc1 (And.intro hb1 hx1)); clear hc1 hb1 hx1) | (refine wpList_stB rt_prt rfl (.tmp 10) (.tmp 54) rfl p_q 0 rfl zcel (pcel 1 Aqs 3 cqs Aqn 4 cqn) rfl pcel_one (by exact pcel_len) (by exact Vw16.out.1) (by rw [zcel_len]; decide) ?_; intro w17 hc1 ho1 hs1; have K13 := Lib.hid (K12.out.var Vw16.out.2.1 Vw16.out.2.2 ho1 (by rwa [puts_whole _ _ (pcel_len)] at hc1)); clear hc1 ho1 hs1 Vw16; skip))
  refine (of18_any s1 s1_ok p_s 1 _ (by exact (K13.out.blk _ (.tail _ (.tail _ (.tail _ (.tail _ (.head _)))))))).mono ?_
  rw [al_7, s1_has]
  rintro e w18 ⟨rfl, hb⟩
  have K14 := Lib.hid (K13.out.step hb)
  clear K13
  clear hb
  (try clear q_q)
  (try clear f0_q)
  (try clear f1_q)
  (try clear f2_q)
  (try clear q_p)
  (try clear f0_p)
  (try clear f1_p)
  (try clear f2_p)
  (try clear q_c)
  (try clear f0_c)
  (try clear f1_c)
  (try clear f2_c)
  (try clear q_r)
  (try clear f0_r)
  (try clear f1_r)
  (try clear f2_r)
  skip
  go_wp2_with (first | ((with_reducible show wpList _ _ _ (⟨some 12, .alloc _, _, _, _, _⟩ :: _) _ _); refine wpList_newB rt_cfg rfl rfl ?_; intro w19 p_d hc1 hb1 hx1; have Vw19 := Lib.hid (And.intro hc1 (And.intro hb1 hx1)); clear hc1 hb1 hx1) | (refine wpList_stB rt_cfg rfl (.tmp 12) (.tmp 59) rfl p_d 0 rfl zeroC.cells (Cfg.cells cU17) (val_agg _) (cells_one _) (by exact (Cfg.cells_len cU17_ok).trans zeroC_len.symm) (by exact Vw19.out.1) (by rw [zeroC_len]; decide) ?_; intro w20 hc1 ho1 hs1; have K15 := Lib.hid (K14.out.var Vw19.out.2.1 Vw19.out.2.2 ho1 (by rwa [puts_whole _ _ ((Cfg.cells_len cU17_ok).trans zeroC_len.symm)] at hc1)); clear hc1 ho1 hs1 Vw19; skip) | ((with_reducible show wpList _ _ _ (⟨some 14, .alloc _, _, _, _, _⟩ :: _) _ _); refine wpList_newV rw_int rfl rfl rfl ?_; intro w21 p_n hc1 hb1 hx1; have K16 := Lib.hid (K15.out.new hb1 hx1 hc1); have HZn := Lib.hid (Nat.le_trans K15.out.bel.size hx1); clear hc1 hb1 hx1 K15; skip) | ((with_reducible show wpList _ _ _ (⟨none, .store _ (.tmp 14) _, _, _, _, _⟩ :: _) _ _); refine wpList_stC rw_int.size rfl (.tmp 14) (.const (.int .i64 0)) rfl p_n 0 rfl (.int .i64 0) rfl rfl _ (by exact (K16.out.blk _ (.head _))) (by exact Nat.zero_lt_one) ?_; intro wz hc2 ho2 hs2; have K17 := Lib.hid (K16.out.mut (T := 3) 0 rfl (by decide) HZn.out ho2 hc2 rfl); clear hc2 ho2 hs2))
  refine (all18_b p_s _).mono ?_
  rintro e w22 ⟨qa, rfl, hca, hqa, hb⟩
  have K18 := Lib.hid (K17.out.new hb hqa hca)
  clear K17
  clear hca hqa hb
  go_wp2_with fail
  have HW0 : Hid (w.heap.size ≤ w22.heap.size) := Lib.hid K18.out.bel.size
  generalize hF : ({ tmps := _, defers := _ } : Act) = a0
  refine (wpIn_wide (n := 3)).1 ?_
  refine wpIn_rangeFunc_ownH rfl (by omega) (gf := 43) (lb := #[.pointer (some ⟨qa, 0, none⟩)]) (by rw [← hF]; rfl) trivial (enters_of Tryz.func43 (by kernel_rfl) rfl)
    (all_stops s1 s1_ok _ (by omega) qa p_s w22 ((K18.out.blk _ (.head _)).cell 0) (K18.out.blk _ (.head _)).lt (K18.out.blk _ (.tail _ (.tail _ (.tail _ (.tail _ (.tail _ (.tail _ (.tail _ (.head _)))))))))) (fun _ _ => trivial) (fun _ _ _ _ _ _ _ _ => trivial) (Below.refl _ _) (fun _ => rfl)
    (fun pre W => w22.heap.size ≤ W.heap.size ∧ SG w [(Aqn, 4, cqn, [4, 5, 6, 7]), (Aqs, 3, cqs, [1, 2, 3]), (Ash, 10, csh, [64, 71, 1, 2, 3, 4, 5, 6, 7, 9]), (Apn, 4, cpn, [4, 5, 6, 7]), (Aps, 3, cps, [1, 2, 3])] [] [(3, p_n, [.int .i64 ((pre.length : Int))]), (35, p_d, cU17.cells), (43, p_q, pcel 1 Aqs 3 cqs Aqn 4 cqn), (43, p_p, pcel 1 Aps 3 cps Apn 4 cpn), (5, w8.heap.size, bvs [71, 1, 2, 3, 4, 5, 6, 7]), (35, p_c, cU17.cells), (69, p_s, pSl s1), (4, p_r, [.bool false])] W) (fun _ _ _ => False) (fun pre W W' row hs hg hr => ⟨Nat.le_trans hs.1 hg.size, hs.2.turned HW0.out hg hr⟩) (fun _ _ _ _ _ hs _ _ => hs) ⟨Nat.le_refl _, K18.out.tail⟩
    (fun x' a' W => ∃ qc, w22.heap.size ≤ qc ∧ Blk 35 W qc cU17.cells ∧ a' = { tmps := ((((a0.tmps.setIfInBounds 63 (.int .i64 1)).setIfInBounds 64 cU17.val).setIfInBounds 15 (.int .i64 1)).setIfInBounds 16 (.pointer (some ⟨qc, 0, none⟩))), defers := [] })
    (fun x' a' _ W W' row hs hg hr => by obtain ⟨qc, h1, h2, h3⟩ := hs; exact ⟨qc, h1, h2.turned hg hr, h3⟩) ?assign ?body ?done ?stop
  case assign =>
    intro l pre x' W K hi hK
    have HI := Lib.hid hi
    have HKK := Lib.hid hK
    clear hi hK
    subst hF
    unfold encS
    rw [al_13 x', al_15, show ((1 : Nat) : Int) = 1 from rfl]
    gi_wp2_with (first
      | ((with_reducible show wpListIn _ _ _ _ _ (⟨some 16, .alloc _, _, _, _, _⟩ :: _) _ _); refine wpListIn_newB rt_cfg rfl rfl ?_; intro ya qc hc1 hb1 hx1; have KA := Lib.hid ((VK.start [] W).new hb1 hx1 hc1); have HQC := Lib.hid hx1; clear hc1 hb1 hx1)
      | (refine wpListIn_stB rt_cfg rfl (.tmp 16) (.tmp 64) rfl qc 0 rfl zeroC.cells cU17.cells (val_agg _) (cells_one _) (by exact (Cfg.cells_len cU17_ok).trans zeroC_len.symm) (by exact KA.out.b0) (by rw [zeroC_len]; decide) ?_; intro yb hc2 ho2 hs2; have KC := Lib.hid (KA.out.put 0 rfl (.inr HQC.out) ho2 (by rwa [puts_whole _ _ ((Cfg.cells_len cU17_ok).trans zeroC_len.symm)] at hc2) rfl); clear hc2 ho2 hs2))
    exact HKK.out _ _ ((keeps_belS KC.out.bel).from _) trivial ⟨Nat.le_trans HI.out.1 KC.out.bel.size, HI.out.2.step KC.out.bel⟩ ⟨qc, Nat.le_trans HI.out.1 HQC.out, KC.out.b0, rfl⟩
  case body =>
    rintro l pre x' a' W hl ⟨r, hr⟩ ⟨hsz, hk⟩ ⟨qc, hqc, hbc, rfl⟩ hlen
    have KB := Lib.hid (hk.hold hbc (show _ ∉ _ from K18.out.tail.vk.fresh hqc))
    have HSZ := Lib.hid hsz
    have hl3 : pre.length ≤ 1000 := by omega
    have HLN : Hid (((pre ++ [x']).length : Int) = (pre.length : Int) + 1) := Lib.hid (by rw [List.length_append, List.length_singleton]; rfl)
    subst hF
    simp only [List.setIfInBounds_toArray, List.set_cons_succ, List.set_cons_zero]
    clear hl hr hk hbc hsz hqc hlen K18
    have q1 := ld_cfg rt_cfg (KB.out.blk _ (.head _)) cU17_ok
    have q2 := ld_cfg rt_cfg (KB.out.blk _ (.tail _ (.tail _ (.tail _ (.tail _ (.tail _ (.tail _ (.head _)))))))) cU17_ok
    have c9 := (KB.out.blk _ (.tail _ (.head _))).cell 0
    dsimp only [List.getElem?_cons_zero] at c9
    have hq1 : ∀ W : World, (binOp .neq 35 cU17.val cU17.val).run Tryz.prog W = .ok (.bool false) W := fun W => by rw [neq_cfg et_cfg _ _ cU17_ok cU17_ok, decide_eq_true rfl]; rfl
    have hg1 : ∀ (op : BinOp) (x y : Operand) (W : World), (eqGuard op 35 x y cU17.val cU17.val).run Tryz.prog W = .ok () W := fun op x y W => by rw [val_agg]; exact run_eqGuard_agg W op _ x y _ _ et_cfg.g
    gi_wp2_with (first
      | ((with_reducible show wpListIn _ _ _ _ _ (⟨some 68, _, _, _, _, _⟩ :: _) _ _); refine wpListIn_ldW (by go_simp) (.tmp 16) rfl _ (by exact q1) ?_)
      | ((with_reducible show wpListIn _ _ _ _ _ (⟨some 69, _, _, _, _, _⟩ :: _) _ _); refine wpListIn_ldW (by go_simp) (.tmp 2) rfl _ (by exact q2) ?_)
      | (refine wpListIn_stC rw_int.size rfl (.tmp 14) (.tmp 73) rfl p_n 0 rfl (.int .i64 ((pre.length : Int) + 1)) rfl rfl _ (by exact KB.out.blk _ (.tail _ (.head _))) (by exact Nat.zero_lt_one) ?_; intro yd hc2 ho2 hs2; have KE := Lib.hid (KB.out.mut (T := 3) 1 rfl (by decide) HZn.out ho2 hc2 rfl); have HOE := Lib.hid (keeps_oth (KB.out.blk _ (.tail _ (.head _))) ho2); clear hc2 ho2 hs2))
    exact ⟨HOE.out.from _, trivial, Nat.le_trans HSZ.out HOE.out.size, by
      have h := KE.out.tail
      rw [HLN.out]
      exact h⟩
  case stop =>
    rintro D c pre W hD hp hx _
    exact hx.elim
  case done =>
    rintro D ys W hD rfl ⟨hsz, hk⟩ hK
    rw [al_14, show ((1 : Nat) : Int) = 1 from rfl] at hk
    have HD := Lib.hid (Nat.le_trans HW0.out hD)
    have K100 : Hid (SD D w [(Aqn, 4, cqn, [4, 5, 6, 7]), (Aqs, 3, cqs, [1, 2, 3]), (Ash, 10, csh, [64, 71, 1, 2, 3, 4, 5, 6, 7, 9]), (Apn, 4, cpn, [4, 5, 6, 7]), (Aps, 3, cps, [1, 2, 3])] [] [(3, p_n, [.int .i64 (1)]), (35, p_d, cU17.cells), (43, p_q, pcel 1 Aqs 3 cqs Aqn 4 cqn), (43, p_p, pcel 1 Aps 3 cps Apn 4 cpn), (5, w8.heap.size, bvs [71, 1, 2, 3, 4, 5, 6, 7]), (35, p_c, cU17.cells), (69, p_s, pSl s1), (4, p_r, [.bool false])] W) := Lib.hid ⟨hk, hK⟩
    subst hF
    clear hsz hk hK hD K18
    go_wp2_with fail
    refine (clone18_any s1 s1_ok p_s _ (by exact (K100.out.blk _ (.tail _ (.tail _ (.tail _ (.tail _ (.tail _ (.tail _ (.head _)))))))))).mono ?_
    rintro e w101 ⟨p_t, rfl, hc, hx, hb⟩
    have HZt := Lib.hid (Nat.le_trans K100.out.bel.size hx)
    have K101 := Lib.hid (K100.out.new hb hx hc)
    clear K100
    clear hc hx hb
    (try clear q_n)
    (try clear f0_n)
    (try clear f1_n)
    (try clear f2_n)
    (try clear q_d)
    (try clear f0_d)
    (try clear f1_d)
    (try clear f2_d)
    (try clear q_q)
    (try clear f0_q)
    (try clear f1_q)
    (try clear f2_q)
    (try clear q_p)
    (try clear f0_p)
    (try clear f1_p)
    (try clear f2_p)
    (try clear q_c)
    (try clear f0_c)
    (try clear f1_c)
    (try clear f2_c)
    (try clear q_r)
    (try clear f0_r)
    (try clear f1_r)
    (try clear f2_r)
    skip
    go_wp2_with fail
    refine (ret_any s1 s1_ok p_s 1 _ (by exact (K101.out.blk _ (.tail _ (.tail _ (.tail _ (.tail _ (.tail _ (.tail _ (.tail _ (.head _))))))))))).mono ?_
    rw [al_8]
    (try dsimp only)
    rintro e w102 ⟨rfl, hc, ho⟩
    (try dsimp only at hc)
    have K102 := Lib.hid (K101.out.mut (T := 69) 7 rfl (by decide) HZs.out ho hc rfl)
    clear K101
    clear hc ho
    (try clear q_n)
    (try clear f0_n)
    (try clear f1_n)
    (try clear f2_n)
    (try clear q_d)
    (try clear f0_d)
    (try clear f1_d)
    (try clear f2_d)
    (try clear q_q)
    (try clear f0_q)
    (try clear f1_q)
    (try clear f2_q)
    (try clear q_p)
    (try clear f0_p)
    (try clear f1_p)
    (try clear f2_p)
    (try clear q_c)
    (try clear f0_c)
    (try clear f1_c)
    (try clear f2_c)
    (try clear q_r)
    (try clear f0_r)
    (try clear f1_r)
    (try clear f2_r)
    skip
    go_wp2_with fail
    refine (ret_any s2 s2_ok p_s 1 _ (by exact (K102.out.blk _ (.tail _ (.tail _ (.tail _ (.tail _ (.tail _ (.tail _ (.tail _ (.head _))))))))))).mono ?_
    rw [al_9]
    (try dsimp only)
    rintro e w103 ⟨rfl, hc, ho⟩
    (try dsimp only at hc)
    have K103 := Lib.hid (K102.out.mut (T := 69) 7 rfl (by decide) HZs.out ho hc rfl)
    clear K102
    clear hc ho
    (try clear q_n)
    (try clear f0_n)
    (try clear f1_n)
    (try clear f2_n)
    (try clear q_d)
    (try clear f0_d)
    (try clear f1_d)
    (try clear f2_d)
    (try clear q_q)
    (try clear f0_q)
    (try clear f1_q)
    (try clear f2_q)
    (try clear q_p)
    (try clear f0_p)
    (try clear f1_p)
    (try clear f2_p)
    (try clear q_c)
    (try clear f0_c)
    (try clear f1_c)
    (try clear f2_c)
    (try clear q_r)
    (try clear f0_r)
    (try clear f1_r)
    (try clear f2_r)
    skip
    go_wp2_with fail
    refine (show18_any s2 s2_ok p_s _ 8 8 [71, 1, 2, 3, 4, 5, 6, 7] _ (by exact (K103.out.blk _ (.tail _ (.tail _ (.tail _ (.tail _ (.tail _ (.tail _ (.tail _ (.head _)))))))))) (by exact (K103.out.blk _ (.tail _ (.tail _ (.tail _ (.tail _ (.tail _ (.head _))))))).rb) (by decide)).mono ?_
    rw [al_10]
    (try dsimp only [zPrt])
    rintro e w104 ⟨Aes, ces, Aen, cen, rfl, ho1, ho2, hb⟩
    (try dsimp only at ho1 ho2 ⊢)
    have K104 := Lib.hid (K103.out.ret2 hb ho1 ho2)
    clear K103
    clear ho1 ho2 hb
    (try clear q_n)
    (try clear f0_n)
    (try clear f1_n)
    (try clear f2_n)
    (try clear q_d)
    (try clear f0_d)
    (try clear f1_d)
    (try clear f2_d)
    (try clear q_q)
    (try clear f0_q)
    (try clear f1_q)
    (try clear f2_q)
    (try clear q_p)
    (try clear f0_p)
    (try clear f1_p)
    (try clear f2_p)
    (try clear q_c)
    (try clear f0_c)
    (try clear f1_c)
    (try clear f2_c)
    (try clear q_r)
    (try clear f0_r)
    (try clear f1_r)
    (try clear f2_r)
    skip
    have hq1 : ∀ W : World, (binOp .eql 35 cU17.val cU17.val).run Tryz.prog W = .ok (.bool true) W := fun W => by rw [eql_cfg et_cfg _ _ cU17_ok cU17_ok, decide_eq_true rfl]
    have hg1 : ∀ (op : BinOp) (x y : Operand) (W : World), (eqGuard op 35 x y cU17.val cU17.val).run Tryz.prog W = .ok () W := fun op x y W => by rw [val_agg]; exact run_eqGuard_agg W op _ x y _ _ et_cfg.g
    go_wp2_with (first | ((with_reducible show wpList _ _ _ (⟨some 20, .alloc _, _, _, _, _⟩ :: _) _ _); refine wpList_newB rt_prt rfl rfl ?_; intro w105 p_e hc1 hb1 hx1; have Vw105 := Lib.hid (And.intro hc1 (And.intro hb1 hx1)); clear hc1 hb1 hx1) | (refine wpList_stB rt_prt rfl (.tmp 20) (.tmp 84) rfl p_e 0 rfl zcel (pcel 0 Aes 0 ces Aen 0 cen) rfl pcel_one (by exact pcel_len) (by exact Vw105.out.1) (by rw [zcel_len]; decide) ?_; intro w106 hc1 ho1 hs1; have K105 := Lib.hid (K104.out.var Vw105.out.2.1 Vw105.out.2.2 ho1 (by rwa [puts_whole _ _ (pcel_len)] at hc1)); clear hc1 ho1 hs1 Vw105; have f0_n := (K105.out.blk _ (.tail _ (.tail _ (.head _)))).cell 0; dsimp only [List.getElem?_cons_zero] at f0_n; have q_d := ld_cfg rt_cfg (K105.out.blk _ (.tail _ (.tail _ (.tail _ (.head _))))) cU17_ok; have f0_q := pc0 (K105.out.blk _ (.tail _ (.tail _ (.tail _ (.tail _ (.head _)))))); have f1_q := pc1 (K105.out.blk _ (.tail _ (.tail _ (.tail _ (.tail _ (.head _)))))); have f2_q := pc2 (K105.out.blk _ (.tail _ (.tail _ (.tail _ (.tail _ (.head _)))))); have f0_p := pc0 (K105.out.blk _ (.tail _ (.tail _ (.tail _ (.tail _ (.tail _ (.head _))))))); have f1_p := pc1 (K105.out.blk _ (.tail _ (.tail _ (.tail _ (.tail _ (.tail _ (.head _))))))); have f2_p := pc2 (K105.out.blk _ (.tail _ (.tail _ (.tail _ (.tail _ (.tail _ (.head _))))))); have q_c := ld_cfg rt_cfg (K105.out.blk _ (.tail _ (.tail _ (.tail _ (.tail _ (.tail _ (.tail _ (.tail _ (.head _))))))))) cU17_ok))
    have K106 := Lib.hid (K105.out.lit [1, 2, 3] #[.int .u8 1, .int .u8 2, .int .u8 3] rfl (w106.heap.size) (by simp))
    clear K105
    (try clear q_e)
    (try clear f0_e)
    (try clear f1_e)
    (try clear f2_e)
    (try clear q_n)
    (try clear f0_n)
    (try clear f1_n)
    (try clear f2_n)
    (try clear q_d)
    (try clear f0_d)
    (try clear f1_d)
    (try clear f2_d)
    (try clear q_q)
    (try clear f0_q)
    (try clear f1_q)
    (try clear f2_q)
    (try clear q_p)
    (try clear f0_p)
    (try clear f1_p)
    (try clear f2_p)
    (try clear q_c)
    (try clear f0_c)
    (try clear f1_c)
    (try clear f2_c)
    (try clear q_r)
    (try clear f0_r)
    (try clear f1_r)
    (try clear f2_r)
    skip
    refine (al_same _ _ _ _ _ _ [1, 2, 3] [1, 2, 3] _ (by exact (K106.out.own _ (.tail _ (.tail _ (.tail _ (.head _))))).rb) (by exact (K106.out.blk _ (.head _)).rb) (by exact Nat.le_trans (K106.out.own _ (.tail _ (.tail _ (.tail _ (.head _))))).cap.1 (K106.out.own _ (.tail _ (.tail _ (.tail _ (.head _))))).cap.2) (by unfold maxLen; decide) true (beq_self_eq_true _)).mono ?_
    rintro e w107 ⟨rfl, hb⟩
    have K107 := Lib.hid (K106.out.step hb)
    clear K106
    clear hb
    (try clear q_e)
    (try clear f0_e)
    (try clear f1_e)
    (try clear f2_e)
    (try clear q_n)
    (try clear f0_n)
    (try clear f1_n)
    (try clear f2_n)
    (try clear q_d)
    (try clear f0_d)
    (try clear f1_d)
    (try clear f2_d)
    (try clear q_q)
    (try clear f0_q)
    (try clear f1_q)
    (try clear f2_q)
    (try clear q_p)
    (try clear f0_p)
    (try clear f1_p)
    (try clear f2_p)
    (try clear q_c)
    (try clear f0_c)
    (try clear f1_c)
    (try clear f2_c)
    (try clear q_r)
    (try clear f0_r)
    (try clear f1_r)
    (try clear f2_r)
    skip
    go_wp2_with fail
    refine (stamp18_any s1 s1_ok p_t 1 _ (by exact (K107.out.blk _ (.tail _ (.tail _ (.head _)))))).mono ?_
    rw [al_11]
    rintro e w108 ⟨rfl, hb⟩
    have K108 := Lib.hid (K107.out.step hb)
    clear K107
    clear hb
    (try clear q_e)
    (try clear f0_e)
    (try clear f1_e)
    (try clear f2_e)
    (try clear q_n)
    (try clear f0_n)
    (try clear f1_n)
    (try clear f2_n)
    (try clear q_d)
    (try clear f0_d)
    (try clear f1_d)
    (try clear f2_d)
    (try clear q_q)
    (try clear f0_q)
    (try clear f1_q)
    (try clear f2_q)
    (try clear q_p)
    (try clear f0_p)
    (try clear f1_p)
    (try clear f2_p)
    (try clear q_c)
    (try clear f0_c)
    (try clear f1_c)
    (try clear f2_c)
    (try clear q_r)
    (try clear f0_r)
    (try clear f1_r)
    (try clear f2_r)
    skip
    go_wp2_with fail
    refine (stamp18_any s2 s2_ok p_s 1 _ (by exact (K108.out.blk _ (.tail _ (.tail _ (.tail _ (.tail _ (.tail _ (.tail _ (.tail _ (.tail _ (.tail _ (.head _))))))))))))).mono ?_
    rw [al_12]
    rintro e w109 ⟨rfl, hb⟩
    have K109 := Lib.hid (K108.out.step hb)
    clear K108
    clear hb
    (try clear q_e)
    (try clear f0_e)
    (try clear f1_e)
    (try clear f2_e)
    (try clear q_n)
    (try clear f0_n)
    (try clear f1_n)
    (try clear f2_n)
    (try clear q_d)
    (try clear f0_d)
    (try clear f1_d)
    (try clear f2_d)
    (try clear q_q)
    (try clear f0_q)
    (try clear f1_q)
    (try clear f2_q)
    (try clear q_p)
    (try clear f0_p)
    (try clear f1_p)
    (try clear f2_p)
    (try clear q_c)
    (try clear f0_c)
    (try clear f1_c)
    (try clear f2_c)
    (try clear q_r)
    (try clear f0_r)
    (try clear f1_r)
    (try clear f2_r)
    skip
    go_wp2_with (first | ((with_reducible show wpList _ _ _ (⟨none, .store _ (.tmp 0) _, _, _, _, _⟩ :: _) _ _); refine wpList_stC rw_bool.size rfl (.tmp 0) (.tmp 156) rfl p_r 0 rfl (.bool true) rfl rfl _ (by exact (K109.out.blk _ (.tail _ (.tail _ (.tail _ (.tail _ (.tail _ (.tail _ (.tail _ (.tail _ (.tail _ (.tail _ (.head _))))))))))))) (by exact Nat.zero_lt_one) ?_; intro yz hc2 ho2 hs2; have KZ := Lib.hid (K109.out.mut (T := 4) 10 rfl (by decide) HZr.out ho2 hc2 rfl); clear hc2 ho2 hs2))
    refine ⟨by simp, .inl ⟨_, _, rfl, run_takeDeferred KZ.out.df, ?_⟩⟩
    have KY := KZ.out.sg.turned (B := w.heap.size) (Nat.le_refl _) (grownBy_putObj' yz D (.deferred none)) (fun r e => by cases e; exact ⟨HD.out, _, KZ.out.df, rfl⟩)
    have hc5 := (KY.blk _ (.tail _ (.tail _ (.tail _ (.tail _ (.tail _ (.tail _ (.tail _ (.tail _ (.tail _ (.tail _ (.head _)))))))))))).cell 0
    dsimp only [List.getElem?_cons_zero] at hc5
    refine ⟨.bool true, ?_, rfl, KY.bel⟩
    simp [results, Tryz.f7, go_sem, hc5]
end Go.Proofs.YtkcchidklcnnnaaGreat
