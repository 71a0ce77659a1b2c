/- Layer 18: the reference's Show, Short. Condition: the slice's cells are readable; the slots' configurations have keys of sixteen bytes. -/
import Derived.Test.YtkcchidklcnnnaaGreatSlR
import Derived.Test.YtkcchidklcnnnaaGreatSlS
import Derived.Test.YtkcchidklcnnnaaGreatCdR
namespace Go.Proofs.YtkcchidklcnnnaaGreat
open Go.RowKit
set_option linter.unusedVariables false
set_option linter.unusedSimpArgs false
/-- Bytes stay where a block that holds no byte is stored into. -/
theorem RB.offN {T : TypeId} {w w' : World} {q n : Nat} {A : Option Addr} {l : List UInt8} {cs : List Value} (h : RB w w.heap.size A n l) (k : Blk T w q cs) (hn : ∀ v ∈ cs, ∀ u : UInt8, v ≠ bv u) (ho : Oth [q] w w') : RB w' w'.heap.size A n l :=
  h.oth ho (fun h0 g o e hm => by
    obtain ⟨g', o', e', _, u, _, hc⟩ := h.at_ (k := 0) h0
    rw [e] at e'
    injection e' with e'
    injection e' with e1 e2
    subst e1
    rw [List.mem_singleton.1 hm, k.cell] at hc
    exact hn _ (List.mem_of_getElem? hc) u rfl)
theorem zcel_nob : ∀ v ∈ zcel, ∀ u : UInt8, v ≠ bv u := fun v hv u => by
  simp only [zcel, pcel, List.mem_cons, List.not_mem_nil, or_false] at hv
  rcases hv with rfl | rfl | rfl
  · exact int_ne_bv _ u
  · exact slice_ne_bv _ _ _ u
  · exact slice_ne_bv _ _ _ u
theorem ret_putR {T : TypeId} {q : Nat} {r : Prt × Int} {w w6 w7 : World} {A B : Option Addr} {c d : Nat} (hq : w.heap.size ≤ q) (k : Blk T w6 q zcel) (ho : Oth [q] w6 w7) (hb : Below w.heap.size w w6) (h1 : RB w6 w6.heap.size A r.1.s.length r.1.s ∧ r.1.s.length ≤ c ∧ c ≤ maxLen) (h2 : RB w6 w6.heap.size B r.1.n.length r.1.n ∧ r.1.n.length ≤ d ∧ d ≤ maxLen) :
    RetPR r w (.returned (.tuple #[.agg (pcel r.1.p A r.1.s.length c B r.1.n.length d).toArray, .int .i64 r.2])) w7 :=
  ⟨A, c, B, d, rfl, ⟨h1.1.offN k zcel_nob ho, h1.2⟩, ⟨h2.1.offN k zcel_nob ho, h2.2⟩, hb.trans (ho.below (fun j hj => by rw [List.mem_singleton.1 hj]; exact hq) hb.size)⟩
attribute [local irreducible] Cfg.val Cfg.cells rtB Rt zK sizeC zeroC hcel zh pSl rSl aSl hasS ofS tmS tmN Sl.row Sl.tm inB pcel zcel codB showS shortS pntB prtC
attribute [local go_sem ↓] ex_ldR ex_stPr
set_option maxRecDepth 100000 in
set_option maxHeartbeats 600000 in
theorem rshow_m_end (s : Sl) (hs : s.ok) (x : Nat) (A : Option Addr) (n d : Nat) (l : List UInt8) (w : World) (h : Blk 33 w x (rSl s)) (hA : RB w w.heap.size A n l) (hd : n ≤ d) (h0 : n = 0) :
    Calls Tryz.prog 14 #[.pointer (some ⟨x, 0, none⟩), .slice A n d] w (RetPR (showS s l) w) := by
  have HS := Lib.hid hs
  have HA := Lib.hid hA
  have HDD := Lib.hid hd
  have K0 := Lib.hid ((VK.start [] w).hold h (by simp))
  have e0 : ((n : Int) == 0) = true := by rw [h0]; rfl
  have HE := Lib.hid (show_end (s := s) (l := l) (by rw [hA.len]; exact h0))
  clear h hA hs hd h0
  go_enter Tryz.func14, Tryz.ntmps14
  go_wp2_with (first | (with_reducible show wpList _ _ _ (⟨some 4, .alloc _, _, _, _, _⟩ :: _) _ _; refine wpList_newB rt_rprt rfl rfl ?_; intro w1 q hc1 hb1 hx1; have K1 := Lib.hid (K0.out.new hb1 hx1 hc1); have HQ := Lib.hid (Nat.le_trans K0.out.oth.size hx1); clear hc1 hb1 hx1) | (refine wpList_stB rt_rprt rfl (.tmp 4) (.tmp 10) rfl q 0 rfl zcel zcel zcel_lit zcel_one rfl (by exact K1.out.b0) (by rw [zcel_len]; decide) ?_; intro w2 hc2 ho2 hs2; have K2 := Lib.hid (K1.out.put 0 rfl (.inr HQ.out) ho2 (by rwa [puts_whole _ _ rfl] at hc2) rfl); clear hc2 ho2 hs2))
  rw [HE.out]
  refine bodyPost_ret (res_rec2 rt_rprt rfl _ _ q zcel (.int .i64 12) rfl rfl K2.out.b0 rfl) rfl (RetPE.rd (ret_zero _ K2.out.bel))
set_option maxRecDepth 100000 in
set_option maxHeartbeats 600000 in
theorem rshow_m_none (s : Sl) (hs : s.ok) (x : Nat) (A : Option Addr) (n d : Nat) (l : List UInt8) (w : World) (h : Blk 33 w x (rSl s)) (hA : RB w w.heap.size A n l) (hd : n ≤ d) (h0 : 0 < n) (hh : hasS s (pntB (l.getD 0 0)) = false) :
    Calls Tryz.prog 14 #[.pointer (some ⟨x, 0, none⟩), .slice A n d] w (RetPR (showS s l) w) := by
  have HS := Lib.hid hs
  have HA := Lib.hid hA
  have HDD := Lib.hid hd
  have K0 := Lib.hid ((VK.start [] w).hold h (by simp))
  have HE := Lib.hid (show_none (s := s) (l := l) (by rw [hA.len]; omega) hh)
  obtain ⟨g, o, rfl⟩ := hA.some_ (by omega)
  have e0 : ((n : Int) == 0) = false := by rw [beq_eq_false_iff_ne]; omega
  have hn0 : 0 < n := by omega
  obtain ⟨y, hy⟩ : ∃ y, l.getD 0 0 = y := ⟨_, rfl⟩
  have HY := Lib.hid hy
  rw [hy] at hh
  have hcl := first_cell hA (by omega)
  rw [hy] at hcl
  have HCL := Lib.hid hcl
  have HH := Lib.hid hh
  clear h hA hs hd h0 hh hy hcl
  go_enter Tryz.func14, Tryz.ntmps14
  go_wp2_with (first | (with_reducible show wpList _ _ _ (⟨some 4, .alloc _, _, _, _, _⟩ :: _) _ _; refine wpList_newB rt_rprt rfl rfl ?_; intro w1 q hc1 hb1 hx1; have K1 := Lib.hid (K0.out.new hb1 hx1 hc1); have HQ := Lib.hid (Nat.le_trans K0.out.oth.size hx1); clear hc1 hb1 hx1; have clk := (K1.out.bel.cell (p := ⟨g, o, none⟩) (World.block_lt_of_cell? w _ HCL.out)).trans HCL.out))
  have HP := rcpoint_any y (w := w1)
  refine HP.mono ?_
  clear HP
  rintro e w2 ⟨rfl, rfl⟩
  clear clk
  go_wp2_with fail
  refine (rhas_any s HS.out x (pntB y) false HH.out _ K1.out.b1).mono ?_
  rintro e w3 ⟨rfl, rfl⟩
  go_wp2_with (first | (refine wpList_stB rt_rprt rfl (.tmp 4) (.tmp 19) rfl q 0 rfl zcel zcel zcel_lit zcel_one rfl (by exact K1.out.b0) (by rw [zcel_len]; decide) ?_; intro w7 hc2 ho2 hs2; have K6 := Lib.hid (K1.out.put 0 rfl (.inr HQ.out) ho2 (by rwa [puts_whole _ _ rfl] at hc2) rfl); clear hc2 ho2 hs2))
  rw [HE.out]
  refine bodyPost_ret (res_rec2 rt_rprt rfl _ _ q zcel (.int .i64 17) rfl rfl K6.out.b0 rfl) rfl (RetPE.rd (ret_zero _ K6.out.bel))
set_option maxRecDepth 100000 in
set_option maxHeartbeats 600000 in
theorem rshow_m_ok0 (s : Sl) (hs : s.ok) (x : Nat) (A : Option Addr) (n d : Nat) (l : List UInt8) (w : World) (h : Blk 33 w x (rSl s)) (hA : RB w w.heap.size A n l) (hd : n ≤ d) (h0 : 0 < n) (hh : hasS s (pntB (l.getD 0 0)) = true) (hp : pntB (l.getD 0 0) = 0) :
    Calls Tryz.prog 14 #[.pointer (some ⟨x, 0, none⟩), .slice A n d] w (RetPR (showS s l) w) := by
  have HS := Lib.hid hs
  have HA := Lib.hid hA
  have HDD := Lib.hid hd
  have K0 := Lib.hid ((VK.start [] w).hold h (by simp))
  have hE := show_ok (s := s) (l := l) (by rw [hA.len]; omega) hh
  obtain ⟨g, o, rfl⟩ := hA.some_ (by omega)
  have e0 : ((n : Int) == 0) = false := by rw [beq_eq_false_iff_ne]; omega
  have hn0 : 0 < n := by omega
  obtain ⟨y, hy⟩ : ∃ y, l.getD 0 0 = y := ⟨_, rfl⟩
  have HY := Lib.hid hy
  rw [hy] at hh
  have hcl := first_cell hA (by omega)
  rw [hy] at hcl
  have HCL := Lib.hid hcl
  rw [hy] at hp
  have hhk : hasS s 0 = true := by rw [← hp]; exact hh
  have HH := Lib.hid hhk
  have HP0 := Lib.hid hp
  obtain ⟨r, hr⟩ : ∃ r, codB (s.row 0) l = r := ⟨_, rfl⟩
  rw [hy, hp, show Int.toNat 0 = 0 from rfl, hr] at hE
  have HE := Lib.hid hE
  have HRR := Lib.hid hr
  clear hE hr hhk hp
  clear h hA hs hd h0 hh hy hcl
  go_enter Tryz.func14, Tryz.ntmps14
  go_wp2_with (first | (with_reducible show wpList _ _ _ (⟨some 4, .alloc _, _, _, _, _⟩ :: _) _ _; refine wpList_newB rt_rprt rfl rfl ?_; intro w1 q hc1 hb1 hx1; have K1 := Lib.hid (K0.out.new hb1 hx1 hc1); have HQ := Lib.hid (Nat.le_trans K0.out.oth.size hx1); clear hc1 hb1 hx1; have clk := (K1.out.bel.cell (p := ⟨g, o, none⟩) (World.block_lt_of_cell? w _ HCL.out)).trans HCL.out))
  have HP := rcpoint_any y (w := w1)
  rw [HP0.out] at HP
  refine HP.mono ?_
  clear HP
  rintro e w2 ⟨rfl, rfl⟩
  clear clk
  go_wp2_with fail
  refine (rhas_any s HS.out x 0 true HH.out _ K1.out.b1).mono ?_
  rintro e w3 ⟨rfl, rfl⟩
  have lr := ld_r0 HS.out K1.out.b1
  go_wp2_with fail
  refine (rcback_any (s.row 0) (HS.out.g _) _ n d l _ (by exact HA.out.step K1.out.bel) HDD.out).mono ?_
  rw [HRR.out]
  rintro e w7 ⟨As, cs, At, ct, rfl, ho1, ho2, hb⟩
  have K7 := Lib.hid (And.intro (K1.out.step hb) (And.intro ho1 ho2))
  clear ho1 ho2 hb lr
  go_wp2_with (first | (refine wpList_stB rt_rprt rfl (.tmp 4) (.tmp 28) rfl q 0 rfl zcel (pcel r.1.p As r.1.s.length cs At r.1.n.length ct) rfl pcel_one pcel_len (by exact K7.out.1.b0) (by rw [zcel_len]; decide) ?_; intro w8 hc2 ho2 hs2; have K8 := Lib.hid (And.intro (by rwa [puts_whole _ _ pcel_len] at hc2) ho2 : Blk 47 w8 q (pcel r.1.p As r.1.s.length cs At r.1.n.length ct) ∧ Oth [q] _ w8); clear hc2 ho2 hs2))
  rw [HE.out]
  refine bodyPost_ret (res_rec2 rt_rprt rfl _ _ q (pcel r.1.p As r.1.s.length cs At r.1.n.length ct) (.int .i64 r.2) rfl rfl K8.out.1 pcel_len) rfl ?_
  exact ret_putR HQ.out K7.out.1.b0 K8.out.2 K7.out.1.bel K7.out.2.1 K7.out.2.2
set_option maxRecDepth 100000 in
set_option maxHeartbeats 600000 in
theorem rshow_m_ok1 (s : Sl) (hs : s.ok) (x : Nat) (A : Option Addr) (n d : Nat) (l : List UInt8) (w : World) (h : Blk 33 w x (rSl s)) (hA : RB w w.heap.size A n l) (hd : n ≤ d) (h0 : 0 < n) (hh : hasS s (pntB (l.getD 0 0)) = true) (hp : pntB (l.getD 0 0) = 1) :
    Calls Tryz.prog 14 #[.pointer (some ⟨x, 0, none⟩), .slice A n d] w (RetPR (showS s l) w) := by
  have HS := Lib.hid hs
  have HA := Lib.hid hA
  have HDD := Lib.hid hd
  have K0 := Lib.hid ((VK.start [] w).hold h (by simp))
  have hE := show_ok (s := s) (l := l) (by rw [hA.len]; omega) hh
  obtain ⟨g, o, rfl⟩ := hA.some_ (by omega)
  have e0 : ((n : Int) == 0) = false := by rw [beq_eq_false_iff_ne]; omega
  have hn0 : 0 < n := by omega
  obtain ⟨y, hy⟩ : ∃ y, l.getD 0 0 = y := ⟨_, rfl⟩
  have HY := Lib.hid hy
  rw [hy] at hh
  have hcl := first_cell hA (by omega)
  rw [hy] at hcl
  have HCL := Lib.hid hcl
  rw [hy] at hp
  have hhk : hasS s 1 = true := by rw [← hp]; exact hh
  have HH := Lib.hid hhk
  have HP0 := Lib.hid hp
  obtain ⟨r, hr⟩ : ∃ r, codB (s.row 1) l = r := ⟨_, rfl⟩
  rw [hy, hp, show Int.toNat 1 = 1 from rfl, hr] at hE
  have HE := Lib.hid hE
  have HRR := Lib.hid hr
  clear hE hr hhk hp
  clear h hA hs hd h0 hh hy hcl
  go_enter Tryz.func14, Tryz.ntmps14
  go_wp2_with (first | (with_reducible show wpList _ _ _ (⟨some 4, .alloc _, _, _, _, _⟩ :: _) _ _; refine wpList_newB rt_rprt rfl rfl ?_; intro w1 q hc1 hb1 hx1; have K1 := Lib.hid (K0.out.new hb1 hx1 hc1); have HQ := Lib.hid (Nat.le_trans K0.out.oth.size hx1); clear hc1 hb1 hx1; have clk := (K1.out.bel.cell (p := ⟨g, o, none⟩) (World.block_lt_of_cell? w _ HCL.out)).trans HCL.out))
  have HP := rcpoint_any y (w := w1)
  rw [HP0.out] at HP
  refine HP.mono ?_
  clear HP
  rintro e w2 ⟨rfl, rfl⟩
  clear clk
  go_wp2_with fail
  refine (rhas_any s HS.out x 1 true HH.out _ K1.out.b1).mono ?_
  rintro e w3 ⟨rfl, rfl⟩
  have lr := ld_r1 HS.out K1.out.b1
  go_wp2_with fail
  refine (rcback_any (s.row 1) (HS.out.g _) _ n d l _ (by exact HA.out.step K1.out.bel) HDD.out).mono ?_
  rw [HRR.out]
  rintro e w7 ⟨As, cs, At, ct, rfl, ho1, ho2, hb⟩
  have K7 := Lib.hid (And.intro (K1.out.step hb) (And.intro ho1 ho2))
  clear ho1 ho2 hb lr
  go_wp2_with (first | (refine wpList_stB rt_rprt rfl (.tmp 4) (.tmp 28) rfl q 0 rfl zcel (pcel r.1.p As r.1.s.length cs At r.1.n.length ct) rfl pcel_one pcel_len (by exact K7.out.1.b0) (by rw [zcel_len]; decide) ?_; intro w8 hc2 ho2 hs2; have K8 := Lib.hid (And.intro (by rwa [puts_whole _ _ pcel_len] at hc2) ho2 : Blk 47 w8 q (pcel r.1.p As r.1.s.length cs At r.1.n.length ct) ∧ Oth [q] _ w8); clear hc2 ho2 hs2))
  rw [HE.out]
  refine bodyPost_ret (res_rec2 rt_rprt rfl _ _ q (pcel r.1.p As r.1.s.length cs At r.1.n.length ct) (.int .i64 r.2) rfl rfl K8.out.1 pcel_len) rfl ?_
  exact ret_putR HQ.out K7.out.1.b0 K8.out.2 K7.out.1.bel K7.out.2.1 K7.out.2.2
set_option maxRecDepth 100000 in
set_option maxHeartbeats 600000 in
theorem rshow_m_ok2 (s : Sl) (hs : s.ok) (x : Nat) (A : Option Addr) (n d : Nat) (l : List UInt8) (w : World) (h : Blk 33 w x (rSl s)) (hA : RB w w.heap.size A n l) (hd : n ≤ d) (h0 : 0 < n) (hh : hasS s (pntB (l.getD 0 0)) = true) (hp : pntB (l.getD 0 0) = 2) :
    Calls Tryz.prog 14 #[.pointer (some ⟨x, 0, none⟩), .slice A n d] w (RetPR (showS s l) w) := by
  have HS := Lib.hid hs
  have HA := Lib.hid hA
  have HDD := Lib.hid hd
  have K0 := Lib.hid ((VK.start [] w).hold h (by simp))
  have hE := show_ok (s := s) (l := l) (by rw [hA.len]; omega) hh
  obtain ⟨g, o, rfl⟩ := hA.some_ (by omega)
  have e0 : ((n : Int) == 0) = false := by rw [beq_eq_false_iff_ne]; omega
  have hn0 : 0 < n := by omega
  obtain ⟨y, hy⟩ : ∃ y, l.getD 0 0 = y := ⟨_, rfl⟩
  have HY := Lib.hid hy
  rw [hy] at hh
  have hcl := first_cell hA (by omega)
  rw [hy] at hcl
  have HCL := Lib.hid hcl
  rw [hy] at hp
  have hhk : hasS s 2 = true := by rw [← hp]; exact hh
  have HH := Lib.hid hhk
  have HP0 := Lib.hid hp
  obtain ⟨r, hr⟩ : ∃ r, codB (s.row 2) l = r := ⟨_, rfl⟩
  rw [hy, hp, show Int.toNat 2 = 2 from rfl, hr] at hE
  have HE := Lib.hid hE
  have HRR := Lib.hid hr
  clear hE hr hhk hp
  clear h hA hs hd h0 hh hy hcl
  go_enter Tryz.func14, Tryz.ntmps14
  go_wp2_with (first | (with_reducible show wpList _ _ _ (⟨some 4, .alloc _, _, _, _, _⟩ :: _) _ _; refine wpList_newB rt_rprt rfl rfl ?_; intro w1 q hc1 hb1 hx1; have K1 := Lib.hid (K0.out.new hb1 hx1 hc1); have HQ := Lib.hid (Nat.le_trans K0.out.oth.size hx1); clear hc1 hb1 hx1; have clk := (K1.out.bel.cell (p := ⟨g, o, none⟩) (World.block_lt_of_cell? w _ HCL.out)).trans HCL.out))
  have HP := rcpoint_any y (w := w1)
  rw [HP0.out] at HP
  refine HP.mono ?_
  clear HP
  rintro e w2 ⟨rfl, rfl⟩
  clear clk
  go_wp2_with fail
  refine (rhas_any s HS.out x 2 true HH.out _ K1.out.b1).mono ?_
  rintro e w3 ⟨rfl, rfl⟩
  have lr := ld_r2 HS.out K1.out.b1
  go_wp2_with fail
  refine (rcback_any (s.row 2) (HS.out.g _) _ n d l _ (by exact HA.out.step K1.out.bel) HDD.out).mono ?_
  rw [HRR.out]
  rintro e w7 ⟨As, cs, At, ct, rfl, ho1, ho2, hb⟩
  have K7 := Lib.hid (And.intro (K1.out.step hb) (And.intro ho1 ho2))
  clear ho1 ho2 hb lr
  go_wp2_with (first | (refine wpList_stB rt_rprt rfl (.tmp 4) (.tmp 28) rfl q 0 rfl zcel (pcel r.1.p As r.1.s.length cs At r.1.n.length ct) rfl pcel_one pcel_len (by exact K7.out.1.b0) (by rw [zcel_len]; decide) ?_; intro w8 hc2 ho2 hs2; have K8 := Lib.hid (And.intro (by rwa [puts_whole _ _ pcel_len] at hc2) ho2 : Blk 47 w8 q (pcel r.1.p As r.1.s.length cs At r.1.n.length ct) ∧ Oth [q] _ w8); clear hc2 ho2 hs2))
  rw [HE.out]
  refine bodyPost_ret (res_rec2 rt_rprt rfl _ _ q (pcel r.1.p As r.1.s.length cs At r.1.n.length ct) (.int .i64 r.2) rfl rfl K8.out.1 pcel_len) rfl ?_
  exact ret_putR HQ.out K7.out.1.b0 K8.out.2 K7.out.1.bel K7.out.2.1 K7.out.2.2
theorem rshow18_any (s : Sl) (hs : s.ok) (x : Nat) (A : Option Addr) (n d : Nat) (l : List UInt8) (w : World) (h : Blk 33 w x (rSl s)) (hA : RB w w.heap.size A n l) (hd : n ≤ d) :
    Calls Tryz.prog 14 #[.pointer (some ⟨x, 0, none⟩), .slice A n d] w (RetPR (showS s l) w) := by
  by_cases h0 : n = 0
  · exact rshow_m_end s hs x A n d l w h hA hd h0
  cases hh : hasS s (pntB (l.getD 0 0))
  · exact rshow_m_none s hs x A n d l w h hA hd (by omega) hh
  have hi : inB (pntB (l.getD 0 0)) = true := by
    cases hi : inB (pntB (l.getD 0 0))
    · rw [in_no hi] at hh; cases hh
    · rfl
  rcases in_cases hi with e | e | e
  · exact rshow_m_ok0 s hs x A n d l w h hA hd (by omega) hh e
  · exact rshow_m_ok1 s hs x A n d l w h hA hd (by omega) hh e
  · exact rshow_m_ok2 s hs x A n d l w h hA hd (by omega) hh e
set_option maxRecDepth 100000 in
set_option maxHeartbeats 600000 in
theorem rshort_m_end (s : Sl) (hs : s.ok) (x : Nat) (A : Option Addr) (n d : Nat) (l : List UInt8) (w : World) (h : Blk 33 w x (rSl s)) (hA : RB w w.heap.size A n l) (hd : n ≤ d) (hm : n ≤ 1000000) (h0 : n < 2) :
    Calls Tryz.prog 16 #[.pointer (some ⟨x, 0, none⟩), .slice A n d] w (RetPR (shortS s l) w) := by
  have HS := Lib.hid hs
  have HA := Lib.hid hA
  have HDD := Lib.hid hd
  have K0 := Lib.hid ((VK.start [] w).hold h (by simp))
  have e0 : decide ((n : Int) < 2) = true := decide_eq_true (by omega)
  have HE := Lib.hid (short_end (s := s) (l := l) (by rw [hA.len]; exact h0))
  clear h hA hs hd h0 hm
  go_enter Tryz.func16, Tryz.ntmps16
  go_wp2_with (first | (with_reducible show wpList _ _ _ (⟨some 4, .alloc _, _, _, _, _⟩ :: _) _ _; refine wpList_newB rt_rprt rfl rfl ?_; intro w1 q hc1 hb1 hx1; have K1 := Lib.hid (K0.out.new hb1 hx1 hc1); have HQ := Lib.hid (Nat.le_trans K0.out.oth.size hx1); clear hc1 hb1 hx1) | (refine wpList_stB rt_rprt rfl (.tmp 4) (.tmp 11) rfl q 0 rfl zcel zcel zcel_lit zcel_one rfl (by exact K1.out.b0) (by rw [zcel_len]; decide) ?_; intro w2 hc2 ho2 hs2; have K2 := Lib.hid (K1.out.put 0 rfl (.inr HQ.out) ho2 (by rwa [puts_whole _ _ rfl] at hc2) rfl); clear hc2 ho2 hs2))
  rw [HE.out]
  refine bodyPost_ret (res_rec2 rt_rprt rfl _ _ q zcel (.int .i64 12) rfl rfl K2.out.b0 rfl) rfl (RetPE.rd (ret_zero _ K2.out.bel))
set_option maxRecDepth 100000 in
set_option maxHeartbeats 600000 in
theorem rshort_m_none (s : Sl) (hs : s.ok) (x : Nat) (A : Option Addr) (n d : Nat) (l : List UInt8) (w : World) (h : Blk 33 w x (rSl s)) (hA : RB w w.heap.size A n l) (hd : n ≤ d) (hm : n ≤ 1000000) (h0 : 2 ≤ n) (hh : hasS s (pntB (l.getD 1 0)) = false) :
    Calls Tryz.prog 16 #[.pointer (some ⟨x, 0, none⟩), .slice A n d] w (RetPR (shortS s l) w) := by
  have HS := Lib.hid hs
  have HA := Lib.hid hA
  have HDD := Lib.hid hd
  have K0 := Lib.hid ((VK.start [] w).hold h (by simp))
  have HE := Lib.hid (short_none (s := s) (l := l) (by rw [hA.len]; omega) hh)
  obtain ⟨g, o, rfl⟩ := hA.some_ (by omega)
  have e0 : decide ((n : Int) < 2) = false := decide_eq_false (by omega)
  have hn1 : 1 < n := by omega
  have hnb : n ≤ 1000000 := hm
  obtain ⟨y, hy⟩ : ∃ y, l.getD 1 0 = y := ⟨_, rfl⟩
  have HY := Lib.hid hy
  rw [hy] at hh
  have hcl := first_cell (rb_rest hA (n1 := n - 1) rfl (by omega)) (by omega)
  rw [show (l.drop 1).getD 0 0 = l.getD 1 0 by simp [List.getD_eq_getElem?_getD], hy] at hcl
  have HCL := Lib.hid hcl
  have HH := Lib.hid hh
  clear h hA hs hd h0 hh hy hcl hm
  go_enter Tryz.func16, Tryz.ntmps16
  go_wp2_with (first | (with_reducible show wpList _ _ _ (⟨some 4, .alloc _, _, _, _, _⟩ :: _) _ _; refine wpList_newB rt_rprt rfl rfl ?_; intro w1 q hc1 hb1 hx1; have K1 := Lib.hid (K0.out.new hb1 hx1 hc1); have HQ := Lib.hid (Nat.le_trans K0.out.oth.size hx1); clear hc1 hb1 hx1; have clk := (K1.out.bel.cell (p := ⟨g, o + 1, none⟩) (World.block_lt_of_cell? w _ HCL.out)).trans HCL.out))
  have HP := rcpoint_any y (w := w1)
  refine HP.mono ?_
  clear HP
  rintro e w2 ⟨rfl, rfl⟩
  clear clk
  go_wp2_with fail
  refine (rhas_any s HS.out x (pntB y) false HH.out _ K1.out.b1).mono ?_
  rintro e w3 ⟨rfl, rfl⟩
  go_wp2_with (first | (refine wpList_stB rt_rprt rfl (.tmp 4) (.tmp 20) rfl q 0 rfl zcel zcel zcel_lit zcel_one rfl (by exact K1.out.b0) (by rw [zcel_len]; decide) ?_; intro w7 hc2 ho2 hs2; have K6 := Lib.hid (K1.out.put 0 rfl (.inr HQ.out) ho2 (by rwa [puts_whole _ _ rfl] at hc2) rfl); clear hc2 ho2 hs2))
  rw [HE.out]
  refine bodyPost_ret (res_rec2 rt_rprt rfl _ _ q zcel (.int .i64 17) rfl rfl K6.out.b0 rfl) rfl (RetPE.rd (ret_zero _ K6.out.bel))
set_option maxRecDepth 100000 in
set_option maxHeartbeats 600000 in
theorem rshort_m_few0 (s : Sl) (hs : s.ok) (x : Nat) (A : Option Addr) (n d : Nat) (l : List UInt8) (w : World) (h : Blk 33 w x (rSl s)) (hA : RB w w.heap.size A n l) (hd : n ≤ d) (hm : n ≤ 1000000) (h0 : 2 ≤ n) (hh : hasS s (pntB (l.getD 1 0)) = true) (hp : pntB (l.getD 1 0) = 0) (hf : (n : Int) - 1 < sizeC (s.row (pntB (l.getD 1 0)).toNat)) :
    Calls Tryz.prog 16 #[.pointer (some ⟨x, 0, none⟩), .slice A n d] w (RetPR (shortS s l) w) := by
  have HS := Lib.hid hs
  have HA := Lib.hid hA
  have HDD := Lib.hid hd
  have K0 := Lib.hid ((VK.start [] w).hold h (by simp))
  have HE := Lib.hid (short_few (s := s) (l := l) (by rw [hA.len]; omega) hh (by rw [hA.len]; exact hf))
  obtain ⟨g, o, rfl⟩ := hA.some_ (by omega)
  have e0 : decide ((n : Int) < 2) = false := decide_eq_false (by omega)
  have hn1 : 1 < n := by omega
  have hnb : n ≤ 1000000 := hm
  obtain ⟨y, hy⟩ : ∃ y, l.getD 1 0 = y := ⟨_, rfl⟩
  have HY := Lib.hid hy
  rw [hy] at hh
  have hcl := first_cell (rb_rest hA (n1 := n - 1) rfl (by omega)) (by omega)
  rw [show (l.drop 1).getD 0 0 = l.getD 1 0 by simp [List.getD_eq_getElem?_getD], hy] at hcl
  have HCL := Lib.hid hcl
  rw [hy] at hp
  have hhk : hasS s 0 = true := by rw [← hp]; exact hh
  have HH := Lib.hid hhk
  have HP0 := Lib.hid hp
  have hz := has_size hs hhk
  rw [show Int.toNat 0 = 0 from rfl] at hz
  obtain ⟨z, hz1⟩ : ∃ z : Nat, sizeC (s.row 0) = (z : Int) := ⟨(sizeC (s.row 0)).toNat, by omega⟩
  have hzz : 6 ≤ z ∧ z ≤ 20 := by omega
  have HZ := Lib.hid hz1
  rw [hy, hp, show Int.toNat 0 = 0 from rfl, hz1] at hf
  have d9 : decide ((n : Int) - 1 < (z : Int)) = true := decide_eq_true hf
  clear h hA hs hd h0 hh hy hcl hm
  clear hz hz1 hhk hp hf
  go_enter Tryz.func16, Tryz.ntmps16
  go_wp2_with (first | (with_reducible show wpList _ _ _ (⟨some 4, .alloc _, _, _, _, _⟩ :: _) _ _; refine wpList_newB rt_rprt rfl rfl ?_; intro w1 q hc1 hb1 hx1; have K1 := Lib.hid (K0.out.new hb1 hx1 hc1); have HQ := Lib.hid (Nat.le_trans K0.out.oth.size hx1); clear hc1 hb1 hx1; have clk := (K1.out.bel.cell (p := ⟨g, o + 1, none⟩) (World.block_lt_of_cell? w _ HCL.out)).trans HCL.out))
  have HP := rcpoint_any y (w := w1)
  rw [HP0.out] at HP
  refine HP.mono ?_
  clear HP
  rintro e w2 ⟨rfl, rfl⟩
  clear clk
  go_wp2_with fail
  refine (rhas_any s HS.out x 0 true HH.out _ K1.out.b1).mono ?_
  rintro e w3 ⟨rfl, rfl⟩
  have lr := ld_r0 HS.out K1.out.b1
  go_wp2_with fail
  refine (rmsize_any (s.row 0) (HS.out.g _) (z : Int) HZ.out _).mono ?_
  rintro e w7 ⟨rfl, hb⟩
  have K6 := Lib.hid (K1.out.step hb)
  clear hb lr
  go_wp2_with (first | (refine wpList_stB rt_rprt rfl (.tmp 4) (.tmp 33) rfl q 0 rfl zcel zcel zcel_lit zcel_one rfl (by exact K6.out.b0) (by rw [zcel_len]; decide) ?_; intro w8 hc2 ho2 hs2; have K7 := Lib.hid (K6.out.put 0 rfl (.inr HQ.out) ho2 (by rwa [puts_whole _ _ rfl] at hc2) rfl); clear hc2 ho2 hs2))
  rw [HE.out]
  refine bodyPost_ret (res_rec2 rt_rprt rfl _ _ q zcel (.int .i64 12) rfl rfl K7.out.b0 rfl) rfl (RetPE.rd (ret_zero _ K7.out.bel))
set_option maxRecDepth 100000 in
set_option maxHeartbeats 600000 in
theorem rshort_m_ok0 (s : Sl) (hs : s.ok) (x : Nat) (A : Option Addr) (n d : Nat) (l : List UInt8) (w : World) (h : Blk 33 w x (rSl s)) (hA : RB w w.heap.size A n l) (hd : n ≤ d) (hm : n ≤ 1000000) (h0 : 2 ≤ n) (hh : hasS s (pntB (l.getD 1 0)) = true) (hp : pntB (l.getD 1 0) = 0) (hf : ¬ (n : Int) - 1 < sizeC (s.row (pntB (l.getD 1 0)).toNat)) :
    Calls Tryz.prog 16 #[.pointer (some ⟨x, 0, none⟩), .slice A n d] w (RetPR (shortS s l) w) := by
  have HS := Lib.hid hs
  have HA := Lib.hid hA
  have HDD := Lib.hid hd
  have K0 := Lib.hid ((VK.start [] w).hold h (by simp))
  have hE := short_ok (s := s) (l := l) (by rw [hA.len]; omega) hh (by rw [hA.len]; exact hf)
  obtain ⟨g, o, rfl⟩ := hA.some_ (by omega)
  have e0 : decide ((n : Int) < 2) = false := decide_eq_false (by omega)
  have hn1 : 1 < n := by omega
  have hnb : n ≤ 1000000 := hm
  obtain ⟨y, hy⟩ : ∃ y, l.getD 1 0 = y := ⟨_, rfl⟩
  have HY := Lib.hid hy
  rw [hy] at hh
  have hcl := first_cell (rb_rest hA (n1 := n - 1) rfl (by omega)) (by omega)
  rw [show (l.drop 1).getD 0 0 = l.getD 1 0 by simp [List.getD_eq_getElem?_getD], hy] at hcl
  have HCL := Lib.hid hcl
  rw [hy] at hp
  have hhk : hasS s 0 = true := by rw [← hp]; exact hh
  have HH := Lib.hid hhk
  have HP0 := Lib.hid hp
  have hz := has_size hs hhk
  rw [show Int.toNat 0 = 0 from rfl] at hz
  obtain ⟨z, hz1⟩ : ∃ z : Nat, sizeC (s.row 0) = (z : Int) := ⟨(sizeC (s.row 0)).toNat, by omega⟩
  have hzz : 6 ≤ z ∧ z ≤ 20 := by omega
  have HZ := Lib.hid hz1
  rw [hy, hp, show Int.toNat 0 = 0 from rfl, hz1] at hf
  rw [hy, hp, show Int.toNat 0 = 0 from rfl, hz1, Int.toNat_natCast] at hE
  obtain ⟨r, hr⟩ : ∃ r, showS s ((l.drop 1).take z) = r := ⟨_, rfl⟩
  rw [hr] at hE
  have HE := Lib.hid hE
  have HRR := Lib.hid hr
  clear hE hr
  have d9 : decide ((n : Int) - 1 < (z : Int)) = false := decide_eq_false hf
  obtain ⟨z1, hz2⟩ : ∃ z1, z1 = z + 1 := ⟨_, rfl⟩
  have hzi : (z : Int) + 1 = (z1 : Int) := by omega
  obtain ⟨Az, hAz⟩ : ∃ Az, cutA (some ⟨g, o, none⟩) d 1 = Az := ⟨_, rfl⟩
  obtain ⟨d1, hd1⟩ : ∃ d1, d1 = d - 1 := ⟨_, rfl⟩
  have hcz : ∀ W : World, (Instr.slice 40 (.slice (some ⟨g, o, none⟩) n d) (some (.int .i64 1)) (some (.int .i64 (z1 : Int))) none).run Tryz.prog W = .ok (.slice Az z d1) W := by
    have hcy := cut_lh (some ⟨g, o, none⟩) n d 1 z1 (by omega) (by omega)
    rw [hAz, ← hd1, show z1 - 1 = z by omega] at hcy
    exact hcy
  have HAZ : Hid (RB w w.heap.size Az z ((l.drop 1).take z)) := Lib.hid (by
    have := hA.part (i := 1) (j := z1) (c := d) (by omega) (by omega) hd
    rw [hAz, show z1 - 1 = z by omega, List.drop_take, show z1 - 1 = z by omega] at this
    exact this)
  have HZD : Hid (z ≤ d1) := Lib.hid (by omega)
  clear h hA hs hd h0 hh hy hcl hm
  clear hz hz1 hhk hp hf hz2 hAz hd1
  go_enter Tryz.func16, Tryz.ntmps16
  go_wp2_with (first | (with_reducible show wpList _ _ _ (⟨some 4, .alloc _, _, _, _, _⟩ :: _) _ _; refine wpList_newB rt_rprt rfl rfl ?_; intro w1 q hc1 hb1 hx1; have K1 := Lib.hid (K0.out.new hb1 hx1 hc1); have HQ := Lib.hid (Nat.le_trans K0.out.oth.size hx1); clear hc1 hb1 hx1; have clk := (K1.out.bel.cell (p := ⟨g, o + 1, none⟩) (World.block_lt_of_cell? w _ HCL.out)).trans HCL.out))
  have HP := rcpoint_any y (w := w1)
  rw [HP0.out] at HP
  refine HP.mono ?_
  clear HP
  rintro e w2 ⟨rfl, rfl⟩
  clear clk
  go_wp2_with fail
  refine (rhas_any s HS.out x 0 true HH.out _ K1.out.b1).mono ?_
  rintro e w3 ⟨rfl, rfl⟩
  have lr := ld_r0 HS.out K1.out.b1
  go_wp2_with fail
  refine (rmsize_any (s.row 0) (HS.out.g _) (z : Int) HZ.out _).mono ?_
  rintro e w7 ⟨rfl, hb⟩
  have K6 := Lib.hid (K1.out.step hb)
  clear hb lr
  go_wp2_with fail
  refine (rshow18_any s HS.out x Az z d1 ((l.drop 1).take z) _ K6.out.b1 (by exact HAZ.out.step K6.out.bel) HZD.out).mono ?_
  rw [HRR.out]
  rintro e w9 ⟨As, cs, At, ct, rfl, ho1, ho2, hb⟩
  have K7 := Lib.hid (And.intro (K6.out.step hb) (And.intro ho1 ho2))
  clear ho1 ho2 hb
  go_wp2_with (first | (refine wpList_stB rt_rprt rfl (.tmp 4) (.tmp 40) rfl q 0 rfl zcel (pcel r.1.p As r.1.s.length cs At r.1.n.length ct) rfl pcel_one pcel_len (by exact K7.out.1.b0) (by rw [zcel_len]; decide) ?_; intro w8 hc2 ho2 hs2; have K8 := Lib.hid (And.intro (by rwa [puts_whole _ _ pcel_len] at hc2) ho2 : Blk 47 w8 q (pcel r.1.p As r.1.s.length cs At r.1.n.length ct) ∧ Oth [q] _ w8); clear hc2 ho2 hs2))
  rw [HE.out]
  refine bodyPost_ret (res_rec2 rt_rprt rfl _ _ q (pcel r.1.p As r.1.s.length cs At r.1.n.length ct) (.int .i64 r.2) rfl rfl K8.out.1 pcel_len) rfl ?_
  exact ret_putR HQ.out K7.out.1.b0 K8.out.2 K7.out.1.bel K7.out.2.1 K7.out.2.2
set_option maxRecDepth 100000 in
set_option maxHeartbeats 600000 in
theorem rshort_m_few1 (s : Sl) (hs : s.ok) (x : Nat) (A : Option Addr) (n d : Nat) (l : List UInt8) (w : World) (h : Blk 33 w x (rSl s)) (hA : RB w w.heap.size A n l) (hd : n ≤ d) (hm : n ≤ 1000000) (h0 : 2 ≤ n) (hh : hasS s (pntB (l.getD 1 0)) = true) (hp : pntB (l.getD 1 0) = 1) (hf : (n : Int) - 1 < sizeC (s.row (pntB (l.getD 1 0)).toNat)) :
    Calls Tryz.prog 16 #[.pointer (some ⟨x, 0, none⟩), .slice A n d] w (RetPR (shortS s l) w) := by
  have HS := Lib.hid hs
  have HA := Lib.hid hA
  have HDD := Lib.hid hd
  have K0 := Lib.hid ((VK.start [] w).hold h (by simp))
  have HE := Lib.hid (short_few (s := s) (l := l) (by rw [hA.len]; omega) hh (by rw [hA.len]; exact hf))
  obtain ⟨g, o, rfl⟩ := hA.some_ (by omega)
  have e0 : decide ((n : Int) < 2) = false := decide_eq_false (by omega)
  have hn1 : 1 < n := by omega
  have hnb : n ≤ 1000000 := hm
  obtain ⟨y, hy⟩ : ∃ y, l.getD 1 0 = y := ⟨_, rfl⟩
  have HY := Lib.hid hy
  rw [hy] at hh
  have hcl := first_cell (rb_rest hA (n1 := n - 1) rfl (by omega)) (by omega)
  rw [show (l.drop 1).getD 0 0 = l.getD 1 0 by simp [List.getD_eq_getElem?_getD], hy] at hcl
  have HCL := Lib.hid hcl
  rw [hy] at hp
  have hhk : hasS s 1 = true := by rw [← hp]; exact hh
  have HH := Lib.hid hhk
  have HP0 := Lib.hid hp
  have hz := has_size hs hhk
  rw [show Int.toNat 1 = 1 from rfl] at hz
  obtain ⟨z, hz1⟩ : ∃ z : Nat, sizeC (s.row 1) = (z : Int) := ⟨(sizeC (s.row 1)).toNat, by omega⟩
  have hzz : 6 ≤ z ∧ z ≤ 20 := by omega
  have HZ := Lib.hid hz1
  rw [hy, hp, show Int.toNat 1 = 1 from rfl, hz1] at hf
  have d9 : decide ((n : Int) - 1 < (z : Int)) = true := decide_eq_true hf
  clear h hA hs hd h0 hh hy hcl hm
  clear hz hz1 hhk hp hf
  go_enter Tryz.func16, Tryz.ntmps16
  go_wp2_with (first | (with_reducible show wpList _ _ _ (⟨some 4, .alloc _, _, _, _, _⟩ :: _) _ _; refine wpList_newB rt_rprt rfl rfl ?_; intro w1 q hc1 hb1 hx1; have K1 := Lib.hid (K0.out.new hb1 hx1 hc1); have HQ := Lib.hid (Nat.le_trans K0.out.oth.size hx1); clear hc1 hb1 hx1; have clk := (K1.out.bel.cell (p := ⟨g, o + 1, none⟩) (World.block_lt_of_cell? w _ HCL.out)).trans HCL.out))
  have HP := rcpoint_any y (w := w1)
  rw [HP0.out] at HP
  refine HP.mono ?_
  clear HP
  rintro e w2 ⟨rfl, rfl⟩
  clear clk
  go_wp2_with fail
  refine (rhas_any s HS.out x 1 true HH.out _ K1.out.b1).mono ?_
  rintro e w3 ⟨rfl, rfl⟩
  have lr := ld_r1 HS.out K1.out.b1
  go_wp2_with fail
  refine (rmsize_any (s.row 1) (HS.out.g _) (z : Int) HZ.out _).mono ?_
  rintro e w7 ⟨rfl, hb⟩
  have K6 := Lib.hid (K1.out.step hb)
  clear hb lr
  go_wp2_with (first | (refine wpList_stB rt_rprt rfl (.tmp 4) (.tmp 33) rfl q 0 rfl zcel zcel zcel_lit zcel_one rfl (by exact K6.out.b0) (by rw [zcel_len]; decide) ?_; intro w8 hc2 ho2 hs2; have K7 := Lib.hid (K6.out.put 0 rfl (.inr HQ.out) ho2 (by rwa [puts_whole _ _ rfl] at hc2) rfl); clear hc2 ho2 hs2))
  rw [HE.out]
  refine bodyPost_ret (res_rec2 rt_rprt rfl _ _ q zcel (.int .i64 12) rfl rfl K7.out.b0 rfl) rfl (RetPE.rd (ret_zero _ K7.out.bel))
set_option maxRecDepth 100000 in
set_option maxHeartbeats 600000 in
theorem rshort_m_ok1 (s : Sl) (hs : s.ok) (x : Nat) (A : Option Addr) (n d : Nat) (l : List UInt8) (w : World) (h : Blk 33 w x (rSl s)) (hA : RB w w.heap.size A n l) (hd : n ≤ d) (hm : n ≤ 1000000) (h0 : 2 ≤ n) (hh : hasS s (pntB (l.getD 1 0)) = true) (hp : pntB (l.getD 1 0) = 1) (hf : ¬ (n : Int) - 1 < sizeC (s.row (pntB (l.getD 1 0)).toNat)) :
    Calls Tryz.prog 16 #[.pointer (some ⟨x, 0, none⟩), .slice A n d] w (RetPR (shortS s l) w) := by
  have HS := Lib.hid hs
  have HA := Lib.hid hA
  have HDD := Lib.hid hd
  have K0 := Lib.hid ((VK.start [] w).hold h (by simp))
  have hE := short_ok (s := s) (l := l) (by rw [hA.len]; omega) hh (by rw [hA.len]; exact hf)
  obtain ⟨g, o, rfl⟩ := hA.some_ (by omega)
  have e0 : decide ((n : Int) < 2) = false := decide_eq_false (by omega)
  have hn1 : 1 < n := by omega
  have hnb : n ≤ 1000000 := hm
  obtain ⟨y, hy⟩ : ∃ y, l.getD 1 0 = y := ⟨_, rfl⟩
  have HY := Lib.hid hy
  rw [hy] at hh
  have hcl := first_cell (rb_rest hA (n1 := n - 1) rfl (by omega)) (by omega)
  rw [show (l.drop 1).getD 0 0 = l.getD 1 0 by simp [List.getD_eq_getElem?_getD], hy] at hcl
  have HCL := Lib.hid hcl
  rw [hy] at hp
  have hhk : hasS s 1 = true := by rw [← hp]; exact hh
  have HH := Lib.hid hhk
  have HP0 := Lib.hid hp
  have hz := has_size hs hhk
  rw [show Int.toNat 1 = 1 from rfl] at hz
  obtain ⟨z, hz1⟩ : ∃ z : Nat, sizeC (s.row 1) = (z : Int) := ⟨(sizeC (s.row 1)).toNat, by omega⟩
  have hzz : 6 ≤ z ∧ z ≤ 20 := by omega
  have HZ := Lib.hid hz1
  rw [hy, hp, show Int.toNat 1 = 1 from rfl, hz1] at hf
  rw [hy, hp, show Int.toNat 1 = 1 from rfl, hz1, Int.toNat_natCast] at hE
  obtain ⟨r, hr⟩ : ∃ r, showS s ((l.drop 1).take z) = r := ⟨_, rfl⟩
  rw [hr] at hE
  have HE := Lib.hid hE
  have HRR := Lib.hid hr
  clear hE hr
  have d9 : decide ((n : Int) - 1 < (z : Int)) = false := decide_eq_false hf
  obtain ⟨z1, hz2⟩ : ∃ z1, z1 = z + 1 := ⟨_, rfl⟩
  have hzi : (z : Int) + 1 = (z1 : Int) := by omega
  obtain ⟨Az, hAz⟩ : ∃ Az, cutA (some ⟨g, o, none⟩) d 1 = Az := ⟨_, rfl⟩
  obtain ⟨d1, hd1⟩ : ∃ d1, d1 = d - 1 := ⟨_, rfl⟩
  have hcz : ∀ W : World, (Instr.slice 40 (.slice (some ⟨g, o, none⟩) n d) (some (.int .i64 1)) (some (.int .i64 (z1 : Int))) none).run Tryz.prog W = .ok (.slice Az z d1) W := by
    have hcy := cut_lh (some ⟨g, o, none⟩) n d 1 z1 (by omega) (by omega)
    rw [hAz, ← hd1, show z1 - 1 = z by omega] at hcy
    exact hcy
  have HAZ : Hid (RB w w.heap.size Az z ((l.drop 1).take z)) := Lib.hid (by
    have := hA.part (i := 1) (j := z1) (c := d) (by omega) (by omega) hd
    rw [hAz, show z1 - 1 = z by omega, List.drop_take, show z1 - 1 = z by omega] at this
    exact this)
  have HZD : Hid (z ≤ d1) := Lib.hid (by omega)
  clear h hA hs hd h0 hh hy hcl hm
  clear hz hz1 hhk hp hf hz2 hAz hd1
  go_enter Tryz.func16, Tryz.ntmps16
  go_wp2_with (first | (with_reducible show wpList _ _ _ (⟨some 4, .alloc _, _, _, _, _⟩ :: _) _ _; refine wpList_newB rt_rprt rfl rfl ?_; intro w1 q hc1 hb1 hx1; have K1 := Lib.hid (K0.out.new hb1 hx1 hc1); have HQ := Lib.hid (Nat.le_trans K0.out.oth.size hx1); clear hc1 hb1 hx1; have clk := (K1.out.bel.cell (p := ⟨g, o + 1, none⟩) (World.block_lt_of_cell? w _ HCL.out)).trans HCL.out))
  have HP := rcpoint_any y (w := w1)
  rw [HP0.out] at HP
  refine HP.mono ?_
  clear HP
  rintro e w2 ⟨rfl, rfl⟩
  clear clk
  go_wp2_with fail
  refine (rhas_any s HS.out x 1 true HH.out _ K1.out.b1).mono ?_
  rintro e w3 ⟨rfl, rfl⟩
  have lr := ld_r1 HS.out K1.out.b1
  go_wp2_with fail
  refine (rmsize_any (s.row 1) (HS.out.g _) (z : Int) HZ.out _).mono ?_
  rintro e w7 ⟨rfl, hb⟩
  have K6 := Lib.hid (K1.out.step hb)
  clear hb lr
  go_wp2_with fail
  refine (rshow18_any s HS.out x Az z d1 ((l.drop 1).take z) _ K6.out.b1 (by exact HAZ.out.step K6.out.bel) HZD.out).mono ?_
  rw [HRR.out]
  rintro e w9 ⟨As, cs, At, ct, rfl, ho1, ho2, hb⟩
  have K7 := Lib.hid (And.intro (K6.out.step hb) (And.intro ho1 ho2))
  clear ho1 ho2 hb
  go_wp2_with (first | (refine wpList_stB rt_rprt rfl (.tmp 4) (.tmp 40) rfl q 0 rfl zcel (pcel r.1.p As r.1.s.length cs At r.1.n.length ct) rfl pcel_one pcel_len (by exact K7.out.1.b0) (by rw [zcel_len]; decide) ?_; intro w8 hc2 ho2 hs2; have K8 := Lib.hid (And.intro (by rwa [puts_whole _ _ pcel_len] at hc2) ho2 : Blk 47 w8 q (pcel r.1.p As r.1.s.length cs At r.1.n.length ct) ∧ Oth [q] _ w8); clear hc2 ho2 hs2))
  rw [HE.out]
  refine bodyPost_ret (res_rec2 rt_rprt rfl _ _ q (pcel r.1.p As r.1.s.length cs At r.1.n.length ct) (.int .i64 r.2) rfl rfl K8.out.1 pcel_len) rfl ?_
  exact ret_putR HQ.out K7.out.1.b0 K8.out.2 K7.out.1.bel K7.out.2.1 K7.out.2.2
set_option maxRecDepth 100000 in
set_option maxHeartbeats 600000 in
theorem rshort_m_few2 (s : Sl) (hs : s.ok) (x : Nat) (A : Option Addr) (n d : Nat) (l : List UInt8) (w : World) (h : Blk 33 w x (rSl s)) (hA : RB w w.heap.size A n l) (hd : n ≤ d) (hm : n ≤ 1000000) (h0 : 2 ≤ n) (hh : hasS s (pntB (l.getD 1 0)) = true) (hp : pntB (l.getD 1 0) = 2) (hf : (n : Int) - 1 < sizeC (s.row (pntB (l.getD 1 0)).toNat)) :
    Calls Tryz.prog 16 #[.pointer (some ⟨x, 0, none⟩), .slice A n d] w (RetPR (shortS s l) w) := by
  have HS := Lib.hid hs
  have HA := Lib.hid hA
  have HDD := Lib.hid hd
  have K0 := Lib.hid ((VK.start [] w).hold h (by simp))
  have HE := Lib.hid (short_few (s := s) (l := l) (by rw [hA.len]; omega) hh (by rw [hA.len]; exact hf))
  obtain ⟨g, o, rfl⟩ := hA.some_ (by omega)
  have e0 : decide ((n : Int) < 2) = false := decide_eq_false (by omega)
  have hn1 : 1 < n := by omega
  have hnb : n ≤ 1000000 := hm
  obtain ⟨y, hy⟩ : ∃ y, l.getD 1 0 = y := ⟨_, rfl⟩
  have HY := Lib.hid hy
  rw [hy] at hh
  have hcl := first_cell (rb_rest hA (n1 := n - 1) rfl (by omega)) (by omega)
  rw [show (l.drop 1).getD 0 0 = l.getD 1 0 by simp [List.getD_eq_getElem?_getD], hy] at hcl
  have HCL := Lib.hid hcl
  rw [hy] at hp
  have hhk : hasS s 2 = true := by rw [← hp]; exact hh
  have HH := Lib.hid hhk
  have HP0 := Lib.hid hp
  have hz := has_size hs hhk
  rw [show Int.toNat 2 = 2 from rfl] at hz
  obtain ⟨z, hz1⟩ : ∃ z : Nat, sizeC (s.row 2) = (z : Int) := ⟨(sizeC (s.row 2)).toNat, by omega⟩
  have hzz : 6 ≤ z ∧ z ≤ 20 := by omega
  have HZ := Lib.hid hz1
  rw [hy, hp, show Int.toNat 2 = 2 from rfl, hz1] at hf
  have d9 : decide ((n : Int) - 1 < (z : Int)) = true := decide_eq_true hf
  clear h hA hs hd h0 hh hy hcl hm
  clear hz hz1 hhk hp hf
  go_enter Tryz.func16, Tryz.ntmps16
  go_wp2_with (first | (with_reducible show wpList _ _ _ (⟨some 4, .alloc _, _, _, _, _⟩ :: _) _ _; refine wpList_newB rt_rprt rfl rfl ?_; intro w1 q hc1 hb1 hx1; have K1 := Lib.hid (K0.out.new hb1 hx1 hc1); have HQ := Lib.hid (Nat.le_trans K0.out.oth.size hx1); clear hc1 hb1 hx1; have clk := (K1.out.bel.cell (p := ⟨g, o + 1, none⟩) (World.block_lt_of_cell? w _ HCL.out)).trans HCL.out))
  have HP := rcpoint_any y (w := w1)
  rw [HP0.out] at HP
  refine HP.mono ?_
  clear HP
  rintro e w2 ⟨rfl, rfl⟩
  clear clk
  go_wp2_with fail
  refine (rhas_any s HS.out x 2 true HH.out _ K1.out.b1).mono ?_
  rintro e w3 ⟨rfl, rfl⟩
  have lr := ld_r2 HS.out K1.out.b1
  go_wp2_with fail
  refine (rmsize_any (s.row 2) (HS.out.g _) (z : Int) HZ.out _).mono ?_
  rintro e w7 ⟨rfl, hb⟩
  have K6 := Lib.hid (K1.out.step hb)
  clear hb lr
  go_wp2_with (first | (refine wpList_stB rt_rprt rfl (.tmp 4) (.tmp 33) rfl q 0 rfl zcel zcel zcel_lit zcel_one rfl (by exact K6.out.b0) (by rw [zcel_len]; decide) ?_; intro w8 hc2 ho2 hs2; have K7 := Lib.hid (K6.out.put 0 rfl (.inr HQ.out) ho2 (by rwa [puts_whole _ _ rfl] at hc2) rfl); clear hc2 ho2 hs2))
  rw [HE.out]
  refine bodyPost_ret (res_rec2 rt_rprt rfl _ _ q zcel (.int .i64 12) rfl rfl K7.out.b0 rfl) rfl (RetPE.rd (ret_zero _ K7.out.bel))
set_option maxRecDepth 100000 in
set_option maxHeartbeats 600000 in
theorem rshort_m_ok2 (s : Sl) (hs : s.ok) (x : Nat) (A : Option Addr) (n d : Nat) (l : List UInt8) (w : World) (h : Blk 33 w x (rSl s)) (hA : RB w w.heap.size A n l) (hd : n ≤ d) (hm : n ≤ 1000000) (h0 : 2 ≤ n) (hh : hasS s (pntB (l.getD 1 0)) = true) (hp : pntB (l.getD 1 0) = 2) (hf : ¬ (n : Int) - 1 < sizeC (s.row (pntB (l.getD 1 0)).toNat)) :
    Calls Tryz.prog 16 #[.pointer (some ⟨x, 0, none⟩), .slice A n d] w (RetPR (shortS s l) w) := by
  have HS := Lib.hid hs
  have HA := Lib.hid hA
  have HDD := Lib.hid hd
  have K0 := Lib.hid ((VK.start [] w).hold h (by simp))
  have hE := short_ok (s := s) (l := l) (by rw [hA.len]; omega) hh (by rw [hA.len]; exact hf)
  obtain ⟨g, o, rfl⟩ := hA.some_ (by omega)
  have e0 : decide ((n : Int) < 2) = false := decide_eq_false (by omega)
  have hn1 : 1 < n := by omega
  have hnb : n ≤ 1000000 := hm
  obtain ⟨y, hy⟩ : ∃ y, l.getD 1 0 = y := ⟨_, rfl⟩
  have HY := Lib.hid hy
  rw [hy] at hh
  have hcl := first_cell (rb_rest hA (n1 := n - 1) rfl (by omega)) (by omega)
  rw [show (l.drop 1).getD 0 0 = l.getD 1 0 by simp [List.getD_eq_getElem?_getD], hy] at hcl
  have HCL := Lib.hid hcl
  rw [hy] at hp
  have hhk : hasS s 2 = true := by rw [← hp]; exact hh
  have HH := Lib.hid hhk
  have HP0 := Lib.hid hp
  have hz := has_size hs hhk
  rw [show Int.toNat 2 = 2 from rfl] at hz
  obtain ⟨z, hz1⟩ : ∃ z : Nat, sizeC (s.row 2) = (z : Int) := ⟨(sizeC (s.row 2)).toNat, by omega⟩
  have hzz : 6 ≤ z ∧ z ≤ 20 := by omega
  have HZ := Lib.hid hz1
  rw [hy, hp, show Int.toNat 2 = 2 from rfl, hz1] at hf
  rw [hy, hp, show Int.toNat 2 = 2 from rfl, hz1, Int.toNat_natCast] at hE
  obtain ⟨r, hr⟩ : ∃ r, showS s ((l.drop 1).take z) = r := ⟨_, rfl⟩
  rw [hr] at hE
  have HE := Lib.hid hE
  have HRR := Lib.hid hr
  clear hE hr
  have d9 : decide ((n : Int) - 1 < (z : Int)) = false := decide_eq_false hf
  obtain ⟨z1, hz2⟩ : ∃ z1, z1 = z + 1 := ⟨_, rfl⟩
  have hzi : (z : Int) + 1 = (z1 : Int) := by omega
  obtain ⟨Az, hAz⟩ : ∃ Az, cutA (some ⟨g, o, none⟩) d 1 = Az := ⟨_, rfl⟩
  obtain ⟨d1, hd1⟩ : ∃ d1, d1 = d - 1 := ⟨_, rfl⟩
  have hcz : ∀ W : World, (Instr.slice 40 (.slice (some ⟨g, o, none⟩) n d) (some (.int .i64 1)) (some (.int .i64 (z1 : Int))) none).run Tryz.prog W = .ok (.slice Az z d1) W := by
    have hcy := cut_lh (some ⟨g, o, none⟩) n d 1 z1 (by omega) (by omega)
    rw [hAz, ← hd1, show z1 - 1 = z by omega] at hcy
    exact hcy
  have HAZ : Hid (RB w w.heap.size Az z ((l.drop 1).take z)) := Lib.hid (by
    have := hA.part (i := 1) (j := z1) (c := d) (by omega) (by omega) hd
    rw [hAz, show z1 - 1 = z by omega, List.drop_take, show z1 - 1 = z by omega] at this
    exact this)
  have HZD : Hid (z ≤ d1) := Lib.hid (by omega)
  clear h hA hs hd h0 hh hy hcl hm
  clear hz hz1 hhk hp hf hz2 hAz hd1
  go_enter Tryz.func16, Tryz.ntmps16
  go_wp2_with (first | (with_reducible show wpList _ _ _ (⟨some 4, .alloc _, _, _, _, _⟩ :: _) _ _; refine wpList_newB rt_rprt rfl rfl ?_; intro w1 q hc1 hb1 hx1; have K1 := Lib.hid (K0.out.new hb1 hx1 hc1); have HQ := Lib.hid (Nat.le_trans K0.out.oth.size hx1); clear hc1 hb1 hx1; have clk := (K1.out.bel.cell (p := ⟨g, o + 1, none⟩) (World.block_lt_of_cell? w _ HCL.out)).trans HCL.out))
  have HP := rcpoint_any y (w := w1)
  rw [HP0.out] at HP
  refine HP.mono ?_
  clear HP
  rintro e w2 ⟨rfl, rfl⟩
  clear clk
  go_wp2_with fail
  refine (rhas_any s HS.out x 2 true HH.out _ K1.out.b1).mono ?_
  rintro e w3 ⟨rfl, rfl⟩
  have lr := ld_r2 HS.out K1.out.b1
  go_wp2_with fail
  refine (rmsize_any (s.row 2) (HS.out.g _) (z : Int) HZ.out _).mono ?_
  rintro e w7 ⟨rfl, hb⟩
  have K6 := Lib.hid (K1.out.step hb)
  clear hb lr
  go_wp2_with fail
  refine (rshow18_any s HS.out x Az z d1 ((l.drop 1).take z) _ K6.out.b1 (by exact HAZ.out.step K6.out.bel) HZD.out).mono ?_
  rw [HRR.out]
  rintro e w9 ⟨As, cs, At, ct, rfl, ho1, ho2, hb⟩
  have K7 := Lib.hid (And.intro (K6.out.step hb) (And.intro ho1 ho2))
  clear ho1 ho2 hb
  go_wp2_with (first | (refine wpList_stB rt_rprt rfl (.tmp 4) (.tmp 40) rfl q 0 rfl zcel (pcel r.1.p As r.1.s.length cs At r.1.n.length ct) rfl pcel_one pcel_len (by exact K7.out.1.b0) (by rw [zcel_len]; decide) ?_; intro w8 hc2 ho2 hs2; have K8 := Lib.hid (And.intro (by rwa [puts_whole _ _ pcel_len] at hc2) ho2 : Blk 47 w8 q (pcel r.1.p As r.1.s.length cs At r.1.n.length ct) ∧ Oth [q] _ w8); clear hc2 ho2 hs2))
  rw [HE.out]
  refine bodyPost_ret (res_rec2 rt_rprt rfl _ _ q (pcel r.1.p As r.1.s.length cs At r.1.n.length ct) (.int .i64 r.2) rfl rfl K8.out.1 pcel_len) rfl ?_
  exact ret_putR HQ.out K7.out.1.b0 K8.out.2 K7.out.1.bel K7.out.2.1 K7.out.2.2
theorem rshort18_any (s : Sl) (hs : s.ok) (x : Nat) (A : Option Addr) (n d : Nat) (l : List UInt8) (w : World) (h : Blk 33 w x (rSl s)) (hA : RB w w.heap.size A n l) (hd : n ≤ d) (hm : n ≤ 1000000) :
    Calls Tryz.prog 16 #[.pointer (some ⟨x, 0, none⟩), .slice A n d] w (RetPR (shortS s l) w) := by
  by_cases h0 : n < 2
  · exact rshort_m_end s hs x A n d l w h hA hd hm h0
  cases hh : hasS s (pntB (l.getD 1 0))
  · exact rshort_m_none s hs x A n d l w h hA hd hm (by omega) hh
  have hi : inB (pntB (l.getD 1 0)) = true := by
    cases hi : inB (pntB (l.getD 1 0))
    · rw [in_no hi] at hh; cases hh
    · rfl
  by_cases hf : (n : Int) - 1 < sizeC (s.row (pntB (l.getD 1 0)).toNat)
  · rcases in_cases hi with e | e | e
    · exact rshort_m_few0 s hs x A n d l w h hA hd hm (by omega) hh e hf
    · exact rshort_m_few1 s hs x A n d l w h hA hd hm (by omega) hh e hf
    · exact rshort_m_few2 s hs x A n d l w h hA hd hm (by omega) hh e hf
  · rcases in_cases hi with e | e | e
    · exact rshort_m_ok0 s hs x A n d l w h hA hd hm (by omega) hh e hf
    · exact rshort_m_ok1 s hs x A n d l w h hA hd hm (by omega) hh e hf
    · exact rshort_m_ok2 s hs x A n d l w h hA hd hm (by omega) hh e hf
end Go.Proofs.YtkcchidklcnnnaaGreat
