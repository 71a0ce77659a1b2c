/- Layer 18: Show, Short. Condition: the slice's cells are readable; the slots' configurations have keys of sixteen bytes. -/
import Derived.Test.YtkcchidklcnnnaaGreatSlA
import Derived.Test.YtkcchidklcnnnaaGreatCdB
namespace Go.Proofs.YtkcchidklcnnnaaGreat
open Go.RowKit
set_option linter.unusedVariables false
set_option linter.unusedSimpArgs false
theorem short_codB {s : Sl} {l : List UInt8} (h : s.ok) (h0 : ¬ l.length < 2) (hh : hasS s (pntB (l.getD 1 0)) = true) (hl : ¬ (l.length : Int) - 1 < sizeC (s.row (pntB (l.getD 1 0)).toNat)) :
    shortS s l = codB (s.row (pntB (l.getD 1 0)).toNat) ((l.drop 1).take (sizeC (s.row (pntB (l.getD 1 0)).toNat)).toNat) := by
  have hz := has_size h hh
  have hg : ((l.drop 1).take (sizeC (s.row (pntB (l.getD 1 0)).toNat)).toNat).getD 0 0 = l.getD 1 0 := by
    exact cut_first (by omega)
  have hn0 : ¬ ((l.drop 1).take (sizeC (s.row (pntB (l.getD 1 0)).toNat)).toNat).length = 0 := by rw [List.length_take, List.length_drop]; omega
  have e2 := show_ok (s := s) hn0 (by rw [hg]; exact hh)
  rw [hg] at e2
  rw [short_ok h0 hh hl, e2]
theorem cut_one (g o n d n1 d1 : Nat) (h1 : n1 = n - 1) (h2 : d1 = d - 1) (h3 : 2 ≤ d) (h4 : 1 ≤ n) : ∀ W : World, (Instr.slice 40 (.slice (some ⟨g, o, none⟩) n d) (some (.int .i64 1)) none none).run Tryz.prog W = .ok (.slice (some ⟨g, o + 1, none⟩) n1 d1) W := by
  intro W
  have h := cut_l (some ⟨g, o, none⟩) n d 1 h4 W
  unfold cutA at h
  rw [if_neg (by omega), Option.map_some] at h
  have hadd : (⟨g, o, none⟩ : Addr).add 1 = ⟨g, o + 1, none⟩ := by unfold Addr.add; split <;> simp_all
  rw [hadd, ← h1, ← h2] at h
  exact h
theorem rb_rest {w : World} {B g o n n1 : Nat} {l : List UInt8} (h : RB w B (some ⟨g, o, none⟩) n l) (h1 : n1 = n - 1) (h2 : 2 ≤ n) : RB w B (some ⟨g, o + 1, none⟩) n1 (l.drop 1) := by
  have h3 := h.rest (c := n) (by omega) (Nat.le_refl _)
  unfold cutA at h3
  rw [if_neg (by omega), Option.map_some] at h3
  have hadd : (⟨g, o, none⟩ : Addr).add 1 = ⟨g, o + 1, none⟩ := by unfold Addr.add; split <;> simp_all
  rw [hadd, ← h1] at h3
  exact h3
theorem rb_head {w : World} {B n m c : Nat} {A : Option Addr} {l : List UInt8} (h : RB w B A n l) (hm : m ≤ n) (hc : n ≤ c) (h0 : 0 < m) : RB w B (cutA A c 0) m (l.take m) := by
  have := h.part (i := 0) (j := m) (Nat.zero_le _) hm hc
  rwa [List.drop_zero, Nat.sub_zero] at this
/-- Parts that a call has given, stored into a variable of the walk's own. -/
theorem ret_put {T : TypeId} {q : Nat} {cs : List Value} {r : Prt × Int} {w w6 w7 : World} {A B : Option Addr} {c d : Nat} (hT : T ≠ 5) (hq : w.heap.size ≤ q) (k : Blk T w6 q cs) (ho : Oth [q] w6 w7) (hb : Below w.heap.size w w6) (h1 : OwnB w6 w.heap.size A r.1.s.length c r.1.s) (h2 : OwnB w6 w.heap.size B r.1.n.length d r.1.n) :
    RetPE r w (.returned (.tuple #[.agg (pcel r.1.p A r.1.s.length c B r.1.n.length d).toArray, .int .i64 r.2])) w7 :=
  ⟨A, c, B, d, rfl, h1.offS ho (k.nob hT), h2.offS ho (k.nob hT), hb.trans (ho.below (fun j hj => by rw [List.mem_singleton.1 hj]; exact hq) hb.size)⟩
theorem pcel_def (p : Int) (A : Option Addr) (n c : Nat) (B : Option Addr) (m d : Nat) : (pcel p A n c B m d).toArray = #[.int .i64 p, .slice A n c, .slice B m d] := rfl
attribute [local irreducible] Cfg.val Cfg.cells rtB Rt zK sizeC zeroC hcel zh pSl rSl aSl hasS ofS tmS tmN Sl.row Sl.tm inB pcel zcel codB showS shortS pntB prtC
attribute [local go_sem ↓] ex_ldC ex_ldH ex_stH ex_stC ex_stPt
set_option maxRecDepth 100000 in
set_option maxHeartbeats 2000000 in
theorem show_m_end (s : Sl) (hs : s.ok) (x : Nat) (A : Option Addr) (n d : Nat) (l : List UInt8) (w : World) (h : Blk 69 w x (pSl s)) (hA : RB w w.heap.size A n l) (hd : n ≤ d) (h0 : n = 0) :
    Calls Tryz.prog 13 #[.pointer (some ⟨x, 0, none⟩), .slice A n d] w (RetPE (showS s l) w) := by
  have HS := Lib.hid hs
  have HA := Lib.hid hA
  have HL := Lib.hid hA.len
  have HDD := Lib.hid hd
  have K0 := Lib.hid ((VK.start [] w).hold h (by simp))
  have e0 : ((n : Int) == 0) = true := by rw [h0]; rfl
  have HE := Lib.hid (show_end (s := s) (l := l) (by rw [hA.len]; exact h0))
  clear h hA hs hd h0
  go_enter Tryz.func13, Tryz.ntmps13
  go_wp2_with (first | (with_reducible show wpList _ _ _ (⟨some 4, .alloc _, _, _, _, _⟩ :: _) _ _; refine wpList_newB rt_prt rfl rfl ?_; intro w1 q hc1 hb1 hx1; have K1 := Lib.hid (K0.out.new hb1 hx1 hc1); have HQ := Lib.hid (Nat.le_trans K0.out.oth.size hx1); clear hc1 hb1 hx1) | (refine wpList_stB rt_prt rfl (.tmp 4) (.tmp 10) rfl q 0 rfl zcel (zcel) zcel_lit zcel_one rfl (by exact K1.out.b0) (by rw [zcel_len]; decide) ?_; intro w2 hc2 ho2 hs2; have K2 := Lib.hid (K1.out.put 0 rfl (.inr HQ.out) ho2 (by rwa [puts_whole _ _ rfl] at hc2) rfl); clear hc2 ho2 hs2))
  rw [HE.out]
  refine bodyPost_ret (res_rec2 rt_prt rfl _ _ q zcel (.int .i64 12) rfl rfl K2.out.b0 rfl) rfl (ret_zero _ K2.out.bel)
set_option maxRecDepth 100000 in
set_option maxHeartbeats 2000000 in
theorem show_m_none (s : Sl) (hs : s.ok) (x : Nat) (A : Option Addr) (n d : Nat) (l : List UInt8) (w : World) (h : Blk 69 w x (pSl s)) (hA : RB w w.heap.size A n l) (hd : n ≤ d) (h0 : 0 < n) (hh : hasS s (pntB (l.getD 0 0)) = false) :
    Calls Tryz.prog 13 #[.pointer (some ⟨x, 0, none⟩), .slice A n d] w (RetPE (showS s l) w) := by
  have HS := Lib.hid hs
  have HA := Lib.hid hA
  have HL := Lib.hid hA.len
  have HDD := Lib.hid hd
  have K0 := Lib.hid ((VK.start [] w).hold h (by simp))
  have HE := Lib.hid (show_none (s := s) (l := l) (by rw [hA.len]; omega) hh)
  obtain ⟨g, o, rfl⟩ := hA.some_ (by omega)
  have e0 : ((n : Int) == 0) = false := by rw [beq_eq_false_iff_ne]; omega
  have hn0 : 0 < n := by omega
  obtain ⟨y, hy⟩ : ∃ y, l.getD 0 0 = y := ⟨_, rfl⟩
  have HY := Lib.hid hy
  rw [hy] at hh
  have hcl := first_cell hA (by omega)
  rw [hy] at hcl
  have HCL := Lib.hid hcl
  have HH := Lib.hid hh
  clear h hA hs hd h0 hh hy hcl
  go_enter Tryz.func13, Tryz.ntmps13
  go_wp2_with (first | (with_reducible show wpList _ _ _ (⟨some 4, .alloc _, _, _, _, _⟩ :: _) _ _; refine wpList_newB rt_prt rfl rfl ?_; intro w1 q hc1 hb1 hx1; have K1 := Lib.hid (K0.out.new hb1 hx1 hc1); have HQ := Lib.hid (Nat.le_trans K0.out.oth.size hx1); clear hc1 hb1 hx1; have clk := (K1.out.bel.cell (p := ⟨g, o, none⟩) (World.block_lt_of_cell? w _ HCL.out)).trans HCL.out))
  refine (cpoint_any y _).mono ?_
  rintro e w2 ⟨rfl, rfl⟩
  clear clk
  go_wp2_with fail
  refine (sat_any s HS.out x (pntB y) _ K1.out.b1).mono ?_
  rintro e w3 ⟨rfl, hb⟩
  have K2 := Lib.hid (K1.out.step hb)
  clear hb
  go_wp2_with (first | (with_reducible show wpList _ _ _ (⟨some 6, .alloc _, _, _, _, _⟩ :: _) _ _; refine wpList_newB rt_held rfl rfl ?_; intro w4 q2 hc1 hb1 hx1; have K3 := Lib.hid (K2.out.new hb1 hx1 hc1); have HQ2 := Lib.hid (Nat.le_trans K2.out.oth.size hx1); clear hc1 hb1 hx1) | (refine wpList_stB rt_held rfl (.tmp 6) (.tmp 16) rfl q2 0 rfl zh (hcel (ofS s (pntB y)) (tmN s (pntB y))) rfl hcel_one (hcel_zh (ofS_ok HS.out _)) (by exact K3.out.b0) (by rw [zh_len]; decide) ?_; intro w5 hc2 ho2 hs2; have K4 := Lib.hid (K3.out.put 0 rfl (.inr HQ2.out) ho2 (by rwa [puts_whole _ _ (hcel_zh (ofS_ok HS.out _))] at hc2) rfl); clear hc2 ho2 hs2; have lh := ld_held (ofS_ok HS.out _) K4.out.b0))
  refine (empty_any (ofS s (pntB y)) (ofS_ok HS.out _) (tmN s (pntB y)) true (by rw [held_empty HS.out, HH.out]; rfl) _).mono ?_
  rintro e w6 ⟨rfl, hb⟩
  have K5 := Lib.hid (K4.out.step hb)
  clear hb lh
  go_wp2_with (first | (refine wpList_stB rt_prt rfl (.tmp 4) (.tmp 19) rfl q 0 rfl zcel (zcel) zcel_lit zcel_one rfl (by exact K5.out.b1) (by rw [zcel_len]; decide) ?_; intro w7 hc2 ho2 hs2; have K6 := Lib.hid (K5.out.put 1 rfl (.inr HQ.out) ho2 (by rwa [puts_whole _ _ rfl] at hc2) rfl); clear hc2 ho2 hs2))
  rw [HE.out]
  refine bodyPost_ret (res_rec2 rt_prt rfl _ _ q zcel (.int .i64 17) rfl rfl K6.out.b1 rfl) rfl (ret_zero _ K6.out.bel)
set_option maxRecDepth 100000 in
set_option maxHeartbeats 2000000 in
theorem show_m_ok (s : Sl) (hs : s.ok) (x : Nat) (A : Option Addr) (n d : Nat) (l : List UInt8) (w : World) (h : Blk 69 w x (pSl s)) (hA : RB w w.heap.size A n l) (hd : n ≤ d) (h0 : 0 < n) (hh : hasS s (pntB (l.getD 0 0)) = true) :
    Calls Tryz.prog 13 #[.pointer (some ⟨x, 0, none⟩), .slice A n d] w (RetPE (showS s l) w) := by
  have HS := Lib.hid hs
  have HA := Lib.hid hA
  have HL := Lib.hid hA.len
  have HDD := Lib.hid hd
  have K0 := Lib.hid ((VK.start [] w).hold h (by simp))
  have hE := show_ok (s := s) (l := l) (by rw [hA.len]; omega) hh
  obtain ⟨g, o, rfl⟩ := hA.some_ (by omega)
  have e0 : ((n : Int) == 0) = false := by rw [beq_eq_false_iff_ne]; omega
  have hn0 : 0 < n := by omega
  obtain ⟨y, hy⟩ : ∃ y, l.getD 0 0 = y := ⟨_, rfl⟩
  have HY := Lib.hid hy
  rw [hy] at hh
  have hcl := first_cell hA (by omega)
  rw [hy] at hcl
  have HCL := Lib.hid hcl
  have HH := Lib.hid hh
  have HRW : Hid (ofS s (pntB y) = s.row (pntB y).toNat) := Lib.hid (has_yes hh).1
  obtain ⟨r, hr⟩ : ∃ r, codB (s.row (pntB y).toNat) l = r := ⟨_, rfl⟩
  rw [hy, hr] at hE
  have HE := Lib.hid hE
  have HRR := Lib.hid hr
  clear hE hr
  clear h hA hs hd h0 hh hy hcl
  go_enter Tryz.func13, Tryz.ntmps13
  go_wp2_with (first | (with_reducible show wpList _ _ _ (⟨some 4, .alloc _, _, _, _, _⟩ :: _) _ _; refine wpList_newB rt_prt rfl rfl ?_; intro w1 q hc1 hb1 hx1; have K1 := Lib.hid (K0.out.new hb1 hx1 hc1); have HQ := Lib.hid (Nat.le_trans K0.out.oth.size hx1); clear hc1 hb1 hx1; have clk := (K1.out.bel.cell (p := ⟨g, o, none⟩) (World.block_lt_of_cell? w _ HCL.out)).trans HCL.out))
  refine (cpoint_any y _).mono ?_
  rintro e w2 ⟨rfl, rfl⟩
  clear clk
  go_wp2_with fail
  refine (sat_any s HS.out x (pntB y) _ K1.out.b1).mono ?_
  rintro e w3 ⟨rfl, hb⟩
  have K2 := Lib.hid (K1.out.step hb)
  clear hb
  go_wp2_with (first | (with_reducible show wpList _ _ _ (⟨some 6, .alloc _, _, _, _, _⟩ :: _) _ _; refine wpList_newB rt_held rfl rfl ?_; intro w4 q2 hc1 hb1 hx1; have K3 := Lib.hid (K2.out.new hb1 hx1 hc1); have HQ2 := Lib.hid (Nat.le_trans K2.out.oth.size hx1); clear hc1 hb1 hx1) | (refine wpList_stB rt_held rfl (.tmp 6) (.tmp 16) rfl q2 0 rfl zh (hcel (ofS s (pntB y)) (tmN s (pntB y))) rfl hcel_one (hcel_zh (ofS_ok HS.out _)) (by exact K3.out.b0) (by rw [zh_len]; decide) ?_; intro w5 hc2 ho2 hs2; have K4 := Lib.hid (K3.out.put 0 rfl (.inr HQ2.out) ho2 (by rwa [puts_whole _ _ (hcel_zh (ofS_ok HS.out _))] at hc2) rfl); clear hc2 ho2 hs2; have lh := ld_held (ofS_ok HS.out _) K4.out.b0))
  refine (empty_any (ofS s (pntB y)) (ofS_ok HS.out _) (tmN s (pntB y)) false (by rw [held_empty HS.out, HH.out]; rfl) _).mono ?_
  rintro e w6 ⟨rfl, hb⟩
  have K5 := Lib.hid (K4.out.step hb)
  clear hb lh
  have lc := ld_hcfg (ofS_ok HS.out _) K5.out.b0
  go_wp2_with fail
  refine (cback_any (ofS s (pntB y)) (ofS_ok HS.out _) _ n d l _ (by exact HA.out.step K5.out.bel) HDD.out).mono ?_
  rw [HRW.out, HRR.out]
  rintro e w7 ⟨As, cs, At, ct, rfl, ho1, ho2, hb⟩
  have K7 := Lib.hid (And.intro (K5.out.step hb) (And.intro (ho1.base_le K5.out.bel.size) (ho2.base_le K5.out.bel.size)))
  clear ho1 ho2 hb lc
  go_wp2_with (first | (refine wpList_stB rt_prt rfl (.tmp 4) (.tmp 24) rfl q 0 rfl zcel (pcel r.1.p As r.1.s.length cs At r.1.n.length ct) rfl pcel_one pcel_len (by exact K7.out.1.b1) (by rw [zcel_len]; decide) ?_; intro w8 hc2 ho2 hs2; have K8 := Lib.hid (And.intro (by rwa [puts_whole _ _ pcel_len] at hc2) ho2 : Blk 43 w8 q (pcel r.1.p As r.1.s.length cs At r.1.n.length ct) ∧ Oth [q] _ w8); clear hc2 ho2 hs2))
  clear hn0
  rw [HE.out]
  refine bodyPost_ret (res_rec2 rt_prt rfl _ _ q (pcel r.1.p As r.1.s.length cs At r.1.n.length ct) (.int .i64 r.2) rfl rfl K8.out.1 pcel_len) rfl ?_
  exact ret_put (T := 43) (by decide) HQ.out K7.out.1.b1 K8.out.2 K7.out.1.bel K7.out.2.1 K7.out.2.2
theorem show18_any (s : Sl) (hs : s.ok) (x : Nat) (A : Option Addr) (n d : Nat) (l : List UInt8) (w : World) (h : Blk 69 w x (pSl s)) (hA : RB w w.heap.size A n l) (hd : n ≤ d) :
    Calls Tryz.prog 13 #[.pointer (some ⟨x, 0, none⟩), .slice A n d] w (RetPE (showS s l) w) := by
  by_cases h0 : n = 0
  · exact show_m_end s hs x A n d l w h hA hd h0
  cases hh : hasS s (pntB (l.getD 0 0))
  · exact show_m_none s hs x A n d l w h hA hd (by omega) hh
  · exact show_m_ok s hs x A n d l w h hA hd (by omega) hh
set_option maxRecDepth 100000 in
set_option maxHeartbeats 2000000 in
theorem short_m_end (s : Sl) (hs : s.ok) (x : Nat) (A : Option Addr) (n d : Nat) (l : List UInt8) (w : World) (h : Blk 69 w x (pSl s)) (hA : RB w w.heap.size A n l) (hd : n ≤ d) (h0 : n < 2) :
    Calls Tryz.prog 15 #[.pointer (some ⟨x, 0, none⟩), .slice A n d] w (RetPE (shortS s l) w) := by
  have HS := Lib.hid hs
  have HA := Lib.hid hA
  have HL := Lib.hid hA.len
  have HDD := Lib.hid hd
  have K0 := Lib.hid ((VK.start [] w).hold h (by simp))
  have e0 : decide ((n : Int) < 2) = true := decide_eq_true (by omega)
  have HE := Lib.hid (short_end (s := s) (l := l) (by rw [hA.len]; exact h0))
  clear h hA hs hd h0
  go_enter Tryz.func15, Tryz.ntmps15
  go_wp2_with (first | (with_reducible show wpList _ _ _ (⟨some 4, .alloc _, _, _, _, _⟩ :: _) _ _; refine wpList_newB rt_prt rfl rfl ?_; intro w1 q hc1 hb1 hx1; have K1 := Lib.hid (K0.out.new hb1 hx1 hc1); have HQ := Lib.hid (Nat.le_trans K0.out.oth.size hx1); clear hc1 hb1 hx1) | (refine wpList_stB rt_prt rfl (.tmp 4) (.tmp 11) rfl q 0 rfl zcel (zcel) zcel_lit zcel_one rfl (by exact K1.out.b0) (by rw [zcel_len]; decide) ?_; intro w2 hc2 ho2 hs2; have K2 := Lib.hid (K1.out.put 0 rfl (.inr HQ.out) ho2 (by rwa [puts_whole _ _ rfl] at hc2) rfl); clear hc2 ho2 hs2))
  rw [HE.out]
  refine bodyPost_ret (res_rec2 rt_prt rfl _ _ q zcel (.int .i64 12) rfl rfl K2.out.b0 rfl) rfl (ret_zero _ K2.out.bel)
set_option maxRecDepth 100000 in
set_option maxHeartbeats 2000000 in
theorem short_m_none (s : Sl) (hs : s.ok) (x : Nat) (A : Option Addr) (n d : Nat) (l : List UInt8) (w : World) (h : Blk 69 w x (pSl s)) (hA : RB w w.heap.size A n l) (hd : n ≤ d) (h0 : 2 ≤ n) (hh : hasS s (pntB (l.getD 1 0)) = false) :
    Calls Tryz.prog 15 #[.pointer (some ⟨x, 0, none⟩), .slice A n d] w (RetPE (shortS s l) w) := by
  have HS := Lib.hid hs
  have HA := Lib.hid hA
  have HL := Lib.hid hA.len
  have HDD := Lib.hid hd
  have K0 := Lib.hid ((VK.start [] w).hold h (by simp))
  have HE := Lib.hid (short_none (s := s) (l := l) (by rw [hA.len]; omega) hh)
  obtain ⟨g, o, rfl⟩ := hA.some_ (by omega)
  have e0 : decide ((n : Int) < 2) = false := decide_eq_false (by omega)
  obtain ⟨n1, hn1⟩ : ∃ n1, n1 = n - 1 := ⟨_, rfl⟩
  obtain ⟨d1, hd1⟩ : ∃ d1, d1 = d - 1 := ⟨_, rfl⟩
  have hn0 : 0 < n1 := by omega
  have hcut := cut_one g o n d n1 d1 hn1 hd1 (by omega) (by omega)
  obtain ⟨y, hy⟩ : ∃ y, l.getD 1 0 = y := ⟨_, rfl⟩
  have HY := Lib.hid hy
  rw [hy] at hh
  have hR := rb_rest hA hn1 (by omega)
  have hcl := first_cell hR (by omega)
  rw [show (l.drop 1).getD 0 0 = l.getD 1 0 by simp [List.getD_eq_getElem?_getD], hy] at hcl
  have HCL := Lib.hid hcl
  have HR := Lib.hid hR
  have HN1 := Lib.hid hn1
  have HD1 := Lib.hid hd1
  have hnd : n1 ≤ d1 := by omega
  have HND := Lib.hid hnd
  have HH := Lib.hid hh
  clear h hA hs hd h0 hh hy hcl hR hn1 hd1 hnd
  go_enter Tryz.func15, Tryz.ntmps15
  go_wp2_with (first | (with_reducible show wpList _ _ _ (⟨some 4, .alloc _, _, _, _, _⟩ :: _) _ _; refine wpList_newB rt_prt rfl rfl ?_; intro w1 q hc1 hb1 hx1; have K1 := Lib.hid (K0.out.new hb1 hx1 hc1); have HQ := Lib.hid (Nat.le_trans K0.out.oth.size hx1); clear hc1 hb1 hx1; have clk := (K1.out.bel.cell (p := ⟨g, o + 1, none⟩) (World.block_lt_of_cell? w _ HCL.out)).trans HCL.out))
  refine (cpoint_any y _).mono ?_
  rintro e w2 ⟨rfl, rfl⟩
  clear clk
  go_wp2_with fail
  refine (sat_any s HS.out x (pntB y) _ K1.out.b1).mono ?_
  rintro e w3 ⟨rfl, hb⟩
  have K2 := Lib.hid (K1.out.step hb)
  clear hb
  go_wp2_with (first | (with_reducible show wpList _ _ _ (⟨some 7, .alloc _, _, _, _, _⟩ :: _) _ _; refine wpList_newB rt_held rfl rfl ?_; intro w4 q2 hc1 hb1 hx1; have K3 := Lib.hid (K2.out.new hb1 hx1 hc1); have HQ2 := Lib.hid (Nat.le_trans K2.out.oth.size hx1); clear hc1 hb1 hx1) | (refine wpList_stB rt_held rfl (.tmp 7) (.tmp 19) rfl q2 0 rfl zh (hcel (ofS s (pntB y)) (tmN s (pntB y))) rfl hcel_one (hcel_zh (ofS_ok HS.out _)) (by exact K3.out.b0) (by rw [zh_len]; decide) ?_; intro w5 hc2 ho2 hs2; have K4 := Lib.hid (K3.out.put 0 rfl (.inr HQ2.out) ho2 (by rwa [puts_whole _ _ (hcel_zh (ofS_ok HS.out _))] at hc2) rfl); clear hc2 ho2 hs2; have lh := ld_held (ofS_ok HS.out _) K4.out.b0))
  refine (empty_any (ofS s (pntB y)) (ofS_ok HS.out _) (tmN s (pntB y)) true (by rw [held_empty HS.out, HH.out]; rfl) _).mono ?_
  rintro e w6 ⟨rfl, hb⟩
  have K5 := Lib.hid (K4.out.step hb)
  clear hb lh
  go_wp2_with (first | (refine wpList_stB rt_prt rfl (.tmp 4) (.tmp 22) rfl q 0 rfl zcel (zcel) zcel_lit zcel_one rfl (by exact K5.out.b1) (by rw [zcel_len]; decide) ?_; intro w7 hc2 ho2 hs2; have K6 := Lib.hid (K5.out.put 1 rfl (.inr HQ.out) ho2 (by rwa [puts_whole _ _ rfl] at hc2) rfl); clear hc2 ho2 hs2))
  rw [HE.out]
  refine bodyPost_ret (res_rec2 rt_prt rfl _ _ q zcel (.int .i64 17) rfl rfl K6.out.b1 rfl) rfl (ret_zero _ K6.out.bel)
set_option maxRecDepth 100000 in
set_option maxHeartbeats 2000000 in
theorem short_m_few (s : Sl) (hs : s.ok) (x : Nat) (A : Option Addr) (n d : Nat) (l : List UInt8) (w : World) (h : Blk 69 w x (pSl s)) (hA : RB w w.heap.size A n l) (hd : n ≤ d) (h0 : 2 ≤ n) (hh : hasS s (pntB (l.getD 1 0)) = true) (hf : (n : Int) - 1 < sizeC (s.row (pntB (l.getD 1 0)).toNat)) :
    Calls Tryz.prog 15 #[.pointer (some ⟨x, 0, none⟩), .slice A n d] w (RetPE (shortS s l) w) := by
  have HS := Lib.hid hs
  have HA := Lib.hid hA
  have HL := Lib.hid hA.len
  have HDD := Lib.hid hd
  have K0 := Lib.hid ((VK.start [] w).hold h (by simp))
  have HE := Lib.hid (short_few (s := s) (l := l) (by rw [hA.len]; omega) hh (by rw [hA.len]; exact hf))
  obtain ⟨g, o, rfl⟩ := hA.some_ (by omega)
  have e0 : decide ((n : Int) < 2) = false := decide_eq_false (by omega)
  obtain ⟨n1, hn1⟩ : ∃ n1, n1 = n - 1 := ⟨_, rfl⟩
  obtain ⟨d1, hd1⟩ : ∃ d1, d1 = d - 1 := ⟨_, rfl⟩
  have hn0 : 0 < n1 := by omega
  have hcut := cut_one g o n d n1 d1 hn1 hd1 (by omega) (by omega)
  obtain ⟨y, hy⟩ : ∃ y, l.getD 1 0 = y := ⟨_, rfl⟩
  have HY := Lib.hid hy
  rw [hy] at hh
  have hR := rb_rest hA hn1 (by omega)
  have hcl := first_cell hR (by omega)
  rw [show (l.drop 1).getD 0 0 = l.getD 1 0 by simp [List.getD_eq_getElem?_getD], hy] at hcl
  have HCL := Lib.hid hcl
  have HR := Lib.hid hR
  have HN1 := Lib.hid hn1
  have HD1 := Lib.hid hd1
  have hnd : n1 ≤ d1 := by omega
  have HND := Lib.hid hnd
  have hz := has_size hs hh
  obtain ⟨z, hz1⟩ : ∃ z : Nat, sizeC (s.row (pntB y).toNat) = (z : Int) := ⟨(sizeC (s.row (pntB y).toNat)).toNat, by omega⟩
  have hzz : 6 ≤ z ∧ z ≤ 20 := by omega
  have HZ : Hid (sizeC (ofS s (pntB y)) = (z : Int)) := Lib.hid (by rw [(has_yes hh).1, hz1])
  rw [hy, hz1] at hf
  have d9 : decide ((n1 : Int) < (z : Int)) = true := decide_eq_true (by omega)
  have d8 : decide (n1 < z) = true := decide_eq_true (by omega)
  have HH := Lib.hid hh
  clear h hA hs hd h0 hh hy hcl hR hn1 hd1 hnd
  clear hz hz1 hzz hf
  go_enter Tryz.func15, Tryz.ntmps15
  go_wp2_with (first | (with_reducible show wpList _ _ _ (⟨some 4, .alloc _, _, _, _, _⟩ :: _) _ _; refine wpList_newB rt_prt rfl rfl ?_; intro w1 q hc1 hb1 hx1; have K1 := Lib.hid (K0.out.new hb1 hx1 hc1); have HQ := Lib.hid (Nat.le_trans K0.out.oth.size hx1); clear hc1 hb1 hx1; have clk := (K1.out.bel.cell (p := ⟨g, o + 1, none⟩) (World.block_lt_of_cell? w _ HCL.out)).trans HCL.out))
  refine (cpoint_any y _).mono ?_
  rintro e w2 ⟨rfl, rfl⟩
  clear clk
  go_wp2_with fail
  refine (sat_any s HS.out x (pntB y) _ K1.out.b1).mono ?_
  rintro e w3 ⟨rfl, hb⟩
  have K2 := Lib.hid (K1.out.step hb)
  clear hb
  go_wp2_with (first | (with_reducible show wpList _ _ _ (⟨some 7, .alloc _, _, _, _, _⟩ :: _) _ _; refine wpList_newB rt_held rfl rfl ?_; intro w4 q2 hc1 hb1 hx1; have K3 := Lib.hid (K2.out.new hb1 hx1 hc1); have HQ2 := Lib.hid (Nat.le_trans K2.out.oth.size hx1); clear hc1 hb1 hx1) | (refine wpList_stB rt_held rfl (.tmp 7) (.tmp 19) rfl q2 0 rfl zh (hcel (ofS s (pntB y)) (tmN s (pntB y))) rfl hcel_one (hcel_zh (ofS_ok HS.out _)) (by exact K3.out.b0) (by rw [zh_len]; decide) ?_; intro w5 hc2 ho2 hs2; have K4 := Lib.hid (K3.out.put 0 rfl (.inr HQ2.out) ho2 (by rwa [puts_whole _ _ (hcel_zh (ofS_ok HS.out _))] at hc2) rfl); clear hc2 ho2 hs2; have lh := ld_held (ofS_ok HS.out _) K4.out.b0))
  refine (empty_any (ofS s (pntB y)) (ofS_ok HS.out _) (tmN s (pntB y)) false (by rw [held_empty HS.out, HH.out]; rfl) _).mono ?_
  rintro e w6 ⟨rfl, hb⟩
  have K5 := Lib.hid (K4.out.step hb)
  clear hb lh
  have lc := ld_hcfg (ofS_ok HS.out _) K5.out.b0
  go_wp2_with fail
  refine (msize_any (ofS s (pntB y)) (ofS_ok HS.out _) (z : Int) HZ.out _).mono ?_
  rintro e w7 ⟨rfl, hb⟩
  have K6 := Lib.hid (K5.out.step hb)
  clear hb lc
  go_wp2_with (first | (refine wpList_stB rt_prt rfl (.tmp 4) (.tmp 29) rfl q 0 rfl zcel (zcel) zcel_lit zcel_one rfl (by exact K6.out.b1) (by rw [zcel_len]; decide) ?_; intro w8 hc2 ho2 hs2; have K7 := Lib.hid (K6.out.put 1 rfl (.inr HQ.out) ho2 (by rwa [puts_whole _ _ rfl] at hc2) rfl); clear hc2 ho2 hs2))
  rw [HE.out]
  refine bodyPost_ret (res_rec2 rt_prt rfl _ _ q zcel (.int .i64 12) rfl rfl K7.out.b1 rfl) rfl (ret_zero _ K7.out.bel)
set_option maxRecDepth 100000 in
set_option maxHeartbeats 2000000 in
theorem short_m_ok (s : Sl) (hs : s.ok) (x : Nat) (A : Option Addr) (n d : Nat) (l : List UInt8) (w : World) (h : Blk 69 w x (pSl s)) (hA : RB w w.heap.size A n l) (hd : n ≤ d) (h0 : 2 ≤ n) (hh : hasS s (pntB (l.getD 1 0)) = true) (hf : ¬ (n : Int) - 1 < sizeC (s.row (pntB (l.getD 1 0)).toNat)) :
    Calls Tryz.prog 15 #[.pointer (some ⟨x, 0, none⟩), .slice A n d] w (RetPE (shortS s l) w) := by
  have HS := Lib.hid hs
  have HA := Lib.hid hA
  have HL := Lib.hid hA.len
  have HDD := Lib.hid hd
  have K0 := Lib.hid ((VK.start [] w).hold h (by simp))
  have hE := short_codB (s := s) (l := l) hs (by rw [hA.len]; omega) hh (by rw [hA.len]; exact hf)
  obtain ⟨g, o, rfl⟩ := hA.some_ (by omega)
  have e0 : decide ((n : Int) < 2) = false := decide_eq_false (by omega)
  obtain ⟨n1, hn1⟩ : ∃ n1, n1 = n - 1 := ⟨_, rfl⟩
  obtain ⟨d1, hd1⟩ : ∃ d1, d1 = d - 1 := ⟨_, rfl⟩
  have hn0 : 0 < n1 := by omega
  have hcut := cut_one g o n d n1 d1 hn1 hd1 (by omega) (by omega)
  obtain ⟨y, hy⟩ : ∃ y, l.getD 1 0 = y := ⟨_, rfl⟩
  have HY := Lib.hid hy
  rw [hy] at hh
  have hR := rb_rest hA hn1 (by omega)
  have hcl := first_cell hR (by omega)
  rw [show (l.drop 1).getD 0 0 = l.getD 1 0 by simp [List.getD_eq_getElem?_getD], hy] at hcl
  have HCL := Lib.hid hcl
  have HR := Lib.hid hR
  have HN1 := Lib.hid hn1
  have HD1 := Lib.hid hd1
  have hnd : n1 ≤ d1 := by omega
  have HND := Lib.hid hnd
  have hz := has_size hs hh
  obtain ⟨z, hz1⟩ : ∃ z : Nat, sizeC (s.row (pntB y).toNat) = (z : Int) := ⟨(sizeC (s.row (pntB y).toNat)).toNat, by omega⟩
  have hzz : 6 ≤ z ∧ z ≤ 20 := by omega
  have HZ : Hid (sizeC (ofS s (pntB y)) = (z : Int)) := Lib.hid (by rw [(has_yes hh).1, hz1])
  have HRW : Hid (ofS s (pntB y) = s.row (pntB y).toNat) := Lib.hid (has_yes hh).1
  obtain ⟨r, hr⟩ : ∃ r, codB (s.row (pntB y).toNat) ((l.drop 1).take z) = r := ⟨_, rfl⟩
  rw [hy, hz1, Int.toNat_natCast, hr] at hE
  rw [hy, hz1] at hf
  have HE := Lib.hid hE
  have HRR := Lib.hid hr
  clear hE hr
  have d9 : decide ((n1 : Int) < (z : Int)) = false := decide_eq_false (by omega)
  have d8 : decide (n1 < z) = false := decide_eq_false (by omega)
  have hzn : z ≤ n1 := by omega
  have HZN := Lib.hid (And.intro hzn hzz)
  have HH := Lib.hid hh
  obtain ⟨Az, hAz⟩ : ∃ Az, cutA (some ⟨g, o + 1, none⟩) d1 0 = Az := ⟨_, rfl⟩
  have hcz := cut_h (some ⟨g, o + 1, none⟩) n1 d1 z (by omega)
  rw [hAz] at hcz
  have HAZ : Hid (RB w w.heap.size Az z ((l.drop 1).take z)) := Lib.hid (by rw [← hAz]; exact rb_head hR hzn hnd (by omega))
  clear h hA hs hd h0 hh hy hcl hR hn1 hd1 hnd
  clear hz hz1 hzz hf hzn hAz
  go_enter Tryz.func15, Tryz.ntmps15
  go_wp2_with (first | (with_reducible show wpList _ _ _ (⟨some 4, .alloc _, _, _, _, _⟩ :: _) _ _; refine wpList_newB rt_prt rfl rfl ?_; intro w1 q hc1 hb1 hx1; have K1 := Lib.hid (K0.out.new hb1 hx1 hc1); have HQ := Lib.hid (Nat.le_trans K0.out.oth.size hx1); clear hc1 hb1 hx1; have clk := (K1.out.bel.cell (p := ⟨g, o + 1, none⟩) (World.block_lt_of_cell? w _ HCL.out)).trans HCL.out))
  refine (cpoint_any y _).mono ?_
  rintro e w2 ⟨rfl, rfl⟩
  clear clk
  go_wp2_with fail
  refine (sat_any s HS.out x (pntB y) _ K1.out.b1).mono ?_
  rintro e w3 ⟨rfl, hb⟩
  have K2 := Lib.hid (K1.out.step hb)
  clear hb
  go_wp2_with (first | (with_reducible show wpList _ _ _ (⟨some 7, .alloc _, _, _, _, _⟩ :: _) _ _; refine wpList_newB rt_held rfl rfl ?_; intro w4 q2 hc1 hb1 hx1; have K3 := Lib.hid (K2.out.new hb1 hx1 hc1); have HQ2 := Lib.hid (Nat.le_trans K2.out.oth.size hx1); clear hc1 hb1 hx1) | (refine wpList_stB rt_held rfl (.tmp 7) (.tmp 19) rfl q2 0 rfl zh (hcel (ofS s (pntB y)) (tmN s (pntB y))) rfl hcel_one (hcel_zh (ofS_ok HS.out _)) (by exact K3.out.b0) (by rw [zh_len]; decide) ?_; intro w5 hc2 ho2 hs2; have K4 := Lib.hid (K3.out.put 0 rfl (.inr HQ2.out) ho2 (by rwa [puts_whole _ _ (hcel_zh (ofS_ok HS.out _))] at hc2) rfl); clear hc2 ho2 hs2; have lh := ld_held (ofS_ok HS.out _) K4.out.b0))
  refine (empty_any (ofS s (pntB y)) (ofS_ok HS.out _) (tmN s (pntB y)) false (by rw [held_empty HS.out, HH.out]; rfl) _).mono ?_
  rintro e w6 ⟨rfl, hb⟩
  have K5 := Lib.hid (K4.out.step hb)
  clear hb lh
  have lc := ld_hcfg (ofS_ok HS.out _) K5.out.b0
  go_wp2_with fail
  refine (msize_any (ofS s (pntB y)) (ofS_ok HS.out _) (z : Int) HZ.out _).mono ?_
  rintro e w7 ⟨rfl, hb⟩
  have K6 := Lib.hid (K5.out.step hb)
  clear hb lc
  go_wp2_with fail
  have K6b := Lib.hid K6.out.draw
  have HD := K6b.out.b0
  refine wp_region_held_drew (S := fun w' => Blk 66 w' q2 (hcel (ofS s (pntB y)) (tmN s (pntB y)))) (by kernel_rfl) HD (fun hHeld => ?_)
  (try dsimp only at hHeld)
  refine wpAnyH_take (i := 0) (v := ?v0_1) rfl (by kernel_rfl) (by kernel_rfl) (by kernel_rfl) (fun _ _ _ h => h) (Or.inl ⟨by rfl, ?hy0_1⟩) hHeld ?_
  case hy0_1 => (intro w hSw; (try dsimp only at hSw); have q0 := ld_hcfg (ofS_ok HS.out _) hSw; (try simp only [List.getElem_toArray, List.getElem_cons_zero, List.getElem_cons_succ]); go_simp <;> with_reducible rfl)
  (try simp only [Act.put, List.getElem_toArray, List.getElem_cons_zero, List.getElem_cons_succ, List.setIfInBounds_toArray, List.set_cons_zero, List.set_cons_succ])
  refine wpAnyH_take (i := 1) (v := ?v1_2) rfl (by kernel_rfl) (by kernel_rfl) (by kernel_rfl) (fun _ _ _ h => h) (Or.inl ⟨by rfl, ?hy1_2⟩) hHeld ?_
  case hy1_2 => (intro w hSw; (try dsimp only at hSw); have q0 := ld_hcfg (ofS_ok HS.out _) hSw; (try simp only [List.getElem_toArray, List.getElem_cons_zero, List.getElem_cons_succ]); go_simp <;> with_reducible rfl)
  (try simp only [Act.put, List.getElem_toArray, List.getElem_cons_zero, List.getElem_cons_succ, List.setIfInBounds_toArray, List.set_cons_zero, List.set_cons_succ])
  refine wpAnyH_take (i := 2) (v := ?v2_3) rfl (by kernel_rfl) (by kernel_rfl) (by kernel_rfl) (fun _ _ _ h => h) (Or.inl ⟨by rfl, ?hy2_3⟩) hHeld ?_
  case hy2_3 => (intro w hSw; (try dsimp only at hSw); have q0 := ld_hcfg (ofS_ok HS.out _) hSw; (try simp only [List.getElem_toArray, List.getElem_cons_zero, List.getElem_cons_succ]); go_simp <;> with_reducible rfl)
  (try simp only [Act.put, List.getElem_toArray, List.getElem_cons_zero, List.getElem_cons_succ, List.setIfInBounds_toArray, List.set_cons_zero, List.set_cons_succ])
  refine wpAnyH_take (i := 3) (v := ?v3_4) rfl (by kernel_rfl) (by kernel_rfl) (by kernel_rfl) (fun _ _ _ h => h) (Or.inl ⟨by rfl, ?hy3_4⟩) hHeld ?_
  case hy3_4 => (intro w hSw; (try dsimp only at hSw); have q0 := ld_hcfg (ofS_ok HS.out _) hSw; (try simp only [List.getElem_toArray, List.getElem_cons_zero, List.getElem_cons_succ]); go_simp <;> with_reducible rfl)
  (try simp only [Act.put, List.getElem_toArray, List.getElem_cons_zero, List.getElem_cons_succ, List.setIfInBounds_toArray, List.set_cons_zero, List.set_cons_succ])
  refine wpAnyH_take (i := 4) (v := ?v4_5) rfl (by kernel_rfl) (by kernel_rfl) (by kernel_rfl) (fun _ _ _ h => h) (Or.inl ⟨by rfl, ?hy4_5⟩) hHeld ?_
  case hy4_5 => (intro w hSw; (try dsimp only at hSw); have q0 := ld_hcfg (ofS_ok HS.out _) hSw; (try simp only [List.getElem_toArray, List.getElem_cons_zero, List.getElem_cons_succ]); go_simp <;> with_reducible rfl)
  (try simp only [Act.put, List.getElem_toArray, List.getElem_cons_zero, List.getElem_cons_succ, List.setIfInBounds_toArray, List.set_cons_zero, List.set_cons_succ])
  refine wpAnyH_ready (rs := [5]) (by kernel_rfl) (by simp) ?_
  refine AllReadyH.cons rfl (fun K hK => ?_) AllReadyH.nil
  (try simp only [List.getElem_toArray, List.getElem_cons_zero, List.getElem_cons_succ])
  go_simp
  refine (msize_any (ofS s (pntB y)) (ofS_ok HS.out _) (z : Int) HZ.out _).mono ?_
  rintro e w8 ⟨rfl, hb⟩
  have K6c := Lib.hid (K6b.out.step hb)
  clear hb
  (try go_wp2_with fail)
  refine hK.out _ _ K6c.out.b0 (fun hHeld => ?_)
  clear hK K
  (try simp only [Act.put, List.getElem_toArray, List.getElem_cons_zero, List.getElem_cons_succ, List.setIfInBounds_toArray, List.set_cons_zero, List.set_cons_succ])
  refine wpAnyH_take (i := 6) (v := ?v6_6) rfl (by kernel_rfl) (by kernel_rfl) (by kernel_rfl) (fun _ _ _ h => h) (Or.inl ⟨by rfl, ?hy6_6⟩) hHeld ?_
  case hy6_6 => (intro w hSw; (try dsimp only at hSw); have q0 := hcz; (try simp only [List.getElem_toArray, List.getElem_cons_zero, List.getElem_cons_succ]); go_simp <;> with_reducible rfl)
  (try simp only [Act.put, List.getElem_toArray, List.getElem_cons_zero, List.getElem_cons_succ, List.setIfInBounds_toArray, List.set_cons_zero, List.set_cons_succ])
  refine wpAnyH_ready (rs := [7]) (by kernel_rfl) (by simp) ?_
  refine AllReadyH.cons rfl (fun K hK => ?_) AllReadyH.nil
  (try simp only [List.getElem_toArray, List.getElem_cons_zero, List.getElem_cons_succ])
  go_simp
  refine (cback_any (ofS s (pntB y)) (ofS_ok HS.out _) Az z d1 ((l.drop 1).take z) _ (by exact HAZ.out.step K6c.out.bel) (by have := HZN.out; have := HND.out; omega)).mono ?_
  rw [HRW.out, HRR.out]
  rintro e w9 ⟨As, cs, At, ct, rfl, ho1, ho2, hb⟩
  have K7 := Lib.hid (And.intro (K6c.out.step hb) (And.intro (ho1.base_le K6c.out.bel.size) (ho2.base_le K6c.out.bel.size)))
  clear ho1 ho2 hb
  (try go_wp2_with fail)
  refine hK.out _ _ (by have := K7.out.1.b0; rw [HRW.out]; rw [HRW.out] at this; exact this) (fun hHeld => ?_)
  clear hK K
  (try simp only [Act.put, List.getElem_toArray, List.getElem_cons_zero, List.getElem_cons_succ, List.setIfInBounds_toArray, List.set_cons_zero, List.set_cons_succ])
  refine wpAnyH_take (i := 8) (v := ?v8_7) rfl (by kernel_rfl) (by kernel_rfl) (by kernel_rfl) (fun _ _ _ h => h) (Or.inl ⟨by rfl, ?hy8_7⟩) hHeld ?_
  case hy8_7 => (intro w hSw; (try dsimp only at hSw); (try simp only [List.getElem_toArray, List.getElem_cons_zero, List.getElem_cons_succ]); go_simp <;> with_reducible rfl)
  (try simp only [Act.put, List.getElem_toArray, List.getElem_cons_zero, List.getElem_cons_succ, List.setIfInBounds_toArray, List.set_cons_zero, List.set_cons_succ])
  refine wpAnyH_take (i := 9) (v := ?v9_8) rfl (by kernel_rfl) (by kernel_rfl) (by kernel_rfl) (fun _ _ _ h => h) (Or.inl ⟨by rfl, ?hy9_8⟩) hHeld ?_
  case hy9_8 => (intro w hSw; (try dsimp only at hSw); (try simp only [List.getElem_toArray, List.getElem_cons_zero, List.getElem_cons_succ]); go_simp <;> with_reducible rfl)
  (try simp only [Act.put, List.getElem_toArray, List.getElem_cons_zero, List.getElem_cons_succ, List.setIfInBounds_toArray, List.set_cons_zero, List.set_cons_succ])
  have st := st_prt (p := r.1.p) (A := As) (n := r.1.s.length) (c := cs) (B := At) (m := r.1.n.length) (d := ct) rt_prt K7.out.1.b1
  rw [← pcel_def] at st
  refine wpAnyH_ready (rs := [10]) (by kernel_rfl) (by simp) ?_
  refine AllReadyH.cons rfl (fun K hK => ?_) AllReadyH.nil
  (try simp only [List.getElem_toArray, List.getElem_cons_zero, List.getElem_cons_succ])
  go_simp
  have ho8 := oth_setCells q (pcel r.1.p As r.1.s.length cs At r.1.n.length ct) 0 w9 w9 (Oth.refl _ _)
  have K8 := Lib.hid (And.intro (by have := K7.out.1.b1.puts (pcel r.1.p As r.1.s.length cs At r.1.n.length ct) 0; rwa [puts_whole _ _ pcel_len] at this : Blk 43 (w9.setCells q 0 (pcel r.1.p As r.1.s.length cs At r.1.n.length ct)) q (pcel r.1.p As r.1.s.length cs At r.1.n.length ct)) ho8)
  have hne : q2 ≠ q := by
    intro e
    have := K7.out.1.nd
    simp [e] at this
  clear st ho8
  refine hK.out _ _ (K7.out.1.b0.oth K8.out.2 (by simp [hne])) (fun hHeld => ?_)
  clear hK K
  (try simp only [Act.put, List.getElem_toArray, List.getElem_cons_zero, List.getElem_cons_succ, List.setIfInBounds_toArray, List.set_cons_zero, List.set_cons_succ])
  refine wpAnyH_take (i := 11) (v := ?v11_9) rfl (by kernel_rfl) (by kernel_rfl) (by kernel_rfl) (fun _ _ _ h => h) (Or.inl ⟨by rfl, ?hy11_9⟩) hHeld ?_
  case hy11_9 => (intro w hSw; (try dsimp only at hSw); (try simp only [List.getElem_toArray, List.getElem_cons_zero, List.getElem_cons_succ]); go_simp <;> with_reducible rfl)
  (try simp only [Act.put, List.getElem_toArray, List.getElem_cons_zero, List.getElem_cons_succ, List.setIfInBounds_toArray, List.set_cons_zero, List.set_cons_succ])
  refine wpAnyH_done (by kernel_rfl) ?_ _
  clear hHeld HD
  go_wp2_with fail
  clear hne
  rw [HE.out]
  refine bodyPost_ret (res_rec2 rt_prt rfl _ _ q (pcel r.1.p As r.1.s.length cs At r.1.n.length ct) (.int .i64 r.2) rfl rfl K8.out.1 pcel_len) rfl ?_
  exact ret_put (T := 43) (by decide) HQ.out K7.out.1.b1 K8.out.2 K7.out.1.bel K7.out.2.1 K7.out.2.2
theorem short18_any (s : Sl) (hs : s.ok) (x : Nat) (A : Option Addr) (n d : Nat) (l : List UInt8) (w : World) (h : Blk 69 w x (pSl s)) (hA : RB w w.heap.size A n l) (hd : n ≤ d) :
    Calls Tryz.prog 15 #[.pointer (some ⟨x, 0, none⟩), .slice A n d] w (RetPE (shortS s l) w) := by
  by_cases h0 : n < 2
  · exact short_m_end s hs x A n d l w h hA hd h0
  cases hh : hasS s (pntB (l.getD 1 0))
  · exact short_m_none s hs x A n d l w h hA hd (by omega) hh
  by_cases hf : (n : Int) - 1 < sizeC (s.row (pntB (l.getD 1 0)).toNat)
  · exact short_m_few s hs x A n d l w h hA hd (by omega) hh hf
  · exact short_m_ok s hs x A n d l w h hA hd (by omega) hh hf
end Go.Proofs.YtkcchidklcnnnaaGreat
