/- Layer 17's reference: Point, Told, Plain, Make, Back. Condition: the slices' cells are readable; the configuration's key has sixteen bytes, its numbers are words. -/
import Derived.Test.YtkcchidklcnnnaaGreatCdM
import Derived.Test.YtkcchidklcnnnaaGreatMdUr
namespace Go.Proofs.YtkcchidklcnnnaaGreat
open Go.RowKit
set_option linter.unusedVariables false
set_option linter.unusedSimpArgs false
theorem bel_oth1r {w w1 w2 : World} {q : Nat} (h : Below w.heap.size w w1) (ho : Oth [q] w1 w2) (hq : w.heap.size ≤ q) : Below w.heap.size w w2 :=
  h.trans (ho.below (fun k hk => by rw [List.mem_singleton.1 hk]; exact hq) h.size)
theorem ret_zeror {w w' : World} (z : Int) (h : Below w.heap.size w w') : RetPR (zPrt, z) w (.returned (.tuple #[.agg zcel.toArray, .int .i64 z])) w' := (ret_zero z h).rd
set_option maxRecDepth 100000 in
theorem rcpoint_any (x : UInt8) (w : World) :
    Calls Tryz.prog 34 #[.int .u8 (x.toNat : Int)] w fun e w' => e = .returned (.int .i64 (pntB x)) ∧ w = w' := by
  have hx := x.toNat_lt
  have h : (x.toNat : Int).tdiv 64 = (x.toNat : Int) / 64 := Int.tdiv_eq_ediv_of_nonneg (by omega)
  rw [pnt_nat]
  go_enter Tryz.func34, Tryz.ntmps34
  go_wp2_with fail
  go_ret
  exact ⟨rfl, rfl⟩
set_option maxRecDepth 100000 in
theorem rctold_any (x : UInt8) (w : World) :
    Calls Tryz.prog 47 #[.int .u8 (x.toNat : Int)] w fun e w' => e = .returned (.int .i64 (tldB x)) ∧ w = w' := by
  have hx := x.toNat_lt
  have h : (x.toNat : Int).tmod 64 = (x.toNat : Int) % 64 := Int.tmod_eq_emod_of_nonneg (by omega)
  rw [tld_nat]
  go_enter Tryz.func47, Tryz.ntmps47
  go_wp2_with fail
  go_ret
  exact ⟨rfl, rfl⟩
attribute [local irreducible] Cfg.val Cfg.cells rtB Rt zK sizeC AV bytC rawC zeroC turnC wayC encL decL tableL backL passesR cntP idB codM codB prtC pcel zcel
attribute [local go_sem ↓] ex_ldR ex_stPr
set_option maxRecDepth 100000 in
set_option maxHeartbeats 4000000 in
theorem rcback_state (c : Cfg) (h : c.ok) (A : Option Addr) (n d : Nat) (l : List UInt8) (w : World) (hA : RB w w.heap.size A n l) (hd : n ≤ d) (hr : rtB c = false) :
    Calls Tryz.prog 35 #[c.val, .slice A n d] w (RetPR (codB c l) w) := by
  have HC := Lib.hid h
  have HE := Lib.hid (codB_state (l := l) hr)
  have HR := Lib.hid (fun u => rmright_any c h false hr u)
  clear h hr hA hd
  go_enter Tryz.func35, Tryz.ntmps35
  go_wp2_with (first | (refine wpList_boxB rfl 29 (.tmp 0) rfl c.cells (val_agg c) ?_; intro w1 q hc1 hb1 hx1; have K1 := Lib.hid ((GK.start w).add hb1 hc1); have ql := ld_cfg rt_rcfg (K1.out.blk _ (.head _)) HC.out; clear hc1 hb1 hx1) | (refine wpList_newB rt_rprt rfl rfl ?_; intro w2 q2 hc2 hb2 hx2; have KV := Lib.hid (And.intro (K1.out.add hb2 hc2) (And.intro (Nat.le_trans K1.out.bel.size hx2) (Lib.hid (Nat.ne_of_lt (Nat.lt_of_lt_of_le (K1.out.blk _ (.head _)).lt hx2))))); have ql := ld_cfg rt_rcfg (KV.out.1.blk _ (.tail _ (.head _))) HC.out; clear hc2 hb2 hx2))
  have K2 := Lib.hid KV.out.1
  have HQ := Lib.hid KV.out.2
  refine (HR.out _).mono ?_
  rintro e w3 ⟨rfl, hb⟩
  have K3 := Lib.hid (K2.out.step hb)
  clear hb ql K2
  have ql := ld_cfg rt_rcfg (K3.out.blk _ (.tail _ (.head _))) HC.out
  go_wp2_with (first | (refine wpList_stB rt_rprt rfl (.tmp 4) (.tmp 11) rfl q2 0 rfl zcel zcel zcel_lit zcel_one rfl (by exact K3.out.blk _ (.head _)) (by rw [zcel_len]; decide) ?_; intro w9 hc2 ho2 hs2; have K9 := Lib.hid (And.intro hc2 (And.intro ho2 hs2)); clear hc2 ho2 hs2))
  rw [HE.out]
  refine bodyPost_ret (res_rec2 rt_rprt rfl _ _ q2 zcel (.int .i64 19) rfl rfl (by have := K9.out.1; rwa [puts_whole _ _ rfl] at this) rfl) rfl (ret_zeror _ (bel_oth1r K3.out.bel K9.out.2.1 HQ.out.1))
set_option maxRecDepth 100000 in
set_option maxHeartbeats 4000000 in
theorem rcback_range (c : Cfg) (h : c.ok) (A : Option Addr) (n d : Nat) (l : List UInt8) (w : World) (hA : RB w w.heap.size A n l) (hd : n ≤ d) (hr : rtB c = true) (hl : ¬ (l.length : Int) = 1 + (c.s + c.n)) :
    Calls Tryz.prog 35 #[c.val, .slice A n d] w (RetPR (codB c l) w) := by
  have HC := Lib.hid h
  have HE := Lib.hid (codB_range hr hl)
  have HR := Lib.hid (fun u => rmright_any c h true hr u)
  obtain ⟨z, hz⟩ : ∃ z, sizeC c = z := ⟨_, rfl⟩
  have hz2 : z = 1 + (c.s + c.n) := by rw [← hz, size_ok hr]
  have HS := Lib.hid (fun u => rmsize_any c h z hz u)
  have d1 : ((n : Int) != z) = true := by rw [bne_iff_ne, hz2, ← hA.len]; exact hl
  clear h hr hA hd hl hz hz2
  go_enter Tryz.func35, Tryz.ntmps35
  go_wp2_with (first | (refine wpList_boxB rfl 29 (.tmp 0) rfl c.cells (val_agg c) ?_; intro w1 q hc1 hb1 hx1; have K1 := Lib.hid ((GK.start w).add hb1 hc1); have ql := ld_cfg rt_rcfg (K1.out.blk _ (.head _)) HC.out; clear hc1 hb1 hx1) | (refine wpList_newB rt_rprt rfl rfl ?_; intro w2 q2 hc2 hb2 hx2; have KV := Lib.hid (And.intro (K1.out.add hb2 hc2) (And.intro (Nat.le_trans K1.out.bel.size hx2) (Lib.hid (Nat.ne_of_lt (Nat.lt_of_lt_of_le (K1.out.blk _ (.head _)).lt hx2))))); have ql := ld_cfg rt_rcfg (KV.out.1.blk _ (.tail _ (.head _))) HC.out; clear hc2 hb2 hx2))
  have K2 := Lib.hid KV.out.1
  have HQ := Lib.hid KV.out.2
  refine (HR.out _).mono ?_
  rintro e w3 ⟨rfl, hb⟩
  have K3 := Lib.hid (K2.out.step hb)
  clear hb ql K2
  have ql := ld_cfg rt_rcfg (K3.out.blk _ (.tail _ (.head _))) HC.out
  go_wp2_with fail
  refine (HS.out _).mono ?_
  rintro e w4 ⟨rfl, hb⟩
  have K4 := Lib.hid (K3.out.step hb)
  clear hb ql K3
  have ql := ld_cfg rt_rcfg (K4.out.blk _ (.tail _ (.head _))) HC.out
  go_wp2_with (first | (refine wpList_stB rt_rprt rfl (.tmp 4) (.tmp 17) rfl q2 0 rfl zcel zcel zcel_lit zcel_one rfl (by exact K4.out.blk _ (.head _)) (by rw [zcel_len]; decide) ?_; intro w9 hc2 ho2 hs2; have K9 := Lib.hid (And.intro hc2 (And.intro ho2 hs2)); clear hc2 ho2 hs2))
  rw [HE.out]
  refine bodyPost_ret (res_rec2 rt_rprt rfl _ _ q2 zcel (.int .i64 11) rfl rfl (by have := K9.out.1; rwa [puts_whole _ _ rfl] at this) rfl) rfl (ret_zeror _ (bel_oth1r K4.out.bel K9.out.2.1 HQ.out.1))
set_option maxRecDepth 100000 in
set_option maxHeartbeats 4000000 in
theorem rcback_form (c : Cfg) (h : c.ok) (A : Option Addr) (n d : Nat) (l : List UInt8) (w : World) (hA : RB w w.heap.size A n l) (hd : n ≤ d) (hr : rtB c = true) (hl : (l.length : Int) = 1 + (c.s + c.n)) (ht : ¬ tldB (l.getD 0 0) = l.length) :
    Calls Tryz.prog 35 #[c.val, .slice A n d] w (RetPR (codB c l) w) := by
  have HC := Lib.hid h
  have HR := Lib.hid (fun u => rmright_any c h true hr u)
  obtain ⟨r1, r2, r3, r4, r5, _⟩ := rt_unf (rt_of hr)
  have hA1 := hA.len
  have hn0 : 0 < n := by omega
  have HS := Lib.hid (fun u => rmsize_any c h (n : Int) (by rw [size_ok hr, ← hl, hA1]) u)
  have hfr := fun (u : World) (hu : RB u u.heap.size A n l) => hu.rest hn0 hd
  obtain ⟨g, o, rfl⟩ := hA.some_ hn0
  obtain ⟨x, hx⟩ : ∃ x, l.getD 0 0 = x := ⟨_, rfl⟩
  have HF := Lib.hid (fun (u : World) (hu : RB u u.heap.size (some ⟨g, o, none⟩) n l) => first_cell hu hn0)
  rw [hx] at HF
  have HA := Lib.hid hA
  have dn : ((n : Int) != (n : Int)) = false := bne_self_eq_false _
  have di : (0 : Int) < (n : Int) := by omega
  obtain ⟨v, hv⟩ : ∃ v, tldB x = v := ⟨_, rfl⟩
  have HTL := Lib.hid (fun u => rctold_any x u)
  rw [hv] at HTL
  
  have HE := Lib.hid (codB_form hr hl ht)
  have d1 : (v != (n : Int)) = true := by rw [bne_iff_ne, ← hv, ← hx, ← hA1]; exact ht
  clear h hr hA hd hl ht r1 r2 r3 r4 r5 hA1 hn0 hfr hx hv
  go_enter Tryz.func35, Tryz.ntmps35
  go_wp2_with (first | (refine wpList_boxB rfl 29 (.tmp 0) rfl c.cells (val_agg c) ?_; intro w1 q hc1 hb1 hx1; have K1 := Lib.hid ((GK.start w).add hb1 hc1); have ql := ld_cfg rt_rcfg (K1.out.blk _ (.head _)) HC.out; clear hc1 hb1 hx1) | (refine wpList_newB rt_rprt rfl rfl ?_; intro w2 q2 hc2 hb2 hx2; have KV := Lib.hid (And.intro (K1.out.add hb2 hc2) (And.intro (Nat.le_trans K1.out.bel.size hx2) (Lib.hid (Nat.ne_of_lt (Nat.lt_of_lt_of_le (K1.out.blk _ (.head _)).lt hx2))))); have ql := ld_cfg rt_rcfg (KV.out.1.blk _ (.tail _ (.head _))) HC.out; clear hc2 hb2 hx2))
  have K2 := Lib.hid KV.out.1
  have HQ := Lib.hid KV.out.2
  refine (HR.out _).mono ?_
  rintro e w3 ⟨rfl, hb⟩
  have K3 := Lib.hid (K2.out.step hb)
  clear hb ql K2
  have ql := ld_cfg rt_rcfg (K3.out.blk _ (.tail _ (.head _))) HC.out
  go_wp2_with fail
  refine (HS.out _).mono ?_
  rintro e w4 ⟨rfl, hb⟩
  have K4 := Lib.hid (K3.out.step hb)
  clear hb ql K3
  have ql := ld_cfg rt_rcfg (K4.out.blk _ (.tail _ (.head _))) HC.out
  have f4 := HF.out _ (HA.out.step K4.out.bel)
  go_wp2_with fail
  refine (HTL.out _).mono ?_
  rintro e w5 ⟨rfl, rfl⟩
  go_wp2_with (first | (refine wpList_stB rt_rprt rfl (.tmp 4) (.tmp 25) rfl q2 0 rfl zcel zcel zcel_lit zcel_one rfl (by exact K4.out.blk _ (.head _)) (by rw [zcel_len]; decide) ?_; intro w9 hc2 ho2 hs2; have K9 := Lib.hid (And.intro hc2 (And.intro ho2 hs2)); clear hc2 ho2 hs2))
  rw [HE.out]
  refine bodyPost_ret (res_rec2 rt_rprt rfl _ _ q2 zcel (.int .i64 10) rfl rfl (by have := K9.out.1; rwa [puts_whole _ _ rfl] at this) rfl) rfl (ret_zeror _ (bel_oth1r K4.out.bel K9.out.2.1 HQ.out.1))
set_option maxRecDepth 100000 in
set_option maxHeartbeats 4000000 in
theorem rcback_ok (c : Cfg) (h : c.ok) (A : Option Addr) (n d : Nat) (l : List UInt8) (w : World) (hA : RB w w.heap.size A n l) (hd : n ≤ d) (hr : rtB c = true) (hl : (l.length : Int) = 1 + (c.s + c.n)) (ht : tldB (l.getD 0 0) = l.length) :
    Calls Tryz.prog 35 #[c.val, .slice A n d] w (RetPR (codB c l) w) := by
  have HC := Lib.hid h
  have HR := Lib.hid (fun u => rmright_any c h true hr u)
  obtain ⟨r1, r2, r3, r4, r5, _⟩ := rt_unf (rt_of hr)
  have hA1 := hA.len
  have hn0 : 0 < n := by omega
  have HS := Lib.hid (fun u => rmsize_any c h (n : Int) (by rw [size_ok hr, ← hl, hA1]) u)
  have hfr := fun (u : World) (hu : RB u u.heap.size A n l) => hu.rest hn0 hd
  obtain ⟨g, o, rfl⟩ := hA.some_ hn0
  obtain ⟨x, hx⟩ : ∃ x, l.getD 0 0 = x := ⟨_, rfl⟩
  have HF := Lib.hid (fun (u : World) (hu : RB u u.heap.size (some ⟨g, o, none⟩) n l) => first_cell hu hn0)
  rw [hx] at HF
  have HA := Lib.hid hA
  have dn : ((n : Int) != (n : Int)) = false := bne_self_eq_false _
  have di : (0 : Int) < (n : Int) := by omega
  obtain ⟨v, hv⟩ : ∃ v, tldB x = v := ⟨_, rfl⟩
  have HTL := Lib.hid (fun u => rctold_any x u)
  rw [hv] at HTL
  
  have HE := Lib.hid (codB_ok hr hl ht)
  have hd1 : ((l.drop 1).length : Int) = c.s + c.n := by rw [List.length_drop]; omega
  have hT := turn_ok (back := true) hr hd1
  have hW := way_len (back := true) (rt_of hr) h.k hd1
  have hp : prtC c l = ⟨pntB x, (wayC c true (l.drop 1)).take c.s.toNat, (wayC c true (l.drop 1)).drop c.s.toNat⟩ := by unfold prtC; rw [hx]
  obtain ⟨k, hk⟩ : ∃ k : Nat, c.s = (k : Int) := ⟨c.s.toNat, by omega⟩
  rw [hk, Int.toNat_natCast] at hp
  obtain ⟨X, hX1⟩ : ∃ X, wayC c true (l.drop 1) = X := ⟨_, rfl⟩
  rw [hX1] at hT hW hp
  have HX : Hid (X.length = n - 1) := Lib.hid (by rw [hW, List.length_drop, hA1])
  have HT := Lib.hid hT
  have HP := Lib.hid hp
  have HK := Lib.hid hk
  have HKN : Hid (k ≤ n - 1 ∧ n ≤ 20 ∧ k ≤ 20) := Lib.hid (by omega)
  have HN0 := Lib.hid hn0
  have HFR := Lib.hid hfr
  have HPT := Lib.hid (fun u => rcpoint_any x u)
  have HDD := Lib.hid hd
  have d1 : (v != (n : Int)) = false := by rw [bne_eq_false_iff_eq, ← hv, ← hx, ← hA1]; exact ht
  have HC1 := Lib.hid (cut_1 (some ⟨g, o, none⟩) n d (by omega))
  obtain ⟨y, hy⟩ : ∃ y, pntB x = y := ⟨_, rfl⟩
  rw [hy] at HP HPT
  clear h hr hA hd hl ht r1 r2 r3 r4 r5 hA1 hn0 hfr hx hv hd1 hT hW hp hk hX1 hy
  go_enter Tryz.func35, Tryz.ntmps35
  go_wp2_with (first | (refine wpList_boxB rfl 29 (.tmp 0) rfl c.cells (val_agg c) ?_; intro w1 q hc1 hb1 hx1; have K1 := Lib.hid ((GK.start w).add hb1 hc1); have ql := ld_cfg rt_rcfg (K1.out.blk _ (.head _)) HC.out; clear hc1 hb1 hx1) | (refine wpList_newB rt_rprt rfl rfl ?_; intro w2 q2 hc2 hb2 hx2; have KV := Lib.hid (And.intro (K1.out.add hb2 hc2) (And.intro (Nat.le_trans K1.out.bel.size hx2) (Lib.hid (Nat.ne_of_lt (Nat.lt_of_lt_of_le (K1.out.blk _ (.head _)).lt hx2))))); have ql := ld_cfg rt_rcfg (KV.out.1.blk _ (.tail _ (.head _))) HC.out; clear hc2 hb2 hx2))
  have K2 := Lib.hid KV.out.1
  have HQ := Lib.hid KV.out.2
  refine (HR.out _).mono ?_
  rintro e w3 ⟨rfl, hb⟩
  have K3 := Lib.hid (K2.out.step hb)
  clear hb ql K2
  have ql := ld_cfg rt_rcfg (K3.out.blk _ (.tail _ (.head _))) HC.out
  go_wp2_with fail
  refine (HS.out _).mono ?_
  rintro e w4 ⟨rfl, hb⟩
  have K4 := Lib.hid (K3.out.step hb)
  clear hb ql K3
  have ql := ld_cfg rt_rcfg (K4.out.blk _ (.tail _ (.head _))) HC.out
  have f4 := HF.out _ (HA.out.step K4.out.bel)
  go_wp2_with fail
  refine (HTL.out _).mono ?_
  rintro e w5 ⟨rfl, rfl⟩
  go_wp2_with fail
  clear ql f4
  have K5 := Lib.hid K4.out.draw
  have HD : Blk 29 w4.drew q c.cells := K5.out.blk _ (.tail _ (.head _))
  refine wp_region_held_drew (S := fun w' => Blk 29 w' q c.cells) (by kernel_rfl) HD (fun hHeld => ?_)
  (try dsimp only at hHeld)
  refine wpAnyH_take (i := 0) (v := ?v0_9) rfl (by kernel_rfl) (by kernel_rfl) (by kernel_rfl) (fun _ _ _ h => h) (Or.inl ⟨by rfl, ?hy0_9⟩) hHeld ?_
  case hy0_9 => (intro w hSw; (try dsimp only at hSw); have q0 := ld_cfg rt_rcfg hSw HC.out; have q1 := HC1.out w; (try simp only [List.getElem_toArray, List.getElem_cons_zero, List.getElem_cons_succ]); go_simp <;> with_reducible rfl)
  (try simp only [Act.put, List.getElem_toArray, List.getElem_cons_zero, List.getElem_cons_succ, List.setIfInBounds_toArray, List.set_cons_zero, List.set_cons_succ])
  refine wpAnyH_take (i := 1) (v := ?v1_10) rfl (by kernel_rfl) (by kernel_rfl) (by kernel_rfl) (fun _ _ _ h => h) (Or.inl ⟨by rfl, ?hy1_10⟩) hHeld ?_
  case hy1_10 => (intro w hSw; (try dsimp only at hSw); have q0 := ld_cfg rt_rcfg hSw HC.out; have q1 := HC1.out w; (try simp only [List.getElem_toArray, List.getElem_cons_zero, List.getElem_cons_succ]); go_simp <;> with_reducible rfl)
  (try simp only [Act.put, List.getElem_toArray, List.getElem_cons_zero, List.getElem_cons_succ, List.setIfInBounds_toArray, List.set_cons_zero, List.set_cons_succ])
  refine wpAnyH_take (i := 2) (v := ?v2_11) rfl (by kernel_rfl) (by kernel_rfl) (by kernel_rfl) (fun _ _ _ h => h) (Or.inl ⟨by rfl, ?hy2_11⟩) hHeld ?_
  case hy2_11 => (intro w hSw; (try dsimp only at hSw); have q0 := ld_cfg rt_rcfg hSw HC.out; have q1 := HC1.out w; (try simp only [List.getElem_toArray, List.getElem_cons_zero, List.getElem_cons_succ]); go_simp <;> with_reducible rfl)
  (try simp only [Act.put, List.getElem_toArray, List.getElem_cons_zero, List.getElem_cons_succ, List.setIfInBounds_toArray, List.set_cons_zero, List.set_cons_succ])
  refine wpAnyH_ready (rs := [3]) (by kernel_rfl) (by simp) ?_
  refine AllReadyH.cons rfl (fun K hK => ?_) AllReadyH.nil
  (try simp only [List.getElem_toArray, List.getElem_cons_zero, List.getElem_cons_succ])
  go_simp
  refine (rmback_any c HC.out (cutA (some ⟨g, o, none⟩) d 1) (n - 1) (d - 1) (l.drop 1) _ (by exact HFR.out _ (HA.out.step K5.out.bel)) (by have := HDD.out; omega) (by have := HKN.out; omega)).mono ?_
  rw [HT.out]
  dsimp only
  rw [HX.out]
  rintro e w6 ⟨A6, c6, rfl, ho, hb⟩
  have K6 := Lib.hid (K5.out.ret hb ho)
  clear ho hb K5 K4
  (try go_wp2_with fail)
  refine hK.out _ _ (K6.out.blk _ (.tail _ (.head _))) (fun hHeld => ?_)
  clear hK K
  (try simp only [Act.put, List.getElem_toArray, List.getElem_cons_zero, List.getElem_cons_succ, List.setIfInBounds_toArray, List.set_cons_zero, List.set_cons_succ])
  refine wpAnyH_take (i := 4) (v := ?v4_12) rfl (by kernel_rfl) (by kernel_rfl) (by kernel_rfl) (fun _ _ _ h => h) (Or.inl ⟨by rfl, ?hy4_12⟩) hHeld ?_
  case hy4_12 => (intro w hSw; (try dsimp only at hSw); (try simp only [List.getElem_toArray, List.getElem_cons_zero, List.getElem_cons_succ]); go_simp <;> with_reducible rfl)
  (try simp only [Act.put, List.getElem_toArray, List.getElem_cons_zero, List.getElem_cons_succ, List.setIfInBounds_toArray, List.set_cons_zero, List.set_cons_succ])
  refine wpAnyH_take (i := 5) (v := ?v5_13) rfl (by kernel_rfl) (by kernel_rfl) (by kernel_rfl) (fun _ _ _ h => h) (Or.inl ⟨by rfl, ?hy5_13⟩) hHeld ?_
  case hy5_13 => (intro w hSw; (try dsimp only at hSw); (try simp only [List.getElem_toArray, List.getElem_cons_zero, List.getElem_cons_succ]); go_simp <;> with_reducible rfl)
  (try simp only [Act.put, List.getElem_toArray, List.getElem_cons_zero, List.getElem_cons_succ, List.setIfInBounds_toArray, List.set_cons_zero, List.set_cons_succ])
  refine wpAnyH_take (i := 6) (v := ?v6_14) rfl (by kernel_rfl) (by kernel_rfl) (by kernel_rfl) (fun _ _ _ h => h) (Or.inl ⟨by rfl, ?hy6_14⟩) hHeld ?_
  case hy6_14 => (intro w hSw; (try dsimp only at hSw); (try simp only [List.getElem_toArray, List.getElem_cons_zero, List.getElem_cons_succ]); go_simp <;> with_reducible rfl)
  (try simp only [Act.put, List.getElem_toArray, List.getElem_cons_zero, List.getElem_cons_succ, List.setIfInBounds_toArray, List.set_cons_zero, List.set_cons_succ])
  refine wpAnyH_take (i := 7) (v := ?v7_15) rfl (by kernel_rfl) (by kernel_rfl) (by kernel_rfl) (fun _ _ _ h => h) (Or.inl ⟨by rfl, ?hy7_15⟩) hHeld ?_
  case hy7_15 => (intro w hSw; (try dsimp only at hSw); (try simp only [List.getElem_toArray, List.getElem_cons_zero, List.getElem_cons_succ]); go_simp <;> with_reducible rfl)
  (try simp only [Act.put, List.getElem_toArray, List.getElem_cons_zero, List.getElem_cons_succ, List.setIfInBounds_toArray, List.set_cons_zero, List.set_cons_succ])
  refine wpAnyH_take (i := 8) (v := ?v8_16) rfl (by kernel_rfl) (by kernel_rfl) (by kernel_rfl) (fun _ _ _ h => h) (Or.inl ⟨by rfl, ?hy8_16⟩) hHeld ?_
  case hy8_16 => (intro w hSw; (try dsimp only at hSw); (try simp only [List.getElem_toArray, List.getElem_cons_zero, List.getElem_cons_succ]); go_simp <;> with_reducible rfl)
  (try simp only [Act.put, List.getElem_toArray, List.getElem_cons_zero, List.getElem_cons_succ, List.setIfInBounds_toArray, List.set_cons_zero, List.set_cons_succ])
  refine wpAnyH_done (by kernel_rfl) ?_ _
  clear hHeld HD HT HFR HR HS HTL
  go_wp2_with fail
  have HO : Hid (OwnB w6 w.heap.size A6 (n - 1) c6 X) := Lib.hid (K6.out.own _ (.head _))
  have HXR := Lib.hid HO.out.rb
  have hc6 := HO.out.cap.1
  have HCH := Lib.hid (cut_h A6 (n - 1) c6 k (by have := HKN.out; omega))
  have HCL := Lib.hid (cut_l A6 (n - 1) c6 k (by have := HKN.out; omega))
  have HX2 : Hid (X.take k = (X.take k).drop 0 ∧ (X.take k).length = k ∧ (X.drop k).length = n - 1 - k) := Lib.hid ⟨rfl, by rw [List.length_take, HX.out]; have := HKN.out; omega, by rw [List.length_drop, HX.out]⟩
  have HRH := Lib.hid (fun (u : World) (hu : RB u u.heap.size A6 (n - 1) X) => (hu.part (i := 0) (j := k) (by omega) HKN.out.1 hc6 : RB u u.heap.size (cutA A6 c6 0) (k - 0) ((X.take k).drop 0)))
  have HRL := Lib.hid (fun (u : World) (hu : RB u u.heap.size A6 (n - 1) X) => (hu.part (i := k) (j := n - 1) HKN.out.1 (Nat.le_refl _) hc6 : RB u u.heap.size (cutA A6 c6 k) (n - 1 - k) ((X.take (n - 1)).drop k)))
  rw [Nat.sub_zero, List.drop_zero] at HRH
  rw [List.take_of_length_le (by rw [HX.out]; exact Nat.le_refl _)] at HRL
  have hck : (k : Int) ≤ (c6 : Int) := by have := HKN.out; omega
  have hkn : (k : Int) ≤ ((n - 1 : Nat) : Int) := by have := HKN.out; omega
  clear hc6
  have K7 := Lib.hid K6.out.draw
  have HD : Blk 29 w6.drew q c.cells ∧ RB w6.drew w6.drew.heap.size (some ⟨g, o, none⟩) n l := ⟨K7.out.blk _ (.tail _ (.head _)), HA.out.step K7.out.bel⟩
  refine wp_region_held_drew (S := fun w' => Blk 29 w' q c.cells ∧ RB w' w'.heap.size (some ⟨g, o, none⟩) n l) (by kernel_rfl) HD (fun hHeld => ?_)
  (try dsimp only at hHeld)
  refine wpAnyH_take (i := 0) (v := ?v0_17) rfl (by kernel_rfl) (by kernel_rfl) (by kernel_rfl) (fun _ _ _ h => h) (Or.inl ⟨by rfl, ?hy0_17⟩) hHeld ?_
  case hy0_17 => (intro w hSw; (try dsimp only at hSw); have q9 := HN0.out; have q1 := cf1 hSw.1; rw [HK.out] at q1; have q2 := HF.out _ hSw.2; have q3 := HCH.out w; have q4 := HCL.out w; (try simp only [List.getElem_toArray, List.getElem_cons_zero, List.getElem_cons_succ]); go_simp <;> with_reducible rfl)
  (try simp only [Act.put, List.getElem_toArray, List.getElem_cons_zero, List.getElem_cons_succ, List.setIfInBounds_toArray, List.set_cons_zero, List.set_cons_succ])
  refine wpAnyH_take (i := 1) (v := ?v1_18) rfl (by kernel_rfl) (by kernel_rfl) (by kernel_rfl) (fun _ _ _ h => h) (Or.inl ⟨by rfl, ?hy1_18⟩) hHeld ?_
  case hy1_18 => (intro w hSw; (try dsimp only at hSw); have q9 := HN0.out; have q1 := cf1 hSw.1; rw [HK.out] at q1; have q2 := HF.out _ hSw.2; have q3 := HCH.out w; have q4 := HCL.out w; (try simp only [List.getElem_toArray, List.getElem_cons_zero, List.getElem_cons_succ]); go_simp <;> with_reducible rfl)
  (try simp only [Act.put, List.getElem_toArray, List.getElem_cons_zero, List.getElem_cons_succ, List.setIfInBounds_toArray, List.set_cons_zero, List.set_cons_succ])
  refine wpAnyH_take (i := 2) (v := ?v2_19) rfl (by kernel_rfl) (by kernel_rfl) (by kernel_rfl) (fun _ _ _ h => h) (Or.inl ⟨by rfl, ?hy2_19⟩) hHeld ?_
  case hy2_19 => (intro w hSw; (try dsimp only at hSw); have q9 := HN0.out; have q1 := cf1 hSw.1; rw [HK.out] at q1; have q2 := HF.out _ hSw.2; have q3 := HCH.out w; have q4 := HCL.out w; (try simp only [List.getElem_toArray, List.getElem_cons_zero, List.getElem_cons_succ]); go_simp <;> with_reducible rfl)
  (try simp only [Act.put, List.getElem_toArray, List.getElem_cons_zero, List.getElem_cons_succ, List.setIfInBounds_toArray, List.set_cons_zero, List.set_cons_succ])
  refine wpAnyH_take (i := 4) (v := ?v4_20) rfl (by kernel_rfl) (by kernel_rfl) (by kernel_rfl) (fun _ _ _ h => h) (Or.inl ⟨by rfl, ?hy4_20⟩) hHeld ?_
  case hy4_20 => (intro w hSw; (try dsimp only at hSw); have q9 := HN0.out; have q1 := cf1 hSw.1; rw [HK.out] at q1; have q2 := HF.out _ hSw.2; have q3 := HCH.out w; have q4 := HCL.out w; (try simp only [List.getElem_toArray, List.getElem_cons_zero, List.getElem_cons_succ]); go_simp <;> with_reducible rfl)
  (try simp only [Act.put, List.getElem_toArray, List.getElem_cons_zero, List.getElem_cons_succ, List.setIfInBounds_toArray, List.set_cons_zero, List.set_cons_succ])
  refine wpAnyH_take (i := 5) (v := ?v5_21) rfl (by kernel_rfl) (by kernel_rfl) (by kernel_rfl) (fun _ _ _ h => h) (Or.inl ⟨by rfl, ?hy5_21⟩) hHeld ?_
  case hy5_21 => (intro w hSw; (try dsimp only at hSw); have q9 := HN0.out; have q1 := cf1 hSw.1; rw [HK.out] at q1; have q2 := HF.out _ hSw.2; have q3 := HCH.out w; have q4 := HCL.out w; (try simp only [List.getElem_toArray, List.getElem_cons_zero, List.getElem_cons_succ]); go_simp <;> with_reducible rfl)
  (try simp only [Act.put, List.getElem_toArray, List.getElem_cons_zero, List.getElem_cons_succ, List.setIfInBounds_toArray, List.set_cons_zero, List.set_cons_succ])
  refine wpAnyH_take (i := 6) (v := ?v6_22) rfl (by kernel_rfl) (by kernel_rfl) (by kernel_rfl) (fun _ _ _ h => h) (Or.inl ⟨by rfl, ?hy6_22⟩) hHeld ?_
  case hy6_22 => (intro w hSw; (try dsimp only at hSw); have q9 := HN0.out; have q1 := cf1 hSw.1; rw [HK.out] at q1; have q2 := HF.out _ hSw.2; have q3 := HCH.out w; have q4 := HCL.out w; (try simp only [List.getElem_toArray, List.getElem_cons_zero, List.getElem_cons_succ]); go_simp <;> with_reducible rfl)
  (try simp only [Act.put, List.getElem_toArray, List.getElem_cons_zero, List.getElem_cons_succ, List.setIfInBounds_toArray, List.set_cons_zero, List.set_cons_succ])
  refine wpAnyH_take (i := 7) (v := ?v7_23) rfl (by kernel_rfl) (by kernel_rfl) (by kernel_rfl) (fun _ _ _ h => h) (Or.inl ⟨by rfl, ?hy7_23⟩) hHeld ?_
  case hy7_23 => (intro w hSw; (try dsimp only at hSw); have q9 := HN0.out; have q1 := cf1 hSw.1; rw [HK.out] at q1; have q2 := HF.out _ hSw.2; have q3 := HCH.out w; have q4 := HCL.out w; (try simp only [List.getElem_toArray, List.getElem_cons_zero, List.getElem_cons_succ]); go_simp <;> with_reducible rfl)
  (try simp only [Act.put, List.getElem_toArray, List.getElem_cons_zero, List.getElem_cons_succ, List.setIfInBounds_toArray, List.set_cons_zero, List.set_cons_succ])
  refine wpAnyH_take (i := 8) (v := ?v8_24) rfl (by kernel_rfl) (by kernel_rfl) (by kernel_rfl) (fun _ _ _ h => h) (Or.inl ⟨by rfl, ?hy8_24⟩) hHeld ?_
  case hy8_24 => (intro w hSw; (try dsimp only at hSw); have q9 := HN0.out; have q1 := cf1 hSw.1; rw [HK.out] at q1; have q2 := HF.out _ hSw.2; have q3 := HCH.out w; have q4 := HCL.out w; (try simp only [List.getElem_toArray, List.getElem_cons_zero, List.getElem_cons_succ]); go_simp <;> with_reducible rfl)
  (try simp only [Act.put, List.getElem_toArray, List.getElem_cons_zero, List.getElem_cons_succ, List.setIfInBounds_toArray, List.set_cons_zero, List.set_cons_succ])
  refine wpAnyH_take (i := 9) (v := ?v9_25) rfl (by kernel_rfl) (by kernel_rfl) (by kernel_rfl) (fun _ _ _ h => h) (Or.inl ⟨by rfl, ?hy9_25⟩) hHeld ?_
  case hy9_25 => (intro w hSw; (try dsimp only at hSw); have q9 := HN0.out; have q1 := cf1 hSw.1; rw [HK.out] at q1; have q2 := HF.out _ hSw.2; have q3 := HCH.out w; have q4 := HCL.out w; (try simp only [List.getElem_toArray, List.getElem_cons_zero, List.getElem_cons_succ]); go_simp <;> with_reducible rfl)
  (try simp only [Act.put, List.getElem_toArray, List.getElem_cons_zero, List.getElem_cons_succ, List.setIfInBounds_toArray, List.set_cons_zero, List.set_cons_succ])
  refine wpAnyH_take (i := 10) (v := ?v10_26) rfl (by kernel_rfl) (by kernel_rfl) (by kernel_rfl) (fun _ _ _ h => h) (Or.inl ⟨by rfl, ?hy10_26⟩) hHeld ?_
  case hy10_26 => (intro w hSw; (try dsimp only at hSw); have q9 := HN0.out; have q1 := cf1 hSw.1; rw [HK.out] at q1; have q2 := HF.out _ hSw.2; have q3 := HCH.out w; have q4 := HCL.out w; (try simp only [List.getElem_toArray, List.getElem_cons_zero, List.getElem_cons_succ]); go_simp <;> with_reducible rfl)
  (try simp only [Act.put, List.getElem_toArray, List.getElem_cons_zero, List.getElem_cons_succ, List.setIfInBounds_toArray, List.set_cons_zero, List.set_cons_succ])
  refine wpAnyH_take (i := 11) (v := ?v11_27) rfl (by kernel_rfl) (by kernel_rfl) (by kernel_rfl) (fun _ _ _ h => h) (Or.inl ⟨by rfl, ?hy11_27⟩) hHeld ?_
  case hy11_27 => (intro w hSw; (try dsimp only at hSw); have q9 := HN0.out; have q1 := cf1 hSw.1; rw [HK.out] at q1; have q2 := HF.out _ hSw.2; have q3 := HCH.out w; have q4 := HCL.out w; (try simp only [List.getElem_toArray, List.getElem_cons_zero, List.getElem_cons_succ]); go_simp <;> with_reducible rfl)
  (try simp only [Act.put, List.getElem_toArray, List.getElem_cons_zero, List.getElem_cons_succ, List.setIfInBounds_toArray, List.set_cons_zero, List.set_cons_succ])
  refine wpAnyH_ready (rs := [3]) (by kernel_rfl) (by simp) ?_
  refine AllReadyH.cons rfl (fun K hK => ?_) AllReadyH.nil
  (try simp only [List.getElem_toArray, List.getElem_cons_zero, List.getElem_cons_succ])
  go_simp
  refine (HPT.out _).mono ?_
  rintro e w8 ⟨rfl, rfl⟩
  (try go_wp2_with fail)
  refine hK.out _ _ ⟨K7.out.blk _ (.tail _ (.head _)), HA.out.step K7.out.bel⟩ (fun hHeld => ?_)
  clear hK K
  (try simp only [Act.put, List.getElem_toArray, List.getElem_cons_zero, List.getElem_cons_succ, List.setIfInBounds_toArray, List.set_cons_zero, List.set_cons_succ])
  refine wpAnyH_take (i := 12) (v := ?v12_28) rfl (by kernel_rfl) (by kernel_rfl) (by kernel_rfl) (fun _ _ _ h => h) (Or.inl ⟨by rfl, ?hy12_28⟩) hHeld ?_
  case hy12_28 => (intro w hSw; (try dsimp only at hSw); (try simp only [List.getElem_toArray, List.getElem_cons_zero, List.getElem_cons_succ]); go_simp <;> with_reducible rfl)
  (try simp only [Act.put, List.getElem_toArray, List.getElem_cons_zero, List.getElem_cons_succ, List.setIfInBounds_toArray, List.set_cons_zero, List.set_cons_succ])
  have qs := st_prt (p := y) (A := cutA A6 c6 0) (n := k) (c := c6) (B := cutA A6 c6 k) (m := n - 1 - k) (d := c6 - k) rt_rprt (K7.out.blk _ (.head _))
  refine wpAnyH_ready (rs := [13]) (by kernel_rfl) (by simp) ?_
  refine AllReadyH.cons rfl (fun K hK => ?_) AllReadyH.nil
  (try simp only [List.getElem_toArray, List.getElem_cons_zero, List.getElem_cons_succ])
  go_simp
  have K8 := Lib.hid (K7.out.put (cs := pcel y (cutA A6 c6 0) k c6 (cutA A6 c6 k) (n - 1 - k) (c6 - k)) HQ.out.1 (K7.out.blk _ (.head _)) (show 47 ≠ 5 by decide) pcel_len)
  refine hK.out _ _ ⟨(K7.out.blk _ (.tail _ (.head _))).oth (oth_setCells q2 _ 0 _ _ (Oth.refl _ _)) (by simpa using HQ.out.2.out), HA.out.step K8.out.bel⟩ (fun hHeld => ?_)
  clear hK K
  (try simp only [Act.put, List.getElem_toArray, List.getElem_cons_zero, List.getElem_cons_succ, List.setIfInBounds_toArray, List.set_cons_zero, List.set_cons_succ])
  refine wpAnyH_take (i := 14) (v := ?v14_29) rfl (by kernel_rfl) (by kernel_rfl) (by kernel_rfl) (fun _ _ _ h => h) (Or.inl ⟨by rfl, ?hy14_29⟩) hHeld ?_
  case hy14_29 => (intro w hSw; (try dsimp only at hSw); (try simp only [List.getElem_toArray, List.getElem_cons_zero, List.getElem_cons_succ]); go_simp <;> with_reducible rfl)
  (try simp only [Act.put, List.getElem_toArray, List.getElem_cons_zero, List.getElem_cons_succ, List.setIfInBounds_toArray, List.set_cons_zero, List.set_cons_succ])
  refine wpAnyH_done (by kernel_rfl) ?_ _
  clear hHeld HD qs
  go_wp2_with fail
  rw [HE.out, HP.out]
  have hcap := HO.out.cap.2
  have hcap1 := HO.out.cap.1
  have hkn2 := HKN.out
  refine bodyPost_ret (res_rec2 rt_rprt rfl _ _ q2 (pcel y (cutA A6 c6 0) k c6 (cutA A6 c6 k) (n - 1 - k) (c6 - k)) (.int .i64 0) rfl rfl (by exact K8.out.blk _ (.head _)) pcel_len) rfl (ret_pr HX2.out.2.1 HX2.out.2.2 ⟨HRH.out _ (K8.out.own _ (.head _)).rb, by omega, hcap⟩ ⟨HRL.out _ (K8.out.own _ (.head _)).rb, by omega, by omega⟩ K8.out.bel)
theorem rcback_any (c : Cfg) (h : c.ok) (A : Option Addr) (n d : Nat) (l : List UInt8) (w : World) (hA : RB w w.heap.size A n l) (hd : n ≤ d) :
    Calls Tryz.prog 35 #[c.val, .slice A n d] w (RetPR (codB c l) w) := by
  cases hr : rtB c
  · exact rcback_state c h A n d l w hA hd hr
  by_cases hl : (l.length : Int) = 1 + (c.s + c.n)
  · by_cases ht : tldB (l.getD 0 0) = l.length
    · exact rcback_ok c h A n d l w hA hd hr hl ht
    · exact rcback_form c h A n d l w hA hd hr hl ht
  · exact rcback_range c h A n d l w hA hd hr hl
end Go.Proofs.YtkcchidklcnnnaaGreat
