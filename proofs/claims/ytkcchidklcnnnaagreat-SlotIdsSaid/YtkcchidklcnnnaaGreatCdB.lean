/- Layer 17: Make and Back. Condition: the slices' cells are readable; the configuration's key has sixteen bytes, its numbers are words. -/
import Derived.Test.YtkcchidklcnnnaaGreatCdM
import Derived.Test.YtkcchidklcnnnaaGreatMdU
import Derived.Test.YtkcchidklcnnnaaGreatMdL
namespace Go.Proofs.YtkcchidklcnnnaaGreat
open Go.RowKit
set_option linter.unusedVariables false
set_option linter.unusedSimpArgs false
attribute [local irreducible] Cfg.val Cfg.cells rtB Rt zK sizeC AV bytC rawC zeroC turnC wayC encL decL tableL backL passesR cntP idB codM codB prtC pcel zcel
attribute [local go_sem ↓] ex_ldC ex_stPt
set_option maxRecDepth 100000 in
set_option maxHeartbeats 4000000 in
theorem cmake_state (c : Cfg) (h : c.ok) (p : Int) (A : Option Addr) (n d : Nat) (s : List UInt8) (B : Option Addr) (m e : Nat) (t : List UInt8) (w : World) (hA : RB w w.heap.size A n s) (hB : RB w w.heap.size B m t) (hr : rtB c = false) :
    Calls Tryz.prog 21 #[c.val, .int .i64 p, .slice A n d, .slice B m e] w (RetBE (codM c p s t).1.length (codM c p s t).1 (codM c p s t).2 w) := by
  have HC := Lib.hid h
  have HE := Lib.hid (codM_state (p := p) (s := s) (n := t) hr)
  have HR := Lib.hid (fun u => mright_any c h false hr u)
  clear h hr hA hB
  go_enter Tryz.func21, Tryz.ntmps21
  go_wp2_with (first | (refine wpList_boxB rfl 35 (.tmp 0) rfl c.cells (val_agg c) ?_; intro w1 q hc1 hb1 hx1; have K1 := Lib.hid ((GK.start w).add hb1 hc1); have ql := ld_cfg rt_cfg (K1.out.blk _ (.head _)) HC.out; clear hc1 hb1 hx1))
  refine (HR.out _).mono ?_
  rintro e w2 ⟨rfl, hb⟩
  have K2 := Lib.hid (K1.out.step hb)
  clear hb ql K1
  go_wp2_with fail
  go_ret2
  rw [HE.out]
  exact ⟨none, 0, rfl, OwnB.nil_ _ _, K2.out.bel⟩
set_option maxRecDepth 100000 in
set_option maxHeartbeats 4000000 in
theorem cmake_neg (c : Cfg) (h : c.ok) (p : Int) (A : Option Addr) (n d : Nat) (s : List UInt8) (B : Option Addr) (m e : Nat) (t : List UInt8) (w : World) (hA : RB w w.heap.size A n s) (hB : RB w w.heap.size B m t) (hr : rtB c = true) (h1 : p < 0) :
    Calls Tryz.prog 21 #[c.val, .int .i64 p, .slice A n d, .slice B m e] w (RetBE (codM c p s t).1.length (codM c p s t).1 (codM c p s t).2 w) := by
  have HC := Lib.hid h
  have HLA := Lib.hid hA.len
  have HLB := Lib.hid hB.len
  have HE := Lib.hid (codM_range (p := p) (s := s) (n := t) hr (by have := HLA.out; have := HLB.out; omega))
  have HR := Lib.hid (fun u => mright_any c h true hr u)
  have d0 : decide (p < 0) = true := decide_eq_true h1
  clear h1
  clear h hr hA hB
  go_enter Tryz.func21, Tryz.ntmps21
  go_wp2_with (first | (refine wpList_boxB rfl 35 (.tmp 0) rfl c.cells (val_agg c) ?_; intro w1 q hc1 hb1 hx1; have K1 := Lib.hid ((GK.start w).add hb1 hc1); have ql := ld_cfg rt_cfg (K1.out.blk _ (.head _)) HC.out; clear hc1 hb1 hx1))
  refine (HR.out _).mono ?_
  rintro e w2 ⟨rfl, hb⟩
  have K2 := Lib.hid (K1.out.step hb)
  have c1 := cf1 (K2.out.blk _ (.head _))
  have c2 := cf2 (K2.out.blk _ (.head _))
  clear hb ql K1
  go_wp2_with fail
  go_ret2
  rw [HE.out]
  exact ⟨none, 0, rfl, OwnB.nil_ _ _, K2.out.bel⟩
set_option maxRecDepth 100000 in
set_option maxHeartbeats 4000000 in
theorem cmake_big (c : Cfg) (h : c.ok) (p : Int) (A : Option Addr) (n d : Nat) (s : List UInt8) (B : Option Addr) (m e : Nat) (t : List UInt8) (w : World) (hA : RB w w.heap.size A n s) (hB : RB w w.heap.size B m t) (hr : rtB c = true) (h1 : 3 ≤ p) :
    Calls Tryz.prog 21 #[c.val, .int .i64 p, .slice A n d, .slice B m e] w (RetBE (codM c p s t).1.length (codM c p s t).1 (codM c p s t).2 w) := by
  have HC := Lib.hid h
  have HLA := Lib.hid hA.len
  have HLB := Lib.hid hB.len
  have HE := Lib.hid (codM_range (p := p) (s := s) (n := t) hr (by have := HLA.out; have := HLB.out; omega))
  have HR := Lib.hid (fun u => mright_any c h true hr u)
  have d0 : decide (p < 0) = false := decide_eq_false (by omega)
  have d3 : decide (3 ≤ p) = true := decide_eq_true h1
  clear h1
  clear h hr hA hB
  go_enter Tryz.func21, Tryz.ntmps21
  go_wp2_with (first | (refine wpList_boxB rfl 35 (.tmp 0) rfl c.cells (val_agg c) ?_; intro w1 q hc1 hb1 hx1; have K1 := Lib.hid ((GK.start w).add hb1 hc1); have ql := ld_cfg rt_cfg (K1.out.blk _ (.head _)) HC.out; clear hc1 hb1 hx1))
  refine (HR.out _).mono ?_
  rintro e w2 ⟨rfl, hb⟩
  have K2 := Lib.hid (K1.out.step hb)
  have c1 := cf1 (K2.out.blk _ (.head _))
  have c2 := cf2 (K2.out.blk _ (.head _))
  clear hb ql K1
  go_wp2_with fail
  go_ret2
  rw [HE.out]
  exact ⟨none, 0, rfl, OwnB.nil_ _ _, K2.out.bel⟩
set_option maxRecDepth 100000 in
set_option maxHeartbeats 4000000 in
theorem cmake_sid (c : Cfg) (h : c.ok) (p : Int) (A : Option Addr) (n d : Nat) (s : List UInt8) (B : Option Addr) (m e : Nat) (t : List UInt8) (w : World) (hA : RB w w.heap.size A n s) (hB : RB w w.heap.size B m t) (hr : rtB c = true) (h1 : 0 ≤ p ∧ p < 3) (h2 : ¬ (n : Int) = c.s) :
    Calls Tryz.prog 21 #[c.val, .int .i64 p, .slice A n d, .slice B m e] w (RetBE (codM c p s t).1.length (codM c p s t).1 (codM c p s t).2 w) := by
  have HC := Lib.hid h
  have HLA := Lib.hid hA.len
  have HLB := Lib.hid hB.len
  have HE := Lib.hid (codM_range (p := p) (s := s) (n := t) hr (by have := HLA.out; have := HLB.out; omega))
  have HR := Lib.hid (fun u => mright_any c h true hr u)
  have d0 : decide (p < 0) = false := decide_eq_false (by omega)
  have d3 : decide (3 ≤ p) = false := decide_eq_false (by omega)
  have d4 : ((n : Int) != c.s) = true := by rw [bne_iff_ne]; exact h2
  clear h1 h2
  clear h hr hA hB
  go_enter Tryz.func21, Tryz.ntmps21
  go_wp2_with (first | (refine wpList_boxB rfl 35 (.tmp 0) rfl c.cells (val_agg c) ?_; intro w1 q hc1 hb1 hx1; have K1 := Lib.hid ((GK.start w).add hb1 hc1); have ql := ld_cfg rt_cfg (K1.out.blk _ (.head _)) HC.out; clear hc1 hb1 hx1))
  refine (HR.out _).mono ?_
  rintro e w2 ⟨rfl, hb⟩
  have K2 := Lib.hid (K1.out.step hb)
  have c1 := cf1 (K2.out.blk _ (.head _))
  have c2 := cf2 (K2.out.blk _ (.head _))
  clear hb ql K1
  go_wp2_with fail
  go_ret2
  rw [HE.out]
  exact ⟨none, 0, rfl, OwnB.nil_ _ _, K2.out.bel⟩
set_option maxRecDepth 100000 in
set_option maxHeartbeats 4000000 in
theorem cmake_nonce (c : Cfg) (h : c.ok) (p : Int) (A : Option Addr) (n d : Nat) (s : List UInt8) (B : Option Addr) (m e : Nat) (t : List UInt8) (w : World) (hA : RB w w.heap.size A n s) (hB : RB w w.heap.size B m t) (hr : rtB c = true) (h1 : 0 ≤ p ∧ p < 3) (h2 : (n : Int) = c.s) (h3 : ¬ (m : Int) = c.n) :
    Calls Tryz.prog 21 #[c.val, .int .i64 p, .slice A n d, .slice B m e] w (RetBE (codM c p s t).1.length (codM c p s t).1 (codM c p s t).2 w) := by
  have HC := Lib.hid h
  have HLA := Lib.hid hA.len
  have HLB := Lib.hid hB.len
  have HE := Lib.hid (codM_range (p := p) (s := s) (n := t) hr (by have := HLA.out; have := HLB.out; omega))
  have HR := Lib.hid (fun u => mright_any c h true hr u)
  have d0 : decide (p < 0) = false := decide_eq_false (by omega)
  have d3 : decide (3 ≤ p) = false := decide_eq_false (by omega)
  have d4 : ((n : Int) != c.s) = false := by rw [bne_eq_false_iff_eq]; exact h2
  have d5 : ((m : Int) != c.n) = true := by rw [bne_iff_ne]; exact h3
  clear h1 h2 h3
  clear h hr hA hB
  go_enter Tryz.func21, Tryz.ntmps21
  go_wp2_with (first | (refine wpList_boxB rfl 35 (.tmp 0) rfl c.cells (val_agg c) ?_; intro w1 q hc1 hb1 hx1; have K1 := Lib.hid ((GK.start w).add hb1 hc1); have ql := ld_cfg rt_cfg (K1.out.blk _ (.head _)) HC.out; clear hc1 hb1 hx1))
  refine (HR.out _).mono ?_
  rintro e w2 ⟨rfl, hb⟩
  have K2 := Lib.hid (K1.out.step hb)
  have c1 := cf1 (K2.out.blk _ (.head _))
  have c2 := cf2 (K2.out.blk _ (.head _))
  clear hb ql K1
  go_wp2_with fail
  go_ret2
  rw [HE.out]
  exact ⟨none, 0, rfl, OwnB.nil_ _ _, K2.out.bel⟩
set_option maxRecDepth 100000 in
set_option maxHeartbeats 4000000 in
theorem cmake_ok (c : Cfg) (h : c.ok) (p : Int) (A : Option Addr) (n d : Nat) (s : List UInt8) (B : Option Addr) (m e : Nat) (t : List UInt8) (w : World) (hA : RB w w.heap.size A n s) (hB : RB w w.heap.size B m t) (hr : rtB c = true) (h1 : 0 ≤ p ∧ p < 3) (h2 : (n : Int) = c.s) (h3 : (m : Int) = c.n) :
    Calls Tryz.prog 21 #[c.val, .int .i64 p, .slice A n d, .slice B m e] w (RetBE (codM c p s t).1.length (codM c p s t).1 (codM c p s t).2 w) := by
  have HC := Lib.hid h
  have HLA := Lib.hid hA.len
  have HLB := Lib.hid hB.len
  have HA := Lib.hid hA
  have HB := Lib.hid hB
  obtain ⟨r1, r2, r3, r4, r5, _⟩ := rt_unf (rt_of hr)
  have hsn : (s.length : Int) = c.s ∧ (t.length : Int) = c.n := by have := HLA.out; have := HLB.out; omega
  have hE := codM_ok (p := p) (s := s) (n := t) hr ⟨⟨h1.1, by omega⟩, hsn⟩
  have hT := turn_ok (back := false) hr (both_len hsn)
  have hX := made_len hr h.k hsn
  obtain ⟨X, hX1⟩ : ∃ X, wayC c false (s ++ t) = X := ⟨_, rfl⟩
  rw [hX1] at hE hT hX
  have HE := Lib.hid hE
  have HT := Lib.hid hT
  have HX : Hid (X.length = n + m) := Lib.hid (by rw [hX, HLA.out, HLB.out])
  have HR := Lib.hid (fun u => mright_any c h true hr u)
  have HNM : Hid (n + m ≤ 19) := Lib.hid (by omega)
  have HLD := Lib.hid (fun (A : Option Addr) (d : Nat) (u : World) (hu : RB u u.heap.size A (n + m) X) => lead_any p h1.1 (by omega) A (n + m) d X u hu (by omega))
  have d0 : decide (p < 0) = false := decide_eq_false (by omega)
  have d3 : decide (3 ≤ p) = false := decide_eq_false (by omega)
  have d4 : ((n : Int) != c.s) = false := by rw [bne_eq_false_iff_eq]; exact h2
  have d5 : ((m : Int) != c.n) = false := by rw [bne_eq_false_iff_eq]; exact h3
  clear h hr hA hB h1 h2 h3 r1 r2 r3 r4 r5 hsn hE hT hX hX1
  go_enter Tryz.func21, Tryz.ntmps21
  go_wp2_with (first | (refine wpList_boxB rfl 35 (.tmp 0) rfl c.cells (val_agg c) ?_; intro w1 q hc1 hb1 hx1; have K1 := Lib.hid ((GK.start w).add hb1 hc1); have ql := ld_cfg rt_cfg (K1.out.blk _ (.head _)) HC.out; clear hc1 hb1 hx1))
  refine (HR.out _).mono ?_
  rintro e w2 ⟨rfl, hb⟩
  have K2 := Lib.hid (K1.out.step hb)
  have c1 := cf1 (K2.out.blk _ (.head _))
  have c2 := cf2 (K2.out.blk _ (.head _))
  clear hb ql K1
  go_wp2_with fail
  clear c1 c2
  have K3 := Lib.hid K2.out.draw
  have HD : Blk 35 w2.drew q c.cells := K3.out.blk _ (.head _)
  refine wp_region_held_drew (S := fun w' => Blk 35 w' q c.cells) (by kernel_rfl) HD (fun hHeld => ?_)
  (try dsimp only at hHeld)
  refine wpAnyH_take (i := 0) (v := ?v0_1) rfl (by kernel_rfl) (by kernel_rfl) (by kernel_rfl) (fun _ _ _ h => h) (Or.inl ⟨by rfl, ?hy0_1⟩) hHeld ?_
  case hy0_1 => (intro w hSw; (try dsimp only at hSw); have q0 := ld_cfg rt_cfg hSw HC.out; (try simp only [List.getElem_toArray, List.getElem_cons_zero, List.getElem_cons_succ]); go_simp <;> with_reducible rfl)
  (try simp only [Act.put, List.getElem_toArray, List.getElem_cons_zero, List.getElem_cons_succ, List.setIfInBounds_toArray, List.set_cons_zero, List.set_cons_succ])
  refine wpAnyH_take (i := 1) (v := ?v1_2) rfl (by kernel_rfl) (by kernel_rfl) (by kernel_rfl) (fun _ _ _ h => h) (Or.inl ⟨by rfl, ?hy1_2⟩) hHeld ?_
  case hy1_2 => (intro w hSw; (try dsimp only at hSw); have q0 := ld_cfg rt_cfg hSw HC.out; (try simp only [List.getElem_toArray, List.getElem_cons_zero, List.getElem_cons_succ]); go_simp <;> with_reducible rfl)
  (try simp only [Act.put, List.getElem_toArray, List.getElem_cons_zero, List.getElem_cons_succ, List.setIfInBounds_toArray, List.set_cons_zero, List.set_cons_succ])
  refine wpAnyH_take (i := 2) (v := ?v2_3) rfl (by kernel_rfl) (by kernel_rfl) (by kernel_rfl) (fun _ _ _ h => h) (Or.inl ⟨by rfl, ?hy2_3⟩) hHeld ?_
  case hy2_3 => (intro w hSw; (try dsimp only at hSw); have q0 := ld_cfg rt_cfg hSw HC.out; (try simp only [List.getElem_toArray, List.getElem_cons_zero, List.getElem_cons_succ]); go_simp <;> with_reducible rfl)
  (try simp only [Act.put, List.getElem_toArray, List.getElem_cons_zero, List.getElem_cons_succ, List.setIfInBounds_toArray, List.set_cons_zero, List.set_cons_succ])
  refine wpAnyH_ready (rs := [3]) (by kernel_rfl) (by simp) ?_
  refine AllReadyH.cons rfl (fun K hK => ?_) AllReadyH.nil
  (try simp only [List.getElem_toArray, List.getElem_cons_zero, List.getElem_cons_succ])
  go_simp
  have K4 := Lib.hid (K3.out.lit2 (.slice A n d) (.slice B m e))
  refine hK.out _ _ (K4.out.blk _ (.tail _ (.head _))) (fun hHeld => ?_)
  clear hK K
  (try simp only [Act.put, List.getElem_toArray, List.getElem_cons_zero, List.getElem_cons_succ, List.setIfInBounds_toArray, List.set_cons_zero, List.set_cons_succ])
  refine wpAnyH_ready (rs := [4]) (by kernel_rfl) (by simp) ?_
  refine AllReadyH.cons rfl (fun K hK => ?_) AllReadyH.nil
  (try simp only [List.getElem_toArray, List.getElem_cons_zero, List.getElem_cons_succ])
  go_simp
  refine (join2 _ _ s t (by exact rr_blk2 (K4.out.blk _ (.head _)) (by exact HA.out.step K4.out.bel) (by exact HB.out.step K4.out.bel)) (by rw [HLA.out, HLB.out]; have := HNM.out; omega)).mono ?_
  rintro e w5 ⟨A5, c5, rfl, ho, hb⟩
  rw [List.length_append, HLA.out, HLB.out] at ho ⊢
  have K5 := Lib.hid (K4.out.ret hb ho)
  clear ho hb K4 K3
  (try go_wp2_with fail)
  refine hK.out _ _ (K5.out.blk _ (.tail _ (.head _))) (fun hHeld => ?_)
  clear hK K
  (try simp only [Act.put, List.getElem_toArray, List.getElem_cons_zero, List.getElem_cons_succ, List.setIfInBounds_toArray, List.set_cons_zero, List.set_cons_succ])
  refine wpAnyH_ready (rs := [5]) (by kernel_rfl) (by simp) ?_
  refine AllReadyH.cons rfl (fun K hK => ?_) AllReadyH.nil
  (try simp only [List.getElem_toArray, List.getElem_cons_zero, List.getElem_cons_succ])
  go_simp
  refine (mturn_any c HC.out A5 (n + m) c5 (s ++ t) _ (by exact (K5.out.own _ (.head _)).rb) (by exact (K5.out.own _ (.head _)).cap.1) (by have := HNM.out; omega)).mono ?_
  rw [HT.out]
  dsimp only
  rw [HX.out]
  rintro e w6 ⟨A6, c6, rfl, ho, hb⟩
  have K6 := Lib.hid (K5.out.ret hb ho)
  clear ho hb K5
  (try go_wp2_with fail)
  refine hK.out _ _ (K6.out.blk _ (.tail _ (.head _))) (fun hHeld => ?_)
  clear hK K
  (try simp only [Act.put, List.getElem_toArray, List.getElem_cons_zero, List.getElem_cons_succ, List.setIfInBounds_toArray, List.set_cons_zero, List.set_cons_succ])
  refine wpAnyH_take (i := 6) (v := ?v6_4) rfl (by kernel_rfl) (by kernel_rfl) (by kernel_rfl) (fun _ _ _ h => h) (Or.inl ⟨by rfl, ?hy6_4⟩) hHeld ?_
  case hy6_4 => (intro w hSw; (try dsimp only at hSw); (try simp only [List.getElem_toArray, List.getElem_cons_zero, List.getElem_cons_succ]); go_simp <;> with_reducible rfl)
  (try simp only [Act.put, List.getElem_toArray, List.getElem_cons_zero, List.getElem_cons_succ, List.setIfInBounds_toArray, List.set_cons_zero, List.set_cons_succ])
  refine wpAnyH_take (i := 7) (v := ?v7_5) rfl (by kernel_rfl) (by kernel_rfl) (by kernel_rfl) (fun _ _ _ h => h) (Or.inl ⟨by rfl, ?hy7_5⟩) hHeld ?_
  case hy7_5 => (intro w hSw; (try dsimp only at hSw); (try simp only [List.getElem_toArray, List.getElem_cons_zero, List.getElem_cons_succ]); go_simp <;> with_reducible rfl)
  (try simp only [Act.put, List.getElem_toArray, List.getElem_cons_zero, List.getElem_cons_succ, List.setIfInBounds_toArray, List.set_cons_zero, List.set_cons_succ])
  refine wpAnyH_take (i := 8) (v := ?v8_6) rfl (by kernel_rfl) (by kernel_rfl) (by kernel_rfl) (fun _ _ _ h => h) (Or.inl ⟨by rfl, ?hy8_6⟩) hHeld ?_
  case hy8_6 => (intro w hSw; (try dsimp only at hSw); (try simp only [List.getElem_toArray, List.getElem_cons_zero, List.getElem_cons_succ]); go_simp <;> with_reducible rfl)
  (try simp only [Act.put, List.getElem_toArray, List.getElem_cons_zero, List.getElem_cons_succ, List.setIfInBounds_toArray, List.set_cons_zero, List.set_cons_succ])
  refine wpAnyH_take (i := 9) (v := ?v9_7) rfl (by kernel_rfl) (by kernel_rfl) (by kernel_rfl) (fun _ _ _ h => h) (Or.inl ⟨by rfl, ?hy9_7⟩) hHeld ?_
  case hy9_7 => (intro w hSw; (try dsimp only at hSw); (try simp only [List.getElem_toArray, List.getElem_cons_zero, List.getElem_cons_succ]); go_simp <;> with_reducible rfl)
  (try simp only [Act.put, List.getElem_toArray, List.getElem_cons_zero, List.getElem_cons_succ, List.setIfInBounds_toArray, List.set_cons_zero, List.set_cons_succ])
  refine wpAnyH_take (i := 10) (v := ?v10_8) rfl (by kernel_rfl) (by kernel_rfl) (by kernel_rfl) (fun _ _ _ h => h) (Or.inl ⟨by rfl, ?hy10_8⟩) hHeld ?_
  case hy10_8 => (intro w hSw; (try dsimp only at hSw); (try simp only [List.getElem_toArray, List.getElem_cons_zero, List.getElem_cons_succ]); go_simp <;> with_reducible rfl)
  (try simp only [Act.put, List.getElem_toArray, List.getElem_cons_zero, List.getElem_cons_succ, List.setIfInBounds_toArray, List.set_cons_zero, List.set_cons_succ])
  refine wpAnyH_done (by kernel_rfl) ?_ _
  clear hHeld HD
  go_wp2_with fail
  refine (HLD.out A6 c6 _ (by exact (K6.out.own _ (.head _)).rb)).mono ?_
  rintro e w7 ⟨A7, c7, rfl, ho, hb⟩
  have K7 := Lib.hid (K6.out.ret hb ho)
  clear ho hb K6
  go_wp2_with fail
  go_ret2
  rw [HE.out, idB_len, HX.out]
  exact ⟨A7, c7, rfl, K7.out.own _ (.head _), K7.out.bel⟩
theorem cmake_any (c : Cfg) (h : c.ok) (p : Int) (A : Option Addr) (n d : Nat) (s : List UInt8) (B : Option Addr) (m e : Nat) (t : List UInt8) (w : World) (hA : RB w w.heap.size A n s) (hB : RB w w.heap.size B m t) :
    Calls Tryz.prog 21 #[c.val, .int .i64 p, .slice A n d, .slice B m e] w (RetBE (codM c p s t).1.length (codM c p s t).1 (codM c p s t).2 w) := by
  cases hr : rtB c
  · exact cmake_state c h p A n d s B m e t w hA hB hr
  by_cases h1 : p < 0
  · exact cmake_neg c h p A n d s B m e t w hA hB hr h1
  by_cases h2 : 3 ≤ p
  · exact cmake_big c h p A n d s B m e t w hA hB hr h2
  by_cases h3 : (n : Int) = c.s
  · by_cases h4 : (m : Int) = c.n
    · exact cmake_ok c h p A n d s B m e t w hA hB hr ⟨by omega, by omega⟩ h3 h4
    · exact cmake_nonce c h p A n d s B m e t w hA hB hr ⟨by omega, by omega⟩ h3 h4
  · exact cmake_sid c h p A n d s B m e t w hA hB hr ⟨by omega, by omega⟩ h3
theorem bel_oth1c {w w1 w2 : World} {q : Nat} (h : Below w.heap.size w w1) (ho : Oth [q] w1 w2) (hq : w.heap.size ≤ q) : Below w.heap.size w w2 :=
  h.trans (ho.below (fun k hk => by rw [List.mem_singleton.1 hk]; exact hq) h.size)
set_option maxRecDepth 100000 in
set_option maxHeartbeats 4000000 in
theorem cback_state (c : Cfg) (h : c.ok) (A : Option Addr) (n d : Nat) (l : List UInt8) (w : World) (hA : RB w w.heap.size A n l) (hd : n ≤ d) (hr : rtB c = false) :
    Calls Tryz.prog 33 #[c.val, .slice A n d] w (RetPE (codB c l) w) := by
  have HC := Lib.hid h
  have HE := Lib.hid (codB_state (l := l) hr)
  have HR := Lib.hid (fun u => mright_any c h false hr u)
  clear h hr hA hd
  go_enter Tryz.func33, Tryz.ntmps33
  go_wp2_with (first | (refine wpList_boxB rfl 35 (.tmp 0) rfl c.cells (val_agg c) ?_; intro w1 q hc1 hb1 hx1; have K1 := Lib.hid ((GK.start w).add hb1 hc1); have ql := ld_cfg rt_cfg (K1.out.blk _ (.head _)) HC.out; clear hc1 hb1 hx1) | (refine wpList_newB rt_prt rfl rfl ?_; intro w2 q2 hc2 hb2 hx2; have KV := Lib.hid (And.intro (K1.out.add hb2 hc2) (And.intro (Nat.le_trans K1.out.bel.size hx2) (Lib.hid (Nat.ne_of_lt (Nat.lt_of_lt_of_le (K1.out.blk _ (.head _)).lt hx2))))); have ql := ld_cfg rt_cfg (KV.out.1.blk _ (.tail _ (.head _))) HC.out; clear hc2 hb2 hx2))
  have K2 := Lib.hid KV.out.1
  have HQ := Lib.hid KV.out.2
  refine (HR.out _).mono ?_
  rintro e w3 ⟨rfl, hb⟩
  have K3 := Lib.hid (K2.out.step hb)
  clear hb ql K2
  have ql := ld_cfg rt_cfg (K3.out.blk _ (.tail _ (.head _))) HC.out
  go_wp2_with (first | (refine wpList_stB rt_prt rfl (.tmp 4) (.tmp 11) rfl q2 0 rfl zcel zcel zcel_lit zcel_one rfl (by exact K3.out.blk _ (.head _)) (by rw [zcel_len]; decide) ?_; intro w9 hc2 ho2 hs2; have K9 := Lib.hid (And.intro hc2 (And.intro ho2 hs2)); clear hc2 ho2 hs2))
  rw [HE.out]
  refine bodyPost_ret (res_rec2 rt_prt rfl _ _ q2 zcel (.int .i64 19) rfl rfl (by have := K9.out.1; rwa [puts_whole _ _ rfl] at this) rfl) rfl (ret_zero _ (bel_oth1c K3.out.bel K9.out.2.1 HQ.out.1))
set_option maxRecDepth 100000 in
set_option maxHeartbeats 4000000 in
theorem cback_range (c : Cfg) (h : c.ok) (A : Option Addr) (n d : Nat) (l : List UInt8) (w : World) (hA : RB w w.heap.size A n l) (hd : n ≤ d) (hr : rtB c = true) (hl : ¬ (l.length : Int) = 1 + (c.s + c.n)) :
    Calls Tryz.prog 33 #[c.val, .slice A n d] w (RetPE (codB c l) w) := by
  have HC := Lib.hid h
  have HE := Lib.hid (codB_range hr hl)
  have HR := Lib.hid (fun u => mright_any c h true hr u)
  obtain ⟨z, hz⟩ : ∃ z, sizeC c = z := ⟨_, rfl⟩
  have hz2 : z = 1 + (c.s + c.n) := by rw [← hz, size_ok hr]
  have HS := Lib.hid (fun u => msize_any c h z hz u)
  have d1 : ((n : Int) != z) = true := by rw [bne_iff_ne, hz2, ← hA.len]; exact hl
  clear h hr hA hd hl hz hz2
  go_enter Tryz.func33, Tryz.ntmps33
  go_wp2_with (first | (refine wpList_boxB rfl 35 (.tmp 0) rfl c.cells (val_agg c) ?_; intro w1 q hc1 hb1 hx1; have K1 := Lib.hid ((GK.start w).add hb1 hc1); have ql := ld_cfg rt_cfg (K1.out.blk _ (.head _)) HC.out; clear hc1 hb1 hx1) | (refine wpList_newB rt_prt rfl rfl ?_; intro w2 q2 hc2 hb2 hx2; have KV := Lib.hid (And.intro (K1.out.add hb2 hc2) (And.intro (Nat.le_trans K1.out.bel.size hx2) (Lib.hid (Nat.ne_of_lt (Nat.lt_of_lt_of_le (K1.out.blk _ (.head _)).lt hx2))))); have ql := ld_cfg rt_cfg (KV.out.1.blk _ (.tail _ (.head _))) HC.out; clear hc2 hb2 hx2))
  have K2 := Lib.hid KV.out.1
  have HQ := Lib.hid KV.out.2
  refine (HR.out _).mono ?_
  rintro e w3 ⟨rfl, hb⟩
  have K3 := Lib.hid (K2.out.step hb)
  clear hb ql K2
  have ql := ld_cfg rt_cfg (K3.out.blk _ (.tail _ (.head _))) HC.out
  go_wp2_with fail
  refine (HS.out _).mono ?_
  rintro e w4 ⟨rfl, hb⟩
  have K4 := Lib.hid (K3.out.step hb)
  clear hb ql K3
  have ql := ld_cfg rt_cfg (K4.out.blk _ (.tail _ (.head _))) HC.out
  go_wp2_with (first | (refine wpList_stB rt_prt rfl (.tmp 4) (.tmp 17) rfl q2 0 rfl zcel zcel zcel_lit zcel_one rfl (by exact K4.out.blk _ (.head _)) (by rw [zcel_len]; decide) ?_; intro w9 hc2 ho2 hs2; have K9 := Lib.hid (And.intro hc2 (And.intro ho2 hs2)); clear hc2 ho2 hs2))
  rw [HE.out]
  refine bodyPost_ret (res_rec2 rt_prt rfl _ _ q2 zcel (.int .i64 11) rfl rfl (by have := K9.out.1; rwa [puts_whole _ _ rfl] at this) rfl) rfl (ret_zero _ (bel_oth1c K4.out.bel K9.out.2.1 HQ.out.1))
set_option maxRecDepth 100000 in
set_option maxHeartbeats 4000000 in
theorem cback_form (c : Cfg) (h : c.ok) (A : Option Addr) (n d : Nat) (l : List UInt8) (w : World) (hA : RB w w.heap.size A n l) (hd : n ≤ d) (hr : rtB c = true) (hl : (l.length : Int) = 1 + (c.s + c.n)) (ht : ¬ tldB (l.getD 0 0) = l.length) :
    Calls Tryz.prog 33 #[c.val, .slice A n d] w (RetPE (codB c l) w) := by
  have HC := Lib.hid h
  have HR := Lib.hid (fun u => mright_any c h true hr u)
  obtain ⟨r1, r2, r3, r4, r5, _⟩ := rt_unf (rt_of hr)
  have hA1 := hA.len
  have hn0 : 0 < n := by omega
  have HS := Lib.hid (fun u => msize_any c h (n : Int) (by rw [size_ok hr, ← hl, hA1]) u)
  have hfr := fun (u : World) (hu : RB u u.heap.size A n l) => hu.rest hn0 hd
  obtain ⟨g, o, rfl⟩ := hA.some_ hn0
  obtain ⟨x, hx⟩ : ∃ x, l.getD 0 0 = x := ⟨_, rfl⟩
  have HF := Lib.hid (fun (u : World) (hu : RB u u.heap.size (some ⟨g, o, none⟩) n l) => first_cell hu hn0)
  rw [hx] at HF
  have HA := Lib.hid hA
  have dn : ((n : Int) != (n : Int)) = false := bne_self_eq_false _
  have di : (0 : Int) < (n : Int) := by omega
  obtain ⟨v, hv⟩ : ∃ v, tldB x = v := ⟨_, rfl⟩
  have HTL := Lib.hid (fun u => ctold_any x u)
  rw [hv] at HTL
  
  have HE := Lib.hid (codB_form hr hl ht)
  have d1 : (v != (n : Int)) = true := by rw [bne_iff_ne, ← hv, ← hx, ← hA1]; exact ht
  clear h hr hA hd hl ht r1 r2 r3 r4 r5 hA1 hn0 hfr hx hv
  go_enter Tryz.func33, Tryz.ntmps33
  go_wp2_with (first | (refine wpList_boxB rfl 35 (.tmp 0) rfl c.cells (val_agg c) ?_; intro w1 q hc1 hb1 hx1; have K1 := Lib.hid ((GK.start w).add hb1 hc1); have ql := ld_cfg rt_cfg (K1.out.blk _ (.head _)) HC.out; clear hc1 hb1 hx1) | (refine wpList_newB rt_prt rfl rfl ?_; intro w2 q2 hc2 hb2 hx2; have KV := Lib.hid (And.intro (K1.out.add hb2 hc2) (And.intro (Nat.le_trans K1.out.bel.size hx2) (Lib.hid (Nat.ne_of_lt (Nat.lt_of_lt_of_le (K1.out.blk _ (.head _)).lt hx2))))); have ql := ld_cfg rt_cfg (KV.out.1.blk _ (.tail _ (.head _))) HC.out; clear hc2 hb2 hx2))
  have K2 := Lib.hid KV.out.1
  have HQ := Lib.hid KV.out.2
  refine (HR.out _).mono ?_
  rintro e w3 ⟨rfl, hb⟩
  have K3 := Lib.hid (K2.out.step hb)
  clear hb ql K2
  have ql := ld_cfg rt_cfg (K3.out.blk _ (.tail _ (.head _))) HC.out
  go_wp2_with fail
  refine (HS.out _).mono ?_
  rintro e w4 ⟨rfl, hb⟩
  have K4 := Lib.hid (K3.out.step hb)
  clear hb ql K3
  have ql := ld_cfg rt_cfg (K4.out.blk _ (.tail _ (.head _))) HC.out
  have f4 := HF.out _ (HA.out.step K4.out.bel)
  go_wp2_with fail
  refine (HTL.out _).mono ?_
  rintro e w5 ⟨rfl, rfl⟩
  go_wp2_with (first | (refine wpList_stB rt_prt rfl (.tmp 4) (.tmp 25) rfl q2 0 rfl zcel zcel zcel_lit zcel_one rfl (by exact K4.out.blk _ (.head _)) (by rw [zcel_len]; decide) ?_; intro w9 hc2 ho2 hs2; have K9 := Lib.hid (And.intro hc2 (And.intro ho2 hs2)); clear hc2 ho2 hs2))
  rw [HE.out]
  refine bodyPost_ret (res_rec2 rt_prt rfl _ _ q2 zcel (.int .i64 10) rfl rfl (by have := K9.out.1; rwa [puts_whole _ _ rfl] at this) rfl) rfl (ret_zero _ (bel_oth1c K4.out.bel K9.out.2.1 HQ.out.1))
set_option maxRecDepth 100000 in
set_option maxHeartbeats 4000000 in
theorem cback_ok (c : Cfg) (h : c.ok) (A : Option Addr) (n d : Nat) (l : List UInt8) (w : World) (hA : RB w w.heap.size A n l) (hd : n ≤ d) (hr : rtB c = true) (hl : (l.length : Int) = 1 + (c.s + c.n)) (ht : tldB (l.getD 0 0) = l.length) :
    Calls Tryz.prog 33 #[c.val, .slice A n d] w (RetPE (codB c l) w) := by
  have HC := Lib.hid h
  have HR := Lib.hid (fun u => mright_any c h true hr u)
  obtain ⟨r1, r2, r3, r4, r5, _⟩ := rt_unf (rt_of hr)
  have hA1 := hA.len
  have hn0 : 0 < n := by omega
  have HS := Lib.hid (fun u => msize_any c h (n : Int) (by rw [size_ok hr, ← hl, hA1]) u)
  have hfr := fun (u : World) (hu : RB u u.heap.size A n l) => hu.rest hn0 hd
  obtain ⟨g, o, rfl⟩ := hA.some_ hn0
  obtain ⟨x, hx⟩ : ∃ x, l.getD 0 0 = x := ⟨_, rfl⟩
  have HF := Lib.hid (fun (u : World) (hu : RB u u.heap.size (some ⟨g, o, none⟩) n l) => first_cell hu hn0)
  rw [hx] at HF
  have HA := Lib.hid hA
  have dn : ((n : Int) != (n : Int)) = false := bne_self_eq_false _
  have di : (0 : Int) < (n : Int) := by omega
  obtain ⟨v, hv⟩ : ∃ v, tldB x = v := ⟨_, rfl⟩
  have HTL := Lib.hid (fun u => ctold_any x u)
  rw [hv] at HTL
  
  have HE := Lib.hid (codB_ok hr hl ht)
  have hd1 : ((l.drop 1).length : Int) = c.s + c.n := by rw [List.length_drop]; omega
  have hT := turn_ok (back := true) hr hd1
  have hW := way_len (back := true) (rt_of hr) h.k hd1
  have hp : prtC c l = ⟨pntB x, (wayC c true (l.drop 1)).take c.s.toNat, (wayC c true (l.drop 1)).drop c.s.toNat⟩ := by unfold prtC; rw [hx]
  obtain ⟨k, hk⟩ : ∃ k : Nat, c.s = (k : Int) := ⟨c.s.toNat, by omega⟩
  rw [hk, Int.toNat_natCast] at hp
  obtain ⟨X, hX1⟩ : ∃ X, wayC c true (l.drop 1) = X := ⟨_, rfl⟩
  rw [hX1] at hT hW hp
  have HX : Hid (X.length = n - 1) := Lib.hid (by rw [hW, List.length_drop, hA1])
  have HT := Lib.hid hT
  have HP := Lib.hid hp
  have HK := Lib.hid hk
  have HKN : Hid (k ≤ n - 1 ∧ n ≤ 20 ∧ k ≤ 20) := Lib.hid (by omega)
  have HN0 := Lib.hid hn0
  have HFR := Lib.hid hfr
  have HPT := Lib.hid (fun u => cpoint_any x u)
  have HDD := Lib.hid hd
  have d1 : (v != (n : Int)) = false := by rw [bne_eq_false_iff_eq, ← hv, ← hx, ← hA1]; exact ht
  have HC1 := Lib.hid (cut_1 (some ⟨g, o, none⟩) n d (by omega))
  obtain ⟨y, hy⟩ : ∃ y, pntB x = y := ⟨_, rfl⟩
  rw [hy] at HP HPT
  clear h hr hA hd hl ht r1 r2 r3 r4 r5 hA1 hn0 hfr hx hv hd1 hT hW hp hk hX1 hy
  go_enter Tryz.func33, Tryz.ntmps33
  go_wp2_with (first | (refine wpList_boxB rfl 35 (.tmp 0) rfl c.cells (val_agg c) ?_; intro w1 q hc1 hb1 hx1; have K1 := Lib.hid ((GK.start w).add hb1 hc1); have ql := ld_cfg rt_cfg (K1.out.blk _ (.head _)) HC.out; clear hc1 hb1 hx1) | (refine wpList_newB rt_prt rfl rfl ?_; intro w2 q2 hc2 hb2 hx2; have KV := Lib.hid (And.intro (K1.out.add hb2 hc2) (And.intro (Nat.le_trans K1.out.bel.size hx2) (Lib.hid (Nat.ne_of_lt (Nat.lt_of_lt_of_le (K1.out.blk _ (.head _)).lt hx2))))); have ql := ld_cfg rt_cfg (KV.out.1.blk _ (.tail _ (.head _))) HC.out; clear hc2 hb2 hx2))
  have K2 := Lib.hid KV.out.1
  have HQ := Lib.hid KV.out.2
  refine (HR.out _).mono ?_
  rintro e w3 ⟨rfl, hb⟩
  have K3 := Lib.hid (K2.out.step hb)
  clear hb ql K2
  have ql := ld_cfg rt_cfg (K3.out.blk _ (.tail _ (.head _))) HC.out
  go_wp2_with fail
  refine (HS.out _).mono ?_
  rintro e w4 ⟨rfl, hb⟩
  have K4 := Lib.hid (K3.out.step hb)
  clear hb ql K3
  have ql := ld_cfg rt_cfg (K4.out.blk _ (.tail _ (.head _))) HC.out
  have f4 := HF.out _ (HA.out.step K4.out.bel)
  go_wp2_with fail
  refine (HTL.out _).mono ?_
  rintro e w5 ⟨rfl, rfl⟩
  go_wp2_with fail
  clear ql f4
  have K5 := Lib.hid K4.out.draw
  have HD : Blk 35 w4.drew q c.cells := K5.out.blk _ (.tail _ (.head _))
  refine wp_region_held_drew (S := fun w' => Blk 35 w' q c.cells) (by kernel_rfl) HD (fun hHeld => ?_)
  (try dsimp only at hHeld)
  refine wpAnyH_take (i := 0) (v := ?v0_9) rfl (by kernel_rfl) (by kernel_rfl) (by kernel_rfl) (fun _ _ _ h => h) (Or.inl ⟨by rfl, ?hy0_9⟩) hHeld ?_
  case hy0_9 => (intro w hSw; (try dsimp only at hSw); have q0 := ld_cfg rt_cfg hSw HC.out; have q1 := HC1.out w; (try simp only [List.getElem_toArray, List.getElem_cons_zero, List.getElem_cons_succ]); go_simp <;> with_reducible rfl)
  (try simp only [Act.put, List.getElem_toArray, List.getElem_cons_zero, List.getElem_cons_succ, List.setIfInBounds_toArray, List.set_cons_zero, List.set_cons_succ])
  refine wpAnyH_take (i := 1) (v := ?v1_10) rfl (by kernel_rfl) (by kernel_rfl) (by kernel_rfl) (fun _ _ _ h => h) (Or.inl ⟨by rfl, ?hy1_10⟩) hHeld ?_
  case hy1_10 => (intro w hSw; (try dsimp only at hSw); have q0 := ld_cfg rt_cfg hSw HC.out; have q1 := HC1.out w; (try simp only [List.getElem_toArray, List.getElem_cons_zero, List.getElem_cons_succ]); go_simp <;> with_reducible rfl)
  (try simp only [Act.put, List.getElem_toArray, List.getElem_cons_zero, List.getElem_cons_succ, List.setIfInBounds_toArray, List.set_cons_zero, List.set_cons_succ])
  refine wpAnyH_take (i := 2) (v := ?v2_11) rfl (by kernel_rfl) (by kernel_rfl) (by kernel_rfl) (fun _ _ _ h => h) (Or.inl ⟨by rfl, ?hy2_11⟩) hHeld ?_
  case hy2_11 => (intro w hSw; (try dsimp only at hSw); have q0 := ld_cfg rt_cfg hSw HC.out; have q1 := HC1.out w; (try simp only [List.getElem_toArray, List.getElem_cons_zero, List.getElem_cons_succ]); go_simp <;> with_reducible rfl)
  (try simp only [Act.put, List.getElem_toArray, List.getElem_cons_zero, List.getElem_cons_succ, List.setIfInBounds_toArray, List.set_cons_zero, List.set_cons_succ])
  refine wpAnyH_ready (rs := [3]) (by kernel_rfl) (by simp) ?_
  refine AllReadyH.cons rfl (fun K hK => ?_) AllReadyH.nil
  (try simp only [List.getElem_toArray, List.getElem_cons_zero, List.getElem_cons_succ])
  go_simp
  refine (mback_any c HC.out (cutA (some ⟨g, o, none⟩) d 1) (n - 1) (d - 1) (l.drop 1) _ (by exact HFR.out _ (HA.out.step K5.out.bel)) (by have := HDD.out; omega) (by have := HKN.out; omega)).mono ?_
  rw [HT.out]
  dsimp only
  rw [HX.out]
  rintro e w6 ⟨A6, c6, rfl, ho, hb⟩
  have K6 := Lib.hid (K5.out.ret hb ho)
  clear ho hb K5 K4
  (try go_wp2_with fail)
  refine hK.out _ _ (K6.out.blk _ (.tail _ (.head _))) (fun hHeld => ?_)
  clear hK K
  (try simp only [Act.put, List.getElem_toArray, List.getElem_cons_zero, List.getElem_cons_succ, List.setIfInBounds_toArray, List.set_cons_zero, List.set_cons_succ])
  refine wpAnyH_take (i := 4) (v := ?v4_12) rfl (by kernel_rfl) (by kernel_rfl) (by kernel_rfl) (fun _ _ _ h => h) (Or.inl ⟨by rfl, ?hy4_12⟩) hHeld ?_
  case hy4_12 => (intro w hSw; (try dsimp only at hSw); (try simp only [List.getElem_toArray, List.getElem_cons_zero, List.getElem_cons_succ]); go_simp <;> with_reducible rfl)
  (try simp only [Act.put, List.getElem_toArray, List.getElem_cons_zero, List.getElem_cons_succ, List.setIfInBounds_toArray, List.set_cons_zero, List.set_cons_succ])
  refine wpAnyH_take (i := 5) (v := ?v5_13) rfl (by kernel_rfl) (by kernel_rfl) (by kernel_rfl) (fun _ _ _ h => h) (Or.inl ⟨by rfl, ?hy5_13⟩) hHeld ?_
  case hy5_13 => (intro w hSw; (try dsimp only at hSw); (try simp only [List.getElem_toArray, List.getElem_cons_zero, List.getElem_cons_succ]); go_simp <;> with_reducible rfl)
  (try simp only [Act.put, List.getElem_toArray, List.getElem_cons_zero, List.getElem_cons_succ, List.setIfInBounds_toArray, List.set_cons_zero, List.set_cons_succ])
  refine wpAnyH_take (i := 6) (v := ?v6_14) rfl (by kernel_rfl) (by kernel_rfl) (by kernel_rfl) (fun _ _ _ h => h) (Or.inl ⟨by rfl, ?hy6_14⟩) hHeld ?_
  case hy6_14 => (intro w hSw; (try dsimp only at hSw); (try simp only [List.getElem_toArray, List.getElem_cons_zero, List.getElem_cons_succ]); go_simp <;> with_reducible rfl)
  (try simp only [Act.put, List.getElem_toArray, List.getElem_cons_zero, List.getElem_cons_succ, List.setIfInBounds_toArray, List.set_cons_zero, List.set_cons_succ])
  refine wpAnyH_take (i := 7) (v := ?v7_15) rfl (by kernel_rfl) (by kernel_rfl) (by kernel_rfl) (fun _ _ _ h => h) (Or.inl ⟨by rfl, ?hy7_15⟩) hHeld ?_
  case hy7_15 => (intro w hSw; (try dsimp only at hSw); (try simp only [List.getElem_toArray, List.getElem_cons_zero, List.getElem_cons_succ]); go_simp <;> with_reducible rfl)
  (try simp only [Act.put, List.getElem_toArray, List.getElem_cons_zero, List.getElem_cons_succ, List.setIfInBounds_toArray, List.set_cons_zero, List.set_cons_succ])
  refine wpAnyH_take (i := 8) (v := ?v8_16) rfl (by kernel_rfl) (by kernel_rfl) (by kernel_rfl) (fun _ _ _ h => h) (Or.inl ⟨by rfl, ?hy8_16⟩) hHeld ?_
  case hy8_16 => (intro w hSw; (try dsimp only at hSw); (try simp only [List.getElem_toArray, List.getElem_cons_zero, List.getElem_cons_succ]); go_simp <;> with_reducible rfl)
  (try simp only [Act.put, List.getElem_toArray, List.getElem_cons_zero, List.getElem_cons_succ, List.setIfInBounds_toArray, List.set_cons_zero, List.set_cons_succ])
  refine wpAnyH_done (by kernel_rfl) ?_ _
  clear hHeld HD HT HFR HR HS HTL
  go_wp2_with fail
  have HO : Hid (OwnB w6 w.heap.size A6 (n - 1) c6 X) := Lib.hid (K6.out.own _ (.head _))
  have HXR := Lib.hid HO.out.rb
  have hc6 := HO.out.cap.1
  have HCH := Lib.hid (cut_h A6 (n - 1) c6 k (by have := HKN.out; omega))
  have HCL := Lib.hid (cut_l A6 (n - 1) c6 k (by have := HKN.out; omega))
  have HX2 : Hid (X.take k = (X.take k).drop 0 ∧ (X.take k).length = k ∧ (X.drop k).length = n - 1 - k) := Lib.hid ⟨rfl, by rw [List.length_take, HX.out]; have := HKN.out; omega, by rw [List.length_drop, HX.out]⟩
  have HRH := Lib.hid (fun (u : World) (hu : RB u u.heap.size A6 (n - 1) X) => (hu.part (i := 0) (j := k) (by omega) HKN.out.1 hc6 : RB u u.heap.size (cutA A6 c6 0) (k - 0) ((X.take k).drop 0)))
  have HRL := Lib.hid (fun (u : World) (hu : RB u u.heap.size A6 (n - 1) X) => (hu.part (i := k) (j := n - 1) HKN.out.1 (Nat.le_refl _) hc6 : RB u u.heap.size (cutA A6 c6 k) (n - 1 - k) ((X.take (n - 1)).drop k)))
  rw [Nat.sub_zero, List.drop_zero] at HRH
  rw [List.take_of_length_le (by rw [HX.out]; exact Nat.le_refl _)] at HRL
  have hck : (k : Int) ≤ (c6 : Int) := by have := HKN.out; omega
  have hkn : (k : Int) ≤ ((n - 1 : Nat) : Int) := by have := HKN.out; omega
  clear hc6
  have K7 := Lib.hid K6.out.draw
  have HD : Blk 35 w6.drew q c.cells ∧ RB w6.drew w6.drew.heap.size (some ⟨g, o, none⟩) n l := ⟨K7.out.blk _ (.tail _ (.head _)), HA.out.step K7.out.bel⟩
  refine wp_region_held_drew (S := fun w' => Blk 35 w' q c.cells ∧ RB w' w'.heap.size (some ⟨g, o, none⟩) n l) (by kernel_rfl) HD (fun hHeld => ?_)
  (try dsimp only at hHeld)
  refine wpAnyH_take (i := 0) (v := ?v0_17) rfl (by kernel_rfl) (by kernel_rfl) (by kernel_rfl) (fun _ _ _ h => h) (Or.inl ⟨by rfl, ?hy0_17⟩) hHeld ?_
  case hy0_17 => (intro w hSw; (try dsimp only at hSw); have q9 := HN0.out; have q1 := cf1 hSw.1; rw [HK.out] at q1; have q2 := HF.out _ hSw.2; have q3 := HCH.out w; have q4 := HCL.out w; (try simp only [List.getElem_toArray, List.getElem_cons_zero, List.getElem_cons_succ]); go_simp <;> with_reducible rfl)
  (try simp only [Act.put, List.getElem_toArray, List.getElem_cons_zero, List.getElem_cons_succ, List.setIfInBounds_toArray, List.set_cons_zero, List.set_cons_succ])
  refine wpAnyH_take (i := 1) (v := ?v1_18) rfl (by kernel_rfl) (by kernel_rfl) (by kernel_rfl) (fun _ _ _ h => h) (Or.inl ⟨by rfl, ?hy1_18⟩) hHeld ?_
  case hy1_18 => (intro w hSw; (try dsimp only at hSw); have q9 := HN0.out; have q1 := cf1 hSw.1; rw [HK.out] at q1; have q2 := HF.out _ hSw.2; have q3 := HCH.out w; have q4 := HCL.out w; (try simp only [List.getElem_toArray, List.getElem_cons_zero, List.getElem_cons_succ]); go_simp <;> with_reducible rfl)
  (try simp only [Act.put, List.getElem_toArray, List.getElem_cons_zero, List.getElem_cons_succ, List.setIfInBounds_toArray, List.set_cons_zero, List.set_cons_succ])
  refine wpAnyH_take (i := 2) (v := ?v2_19) rfl (by kernel_rfl) (by kernel_rfl) (by kernel_rfl) (fun _ _ _ h => h) (Or.inl ⟨by rfl, ?hy2_19⟩) hHeld ?_
  case hy2_19 => (intro w hSw; (try dsimp only at hSw); have q9 := HN0.out; have q1 := cf1 hSw.1; rw [HK.out] at q1; have q2 := HF.out _ hSw.2; have q3 := HCH.out w; have q4 := HCL.out w; (try simp only [List.getElem_toArray, List.getElem_cons_zero, List.getElem_cons_succ]); go_simp <;> with_reducible rfl)
  (try simp only [Act.put, List.getElem_toArray, List.getElem_cons_zero, List.getElem_cons_succ, List.setIfInBounds_toArray, List.set_cons_zero, List.set_cons_succ])
  refine wpAnyH_take (i := 4) (v := ?v4_20) rfl (by kernel_rfl) (by kernel_rfl) (by kernel_rfl) (fun _ _ _ h => h) (Or.inl ⟨by rfl, ?hy4_20⟩) hHeld ?_
  case hy4_20 => (intro w hSw; (try dsimp only at hSw); have q9 := HN0.out; have q1 := cf1 hSw.1; rw [HK.out] at q1; have q2 := HF.out _ hSw.2; have q3 := HCH.out w; have q4 := HCL.out w; (try simp only [List.getElem_toArray, List.getElem_cons_zero, List.getElem_cons_succ]); go_simp <;> with_reducible rfl)
  (try simp only [Act.put, List.getElem_toArray, List.getElem_cons_zero, List.getElem_cons_succ, List.setIfInBounds_toArray, List.set_cons_zero, List.set_cons_succ])
  refine wpAnyH_take (i := 5) (v := ?v5_21) rfl (by kernel_rfl) (by kernel_rfl) (by kernel_rfl) (fun _ _ _ h => h) (Or.inl ⟨by rfl, ?hy5_21⟩) hHeld ?_
  case hy5_21 => (intro w hSw; (try dsimp only at hSw); have q9 := HN0.out; have q1 := cf1 hSw.1; rw [HK.out] at q1; have q2 := HF.out _ hSw.2; have q3 := HCH.out w; have q4 := HCL.out w; (try simp only [List.getElem_toArray, List.getElem_cons_zero, List.getElem_cons_succ]); go_simp <;> with_reducible rfl)
  (try simp only [Act.put, List.getElem_toArray, List.getElem_cons_zero, List.getElem_cons_succ, List.setIfInBounds_toArray, List.set_cons_zero, List.set_cons_succ])
  refine wpAnyH_take (i := 6) (v := ?v6_22) rfl (by kernel_rfl) (by kernel_rfl) (by kernel_rfl) (fun _ _ _ h => h) (Or.inl ⟨by rfl, ?hy6_22⟩) hHeld ?_
  case hy6_22 => (intro w hSw; (try dsimp only at hSw); have q9 := HN0.out; have q1 := cf1 hSw.1; rw [HK.out] at q1; have q2 := HF.out _ hSw.2; have q3 := HCH.out w; have q4 := HCL.out w; (try simp only [List.getElem_toArray, List.getElem_cons_zero, List.getElem_cons_succ]); go_simp <;> with_reducible rfl)
  (try simp only [Act.put, List.getElem_toArray, List.getElem_cons_zero, List.getElem_cons_succ, List.setIfInBounds_toArray, List.set_cons_zero, List.set_cons_succ])
  refine wpAnyH_take (i := 7) (v := ?v7_23) rfl (by kernel_rfl) (by kernel_rfl) (by kernel_rfl) (fun _ _ _ h => h) (Or.inl ⟨by rfl, ?hy7_23⟩) hHeld ?_
  case hy7_23 => (intro w hSw; (try dsimp only at hSw); have q9 := HN0.out; have q1 := cf1 hSw.1; rw [HK.out] at q1; have q2 := HF.out _ hSw.2; have q3 := HCH.out w; have q4 := HCL.out w; (try simp only [List.getElem_toArray, List.getElem_cons_zero, List.getElem_cons_succ]); go_simp <;> with_reducible rfl)
  (try simp only [Act.put, List.getElem_toArray, List.getElem_cons_zero, List.getElem_cons_succ, List.setIfInBounds_toArray, List.set_cons_zero, List.set_cons_succ])
  refine wpAnyH_take (i := 10) (v := ?v10_24) rfl (by kernel_rfl) (by kernel_rfl) (by kernel_rfl) (fun _ _ _ h => h) (Or.inl ⟨by rfl, ?hy10_24⟩) hHeld ?_
  case hy10_24 => (intro w hSw; (try dsimp only at hSw); have q9 := HN0.out; have q1 := cf1 hSw.1; rw [HK.out] at q1; have q2 := HF.out _ hSw.2; have q3 := HCH.out w; have q4 := HCL.out w; (try simp only [List.getElem_toArray, List.getElem_cons_zero, List.getElem_cons_succ]); go_simp <;> with_reducible rfl)
  (try simp only [Act.put, List.getElem_toArray, List.getElem_cons_zero, List.getElem_cons_succ, List.setIfInBounds_toArray, List.set_cons_zero, List.set_cons_succ])
  refine wpAnyH_take (i := 11) (v := ?v11_25) rfl (by kernel_rfl) (by kernel_rfl) (by kernel_rfl) (fun _ _ _ h => h) (Or.inl ⟨by rfl, ?hy11_25⟩) hHeld ?_
  case hy11_25 => (intro w hSw; (try dsimp only at hSw); have q9 := HN0.out; have q1 := cf1 hSw.1; rw [HK.out] at q1; have q2 := HF.out _ hSw.2; have q3 := HCH.out w; have q4 := HCL.out w; (try simp only [List.getElem_toArray, List.getElem_cons_zero, List.getElem_cons_succ]); go_simp <;> with_reducible rfl)
  (try simp only [Act.put, List.getElem_toArray, List.getElem_cons_zero, List.getElem_cons_succ, List.setIfInBounds_toArray, List.set_cons_zero, List.set_cons_succ])
  refine wpAnyH_take (i := 12) (v := ?v12_26) rfl (by kernel_rfl) (by kernel_rfl) (by kernel_rfl) (fun _ _ _ h => h) (Or.inl ⟨by rfl, ?hy12_26⟩) hHeld ?_
  case hy12_26 => (intro w hSw; (try dsimp only at hSw); have q9 := HN0.out; have q1 := cf1 hSw.1; rw [HK.out] at q1; have q2 := HF.out _ hSw.2; have q3 := HCH.out w; have q4 := HCL.out w; (try simp only [List.getElem_toArray, List.getElem_cons_zero, List.getElem_cons_succ]); go_simp <;> with_reducible rfl)
  (try simp only [Act.put, List.getElem_toArray, List.getElem_cons_zero, List.getElem_cons_succ, List.setIfInBounds_toArray, List.set_cons_zero, List.set_cons_succ])
  refine wpAnyH_take (i := 13) (v := ?v13_27) rfl (by kernel_rfl) (by kernel_rfl) (by kernel_rfl) (fun _ _ _ h => h) (Or.inl ⟨by rfl, ?hy13_27⟩) hHeld ?_
  case hy13_27 => (intro w hSw; (try dsimp only at hSw); have q9 := HN0.out; have q1 := cf1 hSw.1; rw [HK.out] at q1; have q2 := HF.out _ hSw.2; have q3 := HCH.out w; have q4 := HCL.out w; (try simp only [List.getElem_toArray, List.getElem_cons_zero, List.getElem_cons_succ]); go_simp <;> with_reducible rfl)
  (try simp only [Act.put, List.getElem_toArray, List.getElem_cons_zero, List.getElem_cons_succ, List.setIfInBounds_toArray, List.set_cons_zero, List.set_cons_succ])
  refine wpAnyH_ready (rs := [3, 8, 14]) (by kernel_rfl) (by simp) ?_
  refine AllReadyH.cons rfl (fun K hK => ?r1_3) (AllReadyH.cons rfl (fun K hK => ?r1_8) (AllReadyH.cons rfl (fun K hK => ?r1_14) AllReadyH.nil))
  case r1_3 =>
    (try simp only [List.getElem_toArray, List.getElem_cons_zero, List.getElem_cons_succ])
    go_simp
    refine (HPT.out _).mono ?_
    rintro e uL2 ⟨rfl, rfl⟩
    (try go_wp2_with fail)
    refine hK.out _ _ ⟨K7.out.blk _ (.tail _ (.head _)), HA.out.step K7.out.bel⟩ (fun hHeld => ?_)
    clear hK K
    (try simp only [Act.put, List.getElem_toArray, List.getElem_cons_zero, List.getElem_cons_succ, List.setIfInBounds_toArray, List.set_cons_zero, List.set_cons_succ])
    refine wpAnyH_ready (rs := [8, 14]) (by kernel_rfl) (by simp) ?_
    refine AllReadyH.cons rfl (fun K hK => ?r3_8) (AllReadyH.cons rfl (fun K hK => ?r3_14) AllReadyH.nil)
    case r3_8 =>
      (try simp only [List.getElem_toArray, List.getElem_cons_zero, List.getElem_cons_succ])
      go_simp
      have L4 := Lib.hid (K7.out.litA (.slice (cutA A6 c6 0) k c6) (w6.heap.size) (by simp))
      refine hK.out _ _ ⟨L4.out.blk _ (.tail _ (.tail _ (.head _))), HA.out.step L4.out.bel⟩ (fun hHeld => ?_)
      clear hK K
      (try simp only [Act.put, List.getElem_toArray, List.getElem_cons_zero, List.getElem_cons_succ, List.setIfInBounds_toArray, List.set_cons_zero, List.set_cons_succ])
      refine wpAnyH_ready (rs := [9, 14]) (by kernel_rfl) (by simp) ?_
      refine AllReadyH.cons rfl (fun K hK => ?r5_9) (AllReadyH.cons rfl (fun K hK => ?r5_14) AllReadyH.nil)
      case r5_9 =>
        (try simp only [List.getElem_toArray, List.getElem_cons_zero, List.getElem_cons_succ])
        go_simp
        refine (join1 _ _ (X.take k) (by exact rr_blk (L4.out.blk _ (.head _)) (by exact HRH.out _ (L4.out.own _ (.head _)).rb)) (by rw [HX2.out.2.1]; have := HKN.out; omega)).mono ?_
        rw [HX2.out.2.1]
        rintro e uL6 ⟨AL6, cL6, rfl, ho, hb⟩
        have L6 := Lib.hid (L4.out.ret hb ho)
        clear ho hb
        (try go_wp2_with fail)
        refine hK.out _ _ ⟨L6.out.blk _ (.tail _ (.tail _ (.head _))), HA.out.step L6.out.bel⟩ (fun hHeld => ?_)
        clear hK K
        (try simp only [Act.put, List.getElem_toArray, List.getElem_cons_zero, List.getElem_cons_succ, List.setIfInBounds_toArray, List.set_cons_zero, List.set_cons_succ])
        refine wpAnyH_ready (rs := [14]) (by kernel_rfl) (by simp) ?_
        refine AllReadyH.cons rfl (fun K hK => ?r7_14) AllReadyH.nil
        case r7_14 =>
          (try simp only [List.getElem_toArray, List.getElem_cons_zero, List.getElem_cons_succ])
          go_simp
          have L8 := Lib.hid (L6.out.litA (.slice (cutA A6 c6 k) (n - 1 - k) (c6 - k)) (uL6.heap.size) (by simp))
          refine hK.out _ _ ⟨L8.out.blk _ (.tail _ (.tail _ (.tail _ (.head _)))), HA.out.step L8.out.bel⟩ (fun hHeld => ?_)
          clear hK K
          (try simp only [Act.put, List.getElem_toArray, List.getElem_cons_zero, List.getElem_cons_succ, List.setIfInBounds_toArray, List.set_cons_zero, List.set_cons_succ])
          refine wpAnyH_ready (rs := [15]) (by kernel_rfl) (by simp) ?_
          refine AllReadyH.cons rfl (fun K hK => ?r9_15) AllReadyH.nil
          case r9_15 =>
            (try simp only [List.getElem_toArray, List.getElem_cons_zero, List.getElem_cons_succ])
            go_simp
            refine (join1 _ _ (X.drop k) (by exact rr_blk (L8.out.blk _ (.head _)) (by exact HRL.out _ (L8.out.own _ (.tail _ (.head _))).rb)) (by rw [HX2.out.2.2]; have := HKN.out; omega)).mono ?_
            rw [HX2.out.2.2]
            rintro e uL10 ⟨AL10, cL10, rfl, ho, hb⟩
            have L10 := Lib.hid (L8.out.ret hb ho)
            clear ho hb
            (try go_wp2_with fail)
            refine hK.out _ _ ⟨L10.out.blk _ (.tail _ (.tail _ (.tail _ (.head _)))), HA.out.step L10.out.bel⟩ (fun hHeld => ?_)
            clear hK K
            (try simp only [Act.put, List.getElem_toArray, List.getElem_cons_zero, List.getElem_cons_succ, List.setIfInBounds_toArray, List.set_cons_zero, List.set_cons_succ])
            refine wpAnyH_take (i := 16) (v := ?v16_28) rfl (by kernel_rfl) (by kernel_rfl) (by kernel_rfl) (fun _ _ _ h => h) (Or.inl ⟨by rfl, ?hy16_28⟩) hHeld ?_
            case hy16_28 => (intro w hSw; (try dsimp only at hSw); (try simp only [List.getElem_toArray, List.getElem_cons_zero, List.getElem_cons_succ]); go_simp <;> with_reducible rfl)
            (try simp only [Act.put, List.getElem_toArray, List.getElem_cons_zero, List.getElem_cons_succ, List.setIfInBounds_toArray, List.set_cons_zero, List.set_cons_succ])
            have qs := st_prt (p := y) (A := AL6) (n := k) (c := cL6) (B := AL10) (m := n - 1 - k) (d := cL10) rt_prt (L10.out.blk _ (.tail _ (.tail _ (.head _))))
            refine wpAnyH_ready (rs := [17]) (by kernel_rfl) (by simp) ?_
            refine AllReadyH.cons rfl (fun K hK => ?_) AllReadyH.nil
            (try simp only [List.getElem_toArray, List.getElem_cons_zero, List.getElem_cons_succ])
            go_simp
            have L11 := Lib.hid (L10.out.put (cs := pcel y AL6 k cL6 AL10 (n - 1 - k) cL10) HQ.out.1 (L10.out.blk _ (.tail _ (.tail _ (.head _)))) (show 43 ≠ 5 by decide) pcel_len)
            refine hK.out _ _ ⟨(L10.out.blk _ (.tail _ (.tail _ (.tail _ (.head _))))).oth (oth_setCells q2 _ 0 _ _ (Oth.refl _ _)) (by simpa using HQ.out.2.out), HA.out.step L11.out.bel⟩ (fun hHeld => ?_)
            clear hK K
            (try simp only [Act.put, List.getElem_toArray, List.getElem_cons_zero, List.getElem_cons_succ, List.setIfInBounds_toArray, List.set_cons_zero, List.set_cons_succ])
            refine wpAnyH_take (i := 18) (v := ?v18_29) rfl (by kernel_rfl) (by kernel_rfl) (by kernel_rfl) (fun _ _ _ h => h) (Or.inl ⟨by rfl, ?hy18_29⟩) hHeld ?_
            case hy18_29 => (intro w hSw; (try dsimp only at hSw); (try simp only [List.getElem_toArray, List.getElem_cons_zero, List.getElem_cons_succ]); go_simp <;> with_reducible rfl)
            (try simp only [Act.put, List.getElem_toArray, List.getElem_cons_zero, List.getElem_cons_succ, List.setIfInBounds_toArray, List.set_cons_zero, List.set_cons_succ])
            refine wpAnyH_done (by kernel_rfl) ?_ _
            clear hHeld HD qs
            go_wp2_with fail
            rw [HE.out, HP.out]
            refine bodyPost_ret (res_rec2 rt_prt rfl _ _ q2 (pcel y AL6 k cL6 AL10 (n - 1 - k) cL10) (.int .i64 0) rfl rfl (by exact L11.out.blk _ (.head _)) pcel_len) rfl (ret_pe HX2.out.2.1 HX2.out.2.2 (L11.out.own _ (.tail _ (.head _))) (L11.out.own _ (.head _)) L11.out.bel)
      case r5_14 =>
        (try simp only [List.getElem_toArray, List.getElem_cons_zero, List.getElem_cons_succ])
        go_simp
        have L12 := Lib.hid (L4.out.litA (.slice (cutA A6 c6 k) (n - 1 - k) (c6 - k)) (w6.heap.size + 1) (by simp))
        refine hK.out _ _ ⟨L12.out.blk _ (.tail _ (.tail _ (.tail _ (.head _)))), HA.out.step L12.out.bel⟩ (fun hHeld => ?_)
        clear hK K
        (try simp only [Act.put, List.getElem_toArray, List.getElem_cons_zero, List.getElem_cons_succ, List.setIfInBounds_toArray, List.set_cons_zero, List.set_cons_succ])
        refine wpAnyH_ready (rs := [9]) (by kernel_rfl) (by simp) ?_
        refine AllReadyH.cons rfl (fun K hK => ?r13_9) AllReadyH.nil
        case r13_9 =>
          (try simp only [List.getElem_toArray, List.getElem_cons_zero, List.getElem_cons_succ])
          go_simp
          refine (join1 _ _ (X.take k) (by exact rr_blk (L12.out.blk _ (.tail _ (.head _))) (by exact HRH.out _ (L12.out.own _ (.head _)).rb)) (by rw [HX2.out.2.1]; have := HKN.out; omega)).mono ?_
          rw [HX2.out.2.1]
          rintro e uL14 ⟨AL14, cL14, rfl, ho, hb⟩
          have L14 := Lib.hid (L12.out.ret hb ho)
          clear ho hb
          (try go_wp2_with fail)
          refine hK.out _ _ ⟨L14.out.blk _ (.tail _ (.tail _ (.tail _ (.head _)))), HA.out.step L14.out.bel⟩ (fun hHeld => ?_)
          clear hK K
          (try simp only [Act.put, List.getElem_toArray, List.getElem_cons_zero, List.getElem_cons_succ, List.setIfInBounds_toArray, List.set_cons_zero, List.set_cons_succ])
          refine wpAnyH_ready (rs := [15]) (by kernel_rfl) (by simp) ?_
          refine AllReadyH.cons rfl (fun K hK => ?r15_15) AllReadyH.nil
          case r15_15 =>
            (try simp only [List.getElem_toArray, List.getElem_cons_zero, List.getElem_cons_succ])
            go_simp
            refine (join1 _ _ (X.drop k) (by exact rr_blk (L14.out.blk _ (.head _)) (by exact HRL.out _ (L14.out.own _ (.tail _ (.head _))).rb)) (by rw [HX2.out.2.2]; have := HKN.out; omega)).mono ?_
            rw [HX2.out.2.2]
            rintro e uL16 ⟨AL16, cL16, rfl, ho, hb⟩
            have L16 := Lib.hid (L14.out.ret hb ho)
            clear ho hb
            (try go_wp2_with fail)
            refine hK.out _ _ ⟨L16.out.blk _ (.tail _ (.tail _ (.tail _ (.head _)))), HA.out.step L16.out.bel⟩ (fun hHeld => ?_)
            clear hK K
            (try simp only [Act.put, List.getElem_toArray, List.getElem_cons_zero, List.getElem_cons_succ, List.setIfInBounds_toArray, List.set_cons_zero, List.set_cons_succ])
            refine wpAnyH_take (i := 16) (v := ?v16_30) rfl (by kernel_rfl) (by kernel_rfl) (by kernel_rfl) (fun _ _ _ h => h) (Or.inl ⟨by rfl, ?hy16_30⟩) hHeld ?_
            case hy16_30 => (intro w hSw; (try dsimp only at hSw); (try simp only [List.getElem_toArray, List.getElem_cons_zero, List.getElem_cons_succ]); go_simp <;> with_reducible rfl)
            (try simp only [Act.put, List.getElem_toArray, List.getElem_cons_zero, List.getElem_cons_succ, List.setIfInBounds_toArray, List.set_cons_zero, List.set_cons_succ])
            have qs := st_prt (p := y) (A := AL14) (n := k) (c := cL14) (B := AL16) (m := n - 1 - k) (d := cL16) rt_prt (L16.out.blk _ (.tail _ (.tail _ (.head _))))
            refine wpAnyH_ready (rs := [17]) (by kernel_rfl) (by simp) ?_
            refine AllReadyH.cons rfl (fun K hK => ?_) AllReadyH.nil
            (try simp only [List.getElem_toArray, List.getElem_cons_zero, List.getElem_cons_succ])
            go_simp
            have L17 := Lib.hid (L16.out.put (cs := pcel y AL14 k cL14 AL16 (n - 1 - k) cL16) HQ.out.1 (L16.out.blk _ (.tail _ (.tail _ (.head _)))) (show 43 ≠ 5 by decide) pcel_len)
            refine hK.out _ _ ⟨(L16.out.blk _ (.tail _ (.tail _ (.tail _ (.head _))))).oth (oth_setCells q2 _ 0 _ _ (Oth.refl _ _)) (by simpa using HQ.out.2.out), HA.out.step L17.out.bel⟩ (fun hHeld => ?_)
            clear hK K
            (try simp only [Act.put, List.getElem_toArray, List.getElem_cons_zero, List.getElem_cons_succ, List.setIfInBounds_toArray, List.set_cons_zero, List.set_cons_succ])
            refine wpAnyH_take (i := 18) (v := ?v18_31) rfl (by kernel_rfl) (by kernel_rfl) (by kernel_rfl) (fun _ _ _ h => h) (Or.inl ⟨by rfl, ?hy18_31⟩) hHeld ?_
            case hy18_31 => (intro w hSw; (try dsimp only at hSw); (try simp only [List.getElem_toArray, List.getElem_cons_zero, List.getElem_cons_succ]); go_simp <;> with_reducible rfl)
            (try simp only [Act.put, List.getElem_toArray, List.getElem_cons_zero, List.getElem_cons_succ, List.setIfInBounds_toArray, List.set_cons_zero, List.set_cons_succ])
            refine wpAnyH_done (by kernel_rfl) ?_ _
            clear hHeld HD qs
            go_wp2_with fail
            rw [HE.out, HP.out]
            refine bodyPost_ret (res_rec2 rt_prt rfl _ _ q2 (pcel y AL14 k cL14 AL16 (n - 1 - k) cL16) (.int .i64 0) rfl rfl (by exact L17.out.blk _ (.head _)) pcel_len) rfl (ret_pe HX2.out.2.1 HX2.out.2.2 (L17.out.own _ (.tail _ (.head _))) (L17.out.own _ (.head _)) L17.out.bel)
    case r3_14 =>
      (try simp only [List.getElem_toArray, List.getElem_cons_zero, List.getElem_cons_succ])
      go_simp
      have L18 := Lib.hid (K7.out.litA (.slice (cutA A6 c6 k) (n - 1 - k) (c6 - k)) (w6.heap.size) (by simp))
      refine hK.out _ _ ⟨L18.out.blk _ (.tail _ (.tail _ (.head _))), HA.out.step L18.out.bel⟩ (fun hHeld => ?_)
      clear hK K
      (try simp only [Act.put, List.getElem_toArray, List.getElem_cons_zero, List.getElem_cons_succ, List.setIfInBounds_toArray, List.set_cons_zero, List.set_cons_succ])
      refine wpAnyH_ready (rs := [8]) (by kernel_rfl) (by simp) ?_
      refine AllReadyH.cons rfl (fun K hK => ?r19_8) AllReadyH.nil
      case r19_8 =>
        (try simp only [List.getElem_toArray, List.getElem_cons_zero, List.getElem_cons_succ])
        go_simp
        have L20 := Lib.hid (L18.out.litA (.slice (cutA A6 c6 0) k c6) (w6.heap.size + 1) (by simp))
        refine hK.out _ _ ⟨L20.out.blk _ (.tail _ (.tail _ (.tail _ (.head _)))), HA.out.step L20.out.bel⟩ (fun hHeld => ?_)
        clear hK K
        (try simp only [Act.put, List.getElem_toArray, List.getElem_cons_zero, List.getElem_cons_succ, List.setIfInBounds_toArray, List.set_cons_zero, List.set_cons_succ])
        refine wpAnyH_ready (rs := [9]) (by kernel_rfl) (by simp) ?_
        refine AllReadyH.cons rfl (fun K hK => ?r21_9) AllReadyH.nil
        case r21_9 =>
          (try simp only [List.getElem_toArray, List.getElem_cons_zero, List.getElem_cons_succ])
          go_simp
          refine (join1 _ _ (X.take k) (by exact rr_blk (L20.out.blk _ (.head _)) (by exact HRH.out _ (L20.out.own _ (.head _)).rb)) (by rw [HX2.out.2.1]; have := HKN.out; omega)).mono ?_
          rw [HX2.out.2.1]
          rintro e uL22 ⟨AL22, cL22, rfl, ho, hb⟩
          have L22 := Lib.hid (L20.out.ret hb ho)
          clear ho hb
          (try go_wp2_with fail)
          refine hK.out _ _ ⟨L22.out.blk _ (.tail _ (.tail _ (.tail _ (.head _)))), HA.out.step L22.out.bel⟩ (fun hHeld => ?_)
          clear hK K
          (try simp only [Act.put, List.getElem_toArray, List.getElem_cons_zero, List.getElem_cons_succ, List.setIfInBounds_toArray, List.set_cons_zero, List.set_cons_succ])
          refine wpAnyH_ready (rs := [15]) (by kernel_rfl) (by simp) ?_
          refine AllReadyH.cons rfl (fun K hK => ?r23_15) AllReadyH.nil
          case r23_15 =>
            (try simp only [List.getElem_toArray, List.getElem_cons_zero, List.getElem_cons_succ])
            go_simp
            refine (join1 _ _ (X.drop k) (by exact rr_blk (L22.out.blk _ (.tail _ (.head _))) (by exact HRL.out _ (L22.out.own _ (.tail _ (.head _))).rb)) (by rw [HX2.out.2.2]; have := HKN.out; omega)).mono ?_
            rw [HX2.out.2.2]
            rintro e uL24 ⟨AL24, cL24, rfl, ho, hb⟩
            have L24 := Lib.hid (L22.out.ret hb ho)
            clear ho hb
            (try go_wp2_with fail)
            refine hK.out _ _ ⟨L24.out.blk _ (.tail _ (.tail _ (.tail _ (.head _)))), HA.out.step L24.out.bel⟩ (fun hHeld => ?_)
            clear hK K
            (try simp only [Act.put, List.getElem_toArray, List.getElem_cons_zero, List.getElem_cons_succ, List.setIfInBounds_toArray, List.set_cons_zero, List.set_cons_succ])
            refine wpAnyH_take (i := 16) (v := ?v16_32) rfl (by kernel_rfl) (by kernel_rfl) (by kernel_rfl) (fun _ _ _ h => h) (Or.inl ⟨by rfl, ?hy16_32⟩) hHeld ?_
            case hy16_32 => (intro w hSw; (try dsimp only at hSw); (try simp only [List.getElem_toArray, List.getElem_cons_zero, List.getElem_cons_succ]); go_simp <;> with_reducible rfl)
            (try simp only [Act.put, List.getElem_toArray, List.getElem_cons_zero, List.getElem_cons_succ, List.setIfInBounds_toArray, List.set_cons_zero, List.set_cons_succ])
            have qs := st_prt (p := y) (A := AL22) (n := k) (c := cL22) (B := AL24) (m := n - 1 - k) (d := cL24) rt_prt (L24.out.blk _ (.tail _ (.tail _ (.head _))))
            refine wpAnyH_ready (rs := [17]) (by kernel_rfl) (by simp) ?_
            refine AllReadyH.cons rfl (fun K hK => ?_) AllReadyH.nil
            (try simp only [List.getElem_toArray, List.getElem_cons_zero, List.getElem_cons_succ])
            go_simp
            have L25 := Lib.hid (L24.out.put (cs := pcel y AL22 k cL22 AL24 (n - 1 - k) cL24) HQ.out.1 (L24.out.blk _ (.tail _ (.tail _ (.head _)))) (show 43 ≠ 5 by decide) pcel_len)
            refine hK.out _ _ ⟨(L24.out.blk _ (.tail _ (.tail _ (.tail _ (.head _))))).oth (oth_setCells q2 _ 0 _ _ (Oth.refl _ _)) (by simpa using HQ.out.2.out), HA.out.step L25.out.bel⟩ (fun hHeld => ?_)
            clear hK K
            (try simp only [Act.put, List.getElem_toArray, List.getElem_cons_zero, List.getElem_cons_succ, List.setIfInBounds_toArray, List.set_cons_zero, List.set_cons_succ])
            refine wpAnyH_take (i := 18) (v := ?v18_33) rfl (by kernel_rfl) (by kernel_rfl) (by kernel_rfl) (fun _ _ _ h => h) (Or.inl ⟨by rfl, ?hy18_33⟩) hHeld ?_
            case hy18_33 => (intro w hSw; (try dsimp only at hSw); (try simp only [List.getElem_toArray, List.getElem_cons_zero, List.getElem_cons_succ]); go_simp <;> with_reducible rfl)
            (try simp only [Act.put, List.getElem_toArray, List.getElem_cons_zero, List.getElem_cons_succ, List.setIfInBounds_toArray, List.set_cons_zero, List.set_cons_succ])
            refine wpAnyH_done (by kernel_rfl) ?_ _
            clear hHeld HD qs
            go_wp2_with fail
            rw [HE.out, HP.out]
            refine bodyPost_ret (res_rec2 rt_prt rfl _ _ q2 (pcel y AL22 k cL22 AL24 (n - 1 - k) cL24) (.int .i64 0) rfl rfl (by exact L25.out.blk _ (.head _)) pcel_len) rfl (ret_pe HX2.out.2.1 HX2.out.2.2 (L25.out.own _ (.tail _ (.head _))) (L25.out.own _ (.head _)) L25.out.bel)
  case r1_8 =>
    (try simp only [List.getElem_toArray, List.getElem_cons_zero, List.getElem_cons_succ])
    go_simp
    have L26 := Lib.hid (K7.out.litA (.slice (cutA A6 c6 0) k c6) (w6.heap.size) (by simp))
    refine hK.out _ _ ⟨L26.out.blk _ (.tail _ (.tail _ (.head _))), HA.out.step L26.out.bel⟩ (fun hHeld => ?_)
    clear hK K
    (try simp only [Act.put, List.getElem_toArray, List.getElem_cons_zero, List.getElem_cons_succ, List.setIfInBounds_toArray, List.set_cons_zero, List.set_cons_succ])
    refine wpAnyH_ready (rs := [3, 14]) (by kernel_rfl) (by simp) ?_
    refine AllReadyH.cons rfl (fun K hK => ?r27_3) (AllReadyH.cons rfl (fun K hK => ?r27_14) AllReadyH.nil)
    case r27_3 =>
      (try simp only [List.getElem_toArray, List.getElem_cons_zero, List.getElem_cons_succ])
      go_simp
      refine (HPT.out _).mono ?_
      rintro e uL28 ⟨rfl, rfl⟩
      (try go_wp2_with fail)
      refine hK.out _ _ ⟨L26.out.blk _ (.tail _ (.tail _ (.head _))), HA.out.step L26.out.bel⟩ (fun hHeld => ?_)
      clear hK K
      (try simp only [Act.put, List.getElem_toArray, List.getElem_cons_zero, List.getElem_cons_succ, List.setIfInBounds_toArray, List.set_cons_zero, List.set_cons_succ])
      refine wpAnyH_ready (rs := [9, 14]) (by kernel_rfl) (by simp) ?_
      refine AllReadyH.cons rfl (fun K hK => ?r29_9) (AllReadyH.cons rfl (fun K hK => ?r29_14) AllReadyH.nil)
      case r29_9 =>
        (try simp only [List.getElem_toArray, List.getElem_cons_zero, List.getElem_cons_succ])
        go_simp
        refine (join1 _ _ (X.take k) (by exact rr_blk (L26.out.blk _ (.head _)) (by exact HRH.out _ (L26.out.own _ (.head _)).rb)) (by rw [HX2.out.2.1]; have := HKN.out; omega)).mono ?_
        rw [HX2.out.2.1]
        rintro e uL30 ⟨AL30, cL30, rfl, ho, hb⟩
        have L30 := Lib.hid (L26.out.ret hb ho)
        clear ho hb
        (try go_wp2_with fail)
        refine hK.out _ _ ⟨L30.out.blk _ (.tail _ (.tail _ (.head _))), HA.out.step L30.out.bel⟩ (fun hHeld => ?_)
        clear hK K
        (try simp only [Act.put, List.getElem_toArray, List.getElem_cons_zero, List.getElem_cons_succ, List.setIfInBounds_toArray, List.set_cons_zero, List.set_cons_succ])
        refine wpAnyH_ready (rs := [14]) (by kernel_rfl) (by simp) ?_
        refine AllReadyH.cons rfl (fun K hK => ?r31_14) AllReadyH.nil
        case r31_14 =>
          (try simp only [List.getElem_toArray, List.getElem_cons_zero, List.getElem_cons_succ])
          go_simp
          have L32 := Lib.hid (L30.out.litA (.slice (cutA A6 c6 k) (n - 1 - k) (c6 - k)) (uL30.heap.size) (by simp))
          refine hK.out _ _ ⟨L32.out.blk _ (.tail _ (.tail _ (.tail _ (.head _)))), HA.out.step L32.out.bel⟩ (fun hHeld => ?_)
          clear hK K
          (try simp only [Act.put, List.getElem_toArray, List.getElem_cons_zero, List.getElem_cons_succ, List.setIfInBounds_toArray, List.set_cons_zero, List.set_cons_succ])
          refine wpAnyH_ready (rs := [15]) (by kernel_rfl) (by simp) ?_
          refine AllReadyH.cons rfl (fun K hK => ?r33_15) AllReadyH.nil
          case r33_15 =>
            (try simp only [List.getElem_toArray, List.getElem_cons_zero, List.getElem_cons_succ])
            go_simp
            refine (join1 _ _ (X.drop k) (by exact rr_blk (L32.out.blk _ (.head _)) (by exact HRL.out _ (L32.out.own _ (.tail _ (.head _))).rb)) (by rw [HX2.out.2.2]; have := HKN.out; omega)).mono ?_
            rw [HX2.out.2.2]
            rintro e uL34 ⟨AL34, cL34, rfl, ho, hb⟩
            have L34 := Lib.hid (L32.out.ret hb ho)
            clear ho hb
            (try go_wp2_with fail)
            refine hK.out _ _ ⟨L34.out.blk _ (.tail _ (.tail _ (.tail _ (.head _)))), HA.out.step L34.out.bel⟩ (fun hHeld => ?_)
            clear hK K
            (try simp only [Act.put, List.getElem_toArray, List.getElem_cons_zero, List.getElem_cons_succ, List.setIfInBounds_toArray, List.set_cons_zero, List.set_cons_succ])
            refine wpAnyH_take (i := 16) (v := ?v16_34) rfl (by kernel_rfl) (by kernel_rfl) (by kernel_rfl) (fun _ _ _ h => h) (Or.inl ⟨by rfl, ?hy16_34⟩) hHeld ?_
            case hy16_34 => (intro w hSw; (try dsimp only at hSw); (try simp only [List.getElem_toArray, List.getElem_cons_zero, List.getElem_cons_succ]); go_simp <;> with_reducible rfl)
            (try simp only [Act.put, List.getElem_toArray, List.getElem_cons_zero, List.getElem_cons_succ, List.setIfInBounds_toArray, List.set_cons_zero, List.set_cons_succ])
            have qs := st_prt (p := y) (A := AL30) (n := k) (c := cL30) (B := AL34) (m := n - 1 - k) (d := cL34) rt_prt (L34.out.blk _ (.tail _ (.tail _ (.head _))))
            refine wpAnyH_ready (rs := [17]) (by kernel_rfl) (by simp) ?_
            refine AllReadyH.cons rfl (fun K hK => ?_) AllReadyH.nil
            (try simp only [List.getElem_toArray, List.getElem_cons_zero, List.getElem_cons_succ])
            go_simp
            have L35 := Lib.hid (L34.out.put (cs := pcel y AL30 k cL30 AL34 (n - 1 - k) cL34) HQ.out.1 (L34.out.blk _ (.tail _ (.tail _ (.head _)))) (show 43 ≠ 5 by decide) pcel_len)
            refine hK.out _ _ ⟨(L34.out.blk _ (.tail _ (.tail _ (.tail _ (.head _))))).oth (oth_setCells q2 _ 0 _ _ (Oth.refl _ _)) (by simpa using HQ.out.2.out), HA.out.step L35.out.bel⟩ (fun hHeld => ?_)
            clear hK K
            (try simp only [Act.put, List.getElem_toArray, List.getElem_cons_zero, List.getElem_cons_succ, List.setIfInBounds_toArray, List.set_cons_zero, List.set_cons_succ])
            refine wpAnyH_take (i := 18) (v := ?v18_35) rfl (by kernel_rfl) (by kernel_rfl) (by kernel_rfl) (fun _ _ _ h => h) (Or.inl ⟨by rfl, ?hy18_35⟩) hHeld ?_
            case hy18_35 => (intro w hSw; (try dsimp only at hSw); (try simp only [List.getElem_toArray, List.getElem_cons_zero, List.getElem_cons_succ]); go_simp <;> with_reducible rfl)
            (try simp only [Act.put, List.getElem_toArray, List.getElem_cons_zero, List.getElem_cons_succ, List.setIfInBounds_toArray, List.set_cons_zero, List.set_cons_succ])
            refine wpAnyH_done (by kernel_rfl) ?_ _
            clear hHeld HD qs
            go_wp2_with fail
            rw [HE.out, HP.out]
            refine bodyPost_ret (res_rec2 rt_prt rfl _ _ q2 (pcel y AL30 k cL30 AL34 (n - 1 - k) cL34) (.int .i64 0) rfl rfl (by exact L35.out.blk _ (.head _)) pcel_len) rfl (ret_pe HX2.out.2.1 HX2.out.2.2 (L35.out.own _ (.tail _ (.head _))) (L35.out.own _ (.head _)) L35.out.bel)
      case r29_14 =>
        (try simp only [List.getElem_toArray, List.getElem_cons_zero, List.getElem_cons_succ])
        go_simp
        have L36 := Lib.hid (L26.out.litA (.slice (cutA A6 c6 k) (n - 1 - k) (c6 - k)) (w6.heap.size + 1) (by simp))
        refine hK.out _ _ ⟨L36.out.blk _ (.tail _ (.tail _ (.tail _ (.head _)))), HA.out.step L36.out.bel⟩ (fun hHeld => ?_)
        clear hK K
        (try simp only [Act.put, List.getElem_toArray, List.getElem_cons_zero, List.getElem_cons_succ, List.setIfInBounds_toArray, List.set_cons_zero, List.set_cons_succ])
        refine wpAnyH_ready (rs := [9]) (by kernel_rfl) (by simp) ?_
        refine AllReadyH.cons rfl (fun K hK => ?r37_9) AllReadyH.nil
        case r37_9 =>
          (try simp only [List.getElem_toArray, List.getElem_cons_zero, List.getElem_cons_succ])
          go_simp
          refine (join1 _ _ (X.take k) (by exact rr_blk (L36.out.blk _ (.tail _ (.head _))) (by exact HRH.out _ (L36.out.own _ (.head _)).rb)) (by rw [HX2.out.2.1]; have := HKN.out; omega)).mono ?_
          rw [HX2.out.2.1]
          rintro e uL38 ⟨AL38, cL38, rfl, ho, hb⟩
          have L38 := Lib.hid (L36.out.ret hb ho)
          clear ho hb
          (try go_wp2_with fail)
          refine hK.out _ _ ⟨L38.out.blk _ (.tail _ (.tail _ (.tail _ (.head _)))), HA.out.step L38.out.bel⟩ (fun hHeld => ?_)
          clear hK K
          (try simp only [Act.put, List.getElem_toArray, List.getElem_cons_zero, List.getElem_cons_succ, List.setIfInBounds_toArray, List.set_cons_zero, List.set_cons_succ])
          refine wpAnyH_ready (rs := [15]) (by kernel_rfl) (by simp) ?_
          refine AllReadyH.cons rfl (fun K hK => ?r39_15) AllReadyH.nil
          case r39_15 =>
            (try simp only [List.getElem_toArray, List.getElem_cons_zero, List.getElem_cons_succ])
            go_simp
            refine (join1 _ _ (X.drop k) (by exact rr_blk (L38.out.blk _ (.head _)) (by exact HRL.out _ (L38.out.own _ (.tail _ (.head _))).rb)) (by rw [HX2.out.2.2]; have := HKN.out; omega)).mono ?_
            rw [HX2.out.2.2]
            rintro e uL40 ⟨AL40, cL40, rfl, ho, hb⟩
            have L40 := Lib.hid (L38.out.ret hb ho)
            clear ho hb
            (try go_wp2_with fail)
            refine hK.out _ _ ⟨L40.out.blk _ (.tail _ (.tail _ (.tail _ (.head _)))), HA.out.step L40.out.bel⟩ (fun hHeld => ?_)
            clear hK K
            (try simp only [Act.put, List.getElem_toArray, List.getElem_cons_zero, List.getElem_cons_succ, List.setIfInBounds_toArray, List.set_cons_zero, List.set_cons_succ])
            refine wpAnyH_take (i := 16) (v := ?v16_36) rfl (by kernel_rfl) (by kernel_rfl) (by kernel_rfl) (fun _ _ _ h => h) (Or.inl ⟨by rfl, ?hy16_36⟩) hHeld ?_
            case hy16_36 => (intro w hSw; (try dsimp only at hSw); (try simp only [List.getElem_toArray, List.getElem_cons_zero, List.getElem_cons_succ]); go_simp <;> with_reducible rfl)
            (try simp only [Act.put, List.getElem_toArray, List.getElem_cons_zero, List.getElem_cons_succ, List.setIfInBounds_toArray, List.set_cons_zero, List.set_cons_succ])
            have qs := st_prt (p := y) (A := AL38) (n := k) (c := cL38) (B := AL40) (m := n - 1 - k) (d := cL40) rt_prt (L40.out.blk _ (.tail _ (.tail _ (.head _))))
            refine wpAnyH_ready (rs := [17]) (by kernel_rfl) (by simp) ?_
            refine AllReadyH.cons rfl (fun K hK => ?_) AllReadyH.nil
            (try simp only [List.getElem_toArray, List.getElem_cons_zero, List.getElem_cons_succ])
            go_simp
            have L41 := Lib.hid (L40.out.put (cs := pcel y AL38 k cL38 AL40 (n - 1 - k) cL40) HQ.out.1 (L40.out.blk _ (.tail _ (.tail _ (.head _)))) (show 43 ≠ 5 by decide) pcel_len)
            refine hK.out _ _ ⟨(L40.out.blk _ (.tail _ (.tail _ (.tail _ (.head _))))).oth (oth_setCells q2 _ 0 _ _ (Oth.refl _ _)) (by simpa using HQ.out.2.out), HA.out.step L41.out.bel⟩ (fun hHeld => ?_)
            clear hK K
            (try simp only [Act.put, List.getElem_toArray, List.getElem_cons_zero, List.getElem_cons_succ, List.setIfInBounds_toArray, List.set_cons_zero, List.set_cons_succ])
            refine wpAnyH_take (i := 18) (v := ?v18_37) rfl (by kernel_rfl) (by kernel_rfl) (by kernel_rfl) (fun _ _ _ h => h) (Or.inl ⟨by rfl, ?hy18_37⟩) hHeld ?_
            case hy18_37 => (intro w hSw; (try dsimp only at hSw); (try simp only [List.getElem_toArray, List.getElem_cons_zero, List.getElem_cons_succ]); go_simp <;> with_reducible rfl)
            (try simp only [Act.put, List.getElem_toArray, List.getElem_cons_zero, List.getElem_cons_succ, List.setIfInBounds_toArray, List.set_cons_zero, List.set_cons_succ])
            refine wpAnyH_done (by kernel_rfl) ?_ _
            clear hHeld HD qs
            go_wp2_with fail
            rw [HE.out, HP.out]
            refine bodyPost_ret (res_rec2 rt_prt rfl _ _ q2 (pcel y AL38 k cL38 AL40 (n - 1 - k) cL40) (.int .i64 0) rfl rfl (by exact L41.out.blk _ (.head _)) pcel_len) rfl (ret_pe HX2.out.2.1 HX2.out.2.2 (L41.out.own _ (.tail _ (.head _))) (L41.out.own _ (.head _)) L41.out.bel)
    case r27_14 =>
      (try simp only [List.getElem_toArray, List.getElem_cons_zero, List.getElem_cons_succ])
      go_simp
      have L42 := Lib.hid (L26.out.litA (.slice (cutA A6 c6 k) (n - 1 - k) (c6 - k)) (w6.heap.size + 1) (by simp))
      refine hK.out _ _ ⟨L42.out.blk _ (.tail _ (.tail _ (.tail _ (.head _)))), HA.out.step L42.out.bel⟩ (fun hHeld => ?_)
      clear hK K
      (try simp only [Act.put, List.getElem_toArray, List.getElem_cons_zero, List.getElem_cons_succ, List.setIfInBounds_toArray, List.set_cons_zero, List.set_cons_succ])
      refine wpAnyH_ready (rs := [3]) (by kernel_rfl) (by simp) ?_
      refine AllReadyH.cons rfl (fun K hK => ?r43_3) AllReadyH.nil
      case r43_3 =>
        (try simp only [List.getElem_toArray, List.getElem_cons_zero, List.getElem_cons_succ])
        go_simp
        refine (HPT.out _).mono ?_
        rintro e uL44 ⟨rfl, rfl⟩
        (try go_wp2_with fail)
        refine hK.out _ _ ⟨L42.out.blk _ (.tail _ (.tail _ (.tail _ (.head _)))), HA.out.step L42.out.bel⟩ (fun hHeld => ?_)
        clear hK K
        (try simp only [Act.put, List.getElem_toArray, List.getElem_cons_zero, List.getElem_cons_succ, List.setIfInBounds_toArray, List.set_cons_zero, List.set_cons_succ])
        refine wpAnyH_ready (rs := [9]) (by kernel_rfl) (by simp) ?_
        refine AllReadyH.cons rfl (fun K hK => ?r45_9) AllReadyH.nil
        case r45_9 =>
          (try simp only [List.getElem_toArray, List.getElem_cons_zero, List.getElem_cons_succ])
          go_simp
          refine (join1 _ _ (X.take k) (by exact rr_blk (L42.out.blk _ (.tail _ (.head _))) (by exact HRH.out _ (L42.out.own _ (.head _)).rb)) (by rw [HX2.out.2.1]; have := HKN.out; omega)).mono ?_
          rw [HX2.out.2.1]
          rintro e uL46 ⟨AL46, cL46, rfl, ho, hb⟩
          have L46 := Lib.hid (L42.out.ret hb ho)
          clear ho hb
          (try go_wp2_with fail)
          refine hK.out _ _ ⟨L46.out.blk _ (.tail _ (.tail _ (.tail _ (.head _)))), HA.out.step L46.out.bel⟩ (fun hHeld => ?_)
          clear hK K
          (try simp only [Act.put, List.getElem_toArray, List.getElem_cons_zero, List.getElem_cons_succ, List.setIfInBounds_toArray, List.set_cons_zero, List.set_cons_succ])
          refine wpAnyH_ready (rs := [15]) (by kernel_rfl) (by simp) ?_
          refine AllReadyH.cons rfl (fun K hK => ?r47_15) AllReadyH.nil
          case r47_15 =>
            (try simp only [List.getElem_toArray, List.getElem_cons_zero, List.getElem_cons_succ])
            go_simp
            refine (join1 _ _ (X.drop k) (by exact rr_blk (L46.out.blk _ (.head _)) (by exact HRL.out _ (L46.out.own _ (.tail _ (.head _))).rb)) (by rw [HX2.out.2.2]; have := HKN.out; omega)).mono ?_
            rw [HX2.out.2.2]
            rintro e uL48 ⟨AL48, cL48, rfl, ho, hb⟩
            have L48 := Lib.hid (L46.out.ret hb ho)
            clear ho hb
            (try go_wp2_with fail)
            refine hK.out _ _ ⟨L48.out.blk _ (.tail _ (.tail _ (.tail _ (.head _)))), HA.out.step L48.out.bel⟩ (fun hHeld => ?_)
            clear hK K
            (try simp only [Act.put, List.getElem_toArray, List.getElem_cons_zero, List.getElem_cons_succ, List.setIfInBounds_toArray, List.set_cons_zero, List.set_cons_succ])
            refine wpAnyH_take (i := 16) (v := ?v16_38) rfl (by kernel_rfl) (by kernel_rfl) (by kernel_rfl) (fun _ _ _ h => h) (Or.inl ⟨by rfl, ?hy16_38⟩) hHeld ?_
            case hy16_38 => (intro w hSw; (try dsimp only at hSw); (try simp only [List.getElem_toArray, List.getElem_cons_zero, List.getElem_cons_succ]); go_simp <;> with_reducible rfl)
            (try simp only [Act.put, List.getElem_toArray, List.getElem_cons_zero, List.getElem_cons_succ, List.setIfInBounds_toArray, List.set_cons_zero, List.set_cons_succ])
            have qs := st_prt (p := y) (A := AL46) (n := k) (c := cL46) (B := AL48) (m := n - 1 - k) (d := cL48) rt_prt (L48.out.blk _ (.tail _ (.tail _ (.head _))))
            refine wpAnyH_ready (rs := [17]) (by kernel_rfl) (by simp) ?_
            refine AllReadyH.cons rfl (fun K hK => ?_) AllReadyH.nil
            (try simp only [List.getElem_toArray, List.getElem_cons_zero, List.getElem_cons_succ])
            go_simp
            have L49 := Lib.hid (L48.out.put (cs := pcel y AL46 k cL46 AL48 (n - 1 - k) cL48) HQ.out.1 (L48.out.blk _ (.tail _ (.tail _ (.head _)))) (show 43 ≠ 5 by decide) pcel_len)
            refine hK.out _ _ ⟨(L48.out.blk _ (.tail _ (.tail _ (.tail _ (.head _))))).oth (oth_setCells q2 _ 0 _ _ (Oth.refl _ _)) (by simpa using HQ.out.2.out), HA.out.step L49.out.bel⟩ (fun hHeld => ?_)
            clear hK K
            (try simp only [Act.put, List.getElem_toArray, List.getElem_cons_zero, List.getElem_cons_succ, List.setIfInBounds_toArray, List.set_cons_zero, List.set_cons_succ])
            refine wpAnyH_take (i := 18) (v := ?v18_39) rfl (by kernel_rfl) (by kernel_rfl) (by kernel_rfl) (fun _ _ _ h => h) (Or.inl ⟨by rfl, ?hy18_39⟩) hHeld ?_
            case hy18_39 => (intro w hSw; (try dsimp only at hSw); (try simp only [List.getElem_toArray, List.getElem_cons_zero, List.getElem_cons_succ]); go_simp <;> with_reducible rfl)
            (try simp only [Act.put, List.getElem_toArray, List.getElem_cons_zero, List.getElem_cons_succ, List.setIfInBounds_toArray, List.set_cons_zero, List.set_cons_succ])
            refine wpAnyH_done (by kernel_rfl) ?_ _
            clear hHeld HD qs
            go_wp2_with fail
            rw [HE.out, HP.out]
            refine bodyPost_ret (res_rec2 rt_prt rfl _ _ q2 (pcel y AL46 k cL46 AL48 (n - 1 - k) cL48) (.int .i64 0) rfl rfl (by exact L49.out.blk _ (.head _)) pcel_len) rfl (ret_pe HX2.out.2.1 HX2.out.2.2 (L49.out.own _ (.tail _ (.head _))) (L49.out.own _ (.head _)) L49.out.bel)
  case r1_14 =>
    (try simp only [List.getElem_toArray, List.getElem_cons_zero, List.getElem_cons_succ])
    go_simp
    have L50 := Lib.hid (K7.out.litA (.slice (cutA A6 c6 k) (n - 1 - k) (c6 - k)) (w6.heap.size) (by simp))
    refine hK.out _ _ ⟨L50.out.blk _ (.tail _ (.tail _ (.head _))), HA.out.step L50.out.bel⟩ (fun hHeld => ?_)
    clear hK K
    (try simp only [Act.put, List.getElem_toArray, List.getElem_cons_zero, List.getElem_cons_succ, List.setIfInBounds_toArray, List.set_cons_zero, List.set_cons_succ])
    refine wpAnyH_ready (rs := [3, 8]) (by kernel_rfl) (by simp) ?_
    refine AllReadyH.cons rfl (fun K hK => ?r51_3) (AllReadyH.cons rfl (fun K hK => ?r51_8) AllReadyH.nil)
    case r51_3 =>
      (try simp only [List.getElem_toArray, List.getElem_cons_zero, List.getElem_cons_succ])
      go_simp
      refine (HPT.out _).mono ?_
      rintro e uL52 ⟨rfl, rfl⟩
      (try go_wp2_with fail)
      refine hK.out _ _ ⟨L50.out.blk _ (.tail _ (.tail _ (.head _))), HA.out.step L50.out.bel⟩ (fun hHeld => ?_)
      clear hK K
      (try simp only [Act.put, List.getElem_toArray, List.getElem_cons_zero, List.getElem_cons_succ, List.setIfInBounds_toArray, List.set_cons_zero, List.set_cons_succ])
      refine wpAnyH_ready (rs := [8]) (by kernel_rfl) (by simp) ?_
      refine AllReadyH.cons rfl (fun K hK => ?r53_8) AllReadyH.nil
      case r53_8 =>
        (try simp only [List.getElem_toArray, List.getElem_cons_zero, List.getElem_cons_succ])
        go_simp
        have L54 := Lib.hid (L50.out.litA (.slice (cutA A6 c6 0) k c6) (w6.heap.size + 1) (by simp))
        refine hK.out _ _ ⟨L54.out.blk _ (.tail _ (.tail _ (.tail _ (.head _)))), HA.out.step L54.out.bel⟩ (fun hHeld => ?_)
        clear hK K
        (try simp only [Act.put, List.getElem_toArray, List.getElem_cons_zero, List.getElem_cons_succ, List.setIfInBounds_toArray, List.set_cons_zero, List.set_cons_succ])
        refine wpAnyH_ready (rs := [9]) (by kernel_rfl) (by simp) ?_
        refine AllReadyH.cons rfl (fun K hK => ?r55_9) AllReadyH.nil
        case r55_9 =>
          (try simp only [List.getElem_toArray, List.getElem_cons_zero, List.getElem_cons_succ])
          go_simp
          refine (join1 _ _ (X.take k) (by exact rr_blk (L54.out.blk _ (.head _)) (by exact HRH.out _ (L54.out.own _ (.head _)).rb)) (by rw [HX2.out.2.1]; have := HKN.out; omega)).mono ?_
          rw [HX2.out.2.1]
          rintro e uL56 ⟨AL56, cL56, rfl, ho, hb⟩
          have L56 := Lib.hid (L54.out.ret hb ho)
          clear ho hb
          (try go_wp2_with fail)
          refine hK.out _ _ ⟨L56.out.blk _ (.tail _ (.tail _ (.tail _ (.head _)))), HA.out.step L56.out.bel⟩ (fun hHeld => ?_)
          clear hK K
          (try simp only [Act.put, List.getElem_toArray, List.getElem_cons_zero, List.getElem_cons_succ, List.setIfInBounds_toArray, List.set_cons_zero, List.set_cons_succ])
          refine wpAnyH_ready (rs := [15]) (by kernel_rfl) (by simp) ?_
          refine AllReadyH.cons rfl (fun K hK => ?r57_15) AllReadyH.nil
          case r57_15 =>
            (try simp only [List.getElem_toArray, List.getElem_cons_zero, List.getElem_cons_succ])
            go_simp
            refine (join1 _ _ (X.drop k) (by exact rr_blk (L56.out.blk _ (.tail _ (.head _))) (by exact HRL.out _ (L56.out.own _ (.tail _ (.head _))).rb)) (by rw [HX2.out.2.2]; have := HKN.out; omega)).mono ?_
            rw [HX2.out.2.2]
            rintro e uL58 ⟨AL58, cL58, rfl, ho, hb⟩
            have L58 := Lib.hid (L56.out.ret hb ho)
            clear ho hb
            (try go_wp2_with fail)
            refine hK.out _ _ ⟨L58.out.blk _ (.tail _ (.tail _ (.tail _ (.head _)))), HA.out.step L58.out.bel⟩ (fun hHeld => ?_)
            clear hK K
            (try simp only [Act.put, List.getElem_toArray, List.getElem_cons_zero, List.getElem_cons_succ, List.setIfInBounds_toArray, List.set_cons_zero, List.set_cons_succ])
            refine wpAnyH_take (i := 16) (v := ?v16_40) rfl (by kernel_rfl) (by kernel_rfl) (by kernel_rfl) (fun _ _ _ h => h) (Or.inl ⟨by rfl, ?hy16_40⟩) hHeld ?_
            case hy16_40 => (intro w hSw; (try dsimp only at hSw); (try simp only [List.getElem_toArray, List.getElem_cons_zero, List.getElem_cons_succ]); go_simp <;> with_reducible rfl)
            (try simp only [Act.put, List.getElem_toArray, List.getElem_cons_zero, List.getElem_cons_succ, List.setIfInBounds_toArray, List.set_cons_zero, List.set_cons_succ])
            have qs := st_prt (p := y) (A := AL56) (n := k) (c := cL56) (B := AL58) (m := n - 1 - k) (d := cL58) rt_prt (L58.out.blk _ (.tail _ (.tail _ (.head _))))
            refine wpAnyH_ready (rs := [17]) (by kernel_rfl) (by simp) ?_
            refine AllReadyH.cons rfl (fun K hK => ?_) AllReadyH.nil
            (try simp only [List.getElem_toArray, List.getElem_cons_zero, List.getElem_cons_succ])
            go_simp
            have L59 := Lib.hid (L58.out.put (cs := pcel y AL56 k cL56 AL58 (n - 1 - k) cL58) HQ.out.1 (L58.out.blk _ (.tail _ (.tail _ (.head _)))) (show 43 ≠ 5 by decide) pcel_len)
            refine hK.out _ _ ⟨(L58.out.blk _ (.tail _ (.tail _ (.tail _ (.head _))))).oth (oth_setCells q2 _ 0 _ _ (Oth.refl _ _)) (by simpa using HQ.out.2.out), HA.out.step L59.out.bel⟩ (fun hHeld => ?_)
            clear hK K
            (try simp only [Act.put, List.getElem_toArray, List.getElem_cons_zero, List.getElem_cons_succ, List.setIfInBounds_toArray, List.set_cons_zero, List.set_cons_succ])
            refine wpAnyH_take (i := 18) (v := ?v18_41) rfl (by kernel_rfl) (by kernel_rfl) (by kernel_rfl) (fun _ _ _ h => h) (Or.inl ⟨by rfl, ?hy18_41⟩) hHeld ?_
            case hy18_41 => (intro w hSw; (try dsimp only at hSw); (try simp only [List.getElem_toArray, List.getElem_cons_zero, List.getElem_cons_succ]); go_simp <;> with_reducible rfl)
            (try simp only [Act.put, List.getElem_toArray, List.getElem_cons_zero, List.getElem_cons_succ, List.setIfInBounds_toArray, List.set_cons_zero, List.set_cons_succ])
            refine wpAnyH_done (by kernel_rfl) ?_ _
            clear hHeld HD qs
            go_wp2_with fail
            rw [HE.out, HP.out]
            refine bodyPost_ret (res_rec2 rt_prt rfl _ _ q2 (pcel y AL56 k cL56 AL58 (n - 1 - k) cL58) (.int .i64 0) rfl rfl (by exact L59.out.blk _ (.head _)) pcel_len) rfl (ret_pe HX2.out.2.1 HX2.out.2.2 (L59.out.own _ (.tail _ (.head _))) (L59.out.own _ (.head _)) L59.out.bel)
    case r51_8 =>
      (try simp only [List.getElem_toArray, List.getElem_cons_zero, List.getElem_cons_succ])
      go_simp
      have L60 := Lib.hid (L50.out.litA (.slice (cutA A6 c6 0) k c6) (w6.heap.size + 1) (by simp))
      refine hK.out _ _ ⟨L60.out.blk _ (.tail _ (.tail _ (.tail _ (.head _)))), HA.out.step L60.out.bel⟩ (fun hHeld => ?_)
      clear hK K
      (try simp only [Act.put, List.getElem_toArray, List.getElem_cons_zero, List.getElem_cons_succ, List.setIfInBounds_toArray, List.set_cons_zero, List.set_cons_succ])
      refine wpAnyH_ready (rs := [3]) (by kernel_rfl) (by simp) ?_
      refine AllReadyH.cons rfl (fun K hK => ?r61_3) AllReadyH.nil
      case r61_3 =>
        (try simp only [List.getElem_toArray, List.getElem_cons_zero, List.getElem_cons_succ])
        go_simp
        refine (HPT.out _).mono ?_
        rintro e uL62 ⟨rfl, rfl⟩
        (try go_wp2_with fail)
        refine hK.out _ _ ⟨L60.out.blk _ (.tail _ (.tail _ (.tail _ (.head _)))), HA.out.step L60.out.bel⟩ (fun hHeld => ?_)
        clear hK K
        (try simp only [Act.put, List.getElem_toArray, List.getElem_cons_zero, List.getElem_cons_succ, List.setIfInBounds_toArray, List.set_cons_zero, List.set_cons_succ])
        refine wpAnyH_ready (rs := [9]) (by kernel_rfl) (by simp) ?_
        refine AllReadyH.cons rfl (fun K hK => ?r63_9) AllReadyH.nil
        case r63_9 =>
          (try simp only [List.getElem_toArray, List.getElem_cons_zero, List.getElem_cons_succ])
          go_simp
          refine (join1 _ _ (X.take k) (by exact rr_blk (L60.out.blk _ (.head _)) (by exact HRH.out _ (L60.out.own _ (.head _)).rb)) (by rw [HX2.out.2.1]; have := HKN.out; omega)).mono ?_
          rw [HX2.out.2.1]
          rintro e uL64 ⟨AL64, cL64, rfl, ho, hb⟩
          have L64 := Lib.hid (L60.out.ret hb ho)
          clear ho hb
          (try go_wp2_with fail)
          refine hK.out _ _ ⟨L64.out.blk _ (.tail _ (.tail _ (.tail _ (.head _)))), HA.out.step L64.out.bel⟩ (fun hHeld => ?_)
          clear hK K
          (try simp only [Act.put, List.getElem_toArray, List.getElem_cons_zero, List.getElem_cons_succ, List.setIfInBounds_toArray, List.set_cons_zero, List.set_cons_succ])
          refine wpAnyH_ready (rs := [15]) (by kernel_rfl) (by simp) ?_
          refine AllReadyH.cons rfl (fun K hK => ?r65_15) AllReadyH.nil
          case r65_15 =>
            (try simp only [List.getElem_toArray, List.getElem_cons_zero, List.getElem_cons_succ])
            go_simp
            refine (join1 _ _ (X.drop k) (by exact rr_blk (L64.out.blk _ (.tail _ (.head _))) (by exact HRL.out _ (L64.out.own _ (.tail _ (.head _))).rb)) (by rw [HX2.out.2.2]; have := HKN.out; omega)).mono ?_
            rw [HX2.out.2.2]
            rintro e uL66 ⟨AL66, cL66, rfl, ho, hb⟩
            have L66 := Lib.hid (L64.out.ret hb ho)
            clear ho hb
            (try go_wp2_with fail)
            refine hK.out _ _ ⟨L66.out.blk _ (.tail _ (.tail _ (.tail _ (.head _)))), HA.out.step L66.out.bel⟩ (fun hHeld => ?_)
            clear hK K
            (try simp only [Act.put, List.getElem_toArray, List.getElem_cons_zero, List.getElem_cons_succ, List.setIfInBounds_toArray, List.set_cons_zero, List.set_cons_succ])
            refine wpAnyH_take (i := 16) (v := ?v16_42) rfl (by kernel_rfl) (by kernel_rfl) (by kernel_rfl) (fun _ _ _ h => h) (Or.inl ⟨by rfl, ?hy16_42⟩) hHeld ?_
            case hy16_42 => (intro w hSw; (try dsimp only at hSw); (try simp only [List.getElem_toArray, List.getElem_cons_zero, List.getElem_cons_succ]); go_simp <;> with_reducible rfl)
            (try simp only [Act.put, List.getElem_toArray, List.getElem_cons_zero, List.getElem_cons_succ, List.setIfInBounds_toArray, List.set_cons_zero, List.set_cons_succ])
            have qs := st_prt (p := y) (A := AL64) (n := k) (c := cL64) (B := AL66) (m := n - 1 - k) (d := cL66) rt_prt (L66.out.blk _ (.tail _ (.tail _ (.head _))))
            refine wpAnyH_ready (rs := [17]) (by kernel_rfl) (by simp) ?_
            refine AllReadyH.cons rfl (fun K hK => ?_) AllReadyH.nil
            (try simp only [List.getElem_toArray, List.getElem_cons_zero, List.getElem_cons_succ])
            go_simp
            have L67 := Lib.hid (L66.out.put (cs := pcel y AL64 k cL64 AL66 (n - 1 - k) cL66) HQ.out.1 (L66.out.blk _ (.tail _ (.tail _ (.head _)))) (show 43 ≠ 5 by decide) pcel_len)
            refine hK.out _ _ ⟨(L66.out.blk _ (.tail _ (.tail _ (.tail _ (.head _))))).oth (oth_setCells q2 _ 0 _ _ (Oth.refl _ _)) (by simpa using HQ.out.2.out), HA.out.step L67.out.bel⟩ (fun hHeld => ?_)
            clear hK K
            (try simp only [Act.put, List.getElem_toArray, List.getElem_cons_zero, List.getElem_cons_succ, List.setIfInBounds_toArray, List.set_cons_zero, List.set_cons_succ])
            refine wpAnyH_take (i := 18) (v := ?v18_43) rfl (by kernel_rfl) (by kernel_rfl) (by kernel_rfl) (fun _ _ _ h => h) (Or.inl ⟨by rfl, ?hy18_43⟩) hHeld ?_
            case hy18_43 => (intro w hSw; (try dsimp only at hSw); (try simp only [List.getElem_toArray, List.getElem_cons_zero, List.getElem_cons_succ]); go_simp <;> with_reducible rfl)
            (try simp only [Act.put, List.getElem_toArray, List.getElem_cons_zero, List.getElem_cons_succ, List.setIfInBounds_toArray, List.set_cons_zero, List.set_cons_succ])
            refine wpAnyH_done (by kernel_rfl) ?_ _
            clear hHeld HD qs
            go_wp2_with fail
            rw [HE.out, HP.out]
            refine bodyPost_ret (res_rec2 rt_prt rfl _ _ q2 (pcel y AL64 k cL64 AL66 (n - 1 - k) cL66) (.int .i64 0) rfl rfl (by exact L67.out.blk _ (.head _)) pcel_len) rfl (ret_pe HX2.out.2.1 HX2.out.2.2 (L67.out.own _ (.tail _ (.head _))) (L67.out.own _ (.head _)) L67.out.bel)
theorem cback_any (c : Cfg) (h : c.ok) (A : Option Addr) (n d : Nat) (l : List UInt8) (w : World) (hA : RB w w.heap.size A n l) (hd : n ≤ d) :
    Calls Tryz.prog 33 #[c.val, .slice A n d] w (RetPE (codB c l) w) := by
  cases hr : rtB c
  · exact cback_state c h A n d l w hA hd hr
  by_cases hl : (l.length : Int) = 1 + (c.s + c.n)
  · by_cases ht : tldB (l.getD 0 0) = l.length
    · exact cback_ok c h A n d l w hA hd hr hl ht
    · exact cback_form c h A n d l w hA hd hr hl ht
  · exact cback_range c h A n d l w hA hd hr hl
end Go.Proofs.YtkcchidklcnnnaaGreat
