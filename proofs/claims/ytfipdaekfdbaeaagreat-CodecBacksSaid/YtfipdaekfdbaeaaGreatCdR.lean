/- Layer 17's reference: Point, Told, Plain, Make, Back. Condition: the slices' cells are readable; the configuration's key has sixteen bytes, its numbers are words. -/
import Derived.Test.YtfipdaekfdbaeaaGreatCdA
import Derived.Test.YtfipdaekfdbaeaaGreatCdM
import Derived.Test.YtfipdaekfdbaeaaGreatMdUr
namespace Go.Proofs.YtfipdaekfdbaeaaGreat
open Go.RowKit
set_option linter.unusedVariables false
set_option linter.unusedSimpArgs false
theorem bel_oth1r {w w1 w2 : World} {q : Nat} (h : Below w.heap.size w w1) (ho : Oth [q] w1 w2) (hq : w.heap.size ≤ q) : Below w.heap.size w w2 :=
  h.trans (ho.below (fun k hk => by rw [List.mem_singleton.1 hk]; exact hq) h.size)
theorem ret_zeror {w w' : World} (z : Int) (h : Below w.heap.size w w') : RetPR (zPrt, z) w (.returned (.tuple #[.agg zcel.toArray, .int .i64 z])) w' := (ret_zero z h).rd
set_option maxRecDepth 100000 in
theorem rcpoint_any (x : UInt8) (w : World) :
    Calls Tryz.prog 17 #[.int .u8 (x.toNat : Int)] w fun e w' => e = .returned (.int .i64 (pntB x)) ∧ w = w' := by
  have hx := x.toNat_lt
  have h : (x.toNat : Int).tdiv 64 = (x.toNat : Int) / 64 := Int.tdiv_eq_ediv_of_nonneg (by omega)
  rw [pnt_nat]
  go_enter Tryz.func17, Tryz.ntmps17
  go_wp2_with fail
  go_ret
  exact ⟨rfl, rfl⟩
set_option maxRecDepth 100000 in
theorem rctold_any (x : UInt8) (w : World) :
    Calls Tryz.prog 19 #[.int .u8 (x.toNat : Int)] w fun e w' => e = .returned (.int .i64 (tldB x)) ∧ w = w' := by
  have hx := x.toNat_lt
  have h : (x.toNat : Int).tmod 64 = (x.toNat : Int) % 64 := Int.tmod_eq_emod_of_nonneg (by omega)
  rw [tld_nat]
  go_enter Tryz.func19, Tryz.ntmps19
  go_wp2_with fail
  go_ret
  exact ⟨rfl, rfl⟩
attribute [local irreducible] Cfg.val Cfg.cells rtB Rt zK sizeC AV bytC rawC zeroC turnC wayC encL decL tableL backL passesR cntP idB codM codB prtC pcel zcel
attribute [local go_sem ↓] ex_ldR ex_stPr
set_option maxRecDepth 100000 in
set_option maxHeartbeats 2000000 in
theorem rcplain_any (p : Int) (A : Option Addr) (n c : Nat) (l : List UInt8) (w : World) (h : RB w w.heap.size A n l) :
    Calls Tryz.prog 14 #[.int .i64 p, .slice A n c] w (RetBE (plnL p l).1.length (plnL p l).1 (plnL p l).2 w) := by
  have HL := Lib.hid h.len
  have H := Lib.hid h
  clear h
  by_cases h0 : p < 0
  · have d0 : decide (p < 0) = true := decide_eq_true h0
    have HE := Lib.hid (pln_no (p := p) (n := l) (by rw [HL.out]; omega))
    go_enter Tryz.func14, Tryz.ntmps14
    go_wp2_with fail
    rw [HE.out]
    go_ret2
    exact ⟨none, 0, rfl, OwnB.nil_ _ _, Below.refl _ _⟩
  have d0 : decide (p < 0) = false := decide_eq_false h0
  by_cases h3 : 3 < p
  · have d3 : decide (3 < p) = true := decide_eq_true h3
    have HE := Lib.hid (pln_no (p := p) (n := l) (by rw [HL.out]; omega))
    go_enter Tryz.func14, Tryz.ntmps14
    go_wp2_with fail
    rw [HE.out]
    go_ret2
    exact ⟨none, 0, rfl, OwnB.nil_ _ _, Below.refl _ _⟩
  have d3 : decide (3 < p) = false := decide_eq_false h3
  by_cases h19 : 19 < n
  · have d1 : decide ((19 : Int) < (n : Int)) = true := decide_eq_true (by omega)
    have HE := Lib.hid (pln_no (p := p) (n := l) (by rw [HL.out]; omega))
    go_enter Tryz.func14, Tryz.ntmps14
    go_wp2_with fail
    rw [HE.out]
    go_ret2
    exact ⟨none, 0, rfl, OwnB.nil_ _ _, Below.refl _ _⟩
  have d1 : decide ((19 : Int) < (n : Int)) = false := decide_eq_false (by omega)
  have HE := Lib.hid (pln_ok (p := p) (n := l) ⟨⟨by omega, by omega⟩, by rw [HL.out]; omega⟩)
  have HI : Hid (∃ y : UInt8, idB p l = [y] ++ l ∧ 64 * p + (n : Int) = (y.toNat : Int)) := Lib.hid ⟨b8 (64 * p + (n : Int)), by unfold idB; rw [HL.out]; rfl, (b8_nat (by omega) (by omega)).symm⟩
  obtain ⟨y, hy, hz⟩ := HI.out
  have hyl := byte_lt y
  have HY := Lib.hid hy
  have hp0 : 0 ≤ p := by omega
  have hp3 : p ≤ 3 := by omega
  have HN : Hid (n ≤ 19) := Lib.hid (by omega)
  clear hy h0 h3 h19
  go_enter Tryz.func14, Tryz.ntmps14
  go_wp2_with (first
    | (at_builtin; refine wpList_app rfl (.tmp 23) (.tmp 24) rfl w.heap.size _ _ _ [y] rfl (by exact OwnB.lit w _ [y] _ 1 rfl rfl (by unfold maxLen; omega) (Nat.le_refl _)) _ A n c l rfl (by exact H.out.step (below_alloc _ _)) (by have := HN.out; omega) (by simp) ?_; intro A4 c4 w4 ho4 hg4 hb4; have K4 : Hid (Below w.heap.size w w4 ∧ OwnB w4 w.heap.size A4 (1 + n) c4 ([y] ++ l)) := Lib.hid ⟨(below_alloc w _).trans hb4, ho4⟩; clear ho4 hg4 hb4))
  rw [HE.out, idB_len, HL.out, Nat.add_comm n 1]
  go_ret2
  exact ⟨A4, c4, rfl, by rw [HY.out]; exact K4.out.2, K4.out.1⟩
set_option maxRecDepth 100000 in
set_option maxHeartbeats 4000000 in
theorem rcmake_state (c : Cfg) (h : c.ok) (p : Int) (A : Option Addr) (n d : Nat) (s : List UInt8) (B : Option Addr) (m e : Nat) (t : List UInt8) (w : World) (hA : RB w w.heap.size A n s) (hB : RB w w.heap.size B m t) (hr : rtB c = false) :
    Calls Tryz.prog 11 #[c.val, .int .i64 p, .slice A n d, .slice B m e] w (RetBE (codM c p s t).1.length (codM c p s t).1 (codM c p s t).2 w) := by
  have HC := Lib.hid h
  have HE := Lib.hid (codM_state (p := p) (s := s) (n := t) hr)
  have HR := Lib.hid (fun u => rmright_any c h false hr u)
  clear h hr hA hB
  go_enter Tryz.func11, Tryz.ntmps11
  go_wp2_with (first | (refine wpList_boxB rfl 32 (.tmp 0) rfl c.cells (val_agg c) ?_; intro w1 q hc1 hb1 hx1; have K1 := Lib.hid ((BK.start w).add hb1 hc1); have ql := ld_cfg rt_rcfg (K1.out.blk _ (.head _)) HC.out; clear hc1 hb1 hx1))
  refine (HR.out _).mono ?_
  rintro e w2 ⟨rfl, hb⟩
  have K2 := Lib.hid (K1.out.step hb)
  clear hb ql K1
  go_wp2_with fail
  go_ret2
  rw [HE.out]
  exact ⟨none, 0, rfl, OwnB.nil_ _ _, K2.out.bel⟩
set_option maxRecDepth 100000 in
set_option maxHeartbeats 4000000 in
theorem rcmake_neg (c : Cfg) (h : c.ok) (p : Int) (A : Option Addr) (n d : Nat) (s : List UInt8) (B : Option Addr) (m e : Nat) (t : List UInt8) (w : World) (hA : RB w w.heap.size A n s) (hB : RB w w.heap.size B m t) (hr : rtB c = true) (h1 : p < 0) :
    Calls Tryz.prog 11 #[c.val, .int .i64 p, .slice A n d, .slice B m e] w (RetBE (codM c p s t).1.length (codM c p s t).1 (codM c p s t).2 w) := by
  have HC := Lib.hid h
  have HLA := Lib.hid hA.len
  have HLB := Lib.hid hB.len
  have HE := Lib.hid (codM_range (p := p) (s := s) (n := t) hr (by have := HLA.out; have := HLB.out; omega))
  have HR := Lib.hid (fun u => rmright_any c h true hr u)
  have d0 : decide (p < 0) = true := decide_eq_true h1
  clear h1
  clear h hr hA hB
  go_enter Tryz.func11, Tryz.ntmps11
  go_wp2_with (first | (refine wpList_boxB rfl 32 (.tmp 0) rfl c.cells (val_agg c) ?_; intro w1 q hc1 hb1 hx1; have K1 := Lib.hid ((BK.start w).add hb1 hc1); have ql := ld_cfg rt_rcfg (K1.out.blk _ (.head _)) HC.out; clear hc1 hb1 hx1))
  refine (HR.out _).mono ?_
  rintro e w2 ⟨rfl, hb⟩
  have K2 := Lib.hid (K1.out.step hb)
  have c1 := cf1 (K2.out.blk _ (.head _))
  have c2 := cf2 (K2.out.blk _ (.head _))
  clear hb ql K1
  go_wp2_with fail
  go_ret2
  rw [HE.out]
  exact ⟨none, 0, rfl, OwnB.nil_ _ _, K2.out.bel⟩
set_option maxRecDepth 100000 in
set_option maxHeartbeats 4000000 in
theorem rcmake_big (c : Cfg) (h : c.ok) (p : Int) (A : Option Addr) (n d : Nat) (s : List UInt8) (B : Option Addr) (m e : Nat) (t : List UInt8) (w : World) (hA : RB w w.heap.size A n s) (hB : RB w w.heap.size B m t) (hr : rtB c = true) (h1 : 2 < p) :
    Calls Tryz.prog 11 #[c.val, .int .i64 p, .slice A n d, .slice B m e] w (RetBE (codM c p s t).1.length (codM c p s t).1 (codM c p s t).2 w) := by
  have HC := Lib.hid h
  have HLA := Lib.hid hA.len
  have HLB := Lib.hid hB.len
  have HE := Lib.hid (codM_range (p := p) (s := s) (n := t) hr (by have := HLA.out; have := HLB.out; omega))
  have HR := Lib.hid (fun u => rmright_any c h true hr u)
  have d0 : decide (p < 0) = false := decide_eq_false (by omega)
  have d3 : decide (2 < p) = true := decide_eq_true h1
  clear h1
  clear h hr hA hB
  go_enter Tryz.func11, Tryz.ntmps11
  go_wp2_with (first | (refine wpList_boxB rfl 32 (.tmp 0) rfl c.cells (val_agg c) ?_; intro w1 q hc1 hb1 hx1; have K1 := Lib.hid ((BK.start w).add hb1 hc1); have ql := ld_cfg rt_rcfg (K1.out.blk _ (.head _)) HC.out; clear hc1 hb1 hx1))
  refine (HR.out _).mono ?_
  rintro e w2 ⟨rfl, hb⟩
  have K2 := Lib.hid (K1.out.step hb)
  have c1 := cf1 (K2.out.blk _ (.head _))
  have c2 := cf2 (K2.out.blk _ (.head _))
  clear hb ql K1
  go_wp2_with fail
  go_ret2
  rw [HE.out]
  exact ⟨none, 0, rfl, OwnB.nil_ _ _, K2.out.bel⟩
set_option maxRecDepth 100000 in
set_option maxHeartbeats 4000000 in
theorem rcmake_sid (c : Cfg) (h : c.ok) (p : Int) (A : Option Addr) (n d : Nat) (s : List UInt8) (B : Option Addr) (m e : Nat) (t : List UInt8) (w : World) (hA : RB w w.heap.size A n s) (hB : RB w w.heap.size B m t) (hr : rtB c = true) (h1 : 0 ≤ p ∧ p < 3) (h2 : ¬ (n : Int) = c.s) :
    Calls Tryz.prog 11 #[c.val, .int .i64 p, .slice A n d, .slice B m e] w (RetBE (codM c p s t).1.length (codM c p s t).1 (codM c p s t).2 w) := by
  have HC := Lib.hid h
  have HLA := Lib.hid hA.len
  have HLB := Lib.hid hB.len
  have HE := Lib.hid (codM_range (p := p) (s := s) (n := t) hr (by have := HLA.out; have := HLB.out; omega))
  have HR := Lib.hid (fun u => rmright_any c h true hr u)
  have d0 : decide (p < 0) = false := decide_eq_false (by omega)
  have d3 : decide (2 < p) = false := decide_eq_false (by omega)
  have d4 : ((n : Int) != c.s) = true := by rw [bne_iff_ne]; exact h2
  clear h1 h2
  clear h hr hA hB
  go_enter Tryz.func11, Tryz.ntmps11
  go_wp2_with (first | (refine wpList_boxB rfl 32 (.tmp 0) rfl c.cells (val_agg c) ?_; intro w1 q hc1 hb1 hx1; have K1 := Lib.hid ((BK.start w).add hb1 hc1); have ql := ld_cfg rt_rcfg (K1.out.blk _ (.head _)) HC.out; clear hc1 hb1 hx1))
  refine (HR.out _).mono ?_
  rintro e w2 ⟨rfl, hb⟩
  have K2 := Lib.hid (K1.out.step hb)
  have c1 := cf1 (K2.out.blk _ (.head _))
  have c2 := cf2 (K2.out.blk _ (.head _))
  clear hb ql K1
  go_wp2_with fail
  go_ret2
  rw [HE.out]
  exact ⟨none, 0, rfl, OwnB.nil_ _ _, K2.out.bel⟩
set_option maxRecDepth 100000 in
set_option maxHeartbeats 4000000 in
theorem rcmake_nonce (c : Cfg) (h : c.ok) (p : Int) (A : Option Addr) (n d : Nat) (s : List UInt8) (B : Option Addr) (m e : Nat) (t : List UInt8) (w : World) (hA : RB w w.heap.size A n s) (hB : RB w w.heap.size B m t) (hr : rtB c = true) (h1 : 0 ≤ p ∧ p < 3) (h2 : (n : Int) = c.s) (h3 : ¬ (m : Int) = c.n) :
    Calls Tryz.prog 11 #[c.val, .int .i64 p, .slice A n d, .slice B m e] w (RetBE (codM c p s t).1.length (codM c p s t).1 (codM c p s t).2 w) := by
  have HC := Lib.hid h
  have HLA := Lib.hid hA.len
  have HLB := Lib.hid hB.len
  have HE := Lib.hid (codM_range (p := p) (s := s) (n := t) hr (by have := HLA.out; have := HLB.out; omega))
  have HR := Lib.hid (fun u => rmright_any c h true hr u)
  have d0 : decide (p < 0) = false := decide_eq_false (by omega)
  have d3 : decide (2 < p) = false := decide_eq_false (by omega)
  have d4 : ((n : Int) != c.s) = false := by rw [bne_eq_false_iff_eq]; exact h2
  have d5 : ((m : Int) != c.n) = true := by rw [bne_iff_ne]; exact h3
  clear h1 h2 h3
  clear h hr hA hB
  go_enter Tryz.func11, Tryz.ntmps11
  go_wp2_with (first | (refine wpList_boxB rfl 32 (.tmp 0) rfl c.cells (val_agg c) ?_; intro w1 q hc1 hb1 hx1; have K1 := Lib.hid ((BK.start w).add hb1 hc1); have ql := ld_cfg rt_rcfg (K1.out.blk _ (.head _)) HC.out; clear hc1 hb1 hx1))
  refine (HR.out _).mono ?_
  rintro e w2 ⟨rfl, hb⟩
  have K2 := Lib.hid (K1.out.step hb)
  have c1 := cf1 (K2.out.blk _ (.head _))
  have c2 := cf2 (K2.out.blk _ (.head _))
  clear hb ql K1
  go_wp2_with fail
  go_ret2
  rw [HE.out]
  exact ⟨none, 0, rfl, OwnB.nil_ _ _, K2.out.bel⟩
set_option maxRecDepth 100000 in
set_option maxHeartbeats 4000000 in
theorem rcmake_ok (c : Cfg) (h : c.ok) (p : Int) (A : Option Addr) (n d : Nat) (s : List UInt8) (B : Option Addr) (m e : Nat) (t : List UInt8) (w : World) (hA : RB w w.heap.size A n s) (hB : RB w w.heap.size B m t) (hr : rtB c = true) (h1 : 0 ≤ p ∧ p < 3) (h2 : (n : Int) = c.s) (h3 : (m : Int) = c.n) :
    Calls Tryz.prog 11 #[c.val, .int .i64 p, .slice A n d, .slice B m e] w (RetBE (codM c p s t).1.length (codM c p s t).1 (codM c p s t).2 w) := by
  have HC := Lib.hid h
  have HLA := Lib.hid hA.len
  have HLB := Lib.hid hB.len
  have HA := Lib.hid hA
  have HB := Lib.hid hB
  obtain ⟨r1, r2, r3, r4, r5, _⟩ := rt_unf (rt_of hr)
  have hsn : (s.length : Int) = c.s ∧ (t.length : Int) = c.n := by have := HLA.out; have := HLB.out; omega
  have hE := codM_ok (p := p) (s := s) (n := t) hr ⟨⟨h1.1, by omega⟩, hsn⟩
  have hT := turn_ok (back := false) hr (both_len hsn)
  have hX := made_len hr h.k hsn
  obtain ⟨X, hX1⟩ : ∃ X, wayC c false (s ++ t) = X := ⟨_, rfl⟩
  rw [hX1] at hE hT hX
  have HE := Lib.hid hE
  have HT := Lib.hid hT
  obtain ⟨k, hk⟩ : ∃ k, X.length = k := ⟨_, rfl⟩
  have HX := Lib.hid hk
  have HR := Lib.hid (fun u => rmright_any c h true hr u)
  have HNM : Hid (n + m ≤ 19 ∧ k ≤ 19) := Lib.hid (by have := HLA.out; have := HLB.out; omega)
  have HI : Hid (∃ y : UInt8, idB p X = [y] ++ X ∧ 64 * p + (k : Int) = (y.toNat : Int)) := Lib.hid ⟨b8 (64 * p + (k : Int)), by unfold idB; rw [hk]; rfl, (b8_nat (by omega) (by have := HNM.out; omega)).symm⟩
  obtain ⟨y, hy, hz⟩ := HI.out
  have hyl := byte_lt y
  have HY := Lib.hid hy
  have hp0 : 0 ≤ p := by omega
  have hp2 : p ≤ 2 := by omega
  have d0 : decide (p < 0) = false := decide_eq_false (by omega)
  have d3 : decide (2 < p) = false := decide_eq_false (by omega)
  have d4 : ((n : Int) != c.s) = false := by rw [bne_eq_false_iff_eq]; exact h2
  have d5 : ((m : Int) != c.n) = false := by rw [bne_eq_false_iff_eq]; exact h3
  clear h hr hA hB h1 h2 h3 r1 r2 r3 r4 r5 hsn hE hT hX hX1 hk hy
  go_enter Tryz.func11, Tryz.ntmps11
  go_wp2_with (first | (refine wpList_boxB rfl 32 (.tmp 0) rfl c.cells (val_agg c) ?_; intro w1 q hc1 hb1 hx1; have K1 := Lib.hid ((BK.start w).add hb1 hc1); have ql := ld_cfg rt_rcfg (K1.out.blk _ (.head _)) HC.out; clear hc1 hb1 hx1))
  refine (HR.out _).mono ?_
  rintro e w2 ⟨rfl, hb⟩
  have K2 := Lib.hid (K1.out.step hb)
  have c1 := cf1 (K2.out.blk _ (.head _))
  have c2 := cf2 (K2.out.blk _ (.head _))
  clear hb ql K1
  go_wp2_with fail
  clear c1 c2
  have K3 := Lib.hid K2.out.draw
  have HD : Blk 32 w2.drew q c.cells := K3.out.blk _ (.head _)
  refine wp_region_held_drew (S := fun w' => Blk 32 w' q c.cells) (by kernel_rfl) HD (fun hHeld => ?_)
  (try dsimp only at hHeld)
  refine wpAnyH_take (i := 0) (v := ?v0_1) rfl (by kernel_rfl) (by kernel_rfl) (by kernel_rfl) (fun _ _ _ h => h) (Or.inl ⟨by rfl, ?hy0_1⟩) hHeld ?_
  case hy0_1 => (intro w hSw; (try dsimp only at hSw); have q0 := ld_cfg rt_rcfg hSw HC.out; (try simp only [List.getElem_toArray, List.getElem_cons_zero, List.getElem_cons_succ]); go_simp <;> with_reducible rfl)
  (try simp only [Act.put, List.getElem_toArray, List.getElem_cons_zero, List.getElem_cons_succ, List.setIfInBounds_toArray, List.set_cons_zero, List.set_cons_succ])
  refine wpAnyH_take (i := 2) (v := ?v2_2) rfl (by kernel_rfl) (by kernel_rfl) (by kernel_rfl) (fun _ _ _ h => h) (Or.inl ⟨by rfl, ?hy2_2⟩) hHeld ?_
  case hy2_2 => (intro w hSw; (try dsimp only at hSw); have q0 := ld_cfg rt_rcfg hSw HC.out; (try simp only [List.getElem_toArray, List.getElem_cons_zero, List.getElem_cons_succ]); go_simp <;> with_reducible rfl)
  (try simp only [Act.put, List.getElem_toArray, List.getElem_cons_zero, List.getElem_cons_succ, List.setIfInBounds_toArray, List.set_cons_zero, List.set_cons_succ])
  refine wpAnyH_take (i := 4) (v := ?v4_3) rfl (by kernel_rfl) (by kernel_rfl) (by kernel_rfl) (fun _ _ _ h => h) (Or.inl ⟨by rfl, ?hy4_3⟩) hHeld ?_
  case hy4_3 => (intro w hSw; (try dsimp only at hSw); have q0 := ld_cfg rt_rcfg hSw HC.out; (try simp only [List.getElem_toArray, List.getElem_cons_zero, List.getElem_cons_succ]); go_simp <;> with_reducible rfl)
  (try simp only [Act.put, List.getElem_toArray, List.getElem_cons_zero, List.getElem_cons_succ, List.setIfInBounds_toArray, List.set_cons_zero, List.set_cons_succ])
  refine wpAnyH_ready (rs := [1]) (by kernel_rfl) (by simp) ?_
  refine AllReadyH.cons rfl (fun K hK => ?_) AllReadyH.nil
  (try simp only [List.getElem_toArray, List.getElem_cons_zero, List.getElem_cons_succ])
  go_simp
  have B4 := Lib.hid (below_alloc w2 (.cells #[] 5))
  have O4 := Lib.hid (OwnB.lit w2 w2.heap.size [] #[] 0 rfl rfl (by unfold maxLen; omega) (Nat.le_refl _))
  refine hK.out _ _ ((K2.out.step B4.out).blk _ (.head _)) (fun hHeld => ?_)
  clear hK K
  (try simp only [Act.put, List.getElem_toArray, List.getElem_cons_zero, List.getElem_cons_succ, List.setIfInBounds_toArray, List.set_cons_zero, List.set_cons_succ])
  refine wpAnyH_ready (rs := [3]) (by kernel_rfl) (by simp) ?_
  refine AllReadyH.cons rfl (fun K hK => ?_) AllReadyH.nil
  (try simp only [List.getElem_toArray, List.getElem_cons_zero, List.getElem_cons_succ])
  rw [if_pos (by rfl)]
  refine wp_app (.tmp 37) (.tmp 38) rfl w2.heap.size _ _ _ [] rfl (by first | exact O4.out | exact O4.out.drew) _ A n d s rfl (by first | exact HA.out.step (bel_next K2.out.bel B4.out) | exact (HA.out.step (bel_next K2.out.bel B4.out)).drew) (by have := HNM.out; omega) (by first | exact B4.out.size | exact B4.out.drew.size) ?_
  intro A5 c5 w5 ho hg hb
  have B5 : Hid (Below w2.heap.size w2 w5) := Lib.hid (by first | exact B4.out.trans hb | exact B4.out.drew.trans hb)
  have O5 := Lib.hid ho
  clear ho hg hb
  refine hK.out _ _ ((K2.out.step B5.out).blk _ (.head _)) (fun hHeld => ?_)
  clear hK K
  (try simp only [Act.put, List.getElem_toArray, List.getElem_cons_zero, List.getElem_cons_succ, List.setIfInBounds_toArray, List.set_cons_zero, List.set_cons_succ])
  refine wpAnyH_ready (rs := [5]) (by kernel_rfl) (by simp) ?_
  refine AllReadyH.cons rfl (fun K hK => ?_) AllReadyH.nil
  (try simp only [List.getElem_toArray, List.getElem_cons_zero, List.getElem_cons_succ])
  rw [if_pos (by rfl)]
  refine wp_app (.tmp 39) (.tmp 40) rfl w2.heap.size _ _ _ _ rfl (by first | exact O5.out | exact O5.out.drew) _ B m e t rfl (by first | exact HB.out.step (bel_next K2.out.bel B5.out) | exact (HB.out.step (bel_next K2.out.bel B5.out)).drew) (by have := HNM.out; omega) (by first | exact B5.out.size | exact B5.out.drew.size) ?_
  intro A6 c6 w6 ho hg hb
  have B6 : Hid (Below w2.heap.size w2 w6) := Lib.hid (by first | exact B5.out.trans hb | exact B5.out.drew.trans hb)
  have O6 := Lib.hid ho
  clear ho hg hb
  refine hK.out _ _ ((K2.out.step B6.out).blk _ (.head _)) (fun hHeld => ?_)
  clear hK K
  (try simp only [Act.put, List.getElem_toArray, List.getElem_cons_zero, List.getElem_cons_succ, List.setIfInBounds_toArray, List.set_cons_zero, List.set_cons_succ])
  refine wpAnyH_ready (rs := [6]) (by kernel_rfl) (by simp) ?_
  refine AllReadyH.cons rfl (fun K hK => ?_) AllReadyH.nil
  (try simp only [List.getElem_toArray, List.getElem_cons_zero, List.getElem_cons_succ])
  go_simp
  refine (rmturn_any c HC.out A6 (n + m) c6 (s ++ t) _ (by have h := O6.out.rb; simp only [List.nil_append, Nat.zero_add] at h; exact h) (by have h := O6.out.cap.1; simp only [Nat.zero_add] at h; exact h) (by have := HNM.out; omega)).mono ?_
  rw [HT.out]
  dsimp only
  rw [HX.out]
  rintro e w7 ⟨A7, c7, rfl, ho, hb⟩
  have K7 := Lib.hid ((K2.out.step B6.out).ret hb ho)
  clear ho hb
  (try go_wp2_with fail)
  refine hK.out _ _ (K7.out.blk _ (.head _)) (fun hHeld => ?_)
  clear hK K
  (try simp only [Act.put, List.getElem_toArray, List.getElem_cons_zero, List.getElem_cons_succ, List.setIfInBounds_toArray, List.set_cons_zero, List.set_cons_succ])
  refine wpAnyH_take (i := 7) (v := ?v7_4) rfl (by kernel_rfl) (by kernel_rfl) (by kernel_rfl) (fun _ _ _ h => h) (Or.inl ⟨by rfl, ?hy7_4⟩) hHeld ?_
  case hy7_4 => (intro w hSw; (try dsimp only at hSw); (try simp only [List.getElem_toArray, List.getElem_cons_zero, List.getElem_cons_succ]); go_simp <;> with_reducible rfl)
  (try simp only [Act.put, List.getElem_toArray, List.getElem_cons_zero, List.getElem_cons_succ, List.setIfInBounds_toArray, List.set_cons_zero, List.set_cons_succ])
  refine wpAnyH_take (i := 8) (v := ?v8_5) rfl (by kernel_rfl) (by kernel_rfl) (by kernel_rfl) (fun _ _ _ h => h) (Or.inl ⟨by rfl, ?hy8_5⟩) hHeld ?_
  case hy8_5 => (intro w hSw; (try dsimp only at hSw); (try simp only [List.getElem_toArray, List.getElem_cons_zero, List.getElem_cons_succ]); go_simp <;> with_reducible rfl)
  (try simp only [Act.put, List.getElem_toArray, List.getElem_cons_zero, List.getElem_cons_succ, List.setIfInBounds_toArray, List.set_cons_zero, List.set_cons_succ])
  refine wpAnyH_take (i := 9) (v := ?v9_6) rfl (by kernel_rfl) (by kernel_rfl) (by kernel_rfl) (fun _ _ _ h => h) (Or.inl ⟨by rfl, ?hy9_6⟩) hHeld ?_
  case hy9_6 => (intro w hSw; (try dsimp only at hSw); (try simp only [List.getElem_toArray, List.getElem_cons_zero, List.getElem_cons_succ]); go_simp <;> with_reducible rfl)
  (try simp only [Act.put, List.getElem_toArray, List.getElem_cons_zero, List.getElem_cons_succ, List.setIfInBounds_toArray, List.set_cons_zero, List.set_cons_succ])
  refine wpAnyH_take (i := 10) (v := ?v10_7) rfl (by kernel_rfl) (by kernel_rfl) (by kernel_rfl) (fun _ _ _ h => h) (Or.inl ⟨by rfl, ?hy10_7⟩) hHeld ?_
  case hy10_7 => (intro w hSw; (try dsimp only at hSw); (try simp only [List.getElem_toArray, List.getElem_cons_zero, List.getElem_cons_succ]); go_simp <;> with_reducible rfl)
  (try simp only [Act.put, List.getElem_toArray, List.getElem_cons_zero, List.getElem_cons_succ, List.setIfInBounds_toArray, List.set_cons_zero, List.set_cons_succ])
  refine wpAnyH_take (i := 11) (v := ?v11_8) rfl (by kernel_rfl) (by kernel_rfl) (by kernel_rfl) (fun _ _ _ h => h) (Or.inl ⟨by rfl, ?hy11_8⟩) hHeld ?_
  case hy11_8 => (intro w hSw; (try dsimp only at hSw); (try simp only [List.getElem_toArray, List.getElem_cons_zero, List.getElem_cons_succ]); go_simp <;> with_reducible rfl)
  (try simp only [Act.put, List.getElem_toArray, List.getElem_cons_zero, List.getElem_cons_succ, List.setIfInBounds_toArray, List.set_cons_zero, List.set_cons_succ])
  refine wpAnyH_done (by kernel_rfl) ?_ _
  clear hHeld HD O4 O5 O6 B4 B5 B6
  go_wp2_with (first
    | (at_builtin; refine wpList_app rfl (.tmp 51) (.tmp 52) rfl w7.heap.size _ _ _ [y] rfl (by exact OwnB.lit w7 _ [y] _ 1 rfl rfl (by unfold maxLen; omega) (Nat.le_refl _)) _ A7 k c7 X rfl (by exact (K7.out.own _ (.head _)).rb.step (below_alloc _ _)) (by have := HNM.out; omega) (by simp) ?_; intro A8 c8 w8 ho8 hg8 hb8; have K8 := Lib.hid (K7.out.ret ((below_alloc w7 _).trans hb8) ho8); clear ho8 hg8 hb8))
  rw [HE.out, idB_len, HX.out, Nat.add_comm k 1]
  go_ret2
  exact ⟨A8, c8, rfl, by rw [HY.out]; exact K8.out.own _ (.head _), K8.out.bel⟩
theorem rcmake_any (c : Cfg) (h : c.ok) (p : Int) (A : Option Addr) (n d : Nat) (s : List UInt8) (B : Option Addr) (m e : Nat) (t : List UInt8) (w : World) (hA : RB w w.heap.size A n s) (hB : RB w w.heap.size B m t) :
    Calls Tryz.prog 11 #[c.val, .int .i64 p, .slice A n d, .slice B m e] w (RetBE (codM c p s t).1.length (codM c p s t).1 (codM c p s t).2 w) := by
  cases hr : rtB c
  · exact rcmake_state c h p A n d s B m e t w hA hB hr
  by_cases h1 : p < 0
  · exact rcmake_neg c h p A n d s B m e t w hA hB hr h1
  by_cases h2 : 2 < p
  · exact rcmake_big c h p A n d s B m e t w hA hB hr h2
  by_cases h3 : (n : Int) = c.s
  · by_cases h4 : (m : Int) = c.n
    · exact rcmake_ok c h p A n d s B m e t w hA hB hr ⟨by omega, by omega⟩ h3 h4
    · exact rcmake_nonce c h p A n d s B m e t w hA hB hr ⟨by omega, by omega⟩ h3 h4
  · exact rcmake_sid c h p A n d s B m e t w hA hB hr ⟨by omega, by omega⟩ h3
set_option maxRecDepth 100000 in
set_option maxHeartbeats 4000000 in
theorem rcback_state (c : Cfg) (h : c.ok) (A : Option Addr) (n d : Nat) (l : List UInt8) (w : World) (hA : RB w w.heap.size A n l) (hd : n ≤ d) (hr : rtB c = false) :
    Calls Tryz.prog 21 #[c.val, .slice A n d] w (RetPR (codB c l) w) := by
  have HC := Lib.hid h
  have HE := Lib.hid (codB_state (l := l) hr)
  have HR := Lib.hid (fun u => rmright_any c h false hr u)
  clear h hr hA hd
  go_enter Tryz.func21, Tryz.ntmps21
  go_wp2_with (first | (refine wpList_boxB rfl 32 (.tmp 0) rfl c.cells (val_agg c) ?_; intro w1 q hc1 hb1 hx1; have K1 := Lib.hid ((BK.start w).add hb1 hc1); have ql := ld_cfg rt_rcfg (K1.out.blk _ (.head _)) HC.out; clear hc1 hb1 hx1) | (refine wpList_newB rt_rprt rfl rfl ?_; intro w2 q2 hc2 hb2 hx2; have KV := Lib.hid (And.intro (K1.out.add hb2 hc2) (And.intro (Nat.le_trans K1.out.bel.size hx2) (Lib.hid (Nat.ne_of_lt (Nat.lt_of_lt_of_le (K1.out.blk _ (.head _)).lt hx2))))); have ql := ld_cfg rt_rcfg (KV.out.1.blk _ (.tail _ (.head _))) HC.out; clear hc2 hb2 hx2))
  have K2 := Lib.hid KV.out.1
  have HQ := Lib.hid KV.out.2
  refine (HR.out _).mono ?_
  rintro e w3 ⟨rfl, hb⟩
  have K3 := Lib.hid (K2.out.step hb)
  clear hb ql K2
  have ql := ld_cfg rt_rcfg (K3.out.blk _ (.tail _ (.head _))) HC.out
  go_wp2_with (first | (refine wpList_stB rt_rprt rfl (.tmp 4) (.tmp 11) rfl q2 0 rfl zcel zcel zcel_lit zcel_one rfl (by exact K3.out.blk _ (.head _)) (by rw [zcel_len]; decide) ?_; intro w9 hc2 ho2 hs2; have K9 := Lib.hid (And.intro hc2 (And.intro ho2 hs2)); clear hc2 ho2 hs2))
  rw [HE.out]
  refine bodyPost_ret (res_rec2 rt_rprt rfl _ _ q2 zcel (.int .i64 19) rfl rfl (by have := K9.out.1; rwa [puts_whole _ _ rfl] at this) rfl) rfl (ret_zeror _ (bel_oth1r K3.out.bel K9.out.2.1 HQ.out.1))
set_option maxRecDepth 100000 in
set_option maxHeartbeats 4000000 in
theorem rcback_range (c : Cfg) (h : c.ok) (A : Option Addr) (n d : Nat) (l : List UInt8) (w : World) (hA : RB w w.heap.size A n l) (hd : n ≤ d) (hr : rtB c = true) (hl : ¬ (l.length : Int) = 1 + (c.s + c.n)) :
    Calls Tryz.prog 21 #[c.val, .slice A n d] w (RetPR (codB c l) w) := by
  have HC := Lib.hid h
  have HE := Lib.hid (codB_range hr hl)
  have HR := Lib.hid (fun u => rmright_any c h true hr u)
  obtain ⟨z, hz⟩ : ∃ z, sizeC c = z := ⟨_, rfl⟩
  have hz2 : z = 1 + (c.s + c.n) := by rw [← hz, size_ok hr]
  have HS := Lib.hid (fun u => rmsize_any c h z hz u)
  have d1 : ((n : Int) != z) = true := by rw [bne_iff_ne, hz2, ← hA.len]; exact hl
  clear h hr hA hd hl hz hz2
  go_enter Tryz.func21, Tryz.ntmps21
  go_wp2_with (first | (refine wpList_boxB rfl 32 (.tmp 0) rfl c.cells (val_agg c) ?_; intro w1 q hc1 hb1 hx1; have K1 := Lib.hid ((BK.start w).add hb1 hc1); have ql := ld_cfg rt_rcfg (K1.out.blk _ (.head _)) HC.out; clear hc1 hb1 hx1) | (refine wpList_newB rt_rprt rfl rfl ?_; intro w2 q2 hc2 hb2 hx2; have KV := Lib.hid (And.intro (K1.out.add hb2 hc2) (And.intro (Nat.le_trans K1.out.bel.size hx2) (Lib.hid (Nat.ne_of_lt (Nat.lt_of_lt_of_le (K1.out.blk _ (.head _)).lt hx2))))); have ql := ld_cfg rt_rcfg (KV.out.1.blk _ (.tail _ (.head _))) HC.out; clear hc2 hb2 hx2))
  have K2 := Lib.hid KV.out.1
  have HQ := Lib.hid KV.out.2
  refine (HR.out _).mono ?_
  rintro e w3 ⟨rfl, hb⟩
  have K3 := Lib.hid (K2.out.step hb)
  clear hb ql K2
  have ql := ld_cfg rt_rcfg (K3.out.blk _ (.tail _ (.head _))) HC.out
  go_wp2_with fail
  refine (HS.out _).mono ?_
  rintro e w4 ⟨rfl, hb⟩
  have K4 := Lib.hid (K3.out.step hb)
  clear hb ql K3
  have ql := ld_cfg rt_rcfg (K4.out.blk _ (.tail _ (.head _))) HC.out
  go_wp2_with (first | (refine wpList_stB rt_rprt rfl (.tmp 4) (.tmp 17) rfl q2 0 rfl zcel zcel zcel_lit zcel_one rfl (by exact K4.out.blk _ (.head _)) (by rw [zcel_len]; decide) ?_; intro w9 hc2 ho2 hs2; have K9 := Lib.hid (And.intro hc2 (And.intro ho2 hs2)); clear hc2 ho2 hs2))
  rw [HE.out]
  refine bodyPost_ret (res_rec2 rt_rprt rfl _ _ q2 zcel (.int .i64 11) rfl rfl (by have := K9.out.1; rwa [puts_whole _ _ rfl] at this) rfl) rfl (ret_zeror _ (bel_oth1r K4.out.bel K9.out.2.1 HQ.out.1))
set_option maxRecDepth 100000 in
set_option maxHeartbeats 4000000 in
theorem rcback_form (c : Cfg) (h : c.ok) (A : Option Addr) (n d : Nat) (l : List UInt8) (w : World) (hA : RB w w.heap.size A n l) (hd : n ≤ d) (hr : rtB c = true) (hl : (l.length : Int) = 1 + (c.s + c.n)) (ht : ¬ tldB (l.getD 0 0) = l.length) :
    Calls Tryz.prog 21 #[c.val, .slice A n d] w (RetPR (codB c l) w) := by
  have HC := Lib.hid h
  have HR := Lib.hid (fun u => rmright_any c h true hr u)
  obtain ⟨r1, r2, r3, r4, r5, _⟩ := rt_unf (rt_of hr)
  have hA1 := hA.len
  have hn0 : 0 < n := by omega
  have HS := Lib.hid (fun u => rmsize_any c h (n : Int) (by rw [size_ok hr, ← hl, hA1]) u)
  have hfr := fun (u : World) (hu : RB u u.heap.size A n l) => hu.rest hn0 hd
  obtain ⟨g, o, rfl⟩ := hA.some_ hn0
  obtain ⟨x, hx⟩ : ∃ x, l.getD 0 0 = x := ⟨_, rfl⟩
  have HF := Lib.hid (fun (u : World) (hu : RB u u.heap.size (some ⟨g, o, none⟩) n l) => first_cell hu hn0)
  rw [hx] at HF
  have HA := Lib.hid hA
  have dn : ((n : Int) != (n : Int)) = false := bne_self_eq_false _
  have di : (0 : Int) < (n : Int) := by omega
  obtain ⟨v, hv⟩ : ∃ v, tldB x = v := ⟨_, rfl⟩
  have HTL := Lib.hid (fun u => rctold_any x u)
  rw [hv] at HTL
  
  have HE := Lib.hid (codB_form hr hl ht)
  have d1 : (v != (n : Int)) = true := by rw [bne_iff_ne, ← hv, ← hx, ← hA1]; exact ht
  clear h hr hA hd hl ht r1 r2 r3 r4 r5 hA1 hn0 hfr hx hv
  go_enter Tryz.func21, Tryz.ntmps21
  go_wp2_with (first | (refine wpList_boxB rfl 32 (.tmp 0) rfl c.cells (val_agg c) ?_; intro w1 q hc1 hb1 hx1; have K1 := Lib.hid ((BK.start w).add hb1 hc1); have ql := ld_cfg rt_rcfg (K1.out.blk _ (.head _)) HC.out; clear hc1 hb1 hx1) | (refine wpList_newB rt_rprt rfl rfl ?_; intro w2 q2 hc2 hb2 hx2; have KV := Lib.hid (And.intro (K1.out.add hb2 hc2) (And.intro (Nat.le_trans K1.out.bel.size hx2) (Lib.hid (Nat.ne_of_lt (Nat.lt_of_lt_of_le (K1.out.blk _ (.head _)).lt hx2))))); have ql := ld_cfg rt_rcfg (KV.out.1.blk _ (.tail _ (.head _))) HC.out; clear hc2 hb2 hx2))
  have K2 := Lib.hid KV.out.1
  have HQ := Lib.hid KV.out.2
  refine (HR.out _).mono ?_
  rintro e w3 ⟨rfl, hb⟩
  have K3 := Lib.hid (K2.out.step hb)
  clear hb ql K2
  have ql := ld_cfg rt_rcfg (K3.out.blk _ (.tail _ (.head _))) HC.out
  go_wp2_with fail
  refine (HS.out _).mono ?_
  rintro e w4 ⟨rfl, hb⟩
  have K4 := Lib.hid (K3.out.step hb)
  clear hb ql K3
  have ql := ld_cfg rt_rcfg (K4.out.blk _ (.tail _ (.head _))) HC.out
  have f4 := HF.out _ (HA.out.step K4.out.bel)
  go_wp2_with fail
  refine (HTL.out _).mono ?_
  rintro e w5 ⟨rfl, rfl⟩
  go_wp2_with (first | (refine wpList_stB rt_rprt rfl (.tmp 4) (.tmp 25) rfl q2 0 rfl zcel zcel zcel_lit zcel_one rfl (by exact K4.out.blk _ (.head _)) (by rw [zcel_len]; decide) ?_; intro w9 hc2 ho2 hs2; have K9 := Lib.hid (And.intro hc2 (And.intro ho2 hs2)); clear hc2 ho2 hs2))
  rw [HE.out]
  refine bodyPost_ret (res_rec2 rt_rprt rfl _ _ q2 zcel (.int .i64 10) rfl rfl (by have := K9.out.1; rwa [puts_whole _ _ rfl] at this) rfl) rfl (ret_zeror _ (bel_oth1r K4.out.bel K9.out.2.1 HQ.out.1))
set_option maxRecDepth 100000 in
set_option maxHeartbeats 4000000 in
theorem rcback_ok (c : Cfg) (h : c.ok) (A : Option Addr) (n d : Nat) (l : List UInt8) (w : World) (hA : RB w w.heap.size A n l) (hd : n ≤ d) (hr : rtB c = true) (hl : (l.length : Int) = 1 + (c.s + c.n)) (ht : tldB (l.getD 0 0) = l.length) :
    Calls Tryz.prog 21 #[c.val, .slice A n d] w (RetPR (codB c l) w) := by
  have HC := Lib.hid h
  have HR := Lib.hid (fun u => rmright_any c h true hr u)
  obtain ⟨r1, r2, r3, r4, r5, _⟩ := rt_unf (rt_of hr)
  have hA1 := hA.len
  have hn0 : 0 < n := by omega
  have HS := Lib.hid (fun u => rmsize_any c h (n : Int) (by rw [size_ok hr, ← hl, hA1]) u)
  have hfr := fun (u : World) (hu : RB u u.heap.size A n l) => hu.rest hn0 hd
  obtain ⟨g, o, rfl⟩ := hA.some_ hn0
  obtain ⟨x, hx⟩ : ∃ x, l.getD 0 0 = x := ⟨_, rfl⟩
  have HF := Lib.hid (fun (u : World) (hu : RB u u.heap.size (some ⟨g, o, none⟩) n l) => first_cell hu hn0)
  rw [hx] at HF
  have HA := Lib.hid hA
  have dn : ((n : Int) != (n : Int)) = false := bne_self_eq_false _
  have di : (0 : Int) < (n : Int) := by omega
  obtain ⟨v, hv⟩ : ∃ v, tldB x = v := ⟨_, rfl⟩
  have HTL := Lib.hid (fun u => rctold_any x u)
  rw [hv] at HTL
  
  have HE := Lib.hid (codB_ok hr hl ht)
  have hd1 : ((l.drop 1).length : Int) = c.s + c.n := by rw [List.length_drop]; omega
  have hT := turn_ok (back := true) hr hd1
  have hW := way_len (back := true) (rt_of hr) h.k hd1
  have hp : prtC c l = ⟨pntB x, (wayC c true (l.drop 1)).take c.s.toNat, (wayC c true (l.drop 1)).drop c.s.toNat⟩ := by unfold prtC; rw [hx]
  obtain ⟨k, hk⟩ : ∃ k : Nat, c.s = (k : Int) := ⟨c.s.toNat, by omega⟩
  rw [hk, Int.toNat_natCast] at hp
  obtain ⟨X, hX1⟩ : ∃ X, wayC c true (l.drop 1) = X := ⟨_, rfl⟩
  rw [hX1] at hT hW hp
  have HX : Hid (X.length = n - 1) := Lib.hid (by rw [hW, List.length_drop, hA1])
  have HT := Lib.hid hT
  have HP := Lib.hid hp
  have HK := Lib.hid hk
  have HKN : Hid (k ≤ n - 1 ∧ n ≤ 20 ∧ k ≤ 20) := Lib.hid (by omega)
  have HN0 := Lib.hid hn0
  have HFR := Lib.hid hfr
  have HPT := Lib.hid (fun u => rcpoint_any x u)
  have HDD := Lib.hid hd
  have d1 : (v != (n : Int)) = false := by rw [bne_eq_false_iff_eq, ← hv, ← hx, ← hA1]; exact ht
  have HC1 := Lib.hid (cut_1 (some ⟨g, o, none⟩) n d (by omega))
  obtain ⟨y, hy⟩ : ∃ y, pntB x = y := ⟨_, rfl⟩
  rw [hy] at HP HPT
  clear h hr hA hd hl ht r1 r2 r3 r4 r5 hA1 hn0 hfr hx hv hd1 hT hW hp hk hX1 hy
  go_enter Tryz.func21, Tryz.ntmps21
  go_wp2_with (first | (refine wpList_boxB rfl 32 (.tmp 0) rfl c.cells (val_agg c) ?_; intro w1 q hc1 hb1 hx1; have K1 := Lib.hid ((BK.start w).add hb1 hc1); have ql := ld_cfg rt_rcfg (K1.out.blk _ (.head _)) HC.out; clear hc1 hb1 hx1) | (refine wpList_newB rt_rprt rfl rfl ?_; intro w2 q2 hc2 hb2 hx2; have KV := Lib.hid (And.intro (K1.out.add hb2 hc2) (And.intro (Nat.le_trans K1.out.bel.size hx2) (Lib.hid (Nat.ne_of_lt (Nat.lt_of_lt_of_le (K1.out.blk _ (.head _)).lt hx2))))); have ql := ld_cfg rt_rcfg (KV.out.1.blk _ (.tail _ (.head _))) HC.out; clear hc2 hb2 hx2))
  have K2 := Lib.hid KV.out.1
  have HQ := Lib.hid KV.out.2
  refine (HR.out _).mono ?_
  rintro e w3 ⟨rfl, hb⟩
  have K3 := Lib.hid (K2.out.step hb)
  clear hb ql K2
  have ql := ld_cfg rt_rcfg (K3.out.blk _ (.tail _ (.head _))) HC.out
  go_wp2_with fail
  refine (HS.out _).mono ?_
  rintro e w4 ⟨rfl, hb⟩
  have K4 := Lib.hid (K3.out.step hb)
  clear hb ql K3
  have ql := ld_cfg rt_rcfg (K4.out.blk _ (.tail _ (.head _))) HC.out
  have f4 := HF.out _ (HA.out.step K4.out.bel)
  go_wp2_with fail
  refine (HTL.out _).mono ?_
  rintro e w5 ⟨rfl, rfl⟩
  go_wp2_with fail
  clear ql f4
  have K5 := Lib.hid K4.out.draw
  have HD : Blk 32 w4.drew q c.cells := K5.out.blk _ (.tail _ (.head _))
  refine wp_region_held_drew (S := fun w' => Blk 32 w' q c.cells) (by kernel_rfl) HD (fun hHeld => ?_)
  (try dsimp only at hHeld)
  refine wpAnyH_take (i := 0) (v := ?v0_9) rfl (by kernel_rfl) (by kernel_rfl) (by kernel_rfl) (fun _ _ _ h => h) (Or.inl ⟨by rfl, ?hy0_9⟩) hHeld ?_
  case hy0_9 => (intro w hSw; (try dsimp only at hSw); have q0 := ld_cfg rt_rcfg hSw HC.out; have q1 := HC1.out w; (try simp only [List.getElem_toArray, List.getElem_cons_zero, List.getElem_cons_succ]); go_simp <;> with_reducible rfl)
  (try simp only [Act.put, List.getElem_toArray, List.getElem_cons_zero, List.getElem_cons_succ, List.setIfInBounds_toArray, List.set_cons_zero, List.set_cons_succ])
  refine wpAnyH_take (i := 1) (v := ?v1_10) rfl (by kernel_rfl) (by kernel_rfl) (by kernel_rfl) (fun _ _ _ h => h) (Or.inl ⟨by rfl, ?hy1_10⟩) hHeld ?_
  case hy1_10 => (intro w hSw; (try dsimp only at hSw); have q0 := ld_cfg rt_rcfg hSw HC.out; have q1 := HC1.out w; (try simp only [List.getElem_toArray, List.getElem_cons_zero, List.getElem_cons_succ]); go_simp <;> with_reducible rfl)
  (try simp only [Act.put, List.getElem_toArray, List.getElem_cons_zero, List.getElem_cons_succ, List.setIfInBounds_toArray, List.set_cons_zero, List.set_cons_succ])
  refine wpAnyH_take (i := 2) (v := ?v2_11) rfl (by kernel_rfl) (by kernel_rfl) (by kernel_rfl) (fun _ _ _ h => h) (Or.inl ⟨by rfl, ?hy2_11⟩) hHeld ?_
  case hy2_11 => (intro w hSw; (try dsimp only at hSw); have q0 := ld_cfg rt_rcfg hSw HC.out; have q1 := HC1.out w; (try simp only [List.getElem_toArray, List.getElem_cons_zero, List.getElem_cons_succ]); go_simp <;> with_reducible rfl)
  (try simp only [Act.put, List.getElem_toArray, List.getElem_cons_zero, List.getElem_cons_succ, List.setIfInBounds_toArray, List.set_cons_zero, List.set_cons_succ])
  refine wpAnyH_ready (rs := [3]) (by kernel_rfl) (by simp) ?_
  refine AllReadyH.cons rfl (fun K hK => ?_) AllReadyH.nil
  (try simp only [List.getElem_toArray, List.getElem_cons_zero, List.getElem_cons_succ])
  go_simp
  refine (rmback_any c HC.out (cutA (some ⟨g, o, none⟩) d 1) (n - 1) (d - 1) (l.drop 1) _ (by exact HFR.out _ (HA.out.step K5.out.bel)) (by have := HDD.out; omega) (by have := HKN.out; omega)).mono ?_
  rw [HT.out]
  dsimp only
  rw [HX.out]
  rintro e w6 ⟨A6, c6, rfl, ho, hb⟩
  have K6 := Lib.hid (K5.out.ret hb ho)
  clear ho hb K5 K4
  (try go_wp2_with fail)
  refine hK.out _ _ (K6.out.blk _ (.tail _ (.head _))) (fun hHeld => ?_)
  clear hK K
  (try simp only [Act.put, List.getElem_toArray, List.getElem_cons_zero, List.getElem_cons_succ, List.setIfInBounds_toArray, List.set_cons_zero, List.set_cons_succ])
  refine wpAnyH_take (i := 4) (v := ?v4_12) rfl (by kernel_rfl) (by kernel_rfl) (by kernel_rfl) (fun _ _ _ h => h) (Or.inl ⟨by rfl, ?hy4_12⟩) hHeld ?_
  case hy4_12 => (intro w hSw; (try dsimp only at hSw); (try simp only [List.getElem_toArray, List.getElem_cons_zero, List.getElem_cons_succ]); go_simp <;> with_reducible rfl)
  (try simp only [Act.put, List.getElem_toArray, List.getElem_cons_zero, List.getElem_cons_succ, List.setIfInBounds_toArray, List.set_cons_zero, List.set_cons_succ])
  refine wpAnyH_take (i := 5) (v := ?v5_13) rfl (by kernel_rfl) (by kernel_rfl) (by kernel_rfl) (fun _ _ _ h => h) (Or.inl ⟨by rfl, ?hy5_13⟩) hHeld ?_
  case hy5_13 => (intro w hSw; (try dsimp only at hSw); (try simp only [List.getElem_toArray, List.getElem_cons_zero, List.getElem_cons_succ]); go_simp <;> with_reducible rfl)
  (try simp only [Act.put, List.getElem_toArray, List.getElem_cons_zero, List.getElem_cons_succ, List.setIfInBounds_toArray, List.set_cons_zero, List.set_cons_succ])
  refine wpAnyH_take (i := 6) (v := ?v6_14) rfl (by kernel_rfl) (by kernel_rfl) (by kernel_rfl) (fun _ _ _ h => h) (Or.inl ⟨by rfl, ?hy6_14⟩) hHeld ?_
  case hy6_14 => (intro w hSw; (try dsimp only at hSw); (try simp only [List.getElem_toArray, List.getElem_cons_zero, List.getElem_cons_succ]); go_simp <;> with_reducible rfl)
  (try simp only [Act.put, List.getElem_toArray, List.getElem_cons_zero, List.getElem_cons_succ, List.setIfInBounds_toArray, List.set_cons_zero, List.set_cons_succ])
  refine wpAnyH_take (i := 7) (v := ?v7_15) rfl (by kernel_rfl) (by kernel_rfl) (by kernel_rfl) (fun _ _ _ h => h) (Or.inl ⟨by rfl, ?hy7_15⟩) hHeld ?_
  case hy7_15 => (intro w hSw; (try dsimp only at hSw); (try simp only [List.getElem_toArray, List.getElem_cons_zero, List.getElem_cons_succ]); go_simp <;> with_reducible rfl)
  (try simp only [Act.put, List.getElem_toArray, List.getElem_cons_zero, List.getElem_cons_succ, List.setIfInBounds_toArray, List.set_cons_zero, List.set_cons_succ])
  refine wpAnyH_take (i := 8) (v := ?v8_16) rfl (by kernel_rfl) (by kernel_rfl) (by kernel_rfl) (fun _ _ _ h => h) (Or.inl ⟨by rfl, ?hy8_16⟩) hHeld ?_
  case hy8_16 => (intro w hSw; (try dsimp only at hSw); (try simp only [List.getElem_toArray, List.getElem_cons_zero, List.getElem_cons_succ]); go_simp <;> with_reducible rfl)
  (try simp only [Act.put, List.getElem_toArray, List.getElem_cons_zero, List.getElem_cons_succ, List.setIfInBounds_toArray, List.set_cons_zero, List.set_cons_succ])
  refine wpAnyH_done (by kernel_rfl) ?_ _
  clear hHeld HD HT HFR HR HS HTL
  go_wp2_with fail
  have HO : Hid (OwnB w6 w.heap.size A6 (n - 1) c6 X) := Lib.hid (K6.out.own _ (.head _))
  have HXR := Lib.hid HO.out.rb
  have hc6 := HO.out.cap.1
  have HCH := Lib.hid (cut_h A6 (n - 1) c6 k (by have := HKN.out; omega))
  have HCL := Lib.hid (cut_l A6 (n - 1) c6 k (by have := HKN.out; omega))
  have HX2 : Hid (X.take k = (X.take k).drop 0 ∧ (X.take k).length = k ∧ (X.drop k).length = n - 1 - k) := Lib.hid ⟨rfl, by rw [List.length_take, HX.out]; have := HKN.out; omega, by rw [List.length_drop, HX.out]⟩
  have HRH := Lib.hid (fun (u : World) (hu : RB u u.heap.size A6 (n - 1) X) => (hu.part (i := 0) (j := k) (by omega) HKN.out.1 hc6 : RB u u.heap.size (cutA A6 c6 0) (k - 0) ((X.take k).drop 0)))
  have HRL := Lib.hid (fun (u : World) (hu : RB u u.heap.size A6 (n - 1) X) => (hu.part (i := k) (j := n - 1) HKN.out.1 (Nat.le_refl _) hc6 : RB u u.heap.size (cutA A6 c6 k) (n - 1 - k) ((X.take (n - 1)).drop k)))
  rw [Nat.sub_zero, List.drop_zero] at HRH
  rw [List.take_of_length_le (by rw [HX.out]; exact Nat.le_refl _)] at HRL
  have hck : (k : Int) ≤ (c6 : Int) := by have := HKN.out; omega
  have hkn : (k : Int) ≤ ((n - 1 : Nat) : Int) := by have := HKN.out; omega
  clear hc6
  have K7 := Lib.hid K6.out.draw
  have HD : Blk 32 w6.drew q c.cells ∧ RB w6.drew w6.drew.heap.size (some ⟨g, o, none⟩) n l := ⟨K7.out.blk _ (.tail _ (.head _)), HA.out.step K7.out.bel⟩
  refine wp_region_held_drew (S := fun w' => Blk 32 w' q c.cells ∧ RB w' w'.heap.size (some ⟨g, o, none⟩) n l) (by kernel_rfl) HD (fun hHeld => ?_)
  (try dsimp only at hHeld)
  refine wpAnyH_take (i := 0) (v := ?v0_17) rfl (by kernel_rfl) (by kernel_rfl) (by kernel_rfl) (fun _ _ _ h => h) (Or.inl ⟨by rfl, ?hy0_17⟩) hHeld ?_
  case hy0_17 => (intro w hSw; (try dsimp only at hSw); have q9 := HN0.out; have q1 := cf1 hSw.1; rw [HK.out] at q1; have q2 := HF.out _ hSw.2; have q3 := HCH.out w; have q4 := HCL.out w; (try simp only [List.getElem_toArray, List.getElem_cons_zero, List.getElem_cons_succ]); go_simp <;> with_reducible rfl)
  (try simp only [Act.put, List.getElem_toArray, List.getElem_cons_zero, List.getElem_cons_succ, List.setIfInBounds_toArray, List.set_cons_zero, List.set_cons_succ])
  refine wpAnyH_take (i := 1) (v := ?v1_18) rfl (by kernel_rfl) (by kernel_rfl) (by kernel_rfl) (fun _ _ _ h => h) (Or.inl ⟨by rfl, ?hy1_18⟩) hHeld ?_
  case hy1_18 => (intro w hSw; (try dsimp only at hSw); have q9 := HN0.out; have q1 := cf1 hSw.1; rw [HK.out] at q1; have q2 := HF.out _ hSw.2; have q3 := HCH.out w; have q4 := HCL.out w; (try simp only [List.getElem_toArray, List.getElem_cons_zero, List.getElem_cons_succ]); go_simp <;> with_reducible rfl)
  (try simp only [Act.put, List.getElem_toArray, List.getElem_cons_zero, List.getElem_cons_succ, List.setIfInBounds_toArray, List.set_cons_zero, List.set_cons_succ])
  refine wpAnyH_take (i := 2) (v := ?v2_19) rfl (by kernel_rfl) (by kernel_rfl) (by kernel_rfl) (fun _ _ _ h => h) (Or.inl ⟨by rfl, ?hy2_19⟩) hHeld ?_
  case hy2_19 => (intro w hSw; (try dsimp only at hSw); have q9 := HN0.out; have q1 := cf1 hSw.1; rw [HK.out] at q1; have q2 := HF.out _ hSw.2; have q3 := HCH.out w; have q4 := HCL.out w; (try simp only [List.getElem_toArray, List.getElem_cons_zero, List.getElem_cons_succ]); go_simp <;> with_reducible rfl)
  (try simp only [Act.put, List.getElem_toArray, List.getElem_cons_zero, List.getElem_cons_succ, List.setIfInBounds_toArray, List.set_cons_zero, List.set_cons_succ])
  refine wpAnyH_take (i := 4) (v := ?v4_20) rfl (by kernel_rfl) (by kernel_rfl) (by kernel_rfl) (fun _ _ _ h => h) (Or.inl ⟨by rfl, ?hy4_20⟩) hHeld ?_
  case hy4_20 => (intro w hSw; (try dsimp only at hSw); have q9 := HN0.out; have q1 := cf1 hSw.1; rw [HK.out] at q1; have q2 := HF.out _ hSw.2; have q3 := HCH.out w; have q4 := HCL.out w; (try simp only [List.getElem_toArray, List.getElem_cons_zero, List.getElem_cons_succ]); go_simp <;> with_reducible rfl)
  (try simp only [Act.put, List.getElem_toArray, List.getElem_cons_zero, List.getElem_cons_succ, List.setIfInBounds_toArray, List.set_cons_zero, List.set_cons_succ])
  refine wpAnyH_take (i := 5) (v := ?v5_21) rfl (by kernel_rfl) (by kernel_rfl) (by kernel_rfl) (fun _ _ _ h => h) (Or.inl ⟨by rfl, ?hy5_21⟩) hHeld ?_
  case hy5_21 => (intro w hSw; (try dsimp only at hSw); have q9 := HN0.out; have q1 := cf1 hSw.1; rw [HK.out] at q1; have q2 := HF.out _ hSw.2; have q3 := HCH.out w; have q4 := HCL.out w; (try simp only [List.getElem_toArray, List.getElem_cons_zero, List.getElem_cons_succ]); go_simp <;> with_reducible rfl)
  (try simp only [Act.put, List.getElem_toArray, List.getElem_cons_zero, List.getElem_cons_succ, List.setIfInBounds_toArray, List.set_cons_zero, List.set_cons_succ])
  refine wpAnyH_take (i := 6) (v := ?v6_22) rfl (by kernel_rfl) (by kernel_rfl) (by kernel_rfl) (fun _ _ _ h => h) (Or.inl ⟨by rfl, ?hy6_22⟩) hHeld ?_
  case hy6_22 => (intro w hSw; (try dsimp only at hSw); have q9 := HN0.out; have q1 := cf1 hSw.1; rw [HK.out] at q1; have q2 := HF.out _ hSw.2; have q3 := HCH.out w; have q4 := HCL.out w; (try simp only [List.getElem_toArray, List.getElem_cons_zero, List.getElem_cons_succ]); go_simp <;> with_reducible rfl)
  (try simp only [Act.put, List.getElem_toArray, List.getElem_cons_zero, List.getElem_cons_succ, List.setIfInBounds_toArray, List.set_cons_zero, List.set_cons_succ])
  refine wpAnyH_take (i := 7) (v := ?v7_23) rfl (by kernel_rfl) (by kernel_rfl) (by kernel_rfl) (fun _ _ _ h => h) (Or.inl ⟨by rfl, ?hy7_23⟩) hHeld ?_
  case hy7_23 => (intro w hSw; (try dsimp only at hSw); have q9 := HN0.out; have q1 := cf1 hSw.1; rw [HK.out] at q1; have q2 := HF.out _ hSw.2; have q3 := HCH.out w; have q4 := HCL.out w; (try simp only [List.getElem_toArray, List.getElem_cons_zero, List.getElem_cons_succ]); go_simp <;> with_reducible rfl)
  (try simp only [Act.put, List.getElem_toArray, List.getElem_cons_zero, List.getElem_cons_succ, List.setIfInBounds_toArray, List.set_cons_zero, List.set_cons_succ])
  refine wpAnyH_take (i := 8) (v := ?v8_24) rfl (by kernel_rfl) (by kernel_rfl) (by kernel_rfl) (fun _ _ _ h => h) (Or.inl ⟨by rfl, ?hy8_24⟩) hHeld ?_
  case hy8_24 => (intro w hSw; (try dsimp only at hSw); have q9 := HN0.out; have q1 := cf1 hSw.1; rw [HK.out] at q1; have q2 := HF.out _ hSw.2; have q3 := HCH.out w; have q4 := HCL.out w; (try simp only [List.getElem_toArray, List.getElem_cons_zero, List.getElem_cons_succ]); go_simp <;> with_reducible rfl)
  (try simp only [Act.put, List.getElem_toArray, List.getElem_cons_zero, List.getElem_cons_succ, List.setIfInBounds_toArray, List.set_cons_zero, List.set_cons_succ])
  refine wpAnyH_take (i := 9) (v := ?v9_25) rfl (by kernel_rfl) (by kernel_rfl) (by kernel_rfl) (fun _ _ _ h => h) (Or.inl ⟨by rfl, ?hy9_25⟩) hHeld ?_
  case hy9_25 => (intro w hSw; (try dsimp only at hSw); have q9 := HN0.out; have q1 := cf1 hSw.1; rw [HK.out] at q1; have q2 := HF.out _ hSw.2; have q3 := HCH.out w; have q4 := HCL.out w; (try simp only [List.getElem_toArray, List.getElem_cons_zero, List.getElem_cons_succ]); go_simp <;> with_reducible rfl)
  (try simp only [Act.put, List.getElem_toArray, List.getElem_cons_zero, List.getElem_cons_succ, List.setIfInBounds_toArray, List.set_cons_zero, List.set_cons_succ])
  refine wpAnyH_take (i := 10) (v := ?v10_26) rfl (by kernel_rfl) (by kernel_rfl) (by kernel_rfl) (fun _ _ _ h => h) (Or.inl ⟨by rfl, ?hy10_26⟩) hHeld ?_
  case hy10_26 => (intro w hSw; (try dsimp only at hSw); have q9 := HN0.out; have q1 := cf1 hSw.1; rw [HK.out] at q1; have q2 := HF.out _ hSw.2; have q3 := HCH.out w; have q4 := HCL.out w; (try simp only [List.getElem_toArray, List.getElem_cons_zero, List.getElem_cons_succ]); go_simp <;> with_reducible rfl)
  (try simp only [Act.put, List.getElem_toArray, List.getElem_cons_zero, List.getElem_cons_succ, List.setIfInBounds_toArray, List.set_cons_zero, List.set_cons_succ])
  refine wpAnyH_take (i := 11) (v := ?v11_27) rfl (by kernel_rfl) (by kernel_rfl) (by kernel_rfl) (fun _ _ _ h => h) (Or.inl ⟨by rfl, ?hy11_27⟩) hHeld ?_
  case hy11_27 => (intro w hSw; (try dsimp only at hSw); have q9 := HN0.out; have q1 := cf1 hSw.1; rw [HK.out] at q1; have q2 := HF.out _ hSw.2; have q3 := HCH.out w; have q4 := HCL.out w; (try simp only [List.getElem_toArray, List.getElem_cons_zero, List.getElem_cons_succ]); go_simp <;> with_reducible rfl)
  (try simp only [Act.put, List.getElem_toArray, List.getElem_cons_zero, List.getElem_cons_succ, List.setIfInBounds_toArray, List.set_cons_zero, List.set_cons_succ])
  refine wpAnyH_ready (rs := [3]) (by kernel_rfl) (by simp) ?_
  refine AllReadyH.cons rfl (fun K hK => ?_) AllReadyH.nil
  (try simp only [List.getElem_toArray, List.getElem_cons_zero, List.getElem_cons_succ])
  go_simp
  refine (HPT.out _).mono ?_
  rintro e w8 ⟨rfl, rfl⟩
  (try go_wp2_with fail)
  refine hK.out _ _ ⟨K7.out.blk _ (.tail _ (.head _)), HA.out.step K7.out.bel⟩ (fun hHeld => ?_)
  clear hK K
  (try simp only [Act.put, List.getElem_toArray, List.getElem_cons_zero, List.getElem_cons_succ, List.setIfInBounds_toArray, List.set_cons_zero, List.set_cons_succ])
  refine wpAnyH_take (i := 12) (v := ?v12_28) rfl (by kernel_rfl) (by kernel_rfl) (by kernel_rfl) (fun _ _ _ h => h) (Or.inl ⟨by rfl, ?hy12_28⟩) hHeld ?_
  case hy12_28 => (intro w hSw; (try dsimp only at hSw); (try simp only [List.getElem_toArray, List.getElem_cons_zero, List.getElem_cons_succ]); go_simp <;> with_reducible rfl)
  (try simp only [Act.put, List.getElem_toArray, List.getElem_cons_zero, List.getElem_cons_succ, List.setIfInBounds_toArray, List.set_cons_zero, List.set_cons_succ])
  have qs := st_prt (p := y) (A := cutA A6 c6 0) (n := k) (c := c6) (B := cutA A6 c6 k) (m := n - 1 - k) (d := c6 - k) rt_rprt (K7.out.blk _ (.head _))
  refine wpAnyH_ready (rs := [13]) (by kernel_rfl) (by simp) ?_
  refine AllReadyH.cons rfl (fun K hK => ?_) AllReadyH.nil
  (try simp only [List.getElem_toArray, List.getElem_cons_zero, List.getElem_cons_succ])
  go_simp
  have K8 := Lib.hid (K7.out.put (cs := pcel y (cutA A6 c6 0) k c6 (cutA A6 c6 k) (n - 1 - k) (c6 - k)) HQ.out.1 (K7.out.blk _ (.head _)) (show 42 ≠ 5 by decide) pcel_len)
  refine hK.out _ _ ⟨(K7.out.blk _ (.tail _ (.head _))).oth (oth_setCells q2 _ 0 _ _ (Oth.refl _ _)) (by simpa using HQ.out.2.out), HA.out.step K8.out.bel⟩ (fun hHeld => ?_)
  clear hK K
  (try simp only [Act.put, List.getElem_toArray, List.getElem_cons_zero, List.getElem_cons_succ, List.setIfInBounds_toArray, List.set_cons_zero, List.set_cons_succ])
  refine wpAnyH_take (i := 14) (v := ?v14_29) rfl (by kernel_rfl) (by kernel_rfl) (by kernel_rfl) (fun _ _ _ h => h) (Or.inl ⟨by rfl, ?hy14_29⟩) hHeld ?_
  case hy14_29 => (intro w hSw; (try dsimp only at hSw); (try simp only [List.getElem_toArray, List.getElem_cons_zero, List.getElem_cons_succ]); go_simp <;> with_reducible rfl)
  (try simp only [Act.put, List.getElem_toArray, List.getElem_cons_zero, List.getElem_cons_succ, List.setIfInBounds_toArray, List.set_cons_zero, List.set_cons_succ])
  refine wpAnyH_done (by kernel_rfl) ?_ _
  clear hHeld HD qs
  go_wp2_with fail
  rw [HE.out, HP.out]
  have hcap := HO.out.cap.2
  have hcap1 := HO.out.cap.1
  have hkn2 := HKN.out
  refine bodyPost_ret (res_rec2 rt_rprt rfl _ _ q2 (pcel y (cutA A6 c6 0) k c6 (cutA A6 c6 k) (n - 1 - k) (c6 - k)) (.int .i64 0) rfl rfl (by exact K8.out.blk _ (.head _)) pcel_len) rfl (ret_pr HX2.out.2.1 HX2.out.2.2 ⟨HRH.out _ (K8.out.own _ (.head _)).rb, by omega, hcap⟩ ⟨HRL.out _ (K8.out.own _ (.head _)).rb, by omega, by omega⟩ K8.out.bel)
theorem rcback_any (c : Cfg) (h : c.ok) (A : Option Addr) (n d : Nat) (l : List UInt8) (w : World) (hA : RB w w.heap.size A n l) (hd : n ≤ d) :
    Calls Tryz.prog 21 #[c.val, .slice A n d] w (RetPR (codB c l) w) := by
  cases hr : rtB c
  · exact rcback_state c h A n d l w hA hd hr
  by_cases hl : (l.length : Int) = 1 + (c.s + c.n)
  · by_cases ht : tldB (l.getD 0 0) = l.length
    · exact rcback_ok c h A n d l w hA hd hr hl ht
    · exact rcback_form c h A n d l w hA hd hr hl ht
  · exact rcback_range c h A n d l w hA hd hr hl
end Go.Proofs.YtfipdaekfdbaeaaGreat
