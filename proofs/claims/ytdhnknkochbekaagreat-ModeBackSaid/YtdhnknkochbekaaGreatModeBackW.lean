/- Layer 16: the walk of the statement ModeBack. No condition. -/
import Derived.Test.YtdhnknkochbekaaGreatMdV
import Derived.Test.YtdhnknkochbekaaGreatMdD
import Derived.Test.YtdhnknkochbekaaGreatOpen
import Derived.Deep.CutBlock
namespace Go.Proofs.YtdhnknkochbekaaGreat
open Go.RowKit
set_option linter.unusedVariables false
set_option linter.unusedSimpArgs false
theorem poked_ne {l : List UInt8} {j : Nat} {x y : UInt8} (hx : l[j]? = some x) (hy : y ≠ 0) : l.set j (x ^^^ y) ≠ l := by
  intro e
  have hj := (List.getElem?_eq_some_iff.1 hx).1
  have h := congrArg (·[j]?) e
  simp only [List.getElem?_set_self hj, hx, Option.some.injEq] at h
  refine hy ?_
  have h2 := congrArg (fun b => x ^^^ b) h
  simp only [← UInt8.xor_assoc, UInt8.xor_self, UInt8.zero_xor] at h2
  exact h2
attribute [local irreducible] Cfg.val Cfg.cells rtB Rt zK sizeC AV bytC rawC zeroC turnC wayC encL decL tableL backL passesR cntP readC cU dU bU
attribute [local go_sem ↓] ex_ldC
set_option maxRecDepth 100000 in
set_option maxHeartbeats 8000000 in
theorem back_no (x0 : Cfg) (A1 : Option Addr) (n1 c1 : Nat) (l1 : List UInt8) (A2 : Option Addr) (n2 c2 : Nat) (l2 : List UInt8) (x3 : Int) (y : UInt8) (w : World) (h0 : x0.ok) (h1 : RB w w.heap.size A1 n1 l1) (m1 : n1 ≤ c1 ∧ c1 ≤ maxLen) (h2 : RB w w.heap.size A2 n2 l2) (m2 : n2 ≤ c2 ∧ c2 ≤ maxLen) (hr : rtB x0 = false) :
    Calls Tryz.prog 5 #[x0.val, .slice A1 n1 c1, .slice A2 n2 c2, .int .i64 x3, .int .u8 (y.toNat : Int)] w fun e w' => e = .returned (.bool true) ∧ Below w.heap.size w w' := by
  have HB : Hid (bytC x0 = []) := Lib.hid (byt_no hr)
  have HR := Lib.hid (fun u => mright_any x0 h0 false hr u)
  have HS := Lib.hid (fun u => msize_any x0 h0 0 (size_no hr) u)
  have HC := Lib.hid h0
  have K0 := Lib.hid (((MK.start w).add h1 m1.1 m1.2).add h2 m2.1 m2.2)
  have HM := Lib.hid m1
  have HM2 := Lib.hid m2
  have H1 := Lib.hid h1
  have H2 := Lib.hid h2
  clear h0 h1 m1 h2 m2 hr
  go_enter Tryz.func5, Tryz.ntmps5
  go_wp2_with (first | (refine wpList_boxB rfl 24 (.tmp 0) rfl x0.cells (val_agg _) ?_; intro w1 p_c hc1 hb1 hx1; have K1 := Lib.hid (K0.out.boxed hb1 hc1 HC.out); clear hc1 hb1 hx1; have q_c := ld_cfg rt_cfg (K1.out.cf _ (.head _)).1 (K1.out.cf _ (.head _)).2))
  refine (malive_any _).mono ?_
  rintro e w2 ⟨rfl, hb⟩
  have K2 := Lib.hid (K1.out.step hb)
  clear K1
  clear hb
  (try clear q_c)
  (try clear f0_c)
  (try clear f1_c)
  (try clear f2_c)
  have q_c := ld_cfg rt_cfg (K2.out.cf _ (.head _)).1 (K2.out.cf _ (.head _)).2
  go_wp2_with fail
  refine (HR.out _).mono ?_
  rintro e w3 ⟨rfl, hb⟩
  have K3 := Lib.hid (K2.out.step hb)
  clear K2
  clear hb
  (try clear q_c)
  (try clear f0_c)
  (try clear f1_c)
  (try clear f2_c)
  have q_c := ld_cfg rt_cfg (K3.out.cf _ (.head _)).1 (K3.out.cf _ (.head _)).2
  go_wp2_with fail
  refine (mbytes_any x0 HC.out _).mono ?_
  rw [HB.out]
  rintro e w4 ⟨Ab, cb, rfl, ho, hb⟩
  have K4 := Lib.hid (K3.out.own hb ho)
  clear K3
  clear ho hb
  (try clear q_c)
  (try clear f0_c)
  (try clear f1_c)
  (try clear f2_c)
  have q_c := ld_cfg rt_cfg (K4.out.cf _ (.head _)).1 (K4.out.cf _ (.head _)).2
  go_wp2_with fail
  refine (HS.out _).mono ?_
  rintro e w5 ⟨rfl, hb⟩
  have K5 := Lib.hid (K4.out.step hb)
  clear K4
  clear hb
  (try clear q_c)
  (try clear f0_c)
  (try clear f1_c)
  (try clear f2_c)
  have q_c := ld_cfg rt_cfg (K5.out.cf _ (.head _)).1 (K5.out.cf _ (.head _)).2
  go_wp2_with fail
  go_ret
  exact ⟨rfl, K5.out.hw.bel⟩
set_option maxRecDepth 100000 in
set_option maxHeartbeats 8000000 in
theorem back_yes (x0 : Cfg) (A1 : Option Addr) (n1 c1 : Nat) (l1 : List UInt8) (A2 : Option Addr) (n2 c2 : Nat) (l2 : List UInt8) (x3 : Int) (y : UInt8) (w : World) (h0 : x0.ok) (h1 : RB w w.heap.size A1 n1 l1) (m1 : n1 ≤ c1 ∧ c1 ≤ maxLen) (h2 : RB w w.heap.size A2 n2 l2) (m2 : n2 ≤ c2 ∧ c2 ≤ maxLen) (hr : rtB x0 = true) :
    Calls Tryz.prog 5 #[x0.val, .slice A1 n1 c1, .slice A2 n2 c2, .int .i64 x3, .int .u8 (y.toNat : Int)] w fun e w' => e = .returned (.bool true) ∧ Below w.heap.size w w' := by
  obtain ⟨B, hB⟩ : ∃ B, bytC x0 = B := ⟨_, rfl⟩
  have hB2 : B = rawC x0 := by rw [← hB, byt_ok hr]
  have HB := Lib.hid hB
  have hBL : B.length = 20 := by rw [hB2]; exact raw_len h0.k
  have HBL := Lib.hid hBL
  have HRB : Hid (readC B = (x0, 0)) := Lib.hid (by rw [hB2]; exact read_byt hr h0.k)
  have HR := Lib.hid (fun u => mright_any x0 h0 true hr u)
  obtain ⟨r1, r2, r3, r4, r5, r6⟩ := rt_unf (rt_of hr)
  have HRT := Lib.hid hr
  have HS := Lib.hid (fun u => msize_any x0 h0 (x0.s + x0.n + 1) (by rw [size_ok hr]; omega) u)
  have HOT : Hid (∀ l, l ≠ B → (readC l).2 = 0 → (readC l).1 ≠ x0) := Lib.hid (fun l hl => read_other hr h0.k (by rw [← hB2]; exact hl))
  have hL1 := h1.len
  have hL2 := h2.len
  have HL1 := Lib.hid hL1
  have HL2 := Lib.hid hL2
  have HC := Lib.hid h0
  have K0 := Lib.hid (((MK.start w).add h1 m1.1 m1.2).add h2 m2.1 m2.2)
  have HM := Lib.hid m1
  have HM2 := Lib.hid m2
  have H1 := Lib.hid h1
  have H2 := Lib.hid h2
  clear h0 h1 m1 h2 m2 hr r1 r4 r5 r6 hB hB2 hBL hL1 hL2
  go_enter Tryz.func5, Tryz.ntmps5
  go_wp2_with (first | (refine wpList_boxB rfl 24 (.tmp 0) rfl x0.cells (val_agg _) ?_; intro w1 p_c hc1 hb1 hx1; have K1 := Lib.hid (K0.out.boxed hb1 hc1 HC.out); clear hc1 hb1 hx1; have q_c := ld_cfg rt_cfg (K1.out.cf _ (.head _)).1 (K1.out.cf _ (.head _)).2))
  refine (malive_any _).mono ?_
  rintro e w2 ⟨rfl, hb⟩
  have K2 := Lib.hid (K1.out.step hb)
  clear K1
  clear hb
  (try clear q_c)
  (try clear f0_c)
  (try clear f1_c)
  (try clear f2_c)
  have q_c := ld_cfg rt_cfg (K2.out.cf _ (.head _)).1 (K2.out.cf _ (.head _)).2
  go_wp2_with fail
  refine (HR.out _).mono ?_
  rintro e w3 ⟨rfl, hb⟩
  have K3 := Lib.hid (K2.out.step hb)
  clear K2
  clear hb
  (try clear q_c)
  (try clear f0_c)
  (try clear f1_c)
  (try clear f2_c)
  have q_c := ld_cfg rt_cfg (K3.out.cf _ (.head _)).1 (K3.out.cf _ (.head _)).2
  go_wp2_with fail
  refine (mbytes_any x0 HC.out _).mono ?_
  rw [HB.out, HBL.out]
  rintro e w4 ⟨Ab, cb, rfl, ho, hb⟩
  obtain ⟨gb, rfl, hgb, _⟩ := ho.form (by decide)
  have KB := Lib.hid (And.intro (bel_next K3.out.hw.bel hb) (And.intro (ho.base_le K3.out.hw.bel.size) (Nat.le_trans K3.out.hw.bel.size hgb)))
  have K4 := Lib.hid ((K3.out.own hb ho).rebase)
  clear K3
  clear ho hb hgb
  (try clear q_c)
  (try clear f0_c)
  (try clear f1_c)
  (try clear f2_c)
  have q_c := ld_cfg rt_cfg (K4.out.cf _ (.head _)).1 (K4.out.cf _ (.head _)).2
  go_wp2_with fail
  refine (mread_any (some ⟨gb, 0, none⟩) 20 cb B _ (by exact (K4.out.hw.row _ (.head _)).1) (by exact (K4.out.hw.row _ (.head _)).2.1) (by decide)).mono ?_
  rw [HRB.out]
  dsimp only
  rintro e w5 ⟨rfl, hb⟩
  have K5 := Lib.hid (K4.out.step hb)
  clear K4
  clear hb
  (try clear q_c)
  (try clear f0_c)
  (try clear f1_c)
  (try clear f2_c)
  have q_c := ld_cfg rt_cfg (K5.out.cf _ (.head _)).1 (K5.out.cf _ (.head _)).2
  go_wp2_with (first | (with_reducible show wpList _ _ _ (⟨some 12, .alloc _, _, _, _, _⟩ :: _) _ _; refine wpList_newB rt_cfg rfl rfl ?_; intro w6 p_r hc1 hb1 hx1; have Vw6 := Lib.hid (And.intro hc1 (And.intro hb1 hx1)); clear hc1 hb1 hx1) | (refine wpList_stB rt_cfg rfl (.tmp 12) (.tmp 45) rfl p_r 0 rfl zeroC.cells (Cfg.cells x0) (val_agg _) (cells_one _) (by exact (Cfg.cells_len HC.out).trans zeroC_len.symm) (by exact Vw6.out.1) (by rw [zeroC_len]; decide) ?_; intro w7 hc1 ho1 hs1; have K6 := Lib.hid (K5.out.var Vw6.out.2.1 Vw6.out.2.2 ho1 hc1 HC.out); clear hc1 ho1 hs1 Vw6; have q_r := ld_cfg rt_cfg (K6.out.cf _ (.head _)).1 (K6.out.cf _ (.head _)).2; have q_c := ld_cfg rt_cfg (K6.out.cf _ (.tail _ (.head _))).1 (K6.out.cf _ (.tail _ (.head _))).2))
  (try clear q_r)
  (try clear f0_r)
  (try clear f1_r)
  (try clear f2_r)
  (try clear q_c)
  (try clear f0_c)
  (try clear f1_c)
  (try clear f2_c)
  have HD : Blk 24 w7.drew p_c x0.cells ∧ Blk 24 w7.drew p_r x0.cells := ⟨(K6.out.cf _ (.tail _ (.head _))).1, (K6.out.cf _ (.head _)).1⟩
  have nd := fun (W : World) => neq_cfg et_cfg x0 x0 HC.out HC.out W
  rw [decide_eq_true rfl] at nd
  have ng := fun (x y : Operand) (W : World) => eg_cfg et_cfg .neq x y x0 x0 W
  have nn : (x0.s + x0.n + 1 != x0.s + x0.n + 1) = false := bne_self_eq_false _
  have K7 := Lib.hid (K6.out.step (below_draw1 w7))
  clear K6
  refine wp_region_held_drew (S := fun w' => Blk 24 w' p_c x0.cells ∧ Blk 24 w' p_r x0.cells) (by kernel_rfl) HD (fun hHeld => ?_)
  (try dsimp only at hHeld)
  refine wpAnyH_take (i := 0) (v := ?v0_1) rfl (by kernel_rfl) (by kernel_rfl) (by kernel_rfl) (fun _ _ _ h => h) (Or.inl ⟨by rfl, ?hy0_1⟩) hHeld ?_
  case hy0_1 => (intro w hSw; (try dsimp only at hSw); have q0 := ld_cfg rt_cfg hSw.1 HC.out; have q1 := ld_cfg rt_cfg hSw.2 HC.out; have q2 := cf1 hSw.1; have q3 := cf2 hSw.1; (try simp only [List.getElem_toArray, List.getElem_cons_zero, List.getElem_cons_succ]); go_simp <;> with_reducible rfl)
  (try simp only [Act.put, List.getElem_toArray, List.getElem_cons_zero, List.getElem_cons_succ, List.setIfInBounds_toArray, List.set_cons_zero, List.set_cons_succ])
  refine wpAnyH_take (i := 1) (v := ?v1_2) rfl (by kernel_rfl) (by kernel_rfl) (by kernel_rfl) (fun _ _ _ h => h) (Or.inl ⟨by rfl, ?hy1_2⟩) hHeld ?_
  case hy1_2 => (intro w hSw; (try dsimp only at hSw); have q0 := ld_cfg rt_cfg hSw.1 HC.out; have q1 := ld_cfg rt_cfg hSw.2 HC.out; have q2 := cf1 hSw.1; have q3 := cf2 hSw.1; (try simp only [List.getElem_toArray, List.getElem_cons_zero, List.getElem_cons_succ]); go_simp <;> with_reducible rfl)
  (try simp only [Act.put, List.getElem_toArray, List.getElem_cons_zero, List.getElem_cons_succ, List.setIfInBounds_toArray, List.set_cons_zero, List.set_cons_succ])
  refine wpAnyH_take (i := 2) (v := ?v2_3) rfl (by kernel_rfl) (by kernel_rfl) (by kernel_rfl) (fun _ _ _ h => h) (Or.inl ⟨by rfl, ?hy2_3⟩) hHeld ?_
  case hy2_3 => (intro w hSw; (try dsimp only at hSw); have q0 := ld_cfg rt_cfg hSw.1 HC.out; have q1 := ld_cfg rt_cfg hSw.2 HC.out; have q2 := cf1 hSw.1; have q3 := cf2 hSw.1; (try simp only [List.getElem_toArray, List.getElem_cons_zero, List.getElem_cons_succ]); go_simp <;> with_reducible rfl)
  (try simp only [Act.put, List.getElem_toArray, List.getElem_cons_zero, List.getElem_cons_succ, List.setIfInBounds_toArray, List.set_cons_zero, List.set_cons_succ])
  refine wpAnyH_take (i := 3) (v := ?v3_4) rfl (by kernel_rfl) (by kernel_rfl) (by kernel_rfl) (fun _ _ _ h => h) (Or.inl ⟨by rfl, ?hy3_4⟩) hHeld ?_
  case hy3_4 => (intro w hSw; (try dsimp only at hSw); have q0 := ld_cfg rt_cfg hSw.1 HC.out; have q1 := ld_cfg rt_cfg hSw.2 HC.out; have q2 := cf1 hSw.1; have q3 := cf2 hSw.1; (try simp only [List.getElem_toArray, List.getElem_cons_zero, List.getElem_cons_succ]); go_simp <;> with_reducible rfl)
  (try simp only [Act.put, List.getElem_toArray, List.getElem_cons_zero, List.getElem_cons_succ, List.setIfInBounds_toArray, List.set_cons_zero, List.set_cons_succ])
  refine wpAnyH_take (i := 4) (v := ?v4_5) rfl (by kernel_rfl) (by kernel_rfl) (by kernel_rfl) (fun _ _ _ h => h) (Or.inl ⟨by rfl, ?hy4_5⟩) hHeld ?_
  case hy4_5 => (intro w hSw; (try dsimp only at hSw); have q0 := ld_cfg rt_cfg hSw.1 HC.out; have q1 := ld_cfg rt_cfg hSw.2 HC.out; have q2 := cf1 hSw.1; have q3 := cf2 hSw.1; (try simp only [List.getElem_toArray, List.getElem_cons_zero, List.getElem_cons_succ]); go_simp <;> with_reducible rfl)
  (try simp only [Act.put, List.getElem_toArray, List.getElem_cons_zero, List.getElem_cons_succ, List.setIfInBounds_toArray, List.set_cons_zero, List.set_cons_succ])
  refine wpAnyH_take (i := 5) (v := ?v5_6) rfl (by kernel_rfl) (by kernel_rfl) (by kernel_rfl) (fun _ _ _ h => h) (Or.inl ⟨by rfl, ?hy5_6⟩) hHeld ?_
  case hy5_6 => (intro w hSw; (try dsimp only at hSw); have q0 := ld_cfg rt_cfg hSw.1 HC.out; have q1 := ld_cfg rt_cfg hSw.2 HC.out; have q2 := cf1 hSw.1; have q3 := cf2 hSw.1; (try simp only [List.getElem_toArray, List.getElem_cons_zero, List.getElem_cons_succ]); go_simp <;> with_reducible rfl)
  (try simp only [Act.put, List.getElem_toArray, List.getElem_cons_zero, List.getElem_cons_succ, List.setIfInBounds_toArray, List.set_cons_zero, List.set_cons_succ])
  refine wpAnyH_take (i := 6) (v := ?v6_7) rfl (by kernel_rfl) (by kernel_rfl) (by kernel_rfl) (fun _ _ _ h => h) (Or.inl ⟨by rfl, ?hy6_7⟩) hHeld ?_
  case hy6_7 => (intro w hSw; (try dsimp only at hSw); have q0 := ld_cfg rt_cfg hSw.1 HC.out; have q1 := ld_cfg rt_cfg hSw.2 HC.out; have q2 := cf1 hSw.1; have q3 := cf2 hSw.1; (try simp only [List.getElem_toArray, List.getElem_cons_zero, List.getElem_cons_succ]); go_simp <;> with_reducible rfl)
  (try simp only [Act.put, List.getElem_toArray, List.getElem_cons_zero, List.getElem_cons_succ, List.setIfInBounds_toArray, List.set_cons_zero, List.set_cons_succ])
  refine wpAnyH_take (i := 7) (v := ?v7_8) rfl (by kernel_rfl) (by kernel_rfl) (by kernel_rfl) (fun _ _ _ h => h) (Or.inl ⟨by rfl, ?hy7_8⟩) hHeld ?_
  case hy7_8 => (intro w hSw; (try dsimp only at hSw); have q0 := ld_cfg rt_cfg hSw.1 HC.out; have q1 := ld_cfg rt_cfg hSw.2 HC.out; have q2 := cf1 hSw.1; have q3 := cf2 hSw.1; (try simp only [List.getElem_toArray, List.getElem_cons_zero, List.getElem_cons_succ]); go_simp <;> with_reducible rfl)
  (try simp only [Act.put, List.getElem_toArray, List.getElem_cons_zero, List.getElem_cons_succ, List.setIfInBounds_toArray, List.set_cons_zero, List.set_cons_succ])
  refine wpAnyH_take (i := 8) (v := ?v8_9) rfl (by kernel_rfl) (by kernel_rfl) (by kernel_rfl) (fun _ _ _ h => h) (Or.inl ⟨by rfl, ?hy8_9⟩) hHeld ?_
  case hy8_9 => (intro w hSw; (try dsimp only at hSw); have q0 := ld_cfg rt_cfg hSw.1 HC.out; have q1 := ld_cfg rt_cfg hSw.2 HC.out; have q2 := cf1 hSw.1; have q3 := cf2 hSw.1; (try simp only [List.getElem_toArray, List.getElem_cons_zero, List.getElem_cons_succ]); go_simp <;> with_reducible rfl)
  (try simp only [Act.put, List.getElem_toArray, List.getElem_cons_zero, List.getElem_cons_succ, List.setIfInBounds_toArray, List.set_cons_zero, List.set_cons_succ])
  refine wpAnyH_take (i := 10) (v := ?v10_10) rfl (by kernel_rfl) (by kernel_rfl) (by kernel_rfl) (fun _ _ _ h => h) (Or.inl ⟨by rfl, ?hy10_10⟩) hHeld ?_
  case hy10_10 => (intro w hSw; (try dsimp only at hSw); have q0 := ld_cfg rt_cfg hSw.1 HC.out; have q1 := ld_cfg rt_cfg hSw.2 HC.out; have q2 := cf1 hSw.1; have q3 := cf2 hSw.1; (try simp only [List.getElem_toArray, List.getElem_cons_zero, List.getElem_cons_succ]); go_simp <;> with_reducible rfl)
  (try simp only [Act.put, List.getElem_toArray, List.getElem_cons_zero, List.getElem_cons_succ, List.setIfInBounds_toArray, List.set_cons_zero, List.set_cons_succ])
  refine wpAnyH_take (i := 11) (v := ?v11_11) rfl (by kernel_rfl) (by kernel_rfl) (by kernel_rfl) (fun _ _ _ h => h) (Or.inl ⟨by rfl, ?hy11_11⟩) hHeld ?_
  case hy11_11 => (intro w hSw; (try dsimp only at hSw); have q0 := ld_cfg rt_cfg hSw.1 HC.out; have q1 := ld_cfg rt_cfg hSw.2 HC.out; have q2 := cf1 hSw.1; have q3 := cf2 hSw.1; (try simp only [List.getElem_toArray, List.getElem_cons_zero, List.getElem_cons_succ]); go_simp <;> with_reducible rfl)
  (try simp only [Act.put, List.getElem_toArray, List.getElem_cons_zero, List.getElem_cons_succ, List.setIfInBounds_toArray, List.set_cons_zero, List.set_cons_succ])
  refine wpAnyH_take (i := 12) (v := ?v12_12) rfl (by kernel_rfl) (by kernel_rfl) (by kernel_rfl) (fun _ _ _ h => h) (Or.inl ⟨by rfl, ?hy12_12⟩) hHeld ?_
  case hy12_12 => (intro w hSw; (try dsimp only at hSw); have q0 := ld_cfg rt_cfg hSw.1 HC.out; have q1 := ld_cfg rt_cfg hSw.2 HC.out; have q2 := cf1 hSw.1; have q3 := cf2 hSw.1; (try simp only [List.getElem_toArray, List.getElem_cons_zero, List.getElem_cons_succ]); go_simp <;> with_reducible rfl)
  (try simp only [Act.put, List.getElem_toArray, List.getElem_cons_zero, List.getElem_cons_succ, List.setIfInBounds_toArray, List.set_cons_zero, List.set_cons_succ])
  refine wpAnyH_take (i := 13) (v := ?v13_13) rfl (by kernel_rfl) (by kernel_rfl) (by kernel_rfl) (fun _ _ _ h => h) (Or.inl ⟨by rfl, ?hy13_13⟩) hHeld ?_
  case hy13_13 => (intro w hSw; (try dsimp only at hSw); have q0 := ld_cfg rt_cfg hSw.1 HC.out; have q1 := ld_cfg rt_cfg hSw.2 HC.out; have q2 := cf1 hSw.1; have q3 := cf2 hSw.1; (try simp only [List.getElem_toArray, List.getElem_cons_zero, List.getElem_cons_succ]); go_simp <;> with_reducible rfl)
  (try simp only [Act.put, List.getElem_toArray, List.getElem_cons_zero, List.getElem_cons_succ, List.setIfInBounds_toArray, List.set_cons_zero, List.set_cons_succ])
  refine wpAnyH_take (i := 14) (v := ?v14_14) rfl (by kernel_rfl) (by kernel_rfl) (by kernel_rfl) (fun _ _ _ h => h) (Or.inl ⟨by rfl, ?hy14_14⟩) hHeld ?_
  case hy14_14 => (intro w hSw; (try dsimp only at hSw); have q0 := ld_cfg rt_cfg hSw.1 HC.out; have q1 := ld_cfg rt_cfg hSw.2 HC.out; have q2 := cf1 hSw.1; have q3 := cf2 hSw.1; (try simp only [List.getElem_toArray, List.getElem_cons_zero, List.getElem_cons_succ]); go_simp <;> with_reducible rfl)
  (try simp only [Act.put, List.getElem_toArray, List.getElem_cons_zero, List.getElem_cons_succ, List.setIfInBounds_toArray, List.set_cons_zero, List.set_cons_succ])
  refine wpAnyH_take (i := 15) (v := ?v15_15) rfl (by kernel_rfl) (by kernel_rfl) (by kernel_rfl) (fun _ _ _ h => h) (Or.inl ⟨by rfl, ?hy15_15⟩) hHeld ?_
  case hy15_15 => (intro w hSw; (try dsimp only at hSw); have q0 := ld_cfg rt_cfg hSw.1 HC.out; have q1 := ld_cfg rt_cfg hSw.2 HC.out; have q2 := cf1 hSw.1; have q3 := cf2 hSw.1; (try simp only [List.getElem_toArray, List.getElem_cons_zero, List.getElem_cons_succ]); go_simp <;> with_reducible rfl)
  (try simp only [Act.put, List.getElem_toArray, List.getElem_cons_zero, List.getElem_cons_succ, List.setIfInBounds_toArray, List.set_cons_zero, List.set_cons_succ])
  rw [show IntKind.i64.wrap (x0.s + x0.n) = x0.s + x0.n from IntWalk.i64_in _ (by omega), show IntKind.i64.wrap (x0.s + x0.n + 1) = x0.s + x0.n + 1 from IntWalk.i64_in _ (by omega)]
  refine wpAnyH_ready (rs := [9]) (by kernel_rfl) (by simp) ?_
  refine AllReadyH.cons rfl (fun K hK => ?_) AllReadyH.nil
  (try simp only [List.getElem_toArray, List.getElem_cons_zero, List.getElem_cons_succ])
  go_simp
  refine (HS.out _).mono ?_
  rintro e w108 ⟨rfl, hb⟩
  have K8 := Lib.hid (K7.out.step hb)
  clear K7
  clear hb
  (try go_wp2_with fail)
  refine hK.out _ _ ⟨(K8.out.cf _ (.tail _ (.head _))).1, (K8.out.cf _ (.head _)).1⟩ (fun hHeld => ?_)
  clear hK K
  (try simp only [Act.put, List.getElem_toArray, List.getElem_cons_zero, List.getElem_cons_succ, List.setIfInBounds_toArray, List.set_cons_zero, List.set_cons_succ])
  refine wpAnyH_take (i := 16) (v := ?v16_16) rfl (by kernel_rfl) (by kernel_rfl) (by kernel_rfl) (fun _ _ _ h => h) (Or.inl ⟨by rfl, ?hy16_16⟩) hHeld ?_
  case hy16_16 => (intro w hSw; (try dsimp only at hSw); have q0 := ld_cfg rt_cfg hSw.1 HC.out; have q1 := ld_cfg rt_cfg hSw.2 HC.out; have q2 := cf1 hSw.1; have q3 := cf2 hSw.1; (try simp only [List.getElem_toArray, List.getElem_cons_zero, List.getElem_cons_succ]); go_simp <;> with_reducible rfl)
  (try simp only [Act.put, List.getElem_toArray, List.getElem_cons_zero, List.getElem_cons_succ, List.setIfInBounds_toArray, List.set_cons_zero, List.set_cons_succ])
  refine wpAnyH_take (i := 17) (v := ?v17_17) rfl (by kernel_rfl) (by kernel_rfl) (by kernel_rfl) (fun _ _ _ h => h) (Or.inl ⟨by rfl, ?hy17_17⟩) hHeld ?_
  case hy17_17 => (intro w hSw; (try dsimp only at hSw); have q0 := ld_cfg rt_cfg hSw.1 HC.out; have q1 := ld_cfg rt_cfg hSw.2 HC.out; have q2 := cf1 hSw.1; have q3 := cf2 hSw.1; (try simp only [List.getElem_toArray, List.getElem_cons_zero, List.getElem_cons_succ]); go_simp <;> with_reducible rfl)
  (try simp only [Act.put, List.getElem_toArray, List.getElem_cons_zero, List.getElem_cons_succ, List.setIfInBounds_toArray, List.set_cons_zero, List.set_cons_succ])
  refine wpAnyH_done (by kernel_rfl) ?_ _
  clear nd ng HD hHeld HS HRB
  obtain ⟨bP, hbP⟩ : ∃ b, decide (0 ≤ x3 ∧ x3 < 20 ∧ y ≠ 0) = b := ⟨_, rfl⟩
  have HBP := Lib.hid hbP
  clear hbP
  go_upto_region 9 with fail
  go_cut [76] from 65 to 75 (fun s76 wx => s76 = .bool bP ∧ w108 = wx)
  case first =>
    by_cases p0 : x3 < 0
    · have e0 : decide ((0 : Int) ≤ x3) = false := decide_eq_false (by omega)
      go_wp2_with fail
      go_meet
      exact ⟨by rw [← HBP.out, decide_eq_false (fun e => by first | omega | exact e.2.2 p2)], rfl⟩
    have e0 : decide ((0 : Int) ≤ x3) = true := decide_eq_true (by omega)
    by_cases p1 : 20 ≤ x3
    · have e1 : decide (x3 < (20 : Int)) = false := decide_eq_false (by omega)
      go_wp2_with fail
      go_meet
      exact ⟨by rw [← HBP.out, decide_eq_false (fun e => by first | omega | exact e.2.2 p2)], rfl⟩
    have e1 : decide (x3 < (20 : Int)) = true := decide_eq_true (by omega)
    by_cases p2 : y = 0
    · have e2 : ((y.toNat : Int) != 0) = false := by rw [p2]; rfl
      have P2 := Lib.hid p2
      clear p2
      go_wp2_with fail
      go_meet
      exact ⟨by rw [← HBP.out, decide_eq_false (fun e => e.2.2 P2.out)], rfl⟩
    have e2 : ((y.toNat : Int) != 0) = true := by
      rw [bne_iff_ne]
      intro e
      exact p2 (UInt8.toNat_inj.1 (by have z0 : (0 : UInt8).toNat = 0 := rfl; omega))
    go_wp2_with fail
    go_meet
    exact ⟨by rw [← HBP.out, decide_eq_true ⟨by omega, by omega, p2⟩], rfl⟩
  case rest =>
    obtain ⟨rfl, rfl⟩ := hcut
    go_upto_if 76 with fail
    go_cut [14, 15] from 77 to 104 (fun _ _ wx => Hid (MK w [(A2, n2, c2, l2), (A1, n1, c1, l1)] [(24, p_c, x0)] wx))
    case first =>
      cases bP
      · skip
        go_wp2_with fail
        go_meet
        exact Lib.hid (K8.out.over KB.out.1 (by intro r hr; rcases List.mem_cons.1 hr with rfl | hr; exact .tail _ (.head _); rcases List.mem_cons.1 hr with rfl | hr; exact .tail _ (.tail _ (.head _)); cases hr) (by intro r hr; rcases List.mem_cons.1 hr with rfl | hr; exact .tail _ (.head _); cases hr))
      obtain ⟨p0, p1, p2⟩ := of_decide_eq_true HBP.out
      obtain ⟨j, rfl⟩ : ∃ j : Nat, x3 = (j : Int) := ⟨x3.toNat, by omega⟩
      have hj : j < 20 := by omega
      obtain ⟨x, hx⟩ : ∃ x, B[j]? = some x := ⟨_, List.getElem?_eq_getElem (by rw [HBL.out]; exact hj)⟩
      have HOB := Lib.hid (KB.out.2.1.below K8.out.hw.bel)
      have c5 : w108.cell? ⟨gb, j, none⟩ = some (.int .u8 (x.toNat : Int)) := HOB.out.cellAt hx
      have f5 : w108.frozen? ⟨gb, j, none⟩ = false := HOB.out.freeAt j
      have hxy := xor_byte x y
      obtain ⟨v, hv⟩ : ∃ v, x ^^^ y = v := ⟨_, rfl⟩
      rw [hv] at hxy
      obtain ⟨B2, hB2⟩ : ∃ B2, B.set j v = B2 := ⟨_, rfl⟩
      have HNE : Hid (B2 ≠ B) := Lib.hid (by rw [← hB2, ← hv]; exact poked_ne hx p2)
      have HB2L : Hid (B2.length = 20) := Lib.hid (by rw [← hB2, List.length_set]; exact HBL.out)
      have HOS := Lib.hid (HOB.out.stored j v (.int .u8 (v.toNat : Int)) rfl)
      rw [hB2] at HOS
      have BWn := Lib.hid ((KB.out.1.trans (K8.out.hw.bel.mono KB.out.1.size)).setCell (p := ⟨gb, j, none⟩) KB.out.2.2 (.int .u8 (v.toNat : Int)))
      have KP := Lib.hid ((((((MK.start _).add (H1.out.step BWn.out) HM.out.1 HM.out.2).add (H2.out.step BWn.out) HM2.out.1 HM2.out.2).add HOS.out.rb HOS.out.cap.1 HOS.out.cap.2).addc (Blk.poke (K8.out.cf _ (.tail _ (.head _))).1 (show 24 ≠ 5 by decide) HOB.out (.int .u8 (v.toNat : Int))) HC.out).addc (Blk.poke (K8.out.cf _ (.head _)).1 (show 24 ≠ 5 by decide) HOB.out (.int .u8 (v.toNat : Int))) HC.out)
      obtain ⟨S, q, hS⟩ : ∃ S q, readC B2 = (S, q) := ⟨_, _, rfl⟩
      have HSQ := Lib.hid hS
      have HSK : Hid S.ok := Lib.hid (by have := (read_valid B2).1; rw [hS] at this; exact this)
      have HSV : Hid (q = 0 → rtB S = true ∧ S ≠ x0) := Lib.hid (fun e => by
        have a := (read_valid B2).2
        have b := HOT.out B2 HNE.out
        rw [hS] at a b
        exact ⟨a e, b e⟩)
      clear hS hx hv hB2 p2 p0 p1
      obtain ⟨wp, hwp⟩ : ∃ wp, w108.setCell ⟨gb, j, none⟩ (.int .u8 (v.toNat : Int)) = wp := ⟨_, rfl⟩
      rw [hwp] at KP BWn
      have HWP := Lib.hid hwp
      clear hwp
      clear K8
      go_wp2_with fail
      rw [HWP.out]
      have K9 := Lib.hid KP.out
      clear KP HWP HOB HOS c5 f5 hxy
      refine (mread_any (some ⟨gb, 0, none⟩) 20 cb B2 _ (by exact (K9.out.hw.row _ (.head _)).1) (by exact (K9.out.hw.row _ (.head _)).2.1) (by decide)).mono ?_
      rw [HSQ.out]
      dsimp only
      rintro e w109 ⟨rfl, hb⟩
      have K10 := Lib.hid (K9.out.step hb)
      clear K9
      clear hb
      (try clear q_r)
      (try clear f0_r)
      (try clear f1_r)
      (try clear f2_r)
      (try clear q_c)
      (try clear f0_c)
      (try clear f1_c)
      (try clear f2_c)
      have q_r := ld_cfg rt_cfg (K10.out.cf _ (.head _)).1 (K10.out.cf _ (.head _)).2
      have q_c := ld_cfg rt_cfg (K10.out.cf _ (.tail _ (.head _))).1 (K10.out.cf _ (.tail _ (.head _))).2
      by_cases hq : q = 0
      · subst hq
        have es := fun (W : World) => eql_cfg et_cfg S x0 HSK.out HC.out W
        rw [decide_eq_false (HSV.out rfl).2] at es
        have eg := fun (x y : Operand) (W : World) => eg_cfg et_cfg .eql x y S x0 W
        have HRS := Lib.hid (fun u => mright_any S HSK.out true (HSV.out rfl).1 u)
        go_wp2_with (first | (with_reducible show wpList _ _ _ (⟨some 14, .alloc _, _, _, _, _⟩ :: _) _ _; refine wpList_newB rt_cfg rfl rfl ?_; intro w110 p_s hc1 hb1 hx1; have Vw110 := Lib.hid (And.intro hc1 (And.intro hb1 hx1)); clear hc1 hb1 hx1) | (refine wpList_stB rt_cfg rfl (.tmp 14) (.tmp 87) rfl p_s 0 rfl zeroC.cells (Cfg.cells S) (val_agg _) (cells_one _) (by exact (Cfg.cells_len HSK.out).trans zeroC_len.symm) (by exact Vw110.out.1) (by rw [zeroC_len]; decide) ?_; intro w111 hc1 ho1 hs1; have K11 := Lib.hid (K10.out.var Vw110.out.2.1 Vw110.out.2.2 ho1 hc1 HSK.out); clear hc1 ho1 hs1 Vw110; have q_s := ld_cfg rt_cfg (K11.out.cf _ (.head _)).1 (K11.out.cf _ (.head _)).2; have q_r := ld_cfg rt_cfg (K11.out.cf _ (.tail _ (.head _))).1 (K11.out.cf _ (.tail _ (.head _))).2; have q_c := ld_cfg rt_cfg (K11.out.cf _ (.tail _ (.tail _ (.head _)))).1 (K11.out.cf _ (.tail _ (.tail _ (.head _)))).2))
        refine (HRS.out _).mono ?_
        rintro e w112 ⟨rfl, hb⟩
        have K12 := Lib.hid (K11.out.step hb)
        clear K11
        clear hb
        (try clear q_s)
        (try clear f0_s)
        (try clear f1_s)
        (try clear f2_s)
        (try clear q_r)
        (try clear f0_r)
        (try clear f1_r)
        (try clear f2_r)
        (try clear q_c)
        (try clear f0_c)
        (try clear f1_c)
        (try clear f2_c)
        have q_s := ld_cfg rt_cfg (K12.out.cf _ (.head _)).1 (K12.out.cf _ (.head _)).2
        have q_r := ld_cfg rt_cfg (K12.out.cf _ (.tail _ (.head _))).1 (K12.out.cf _ (.tail _ (.head _))).2
        have q_c := ld_cfg rt_cfg (K12.out.cf _ (.tail _ (.tail _ (.head _)))).1 (K12.out.cf _ (.tail _ (.tail _ (.head _)))).2
        go_wp2_with fail
        go_meet
        exact Lib.hid (K12.out.over BWn.out (by intro r hr; rcases List.mem_cons.1 hr with rfl | hr; exact .tail _ (.head _); rcases List.mem_cons.1 hr with rfl | hr; exact .tail _ (.tail _ (.head _)); cases hr) (by intro r hr; rcases List.mem_cons.1 hr with rfl | hr; exact .tail _ (.tail _ (.head _)); cases hr))
      · have dq : (q == 0) = false := by rw [beq_eq_false_iff_ne]; exact hq
        clear hq
        go_wp2_with (first | (with_reducible show wpList _ _ _ (⟨some 14, .alloc _, _, _, _, _⟩ :: _) _ _; refine wpList_newB rt_cfg rfl rfl ?_; intro w110 p_s hc1 hb1 hx1; have Vw110 := Lib.hid (And.intro hc1 (And.intro hb1 hx1)); clear hc1 hb1 hx1) | (refine wpList_stB rt_cfg rfl (.tmp 14) (.tmp 87) rfl p_s 0 rfl zeroC.cells (Cfg.cells S) (val_agg _) (cells_one _) (by exact (Cfg.cells_len HSK.out).trans zeroC_len.symm) (by exact Vw110.out.1) (by rw [zeroC_len]; decide) ?_; intro w111 hc1 ho1 hs1; have K11 := Lib.hid (K10.out.var Vw110.out.2.1 Vw110.out.2.2 ho1 hc1 HSK.out); clear hc1 ho1 hs1 Vw110; have q_s := ld_cfg rt_cfg (K11.out.cf _ (.head _)).1 (K11.out.cf _ (.head _)).2; have q_r := ld_cfg rt_cfg (K11.out.cf _ (.tail _ (.head _))).1 (K11.out.cf _ (.tail _ (.head _))).2; have q_c := ld_cfg rt_cfg (K11.out.cf _ (.tail _ (.tail _ (.head _)))).1 (K11.out.cf _ (.tail _ (.tail _ (.head _)))).2))
        go_meet
        exact Lib.hid (K11.out.over BWn.out (by intro r hr; rcases List.mem_cons.1 hr with rfl | hr; exact .tail _ (.head _); rcases List.mem_cons.1 hr with rfl | hr; exact .tail _ (.tail _ (.head _)); cases hr) (by intro r hr; rcases List.mem_cons.1 hr with rfl | hr; exact .tail _ (.tail _ (.head _)); cases hr))
    case rest =>
      have K900 := hcut
      clear hcut
      by_cases hl : (l1.length : Int) = x0.s + x0.n
      · have d1 : ((n1 : Int) != x0.s + x0.n) = false := by rw [bne_eq_false_iff_eq, ← HL1.out]; exact hl
        by_cases hl2 : n2 = n1
        · have d2 : ((n2 : Int) != (n1 : Int)) = false := by rw [bne_eq_false_iff_eq, hl2]
          have hrt := rt_of HRT.out
          have hk := HC.out.k
          have hlo : (l2.length : Int) = x0.s + x0.n := by rw [HL2.out, hl2, ← HL1.out]; exact hl
          have a1 := way_back (back := false) hrt hk hl
          have a2 := way_back (back := true) hrt hk hl
          have b1 := way_len (back := false) hrt hk hl
          have b2 := way_len (back := true) hrt hk hl
          have b3 := way_len (back := false) hrt hk hlo
          have s1 := way_same (back := false) hrt hk hlo hl
          have g1 := turn_ok (back := false) HRT.out hl
          have g2 := turn_ok (back := true) HRT.out (l := wayC x0 false l1) (by rw [b1]; exact hl)
          have g3 := turn_ok (back := true) HRT.out hl
          have g4 := turn_ok (back := false) HRT.out (l := wayC x0 true l1) (by rw [b2]; exact hl)
          have g5 := turn_ok (back := false) HRT.out hlo
          simp only [Bool.not_false] at a1
          simp only [Bool.not_true] at a2
          rw [a1] at g2
          rw [a2] at g4
          obtain ⟨X, hX⟩ : ∃ X, wayC x0 false l1 = X := ⟨_, rfl⟩
          obtain ⟨Z, hZ⟩ : ∃ Z, wayC x0 true l1 = Z := ⟨_, rfl⟩
          obtain ⟨V, hV⟩ : ∃ V, wayC x0 false l2 = V := ⟨_, rfl⟩
          rw [hX] at g1 g2 b1 s1
          rw [hZ] at g3 g4 b2
          rw [hV] at g5 b3 s1
          obtain ⟨b, hb⟩ : ∃ b, (l2 == l1) = b := ⟨_, rfl⟩
          rw [hb] at s1
          have G1 := Lib.hid g1
          have G2 := Lib.hid g2
          have G3 := Lib.hid g3
          have G4 := Lib.hid g4
          have G5 := Lib.hid g5
          have BX : Hid (X.length = n1) := Lib.hid (by rw [b1, HL1.out])
          have BZ : Hid (Z.length = n1) := Lib.hid (by rw [b2, HL1.out])
          have BV : Hid (V.length = n2) := Lib.hid (by rw [b3, HL2.out])
          have S1 := Lib.hid s1
          have SB := Lib.hid hb
          have bb : (b == b) = true := beq_self_eq_true _
          have n19 : n1 ≤ 1000000 := by have := HL1.out; omega
          have n29 : n2 ≤ 1000000 := by omega
          clear hrt hk hlo a1 a2 b1 b2 b3 s1 g1 g2 g3 g4 g5 hX hZ hV hb hl hl2
          have q_c := ld_cfg rt_cfg (K900.out.cf _ (.head _)).1 (K900.out.cf _ (.head _)).2
          have f0_c := cf0 (K900.out.cf _ (.head _)).1
          have f1_c := cf1 (K900.out.cf _ (.head _)).1
          have f2_c := cf2 (K900.out.cf _ (.head _)).1
          go_wp2_with fail
          refine (mturn_any x0 HC.out A1 n1 c1 l1 _ (by exact (K900.out.hw.row _ (.tail _ (.head _))).1) (by exact (K900.out.hw.row _ (.tail _ (.head _))).2.1) n19).mono ?_
          rw [G1.out]
          dsimp only
          rw [BX.out]
          rintro e w901 ⟨Ax, cx, rfl, ho, hb⟩
          have K901 := Lib.hid (K900.out.own hb ho)
          clear K900
          clear ho hb
          (try clear q_c)
          (try clear f0_c)
          (try clear f1_c)
          (try clear f2_c)
          have q_c := ld_cfg rt_cfg (K901.out.cf _ (.head _)).1 (K901.out.cf _ (.head _)).2
          go_wp2_with fail
          refine (mback_any x0 HC.out Ax n1 cx X _ (by exact (K901.out.hw.row _ (.head _)).1) (by exact (K901.out.hw.row _ (.head _)).2.1) n19).mono ?_
          rw [G2.out]
          dsimp only
          rw [HL1.out]
          rintro e w902 ⟨Ayy, cyy, rfl, ho, hb⟩
          have K902 := Lib.hid (K901.out.own hb ho)
          clear K901
          clear ho hb
          (try clear q_c)
          (try clear f0_c)
          (try clear f1_c)
          (try clear f2_c)
          have q_c := ld_cfg rt_cfg (K902.out.cf _ (.head _)).1 (K902.out.cf _ (.head _)).2
          go_wp2_with fail
          refine (mback_any x0 HC.out A1 n1 c1 l1 _ (by exact (K902.out.hw.row _ (.tail _ (.tail _ (.tail _ (.head _))))).1) (by exact (K902.out.hw.row _ (.tail _ (.tail _ (.tail _ (.head _))))).2.1) n19).mono ?_
          rw [G3.out]
          dsimp only
          rw [BZ.out]
          rintro e w903 ⟨Az, cz, rfl, ho, hb⟩
          have K903 := Lib.hid (K902.out.own hb ho)
          clear K902
          clear ho hb
          (try clear q_c)
          (try clear f0_c)
          (try clear f1_c)
          (try clear f2_c)
          have q_c := ld_cfg rt_cfg (K903.out.cf _ (.head _)).1 (K903.out.cf _ (.head _)).2
          go_wp2_with fail
          refine (mturn_any x0 HC.out Az n1 cz Z _ (by exact (K903.out.hw.row _ (.head _)).1) (by exact (K903.out.hw.row _ (.head _)).2.1) n19).mono ?_
          rw [G4.out]
          dsimp only
          rw [HL1.out]
          rintro e w904 ⟨Au, cu, rfl, ho, hb⟩
          have K904 := Lib.hid (K903.out.own hb ho)
          clear K903
          clear ho hb
          (try clear q_c)
          (try clear f0_c)
          (try clear f1_c)
          (try clear f2_c)
          have q_c := ld_cfg rt_cfg (K904.out.cf _ (.head _)).1 (K904.out.cf _ (.head _)).2
          go_wp2_with fail
          refine (mturn_any x0 HC.out A2 n2 c2 l2 _ (by exact (K904.out.hw.row _ (.tail _ (.tail _ (.tail _ (.tail _ (.head _)))))).1) (by exact (K904.out.hw.row _ (.tail _ (.tail _ (.tail _ (.tail _ (.head _)))))).2.1) n29).mono ?_
          rw [G5.out]
          dsimp only
          rw [BV.out]
          rintro e w905 ⟨Av, cv, rfl, ho, hb⟩
          have K905 := Lib.hid (K904.out.own hb ho)
          clear K904
          clear ho hb
          (try clear q_c)
          (try clear f0_c)
          (try clear f1_c)
          (try clear f2_c)
          have q_c := ld_cfg rt_cfg (K905.out.cf _ (.head _)).1 (K905.out.cf _ (.head _)).2
          go_wp2_with fail
          refine (al_same _ _ _ _ _ _ l1 l1 _ (by exact (K905.out.hw.row _ (.tail _ (.tail _ (.tail _ (.head _))))).1) (by exact (K905.out.hw.row _ (.tail _ (.tail _ (.tail _ (.tail _ (.tail _ (.tail _ (.head _)))))))).1) (by exact Nat.le_trans (K905.out.hw.row _ (.tail _ (.tail _ (.tail _ (.head _))))).2.1 (K905.out.hw.row _ (.tail _ (.tail _ (.tail _ (.head _))))).2.2) (by exact Nat.le_trans (K905.out.hw.row _ (.tail _ (.tail _ (.tail _ (.tail _ (.tail _ (.tail _ (.head _)))))))).2.1 (K905.out.hw.row _ (.tail _ (.tail _ (.tail _ (.tail _ (.tail _ (.tail _ (.head _)))))))).2.2) true (beq_self_eq_true _)).mono ?_
          rintro e w906 ⟨rfl, hb⟩
          have K906 := Lib.hid (K905.out.step hb)
          clear K905
          clear hb
          (try clear q_c)
          (try clear f0_c)
          (try clear f1_c)
          (try clear f2_c)
          have q_c := ld_cfg rt_cfg (K906.out.cf _ (.head _)).1 (K906.out.cf _ (.head _)).2
          go_wp2_with fail
          refine (al_same _ _ _ _ _ _ l1 l1 _ (by exact (K906.out.hw.row _ (.tail _ (.head _))).1) (by exact (K906.out.hw.row _ (.tail _ (.tail _ (.tail _ (.tail _ (.tail _ (.tail _ (.head _)))))))).1) (by exact Nat.le_trans (K906.out.hw.row _ (.tail _ (.head _))).2.1 (K906.out.hw.row _ (.tail _ (.head _))).2.2) (by exact Nat.le_trans (K906.out.hw.row _ (.tail _ (.tail _ (.tail _ (.tail _ (.tail _ (.tail _ (.head _)))))))).2.1 (K906.out.hw.row _ (.tail _ (.tail _ (.tail _ (.tail _ (.tail _ (.tail _ (.head _)))))))).2.2) true (beq_self_eq_true _)).mono ?_
          rintro e w907 ⟨rfl, hb⟩
          have K907 := Lib.hid (K906.out.step hb)
          clear K906
          clear hb
          (try clear q_c)
          (try clear f0_c)
          (try clear f1_c)
          (try clear f2_c)
          have q_c := ld_cfg rt_cfg (K907.out.cf _ (.head _)).1 (K907.out.cf _ (.head _)).2
          go_wp2_with fail
          refine (al_same _ _ _ _ _ _ V X _ (by exact (K907.out.hw.row _ (.head _)).1) (by exact (K907.out.hw.row _ (.tail _ (.tail _ (.tail _ (.tail _ (.head _)))))).1) (by exact Nat.le_trans (K907.out.hw.row _ (.head _)).2.1 (K907.out.hw.row _ (.head _)).2.2) (by exact Nat.le_trans (K907.out.hw.row _ (.tail _ (.tail _ (.tail _ (.tail _ (.head _)))))).2.1 (K907.out.hw.row _ (.tail _ (.tail _ (.tail _ (.tail _ (.head _)))))).2.2) b (S1.out)).mono ?_
          rintro e w908 ⟨rfl, hb⟩
          have K908 := Lib.hid (K907.out.step hb)
          clear K907
          clear hb
          (try clear q_c)
          (try clear f0_c)
          (try clear f1_c)
          (try clear f2_c)
          have q_c := ld_cfg rt_cfg (K908.out.cf _ (.head _)).1 (K908.out.cf _ (.head _)).2
          go_wp2_with fail
          refine (al_same _ _ _ _ _ _ l2 l1 _ (by exact (K908.out.hw.row _ (.tail _ (.tail _ (.tail _ (.tail _ (.tail _ (.head _))))))).1) (by exact (K908.out.hw.row _ (.tail _ (.tail _ (.tail _ (.tail _ (.tail _ (.tail _ (.head _)))))))).1) (by exact Nat.le_trans (K908.out.hw.row _ (.tail _ (.tail _ (.tail _ (.tail _ (.tail _ (.head _))))))).2.1 (K908.out.hw.row _ (.tail _ (.tail _ (.tail _ (.tail _ (.tail _ (.head _))))))).2.2) (by exact Nat.le_trans (K908.out.hw.row _ (.tail _ (.tail _ (.tail _ (.tail _ (.tail _ (.tail _ (.head _)))))))).2.1 (K908.out.hw.row _ (.tail _ (.tail _ (.tail _ (.tail _ (.tail _ (.tail _ (.head _)))))))).2.2) b (SB.out)).mono ?_
          rintro e w909 ⟨rfl, hb⟩
          have K909 := Lib.hid (K908.out.step hb)
          clear K908
          clear hb
          (try clear q_c)
          (try clear f0_c)
          (try clear f1_c)
          (try clear f2_c)
          have q_c := ld_cfg rt_cfg (K909.out.cf _ (.head _)).1 (K909.out.cf _ (.head _)).2
          go_wp2_with fail
          go_ret
          exact ⟨rfl, K909.out.hw.bel⟩
        · have d2 : ((n2 : Int) != (n1 : Int)) = true := by rw [bne_iff_ne]; omega
          clear hl hl2
          have q_c := ld_cfg rt_cfg (K900.out.cf _ (.head _)).1 (K900.out.cf _ (.head _)).2
          have f0_c := cf0 (K900.out.cf _ (.head _)).1
          have f1_c := cf1 (K900.out.cf _ (.head _)).1
          have f2_c := cf2 (K900.out.cf _ (.head _)).1
          go_wp2_with fail
          go_ret
          exact ⟨rfl, K900.out.hw.bel⟩
      · have d1 : ((n1 : Int) != x0.s + x0.n) = true := by rw [bne_iff_ne, ← HL1.out]; exact hl
        clear hl
        have q_c := ld_cfg rt_cfg (K900.out.cf _ (.head _)).1 (K900.out.cf _ (.head _)).2
        have f0_c := cf0 (K900.out.cf _ (.head _)).1
        have f1_c := cf1 (K900.out.cf _ (.head _)).1
        have f2_c := cf2 (K900.out.cf _ (.head _)).1
        go_wp2_with fail
        go_ret
        exact ⟨rfl, K900.out.hw.bel⟩
theorem ModeBack_walk (x0 : Cfg) (A1 : Option Addr) (n1 c1 : Nat) (l1 : List UInt8) (A2 : Option Addr) (n2 c2 : Nat) (l2 : List UInt8) (x3 : Int) (x4 : Int) (w : World) (h0 : x0.ok) (h1 : RB w w.heap.size A1 n1 l1) (m1 : n1 ≤ c1 ∧ c1 ≤ maxLen) (h2 : RB w w.heap.size A2 n2 l2) (m2 : n2 ≤ c2 ∧ c2 ≤ maxLen) (h3 : (Lit.int .i64 x3).wf = true) (h4 : (Lit.int .u8 x4).wf = true) :
    Calls Tryz.prog 5 #[x0.val, .slice A1 n1 c1, .slice A2 n2 c2, .int .i64 x3, .int .u8 x4] w fun e w' => e = .returned (.bool true) ∧ Below w.heap.size w w' := by
  obtain ⟨y, rfl⟩ := byte_of h4
  cases hr : rtB x0
  · exact back_no x0 A1 n1 c1 l1 A2 n2 c2 l2 x3 y w h0 h1 m1 h2 m2 hr
  · exact back_yes x0 A1 n1 c1 l1 A2 n2 c2 l2 x3 y w h0 h1 m1 h2 m2 hr
end Go.Proofs.YtdhnknkochbekaaGreat
