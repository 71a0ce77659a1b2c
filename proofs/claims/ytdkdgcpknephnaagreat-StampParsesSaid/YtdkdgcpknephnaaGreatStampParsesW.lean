/- Layer 12's statement StampParses, walked. No condition. -/
import Derived.Test.YtdkdgcpknephnaaGreatStV
import Derived.Test.YtdkdgcpknephnaaGreatStS
import Derived.Test.YtdkdgcpknephnaaGreatStC
import Derived.Test.YtdkdgcpknephnaaGreatOpen
namespace Go.Proofs.YtdkdgcpknephnaaGreat
open Go.RowKit
set_option linter.unusedVariables false
set_option linter.unusedSimpArgs false
theorem byte_upS (x : UInt8) : ∃ y : UInt8, ((x.toNat : Int) + 1) % 256 = (y.toNat : Int) := ⟨UInt8.ofNat (x.toNat + 1), by simp⟩
attribute [local irreducible] sprs smakeR stampR scheckR aheadL iprs stL
attribute [local go_sem ↓] ex_ldHd ex_stHd ex_ldHr ex_stHr ex_ldS ex_ldSr ex_stS ex_stSr ex_ldI ex_stI
set_option maxRecDepth 100000 in
set_option maxHeartbeats 8000000 in
theorem StampParses_walk (A0 : Option Addr) (n0 c0 : Nat) (l0 : List UInt8) (A1 : Option Addr) (n1 c1 : Nat) (l1 : List UInt8) (w : World) (h0 : RB w w.heap.size A0 n0 l0) (m0 : n0 ≤ c0 ∧ c0 ≤ maxLen) (h1 : RB w w.heap.size A1 n1 l1) (m1 : n1 ≤ c1 ∧ c1 ≤ maxLen) :
    Calls Tryz.prog 4 #[.slice A0 n0 c0, .slice A1 n1 c1] w fun e w' => e = .returned (.bool true) ∧ Below w.heap.size w w' := by
  have hl0 := h0.len
  subst hl0
  have hl1 := h1.len
  subst hl1
  have K0 := Lib.hid (((IW.start w).add h0 m0.1 m0.2).add h1 m1.1 m1.2)
  clear h0 m0 h1 m1
  by_cases t0 : 400 < l0.length
  · have d0 : decide (400 < (l0.length : Int)) = true := decide_eq_true (by omega)
    go_enter Tryz.func4, Tryz.ntmps4
    go_wp2_with fail
    refine (salive_any _).mono ?_
    rintro e w1 ⟨rfl, hb1⟩
    have K1 := Lib.hid (K0.out.step hb1)
    clear hb1 K0
    go_wp2_with fail
    go_ret
    exact ⟨rfl, K1.out.bel⟩
  have d0 : decide (400 < (l0.length : Int)) = false := decide_eq_false (by omega)
  by_cases t1 : 100 < l1.length
  · have d1 : decide (100 < (l1.length : Int)) = true := decide_eq_true (by omega)
    go_enter Tryz.func4, Tryz.ntmps4
    go_wp2_with fail
    refine (salive_any _).mono ?_
    rintro e w1 ⟨rfl, hb1⟩
    have K1 := Lib.hid (K0.out.step hb1)
    clear hb1 K0
    go_wp2_with fail
    go_ret
    exact ⟨rfl, K1.out.bel⟩
  have d1 : decide (100 < (l1.length : Int)) = false := decide_eq_false (by omega)
  obtain ⟨r, HR⟩ : ∃ r, Hid (r = sprs l0) := ⟨_, Lib.hid rfl⟩
  have hsm := sprs_small l0
  rw [← HR.out] at hsm
  have HSM := Lib.hid hsm
  obtain ⟨X, HX⟩ : ∃ X, Hid (X = scheckR l0 l1) := ⟨_, Lib.hid rfl⟩
  clear hsm
  go_enter Tryz.func4, Tryz.ntmps4
  go_wp2_with fail
  refine (salive_any _).mono ?_
  rintro e w1 ⟨rfl, hb1⟩
  have K1 := Lib.hid (K0.out.step hb1)
  clear hb1 K0
  go_wp2_with fail
  refine (copy_any A0 l0.length c0 0 l0 _ (by exact (K1.out.row (A0, l0.length, c0, l0) (by simp)).1) (by omega)).mono ?_
  rintro e w2 ⟨A2, c2, rfl, ho, hb⟩
  have K2 := Lib.hid (K1.out.own hb ho)
  clear ho hb K1
  go_wp2_with fail
  refine (sparse_any A2 l0.length c2 l0 _ (by exact (K2.out.row _ (.head _)).1) (by exact (K2.out.row _ (.head _)).2) (by omega)).mono ?_
  rw [← HR.out]
  rintro e w3 ⟨i, rfl, hp, hio, hb⟩
  have B3 := Lib.hid (bel_next K2.out.bel hb)
  have H2 := Lib.hid K2.out.bel.size
  have C0 := Lib.hid (K2.out.row (A0, l0.length, c0, l0) (by simp)).2
  have C1 := Lib.hid (K2.out.row (A1, l1.length, c1, l1) (by simp)).2
  have C2 := Lib.hid (K2.out.row (A2, l0.length, c2, l0) (by simp)).2
  have RO3 : Hid (RB w3 w2.heap.size A2 l0.length l0 ∧ RB w3 w2.heap.size A0 l0.length l0 ∧ RB w3 w2.heap.size A1 l1.length l1 ∧ w2.heap.size ≤ w3.heap.size) := Lib.hid ⟨((K2.out.row (A2, l0.length, c2, l0) (by simp)).1).below hb, ((K2.out.row (A0, l0.length, c0, l0) (by simp)).1).below hb, ((K2.out.row (A1, l1.length, c1, l1) (by simp)).1).below hb, hb.size⟩
  have O3 := Lib.hid hio
  have HP := Lib.hid hp
  have K3 := Lib.hid (((((IW.start w3).add (RO3.out.2.2.1.more RO3.out.2.2.2) C1.out.1 C1.out.2).add (RO3.out.2.1.more RO3.out.2.2.2) C0.out.1 C0.out.2).add (RO3.out.1.more RO3.out.2.2.2) C2.out.1 C2.out.2).addi hio.ok)
  clear hb hio hp K2
  go_wp2_with (first
    | (with_reducible show wpList _ _ _ (⟨some 6, .alloc _, _, _, _, none⟩ :: _) _ _; refine wpList_newI rt_st rfl rfl ?_; intro w3a y0 hc2 hb2 hx2; have H2 := Lib.hid (And.intro hc2 (And.intro hb2 hx2)); clear hc2 hb2 hx2)
    | (refine wpList_stI rt_st rfl (.tmp 6) (.tmp 26) rfl y0 rfl i zeroI rfl (by exact H2.out.1) ?_; intro w3b hc3 ho3 hs3; have K4 := Lib.hid (K3.out.var H2.out.2.1 H2.out.2.2 hc3 ho3); clear hc3 ho3 hs3 H2 K3))
  refine (rsparse_any A0 l0.length c0 l0 _ (by exact (K4.out.row (A0, l0.length, c0, l0) (by simp)).1) C0.out (by omega)).mono ?_
  rw [← HR.out]
  rintro e w5 ⟨j, rfl, hpj, hjo, hb⟩
  have K5 := Lib.hid ((K4.out.step hb).addi hjo)
  have HPJ := Lib.hid hpj
  clear hpj hjo hb K4
  go_wp2_with (first
    | (with_reducible show wpList _ _ _ (⟨some 8, .alloc _, _, _, _, none⟩ :: _) _ _; refine wpList_newI rt_sr rfl rfl ?_; intro w5a y1 hc2 hb2 hx2; have H2 := Lib.hid (And.intro hc2 (And.intro hb2 hx2)); clear hc2 hb2 hx2)
    | (refine wpList_stI rt_sr rfl (.tmp 8) (.tmp 31) rfl y1 rfl j zeroI rfl (by exact H2.out.1) ?_; intro w5b hc3 ho3 hs3; have K6 := Lib.hid (K5.out.var H2.out.2.1 H2.out.2.2 hc3 ho3); clear hc3 ho3 hs3 H2 K5))
  have K6' := Lib.hid (K6.out.step (Below.refl _ _).drew)
  clear K6
  refine wp_region_held_drew (S := fun w' => Ic 35 w' y0 i ∧ Ic 40 w' y1 j) (by kernel_rfl) ⟨(K6'.out.box (35, y0, i) (by simp)), (K6'.out.box (40, y1, j) (by simp))⟩ (fun hHeld => ?_)
  (try dsimp only at hHeld)
  refine wpAnyH_take (i := 0) (v := ?v0_1) rfl (by kernel_rfl) (by kernel_rfl) (by kernel_rfl) (fun _ _ _ h => h) (Or.inl ⟨by rfl, ?hy0_1⟩) hHeld ?_
  case hy0_1 => (intro w hSw; (try dsimp only at hSw); have q0 := hSw.1.ld rt_st; have q1 := hSw.2.ld rt_sr; (try simp only [List.getElem_toArray, List.getElem_cons_zero, List.getElem_cons_succ]); go_simp <;> with_reducible rfl)
  (try simp only [Act.put, List.getElem_toArray, List.getElem_cons_zero, List.getElem_cons_succ, List.setIfInBounds_toArray, List.set_cons_zero, List.set_cons_succ])
  refine wpAnyH_take (i := 1) (v := ?v1_2) rfl (by kernel_rfl) (by kernel_rfl) (by kernel_rfl) (fun _ _ _ h => h) (Or.inl ⟨by rfl, ?hy1_2⟩) hHeld ?_
  case hy1_2 => (intro w hSw; (try dsimp only at hSw); have q0 := hSw.1.ld rt_st; have q1 := hSw.2.ld rt_sr; (try simp only [List.getElem_toArray, List.getElem_cons_zero, List.getElem_cons_succ]); go_simp <;> with_reducible rfl)
  (try simp only [Act.put, List.getElem_toArray, List.getElem_cons_zero, List.getElem_cons_succ, List.setIfInBounds_toArray, List.set_cons_zero, List.set_cons_succ])
  refine wpAnyH_take (i := 2) (v := ?v2_3) rfl (by kernel_rfl) (by kernel_rfl) (by kernel_rfl) (fun _ _ _ h => h) (Or.inl ⟨by rfl, ?hy2_3⟩) hHeld ?_
  case hy2_3 => (intro w hSw; (try dsimp only at hSw); have q0 := hSw.1.ld rt_st; have q1 := hSw.2.ld rt_sr; (try simp only [List.getElem_toArray, List.getElem_cons_zero, List.getElem_cons_succ]); go_simp <;> with_reducible rfl)
  (try simp only [Act.put, List.getElem_toArray, List.getElem_cons_zero, List.getElem_cons_succ, List.setIfInBounds_toArray, List.set_cons_zero, List.set_cons_succ])
  refine wpAnyH_take (i := 3) (v := ?v3_4) rfl (by kernel_rfl) (by kernel_rfl) (by kernel_rfl) (fun _ _ _ h => h) (Or.inl ⟨by rfl, ?hy3_4⟩) hHeld ?_
  case hy3_4 => (intro w hSw; (try dsimp only at hSw); have q0 := hSw.1.ld rt_st; have q1 := hSw.2.ld rt_sr; (try simp only [List.getElem_toArray, List.getElem_cons_zero, List.getElem_cons_succ]); go_simp <;> with_reducible rfl)
  (try simp only [Act.put, List.getElem_toArray, List.getElem_cons_zero, List.getElem_cons_succ, List.setIfInBounds_toArray, List.set_cons_zero, List.set_cons_succ])
  refine wpAnyH_take (i := 4) (v := ?v4_5) rfl (by kernel_rfl) (by kernel_rfl) (by kernel_rfl) (fun _ _ _ h => h) (Or.inl ⟨by rfl, ?hy4_5⟩) hHeld ?_
  case hy4_5 => (intro w hSw; (try dsimp only at hSw); have q0 := hSw.1.ld rt_st; have q1 := hSw.2.ld rt_sr; (try simp only [List.getElem_toArray, List.getElem_cons_zero, List.getElem_cons_succ]); go_simp <;> with_reducible rfl)
  (try simp only [Act.put, List.getElem_toArray, List.getElem_cons_zero, List.getElem_cons_succ, List.setIfInBounds_toArray, List.set_cons_zero, List.set_cons_succ])
  refine wpAnyH_take (i := 6) (v := ?v6_6) rfl (by kernel_rfl) (by kernel_rfl) (by kernel_rfl) (fun _ _ _ h => h) (Or.inl ⟨by rfl, ?hy6_6⟩) hHeld ?_
  case hy6_6 => (intro w hSw; (try dsimp only at hSw); have q0 := hSw.1.ld rt_st; have q1 := hSw.2.ld rt_sr; (try simp only [List.getElem_toArray, List.getElem_cons_zero, List.getElem_cons_succ]); go_simp <;> with_reducible rfl)
  (try simp only [Act.put, List.getElem_toArray, List.getElem_cons_zero, List.getElem_cons_succ, List.setIfInBounds_toArray, List.set_cons_zero, List.set_cons_succ])
  refine wpAnyH_ready (rs := [5]) (by kernel_rfl) (by simp) ?_
  refine AllReadyH.cons rfl (fun K hK => ?_) AllReadyH.nil
  (try simp only [List.getElem_toArray, List.getElem_cons_zero, List.getElem_cons_succ])
  go_simp
  refine (sof_any i _ (by exact (K6'.out.ini i (by simp))) (by have h := HSM.out.1; rw [← HP.out] at h; exact Nat.le_trans h (by decide)) (by have h := HSM.out.2.1; rw [← HP.out] at h; exact Nat.le_trans h (by decide)) (by have h := HSM.out.2.2.1; rw [← HP.out] at h; exact Nat.le_trans h (by omega)) (by have h := HSM.out.2.2.2; rw [← HP.out] at h; exact Nat.le_trans h (by omega))).mono ?_
  rintro e w6 ⟨g6, rfl, hpl6, hown6, hb6⟩
  have K7 := Lib.hid ((K6'.out.step hb6).addi hown6.ok)
  have HP6 := Lib.hid hpl6
  clear hpl6 hown6 hb6 K6'
  (try go_wp2_with fail)
  refine hK.out _ _ ⟨(K7.out.box (35, y0, i) (by simp)), (K7.out.box (40, y1, j) (by simp))⟩ (fun hHeld => ?_)
  clear hK K
  (try simp only [Act.put, List.getElem_toArray, List.getElem_cons_zero, List.getElem_cons_succ, List.setIfInBounds_toArray, List.set_cons_zero, List.set_cons_succ])
  refine wpAnyH_ready (rs := [7]) (by kernel_rfl) (by simp) ?_
  refine AllReadyH.cons rfl (fun K hK => ?_) AllReadyH.nil
  (try simp only [List.getElem_toArray, List.getElem_cons_zero, List.getElem_cons_succ])
  go_simp
  refine (rssame_any g6 j _ (K7.out.ini g6 (by simp)) (K7.out.ini j (by simp)) true (decide_eq_true (by rw [HP6.out, HP.out, HPJ.out]))).mono ?_
  rintro e w7 ⟨rfl, hb7⟩
  have K8 := Lib.hid (K7.out.step hb7)
  clear hb7 K7
  (try go_wp2_with fail)
  refine hK.out _ _ ⟨(K8.out.box (35, y0, i) (by simp)), (K8.out.box (40, y1, j) (by simp))⟩ (fun hHeld => ?_)
  clear hK K
  (try simp only [Act.put, List.getElem_toArray, List.getElem_cons_zero, List.getElem_cons_succ, List.setIfInBounds_toArray, List.set_cons_zero, List.set_cons_succ])
  refine wpAnyH_take (i := 8) (v := ?v8_7) rfl (by kernel_rfl) (by kernel_rfl) (by kernel_rfl) (fun _ _ _ h => h) (Or.inl ⟨by rfl, ?hy8_7⟩) hHeld ?_
  case hy8_7 => (intro w hSw; (try dsimp only at hSw); have q0 := hSw.1.ld rt_st; have q1 := hSw.2.ld rt_sr; (try simp only [List.getElem_toArray, List.getElem_cons_zero, List.getElem_cons_succ]); go_simp <;> with_reducible rfl)
  (try simp only [Act.put, List.getElem_toArray, List.getElem_cons_zero, List.getElem_cons_succ, List.setIfInBounds_toArray, List.set_cons_zero, List.set_cons_succ])
  refine wpAnyH_take (i := 9) (v := ?v9_8) rfl (by kernel_rfl) (by kernel_rfl) (by kernel_rfl) (fun _ _ _ h => h) (Or.inl ⟨by rfl, ?hy9_8⟩) hHeld ?_
  case hy9_8 => (intro w hSw; (try dsimp only at hSw); have q0 := hSw.1.ld rt_st; have q1 := hSw.2.ld rt_sr; (try simp only [List.getElem_toArray, List.getElem_cons_zero, List.getElem_cons_succ]); go_simp <;> with_reducible rfl)
  (try simp only [Act.put, List.getElem_toArray, List.getElem_cons_zero, List.getElem_cons_succ, List.setIfInBounds_toArray, List.set_cons_zero, List.set_cons_succ])
  refine wpAnyH_take (i := 10) (v := ?v10_9) rfl (by kernel_rfl) (by kernel_rfl) (by kernel_rfl) (fun _ _ _ h => h) (Or.inl ⟨by rfl, ?hy10_9⟩) hHeld ?_
  case hy10_9 => (intro w hSw; (try dsimp only at hSw); have q0 := hSw.1.ld rt_st; have q1 := hSw.2.ld rt_sr; (try simp only [List.getElem_toArray, List.getElem_cons_zero, List.getElem_cons_succ]); go_simp <;> with_reducible rfl)
  (try simp only [Act.put, List.getElem_toArray, List.getElem_cons_zero, List.getElem_cons_succ, List.setIfInBounds_toArray, List.set_cons_zero, List.set_cons_succ])
  refine wpAnyH_take (i := 11) (v := ?v11_10) rfl (by kernel_rfl) (by kernel_rfl) (by kernel_rfl) (fun _ _ _ h => h) (Or.inl ⟨by rfl, ?hy11_10⟩) hHeld ?_
  case hy11_10 => (intro w hSw; (try dsimp only at hSw); have q0 := hSw.1.ld rt_st; have q1 := hSw.2.ld rt_sr; (try simp only [List.getElem_toArray, List.getElem_cons_zero, List.getElem_cons_succ]); go_simp <;> with_reducible rfl)
  (try simp only [Act.put, List.getElem_toArray, List.getElem_cons_zero, List.getElem_cons_succ, List.setIfInBounds_toArray, List.set_cons_zero, List.set_cons_succ])
  refine wpAnyH_take (i := 12) (v := ?v12_11) rfl (by kernel_rfl) (by kernel_rfl) (by kernel_rfl) (fun _ _ _ h => h) (Or.inl ⟨by rfl, ?hy12_11⟩) hHeld ?_
  case hy12_11 => (intro w hSw; (try dsimp only at hSw); have q0 := hSw.1.ld rt_st; have q1 := hSw.2.ld rt_sr; (try simp only [List.getElem_toArray, List.getElem_cons_zero, List.getElem_cons_succ]); go_simp <;> with_reducible rfl)
  (try simp only [Act.put, List.getElem_toArray, List.getElem_cons_zero, List.getElem_cons_succ, List.setIfInBounds_toArray, List.set_cons_zero, List.set_cons_succ])
  refine wpAnyH_take (i := 14) (v := ?v14_12) rfl (by kernel_rfl) (by kernel_rfl) (by kernel_rfl) (fun _ _ _ h => h) (Or.inl ⟨by rfl, ?hy14_12⟩) hHeld ?_
  case hy14_12 => (intro w hSw; (try dsimp only at hSw); have q0 := hSw.1.ld rt_st; have q1 := hSw.2.ld rt_sr; (try simp only [List.getElem_toArray, List.getElem_cons_zero, List.getElem_cons_succ]); go_simp <;> with_reducible rfl)
  (try simp only [Act.put, List.getElem_toArray, List.getElem_cons_zero, List.getElem_cons_succ, List.setIfInBounds_toArray, List.set_cons_zero, List.set_cons_succ])
  refine wpAnyH_take (i := 15) (v := ?v15_13) rfl (by kernel_rfl) (by kernel_rfl) (by kernel_rfl) (fun _ _ _ h => h) (Or.inl ⟨by rfl, ?hy15_13⟩) hHeld ?_
  case hy15_13 => (intro w hSw; (try dsimp only at hSw); have q0 := hSw.1.ld rt_st; have q1 := hSw.2.ld rt_sr; (try simp only [List.getElem_toArray, List.getElem_cons_zero, List.getElem_cons_succ]); go_simp <;> with_reducible rfl)
  (try simp only [Act.put, List.getElem_toArray, List.getElem_cons_zero, List.getElem_cons_succ, List.setIfInBounds_toArray, List.set_cons_zero, List.set_cons_succ])
  refine wpAnyH_ready (rs := [13]) (by kernel_rfl) (by simp) ?_
  refine AllReadyH.cons rfl (fun K hK => ?_) AllReadyH.nil
  (try simp only [List.getElem_toArray, List.getElem_cons_zero, List.getElem_cons_succ])
  go_simp
  refine (scheck_any A2 A1 l0.length c2 l1.length c1 l0 l1 _ (by exact (K8.out.row (A2, l0.length, c2, l0) (by simp)).1) (by exact C2.out) (by omega) (by exact (K8.out.row (A1, l1.length, c1, l1) (by simp)).1) (by exact C1.out)).mono ?_
  rw [← HX.out]
  rintro e w8 ⟨rfl, hb8⟩
  have K9 := Lib.hid (K8.out.step hb8)
  clear hb8 K8
  (try go_wp2_with fail)
  refine hK.out _ _ ⟨(K9.out.box (35, y0, i) (by simp)), (K9.out.box (40, y1, j) (by simp))⟩ (fun hHeld => ?_)
  clear hK K
  (try simp only [Act.put, List.getElem_toArray, List.getElem_cons_zero, List.getElem_cons_succ, List.setIfInBounds_toArray, List.set_cons_zero, List.set_cons_succ])
  refine wpAnyH_ready (rs := [16]) (by kernel_rfl) (by simp) ?_
  refine AllReadyH.cons rfl (fun K hK => ?_) AllReadyH.nil
  (try simp only [List.getElem_toArray, List.getElem_cons_zero, List.getElem_cons_succ])
  go_simp
  refine (rscheck_any A0 A1 l0.length c0 l1.length c1 l0 l1 _ (by exact (K9.out.row (A0, l0.length, c0, l0) (by simp)).1) (by exact C0.out) (by omega) (by exact (K9.out.row (A1, l1.length, c1, l1) (by simp)).1) (by exact C1.out)).mono ?_
  rw [← HX.out]
  rintro e w9 ⟨rfl, hb9⟩
  have K10 := Lib.hid (K9.out.step hb9)
  clear hb9 K9
  (try go_wp2_with fail)
  refine hK.out _ _ ⟨(K10.out.box (35, y0, i) (by simp)), (K10.out.box (40, y1, j) (by simp))⟩ (fun hHeld => ?_)
  clear hK K
  (try simp only [Act.put, List.getElem_toArray, List.getElem_cons_zero, List.getElem_cons_succ, List.setIfInBounds_toArray, List.set_cons_zero, List.set_cons_succ])
  refine wpAnyH_take (i := 17) (v := ?v17_14) rfl (by kernel_rfl) (by kernel_rfl) (by kernel_rfl) (fun _ _ _ h => h) (Or.inl ⟨by rfl, ?hy17_14⟩) hHeld ?_
  case hy17_14 => (intro w hSw; (try dsimp only at hSw); have q0 := hSw.1.ld rt_st; have q1 := hSw.2.ld rt_sr; (try simp only [List.getElem_toArray, List.getElem_cons_zero, List.getElem_cons_succ]); go_simp <;> with_reducible rfl)
  (try simp only [Act.put, List.getElem_toArray, List.getElem_cons_zero, List.getElem_cons_succ, List.setIfInBounds_toArray, List.set_cons_zero, List.set_cons_succ])
  refine wpAnyH_take (i := 18) (v := ?v18_15) rfl (by kernel_rfl) (by kernel_rfl) (by kernel_rfl) (fun _ _ _ h => h) (Or.inl ⟨by rfl, ?hy18_15⟩) hHeld ?_
  case hy18_15 => (intro w hSw; (try dsimp only at hSw); have q0 := hSw.1.ld rt_st; have q1 := hSw.2.ld rt_sr; (try simp only [List.getElem_toArray, List.getElem_cons_zero, List.getElem_cons_succ]); go_simp <;> with_reducible rfl)
  (try simp only [Act.put, List.getElem_toArray, List.getElem_cons_zero, List.getElem_cons_succ, List.setIfInBounds_toArray, List.set_cons_zero, List.set_cons_succ])
  refine wpAnyH_done (by kernel_rfl) ?_ _
  have OT := Lib.hid (O3.out.t.below K10.out.bel)
  have RO8 : Hid (RB w9 w2.heap.size A2 l0.length l0 ∧ RB w9 w2.heap.size A0 l0.length l0) := Lib.hid ⟨RO3.out.1.below (K10.out.bel.mono RO3.out.2.2.2), RO3.out.2.1.below (K10.out.bel.mono RO3.out.2.2.2)⟩
  have BI : Hid (Ic 35 w9 y0 i) := Lib.hid (K10.out.box (35, y0, i) (by simp))
  have hs7 : w2.heap.size ≤ w9.heap.size := Nat.le_trans RO3.out.2.2.2 K10.out.bel.size
  have B8 := Lib.hid (And.intro (bel_next B3.out K10.out.bel) hs7)
  have hnt : i.t.length ≤ 400 := by have h := HSM.out.2.2.1; rw [← HP.out] at h; exact Nat.le_trans h (by omega)
  obtain ⟨T, HTT⟩ : ∃ T, Hid (i.T = T) := ⟨_, Lib.hid rfl⟩
  obtain ⟨nt, HNT⟩ : ∃ T, Hid (i.t.length = T) := ⟨_, Lib.hid rfl⟩
  rw [HTT.out, HNT.out] at OT
  rw [HNT.out] at hnt
  clear hs7 K10 O3
  go_wp2_with fail
  go_loopw [10] (fun k wr => ∃ j : Nat, j ≤ nt ∧ k = .int .i64 j ∧ Oth (blkO T) w9 wr ∧ ∃ q, OwnB wr w2.heap.size T nt i.e q) (fun k _ => nt - (intOf k).toNat)
  case atStart => exact ⟨0, Nat.zero_le _, rfl, Oth.refl _ _, _, OT.out⟩
  case round =>
    obtain ⟨j, hj, rfl, hoth, q, hown⟩ := hrel
    have hI : Ic 35 wr y0 i := BI.out.blk.app (by decide) OT.out hoth
    have a4 := hI.c4
    rw [HTT.out, HNT.out] at a4
    by_cases hlt : j < nt
    · obtain ⟨gb, hgb, _, _⟩ := hown.form (by omega)
      have hq : j < q.length := by rw [hown.len]; exact hlt
      obtain ⟨x, hx⟩ : ∃ x, q[j]? = some x := ⟨_, List.getElem?_eq_getElem hq⟩
      rw [hgb] at hown a4
      have hc := hown.cellAt hx
      have hf := hown.freeAt j
      obtain ⟨y, hy⟩ := byte_upS x
      have hx8 := x.toNat_lt
      have HO := Lib.hid (And.intro hoth (And.intro hgb hown))
      clear hx hoth hgb hown hI hq
      go_wp2
      go_roundw
      case rel => exact ⟨j + 1, by omega, by go_num, HO.out.1.set (x := gb) (by rw [HO.out.2.1]; simp [blkO]) j _, _, by rw [HO.out.2.1]; exact HO.out.2.2.stored j y _ (by rw [bv])⟩
      case measure => simp [intOf]; omega
    · obtain rfl : j = nt := by omega
      have low1 : ∀ k ∈ blkO T, w2.heap.size ≤ k := fun k hk => by
        obtain ⟨a, ea, hk⟩ := mem_blkO hk
        have q1 := (OT.out.spot a ea).2.1
        omega
      have hb1 : Below w2.heap.size w9 wr := hoth.below low1 B8.out.2
      have hs1 : w2.heap.size ≤ wr.heap.size := Nat.le_trans B8.out.2 hoth.size
      have HB : Hid (Below w.heap.size w wr) := Lib.hid (B8.out.1.trans (hb1.mono H2.out))
      have RO : Hid (RB wr wr.heap.size A2 l0.length l0 ∧ RB wr wr.heap.size A0 l0.length l0) := Lib.hid ⟨(RO8.out.1.below hb1).more hs1, (RO8.out.2.below hb1).more hs1⟩
      clear hoth hown hI hlt hb1 hs1 low1
      go_wp2_with fail
      refine (al_same _ _ _ _ _ _ l0 l0 _ (by exact RO.out.1) (by exact RO.out.2) (by unfold maxLen; omega) (by unfold maxLen; omega) true (by simp)).mono ?_
      rintro e w12 ⟨rfl, hb⟩
      have BE := Lib.hid (bel_next HB.out hb)
      clear hb
      go_wp2_with fail
      go_ret
      exact ⟨rfl, BE.out⟩
end Go.Proofs.YtdkdgcpknephnaaGreat
