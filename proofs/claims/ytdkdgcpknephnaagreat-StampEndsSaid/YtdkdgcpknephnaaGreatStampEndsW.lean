/- Layer 12's statement StampEnds, walked. No condition. -/
import Derived.Test.YtdkdgcpknephnaaGreatStV
import Derived.Test.YtdkdgcpknephnaaGreatStS
import Derived.Test.YtdkdgcpknephnaaGreatStC
import Derived.Test.YtdkdgcpknephnaaGreatOpen
namespace Go.Proofs.YtdkdgcpknephnaaGreat
open Go.RowKit
set_option linter.unusedVariables false
set_option linter.unusedSimpArgs false
attribute [local irreducible] sprs smakeR stampR scheckR aheadL iprs stL
attribute [local go_sem ↓] ex_ldHd ex_stHd ex_ldHr ex_stHr ex_ldS ex_ldSr ex_stS ex_stSr ex_ldI ex_stI
set_option maxRecDepth 100000 in
set_option maxHeartbeats 8000000 in
theorem StampEnds_walk (A0 : Option Addr) (n0 c0 : Nat) (l0 : List UInt8) (A1 : Option Addr) (n1 c1 : Nat) (l1 : List UInt8) (A2 : Option Addr) (n2 c2 : Nat) (l2 : List UInt8) (A3 : Option Addr) (n3 c3 : Nat) (l3 : List UInt8) (A4 : Option Addr) (n4 c4 : Nat) (l4 : List UInt8) (w : World) (h0 : RB w w.heap.size A0 n0 l0) (m0 : n0 ≤ c0 ∧ c0 ≤ maxLen) (h1 : RB w w.heap.size A1 n1 l1) (m1 : n1 ≤ c1 ∧ c1 ≤ maxLen) (h2 : RB w w.heap.size A2 n2 l2) (m2 : n2 ≤ c2 ∧ c2 ≤ maxLen) (h3 : RB w w.heap.size A3 n3 l3) (m3 : n3 ≤ c3 ∧ c3 ≤ maxLen) (h4 : RB w w.heap.size A4 n4 l4) (m4 : n4 ≤ c4 ∧ c4 ≤ maxLen) :
    Calls Tryz.prog 6 #[.slice A0 n0 c0, .slice A1 n1 c1, .slice A2 n2 c2, .slice A3 n3 c3, .slice A4 n4 c4] w fun e w' => e = .returned (.bool true) ∧ Below w.heap.size w w' := by
  have hl0 := h0.len
  subst hl0
  have hl1 := h1.len
  subst hl1
  have hl2 := h2.len
  subst hl2
  have hl3 := h3.len
  subst hl3
  have hl4 := h4.len
  subst hl4
  have K0 := Lib.hid ((((((IW.start w).add h0 m0.1 m0.2).add h1 m1.1 m1.2).add h2 m2.1 m2.2).add h3 m3.1 m3.2).add h4 m4.1 m4.2)
  clear h0 m0 h1 m1 h2 m2 h3 m3 h4 m4
  by_cases t0 : 20 < l0.length
  · have d0 : decide (20 < (l0.length : Int)) = true := decide_eq_true (by omega)
    go_enter Tryz.func6, Tryz.ntmps6
    go_wp2_with fail
    refine (salive_any _).mono ?_
    rintro e w1 ⟨rfl, hb1⟩
    have K1 := Lib.hid (K0.out.step hb1)
    clear hb1 K0
    go_wp2_with fail
    go_ret
    exact ⟨rfl, K1.out.bel⟩
  have d0 : decide (20 < (l0.length : Int)) = false := decide_eq_false (by omega)
  by_cases t1 : 20 < l1.length
  · have d1 : decide (20 < (l1.length : Int)) = true := decide_eq_true (by omega)
    go_enter Tryz.func6, Tryz.ntmps6
    go_wp2_with fail
    refine (salive_any _).mono ?_
    rintro e w1 ⟨rfl, hb1⟩
    have K1 := Lib.hid (K0.out.step hb1)
    clear hb1 K0
    go_wp2_with fail
    go_ret
    exact ⟨rfl, K1.out.bel⟩
  have d1 : decide (20 < (l1.length : Int)) = false := decide_eq_false (by omega)
  by_cases t2 : 20 < l2.length
  · have d2 : decide (20 < (l2.length : Int)) = true := decide_eq_true (by omega)
    go_enter Tryz.func6, Tryz.ntmps6
    go_wp2_with fail
    refine (salive_any _).mono ?_
    rintro e w1 ⟨rfl, hb1⟩
    have K1 := Lib.hid (K0.out.step hb1)
    clear hb1 K0
    go_wp2_with fail
    go_ret
    exact ⟨rfl, K1.out.bel⟩
  have d2 : decide (20 < (l2.length : Int)) = false := decide_eq_false (by omega)
  by_cases t3 : 20 < l3.length
  · have d3 : decide (20 < (l3.length : Int)) = true := decide_eq_true (by omega)
    go_enter Tryz.func6, Tryz.ntmps6
    go_wp2_with fail
    refine (salive_any _).mono ?_
    rintro e w1 ⟨rfl, hb1⟩
    have K1 := Lib.hid (K0.out.step hb1)
    clear hb1 K0
    go_wp2_with fail
    go_ret
    exact ⟨rfl, K1.out.bel⟩
  have d3 : decide (20 < (l3.length : Int)) = false := decide_eq_false (by omega)
  by_cases t4 : l4.length < 1
  · have d4 : decide ((l4.length : Int) < 1) = true := decide_eq_true (by omega)
    go_enter Tryz.func6, Tryz.ntmps6
    go_wp2_with fail
    refine (salive_any _).mono ?_
    rintro e w1 ⟨rfl, hb1⟩
    have K1 := Lib.hid (K0.out.step hb1)
    clear hb1 K0
    go_wp2_with fail
    go_ret
    exact ⟨rfl, K1.out.bel⟩
  have d4 : decide ((l4.length : Int) < 1) = false := decide_eq_false (by omega)
  by_cases t5 : 100 < l4.length
  · have d5 : decide (100 < (l4.length : Int)) = true := decide_eq_true (by omega)
    go_enter Tryz.func6, Tryz.ntmps6
    go_wp2_with fail
    refine (salive_any _).mono ?_
    rintro e w1 ⟨rfl, hb1⟩
    have K1 := Lib.hid (K0.out.step hb1)
    clear hb1 K0
    go_wp2_with fail
    go_ret
    exact ⟨rfl, K1.out.bel⟩
  have d5 : decide (100 < (l4.length : Int)) = false := decide_eq_false (by omega)
  have HL : Hid (l0.length ≤ 20 ∧ l1.length ≤ 20 ∧ l2.length ≤ 20 ∧ l3.length ≤ 20 ∧ 1 ≤ l4.length ∧ l4.length ≤ 100) := Lib.hid (by omega)
  have b0 : l0.length ≤ 20 := by omega
  have b1 : l1.length ≤ 20 := by omega
  have b4 : l4.length ≤ 100 := by omega
  obtain ⟨AH, HAH⟩ : ∃ L, Hid (aheadL l0 l1 l4 = L) := ⟨_, Lib.hid rfl⟩
  obtain ⟨S1, HS1⟩ : ∃ L, Hid (stL l2 AH = L) := ⟨_, Lib.hid rfl⟩
  obtain ⟨S2, HS2⟩ : ∃ L, Hid (stL l3 AH = L) := ⟨_, Lib.hid rfl⟩
  obtain ⟨La, HLA⟩ : ∃ L, Hid (AH ++ S1 = L) := ⟨_, Lib.hid rfl⟩
  obtain ⟨Lb, HLB⟩ : ∃ L, Hid (AH ++ S2 = L) := ⟨_, Lib.hid rfl⟩
  have HM1 : Hid (smakeR l0 l1 l2 l4 = (La, 0)) := Lib.hid (by rw [smake_ok (by omega) (by omega) (by omega) (by omega) (by omega), HAH.out, HS1.out, HLA.out])
  have HM2 : Hid (smakeR l0 l1 l3 l4 = (Lb, 0)) := Lib.hid (by rw [smake_ok (by omega) (by omega) (by omega) (by omega) (by omega), HAH.out, HS2.out, HLB.out])
  have hS1 : S1.length = 16 := by rw [← HS1.out]; exact stL_len _ _
  have hS2 : S2.length = 16 := by rw [← HS2.out]; exact stL_len _ _
  obtain ⟨m, hm⟩ : ∃ m, AH.length = m := ⟨_, rfl⟩
  have hml : m = 7 + l0.length + l1.length + l4.length := by rw [← hm, ← HAH.out]; exact ahead_len _ _ _
  obtain ⟨M, hM⟩ : ∃ M, M = m + 16 := ⟨_, rfl⟩
  have HLN : Hid (La.length = M ∧ Lb.length = M ∧ S1.length = 16 ∧ S2.length = 16 ∧ AH.length = m ∧ M = m + 16 ∧ m ≤ 150) := Lib.hid ⟨by rw [← HLA.out, List.length_append, hm, hS1, hM], by rw [← HLB.out, List.length_append, hm, hS2, hM], hS1, hS2, hm, hM, by omega⟩
  have hq : 24 + (l0.length : Int) + (l1.length : Int) + (l4.length : Int) - 1 = (M : Int) := by omega
  have hsub : (M : Int) - 16 = (m : Int) := by omega
  have hM1 : M ≤ 400 := by omega
  have hm1 : m ≤ 400 := by omega
  have HPR : Hid (sprs Lb = (((255, 1, l0, l1), l4, S2), 0)) := Lib.hid (by rw [← HLB.out, ← HAH.out]; exact sprs_made l0 l1 l4 S2 (by omega) (by omega) (by omega) hS2)
  obtain ⟨v, hv⟩ : ∃ v, decide (S2 = S1) = v := ⟨_, rfl⟩
  obtain ⟨z, HZ, hzv⟩ : ∃ z, Hid (scheckR La l3 = z) ∧ (z == 0) = v := by
    refine ⟨_, Lib.hid rfl, ?_⟩
    have h := scheck_made l0 l1 l4 S1 l3 (by omega) (by omega) (by omega) hS1 (by omega) (by omega)
    rw [HAH.out, HS2.out, HLA.out] at h
    rw [h, ← hv]
    by_cases e : S2 = S1
    · rw [if_pos e, decide_eq_true e]; rfl
    · rw [if_neg e, decide_eq_false e]; rfl
  have HV : Hid ((La == Lb) = v) := Lib.hid (by
    rw [← hv, ← HLA.out, ← HLB.out]
    by_cases e : S2 = S1
    · rw [e, decide_eq_true rfl]; simp
    · rw [decide_eq_false e, beq_eq_false_iff_ne]
      exact fun k => e (List.append_cancel_left k).symm)
  have HST : Hid (stampR l2 AH = (S1, 0)) := Lib.hid (by rcases stamp_cases l2 AH with k | k | k; exact absurd k.1 (by omega); exact absurd k.2.1 (by omega); rw [k.2.2, HS1.out])
  clear hS1 hS2 hm hml hM t0 t1 t2 t3 t4 t5 hv
  go_enter Tryz.func6, Tryz.ntmps6
  go_wp2_with fail
  refine (salive_any _).mono ?_
  rintro e w1 ⟨rfl, hb1⟩
  have K1 := Lib.hid (K0.out.step hb1)
  clear hb1 K0
  go_wp2_with fail
  refine (smake_n A0 A1 A2 A4 l0.length l1.length l2.length l4.length c0 c1 c2 c4 l0 l1 l2 l4 _ (by exact (K1.out.row (A0, l0.length, c0, l0) (by simp)).1) (by exact (K1.out.row (A1, l1.length, c1, l1) (by simp)).1) (by exact (K1.out.row (A2, l2.length, c2, l2) (by simp)).1) (by exact (K1.out.row (A4, l4.length, c4, l4) (by simp)).1) (by exact (K1.out.row (A0, l0.length, c0, l0) (by simp)).2) (by exact (K1.out.row (A1, l1.length, c1, l1) (by simp)).2) La M 0 HM1.out HLN.out.1).mono ?_
  rintro e w2 ⟨A5, c5, rfl, ho, hb⟩
  have C5 := Lib.hid ho.cap
  have K2 := Lib.hid (K1.out.own hb ho)
  clear ho hb K1
  go_wp2_with fail
  refine (smake_n A0 A1 A3 A4 l0.length l1.length l3.length l4.length c0 c1 c3 c4 l0 l1 l3 l4 _ (by exact (K2.out.row (A0, l0.length, c0, l0) (by simp)).1) (by exact (K2.out.row (A1, l1.length, c1, l1) (by simp)).1) (by exact (K2.out.row (A3, l3.length, c3, l3) (by simp)).1) (by exact (K2.out.row (A4, l4.length, c4, l4) (by simp)).1) (by exact (K2.out.row (A0, l0.length, c0, l0) (by simp)).2) (by exact (K2.out.row (A1, l1.length, c1, l1) (by simp)).2) Lb M 0 HM2.out HLN.out.2.1).mono ?_
  rintro e w3 ⟨A6, c6, rfl, ho, hb⟩
  have C6 := Lib.hid ho.cap
  have K3 := Lib.hid (K2.out.own hb ho)
  clear ho hb K2
  have ch5 := cut_h A5 M c5 m (by have := HLN.out; have := C5.out; omega)
  have cl5 := cut_l A5 M c5 m (by have := HLN.out; omega)
  have ch6 := cut_h A6 M c6 m (by have := HLN.out; have := C6.out; omega)
  have cl6 := cut_l A6 M c6 m (by have := HLN.out; omega)
  rw [show M - m = 16 by have := HLN.out; omega] at cl5 cl6
  go_wp2_with fail
  have cutp : ∀ (A : Option Addr) (c : Nat) (W : World) (l s : List UInt8), RB W W.heap.size A M l → M ≤ c → AH ++ s = l → s.length = 16 → RB W W.heap.size (cutA A c 0) m AH ∧ RB W W.heap.size (cutA A c m) 16 s := fun A c W l s hr hc he hs => by
    have h1 := hr.part (i := 0) (j := m) (c := c) (Nat.zero_le _) (by have := HLN.out; omega) hc
    have h2 := hr.part (i := m) (j := M) (c := c) (by have := HLN.out; omega) (Nat.le_refl _) hc
    have hl := HLN.out.2.2.2.2.1
    have e1 : l.take m = AH := by rw [← he, List.take_append_of_le_length (by omega), List.take_of_length_le (by omega)]
    have e2 : (l.take M).drop m = s := by rw [← he, List.take_of_length_le (by rw [List.length_append]; have := HLN.out; omega), List.drop_append_of_le_length (by omega), List.drop_of_length_le (by omega), List.nil_append]
    rw [e1, List.drop_zero, Nat.sub_zero] at h1
    rw [e2, show M - m = 16 by have := HLN.out; omega] at h2
    exact ⟨h1, h2⟩
  have HCUT := Lib.hid cutp
  clear cutp
  refine (stamp_n A2 (cutA A5 c5 0) l2.length c2 m c5 l2 AH _ (by exact (K3.out.row (A2, l2.length, c2, l2) (by simp)).1) (by exact (HCUT.out A5 c5 _ La S1 (K3.out.row (A5, M, c5, La) (by simp)).1 C5.out.1 HLA.out HLN.out.2.2.1).1) S1 16 0 HST.out HLN.out.2.2.1).mono ?_
  rintro e w4 ⟨A7, c7, rfl, ho, hb⟩
  have K4 := Lib.hid (K3.out.own hb ho)
  clear ho hb K3
  go_wp2_with fail
  refine (sparse_any A6 M c6 Lb _ (by exact (K4.out.row (A6, M, c6, Lb) (by simp)).1) (by exact C6.out) (by omega)).mono ?_
  rw [HPR.out]
  rintro e w5 ⟨i, rfl, hp, hio, hb⟩
  have k5 := ((K4.out.step hb).addi hio.ok).part (i := i) (by simp)
  have hpp := in_parts hp
  rw [hpp.2.2.2.2.2, HLN.out.2.2.2.1] at k5
  have K5 := Lib.hid k5
  have HP := Lib.hid hpp
  clear hp hio hb k5 hpp K4
  go_wp2_with (first
    | (with_reducible show wpList _ _ _ (⟨some 18, .alloc _, _, _, _, none⟩ :: _) _ _; refine wpList_newI rt_st rfl rfl ?_; intro w5a x hc2 hb2 hx2; have H2 := Lib.hid (And.intro hc2 (And.intro hb2 hx2)); clear hc2 hb2 hx2)
    | (refine wpList_stI rt_st rfl (.tmp 18) (.tmp 108) rfl x rfl i zeroI rfl (by exact H2.out.1) ?_; intro w5b hc3 ho3 hs3; have K6 := Lib.hid (K5.out.var H2.out.2.1 H2.out.2.2 hc3 ho3); clear hc3 ho3 hs3 H2 K5))
  have K7 := Lib.hid (K6.out.step (Below.refl _ _).drew)
  clear K6
  refine wp_region_held_drew (S := fun w' => Ic 35 w' x i) (by kernel_rfl) (K7.out.box (35, x, i) (by simp)) (fun hHeld => ?_)
  (try dsimp only at hHeld)
  refine wpAnyH_take (i := 0) (v := ?v0_16) rfl (by kernel_rfl) (by kernel_rfl) (by kernel_rfl) (fun _ _ _ h => h) (Or.inl ⟨by rfl, ?hy0_16⟩) hHeld ?_
  case hy0_16 => (intro w hSw; (try dsimp only at hSw); have q5 := hSw.c5; rw [HP.out.2.2.2.2.2, HLN.out.2.2.2.1] at q5; (try simp only [List.getElem_toArray, List.getElem_cons_zero, List.getElem_cons_succ]); go_simp <;> with_reducible rfl)
  (try simp only [Act.put, List.getElem_toArray, List.getElem_cons_zero, List.getElem_cons_succ, List.setIfInBounds_toArray, List.set_cons_zero, List.set_cons_succ])
  refine wpAnyH_take (i := 1) (v := ?v1_17) rfl (by kernel_rfl) (by kernel_rfl) (by kernel_rfl) (fun _ _ _ h => h) (Or.inl ⟨by rfl, ?hy1_17⟩) hHeld ?_
  case hy1_17 => (intro w hSw; (try dsimp only at hSw); have q5 := hSw.c5; rw [HP.out.2.2.2.2.2, HLN.out.2.2.2.1] at q5; (try simp only [List.getElem_toArray, List.getElem_cons_zero, List.getElem_cons_succ]); go_simp <;> with_reducible rfl)
  (try simp only [Act.put, List.getElem_toArray, List.getElem_cons_zero, List.getElem_cons_succ, List.setIfInBounds_toArray, List.set_cons_zero, List.set_cons_succ])
  refine wpAnyH_take (i := 2) (v := ?v2_18) rfl (by kernel_rfl) (by kernel_rfl) (by kernel_rfl) (fun _ _ _ h => h) (Or.inl ⟨by rfl, ?hy2_18⟩) hHeld ?_
  case hy2_18 => (intro w hSw; (try dsimp only at hSw); have q5 := hSw.c5; rw [HP.out.2.2.2.2.2, HLN.out.2.2.2.1] at q5; (try simp only [List.getElem_toArray, List.getElem_cons_zero, List.getElem_cons_succ]); go_simp <;> with_reducible rfl)
  (try simp only [Act.put, List.getElem_toArray, List.getElem_cons_zero, List.getElem_cons_succ, List.setIfInBounds_toArray, List.set_cons_zero, List.set_cons_succ])
  refine wpAnyH_take (i := 3) (v := ?v3_19) rfl (by kernel_rfl) (by kernel_rfl) (by kernel_rfl) (fun _ _ _ h => h) (Or.inl ⟨by rfl, ?hy3_19⟩) hHeld ?_
  case hy3_19 => (intro w hSw; (try dsimp only at hSw); have q5 := hSw.c5; rw [HP.out.2.2.2.2.2, HLN.out.2.2.2.1] at q5; (try simp only [List.getElem_toArray, List.getElem_cons_zero, List.getElem_cons_succ]); go_simp <;> with_reducible rfl)
  (try simp only [Act.put, List.getElem_toArray, List.getElem_cons_zero, List.getElem_cons_succ, List.setIfInBounds_toArray, List.set_cons_zero, List.set_cons_succ])
  refine wpAnyH_take (i := 4) (v := ?v4_20) rfl (by kernel_rfl) (by kernel_rfl) (by kernel_rfl) (fun _ _ _ h => h) (Or.inl ⟨by rfl, ?hy4_20⟩) hHeld ?_
  case hy4_20 => (intro w hSw; (try dsimp only at hSw); have q5 := hSw.c5; rw [HP.out.2.2.2.2.2, HLN.out.2.2.2.1] at q5; (try simp only [List.getElem_toArray, List.getElem_cons_zero, List.getElem_cons_succ]); go_simp <;> with_reducible rfl)
  (try simp only [Act.put, List.getElem_toArray, List.getElem_cons_zero, List.getElem_cons_succ, List.setIfInBounds_toArray, List.set_cons_zero, List.set_cons_succ])
  refine wpAnyH_take (i := 5) (v := ?v5_21) rfl (by kernel_rfl) (by kernel_rfl) (by kernel_rfl) (fun _ _ _ h => h) (Or.inl ⟨by rfl, ?hy5_21⟩) hHeld ?_
  case hy5_21 => (intro w hSw; (try dsimp only at hSw); have q5 := hSw.c5; rw [HP.out.2.2.2.2.2, HLN.out.2.2.2.1] at q5; (try simp only [List.getElem_toArray, List.getElem_cons_zero, List.getElem_cons_succ]); go_simp <;> with_reducible rfl)
  (try simp only [Act.put, List.getElem_toArray, List.getElem_cons_zero, List.getElem_cons_succ, List.setIfInBounds_toArray, List.set_cons_zero, List.set_cons_succ])
  refine wpAnyH_take (i := 6) (v := ?v6_22) rfl (by kernel_rfl) (by kernel_rfl) (by kernel_rfl) (fun _ _ _ h => h) (Or.inl ⟨by rfl, ?hy6_22⟩) hHeld ?_
  case hy6_22 => (intro w hSw; (try dsimp only at hSw); have q5 := hSw.c5; rw [HP.out.2.2.2.2.2, HLN.out.2.2.2.1] at q5; (try simp only [List.getElem_toArray, List.getElem_cons_zero, List.getElem_cons_succ]); go_simp <;> with_reducible rfl)
  (try simp only [Act.put, List.getElem_toArray, List.getElem_cons_zero, List.getElem_cons_succ, List.setIfInBounds_toArray, List.set_cons_zero, List.set_cons_succ])
  refine wpAnyH_take (i := 7) (v := ?v7_23) rfl (by kernel_rfl) (by kernel_rfl) (by kernel_rfl) (fun _ _ _ h => h) (Or.inl ⟨by rfl, ?hy7_23⟩) hHeld ?_
  case hy7_23 => (intro w hSw; (try dsimp only at hSw); have q5 := hSw.c5; rw [HP.out.2.2.2.2.2, HLN.out.2.2.2.1] at q5; (try simp only [List.getElem_toArray, List.getElem_cons_zero, List.getElem_cons_succ]); go_simp <;> with_reducible rfl)
  (try simp only [Act.put, List.getElem_toArray, List.getElem_cons_zero, List.getElem_cons_succ, List.setIfInBounds_toArray, List.set_cons_zero, List.set_cons_succ])
  refine wpAnyH_take (i := 8) (v := ?v8_24) rfl (by kernel_rfl) (by kernel_rfl) (by kernel_rfl) (fun _ _ _ h => h) (Or.inl ⟨by rfl, ?hy8_24⟩) hHeld ?_
  case hy8_24 => (intro w hSw; (try dsimp only at hSw); have q5 := hSw.c5; rw [HP.out.2.2.2.2.2, HLN.out.2.2.2.1] at q5; (try simp only [List.getElem_toArray, List.getElem_cons_zero, List.getElem_cons_succ]); go_simp <;> with_reducible rfl)
  (try simp only [Act.put, List.getElem_toArray, List.getElem_cons_zero, List.getElem_cons_succ, List.setIfInBounds_toArray, List.set_cons_zero, List.set_cons_succ])
  refine wpAnyH_take (i := 9) (v := ?v9_25) rfl (by kernel_rfl) (by kernel_rfl) (by kernel_rfl) (fun _ _ _ h => h) (Or.inl ⟨by rfl, ?hy9_25⟩) hHeld ?_
  case hy9_25 => (intro w hSw; (try dsimp only at hSw); have q5 := hSw.c5; rw [HP.out.2.2.2.2.2, HLN.out.2.2.2.1] at q5; (try simp only [List.getElem_toArray, List.getElem_cons_zero, List.getElem_cons_succ]); go_simp <;> with_reducible rfl)
  (try simp only [Act.put, List.getElem_toArray, List.getElem_cons_zero, List.getElem_cons_succ, List.setIfInBounds_toArray, List.set_cons_zero, List.set_cons_succ])
  refine wpAnyH_take (i := 10) (v := ?v10_26) rfl (by kernel_rfl) (by kernel_rfl) (by kernel_rfl) (fun _ _ _ h => h) (Or.inl ⟨by rfl, ?hy10_26⟩) hHeld ?_
  case hy10_26 => (intro w hSw; (try dsimp only at hSw); have q5 := hSw.c5; rw [HP.out.2.2.2.2.2, HLN.out.2.2.2.1] at q5; (try simp only [List.getElem_toArray, List.getElem_cons_zero, List.getElem_cons_succ]); go_simp <;> with_reducible rfl)
  (try simp only [Act.put, List.getElem_toArray, List.getElem_cons_zero, List.getElem_cons_succ, List.setIfInBounds_toArray, List.set_cons_zero, List.set_cons_succ])
  refine wpAnyH_ready (rs := [11]) (by kernel_rfl) (by simp) ?_
  refine AllReadyH.cons rfl (fun K hK => ?_) AllReadyH.nil
  (try simp only [List.getElem_toArray, List.getElem_cons_zero, List.getElem_cons_succ])
  go_simp
  refine (al_same _ _ _ _ _ _ S1 S1 _ (by exact (K7.out.row (A7, 16, c7, S1) (by simp)).1) (by exact (HCUT.out A5 c5 _ La S1 (K7.out.row (A5, M, c5, La) (by simp)).1 C5.out.1 HLA.out HLN.out.2.2.1).2) (by unfold maxLen; omega) (by unfold maxLen; omega) true (by simp)).mono ?_
  rintro e w8 ⟨rfl, hb⟩
  have K8 := Lib.hid (K7.out.step hb)
  clear hb K7
  (try go_wp2_with fail)
  refine hK.out _ _ (K8.out.box (35, x, i) (by simp)) (fun hHeld => ?_)
  clear hK K
  (try simp only [Act.put, List.getElem_toArray, List.getElem_cons_zero, List.getElem_cons_succ, List.setIfInBounds_toArray, List.set_cons_zero, List.set_cons_succ])
  refine wpAnyH_take (i := 12) (v := ?v12_27) rfl (by kernel_rfl) (by kernel_rfl) (by kernel_rfl) (fun _ _ _ h => h) (Or.inl ⟨by rfl, ?hy12_27⟩) hHeld ?_
  case hy12_27 => (intro w hSw; (try dsimp only at hSw); have q5 := hSw.c5; rw [HP.out.2.2.2.2.2, HLN.out.2.2.2.1] at q5; (try simp only [List.getElem_toArray, List.getElem_cons_zero, List.getElem_cons_succ]); go_simp <;> with_reducible rfl)
  (try simp only [Act.put, List.getElem_toArray, List.getElem_cons_zero, List.getElem_cons_succ, List.setIfInBounds_toArray, List.set_cons_zero, List.set_cons_succ])
  refine wpAnyH_take (i := 13) (v := ?v13_28) rfl (by kernel_rfl) (by kernel_rfl) (by kernel_rfl) (fun _ _ _ h => h) (Or.inl ⟨by rfl, ?hy13_28⟩) hHeld ?_
  case hy13_28 => (intro w hSw; (try dsimp only at hSw); have q5 := hSw.c5; rw [HP.out.2.2.2.2.2, HLN.out.2.2.2.1] at q5; (try simp only [List.getElem_toArray, List.getElem_cons_zero, List.getElem_cons_succ]); go_simp <;> with_reducible rfl)
  (try simp only [Act.put, List.getElem_toArray, List.getElem_cons_zero, List.getElem_cons_succ, List.setIfInBounds_toArray, List.set_cons_zero, List.set_cons_succ])
  refine wpAnyH_take (i := 14) (v := ?v14_29) rfl (by kernel_rfl) (by kernel_rfl) (by kernel_rfl) (fun _ _ _ h => h) (Or.inl ⟨by rfl, ?hy14_29⟩) hHeld ?_
  case hy14_29 => (intro w hSw; (try dsimp only at hSw); have q5 := hSw.c5; rw [HP.out.2.2.2.2.2, HLN.out.2.2.2.1] at q5; (try simp only [List.getElem_toArray, List.getElem_cons_zero, List.getElem_cons_succ]); go_simp <;> with_reducible rfl)
  (try simp only [Act.put, List.getElem_toArray, List.getElem_cons_zero, List.getElem_cons_succ, List.setIfInBounds_toArray, List.set_cons_zero, List.set_cons_succ])
  refine wpAnyH_take (i := 15) (v := ?v15_30) rfl (by kernel_rfl) (by kernel_rfl) (by kernel_rfl) (fun _ _ _ h => h) (Or.inl ⟨by rfl, ?hy15_30⟩) hHeld ?_
  case hy15_30 => (intro w hSw; (try dsimp only at hSw); have q5 := hSw.c5; rw [HP.out.2.2.2.2.2, HLN.out.2.2.2.1] at q5; (try simp only [List.getElem_toArray, List.getElem_cons_zero, List.getElem_cons_succ]); go_simp <;> with_reducible rfl)
  (try simp only [Act.put, List.getElem_toArray, List.getElem_cons_zero, List.getElem_cons_succ, List.setIfInBounds_toArray, List.set_cons_zero, List.set_cons_succ])
  refine wpAnyH_take (i := 16) (v := ?v16_31) rfl (by kernel_rfl) (by kernel_rfl) (by kernel_rfl) (fun _ _ _ h => h) (Or.inl ⟨by rfl, ?hy16_31⟩) hHeld ?_
  case hy16_31 => (intro w hSw; (try dsimp only at hSw); have q5 := hSw.c5; rw [HP.out.2.2.2.2.2, HLN.out.2.2.2.1] at q5; (try simp only [List.getElem_toArray, List.getElem_cons_zero, List.getElem_cons_succ]); go_simp <;> with_reducible rfl)
  (try simp only [Act.put, List.getElem_toArray, List.getElem_cons_zero, List.getElem_cons_succ, List.setIfInBounds_toArray, List.set_cons_zero, List.set_cons_succ])
  refine wpAnyH_take (i := 17) (v := ?v17_32) rfl (by kernel_rfl) (by kernel_rfl) (by kernel_rfl) (fun _ _ _ h => h) (Or.inl ⟨by rfl, ?hy17_32⟩) hHeld ?_
  case hy17_32 => (intro w hSw; (try dsimp only at hSw); have q5 := hSw.c5; rw [HP.out.2.2.2.2.2, HLN.out.2.2.2.1] at q5; (try simp only [List.getElem_toArray, List.getElem_cons_zero, List.getElem_cons_succ]); go_simp <;> with_reducible rfl)
  (try simp only [Act.put, List.getElem_toArray, List.getElem_cons_zero, List.getElem_cons_succ, List.setIfInBounds_toArray, List.set_cons_zero, List.set_cons_succ])
  refine wpAnyH_take (i := 18) (v := ?v18_33) rfl (by kernel_rfl) (by kernel_rfl) (by kernel_rfl) (fun _ _ _ h => h) (Or.inl ⟨by rfl, ?hy18_33⟩) hHeld ?_
  case hy18_33 => (intro w hSw; (try dsimp only at hSw); have q5 := hSw.c5; rw [HP.out.2.2.2.2.2, HLN.out.2.2.2.1] at q5; (try simp only [List.getElem_toArray, List.getElem_cons_zero, List.getElem_cons_succ]); go_simp <;> with_reducible rfl)
  (try simp only [Act.put, List.getElem_toArray, List.getElem_cons_zero, List.getElem_cons_succ, List.setIfInBounds_toArray, List.set_cons_zero, List.set_cons_succ])
  refine wpAnyH_take (i := 19) (v := ?v19_34) rfl (by kernel_rfl) (by kernel_rfl) (by kernel_rfl) (fun _ _ _ h => h) (Or.inl ⟨by rfl, ?hy19_34⟩) hHeld ?_
  case hy19_34 => (intro w hSw; (try dsimp only at hSw); have q5 := hSw.c5; rw [HP.out.2.2.2.2.2, HLN.out.2.2.2.1] at q5; (try simp only [List.getElem_toArray, List.getElem_cons_zero, List.getElem_cons_succ]); go_simp <;> with_reducible rfl)
  (try simp only [Act.put, List.getElem_toArray, List.getElem_cons_zero, List.getElem_cons_succ, List.setIfInBounds_toArray, List.set_cons_zero, List.set_cons_succ])
  refine wpAnyH_ready (rs := [20]) (by kernel_rfl) (by simp) ?_
  refine AllReadyH.cons rfl (fun K hK => ?_) AllReadyH.nil
  (try simp only [List.getElem_toArray, List.getElem_cons_zero, List.getElem_cons_succ])
  go_simp
  refine (al_same _ _ _ _ _ _ AH AH _ (by exact (HCUT.out A5 c5 _ La S1 (K8.out.row (A5, M, c5, La) (by simp)).1 C5.out.1 HLA.out HLN.out.2.2.1).1) (by exact (HCUT.out A6 c6 _ Lb S2 (K8.out.row (A6, M, c6, Lb) (by simp)).1 C6.out.1 HLB.out HLN.out.2.2.2.1).1) (by unfold maxLen; omega) (by unfold maxLen; omega) true (by simp)).mono ?_
  rintro e w9 ⟨rfl, hb⟩
  have K9 := Lib.hid (K8.out.step hb)
  clear hb K8
  (try go_wp2_with fail)
  refine hK.out _ _ (K9.out.box (35, x, i) (by simp)) (fun hHeld => ?_)
  clear hK K
  (try simp only [Act.put, List.getElem_toArray, List.getElem_cons_zero, List.getElem_cons_succ, List.setIfInBounds_toArray, List.set_cons_zero, List.set_cons_succ])
  refine wpAnyH_take (i := 21) (v := ?v21_35) rfl (by kernel_rfl) (by kernel_rfl) (by kernel_rfl) (fun _ _ _ h => h) (Or.inl ⟨by rfl, ?hy21_35⟩) hHeld ?_
  case hy21_35 => (intro w hSw; (try dsimp only at hSw); have q5 := hSw.c5; rw [HP.out.2.2.2.2.2, HLN.out.2.2.2.1] at q5; (try simp only [List.getElem_toArray, List.getElem_cons_zero, List.getElem_cons_succ]); go_simp <;> with_reducible rfl)
  (try simp only [Act.put, List.getElem_toArray, List.getElem_cons_zero, List.getElem_cons_succ, List.setIfInBounds_toArray, List.set_cons_zero, List.set_cons_succ])
  refine wpAnyH_take (i := 22) (v := ?v22_36) rfl (by kernel_rfl) (by kernel_rfl) (by kernel_rfl) (fun _ _ _ h => h) (Or.inl ⟨by rfl, ?hy22_36⟩) hHeld ?_
  case hy22_36 => (intro w hSw; (try dsimp only at hSw); have q5 := hSw.c5; rw [HP.out.2.2.2.2.2, HLN.out.2.2.2.1] at q5; (try simp only [List.getElem_toArray, List.getElem_cons_zero, List.getElem_cons_succ]); go_simp <;> with_reducible rfl)
  (try simp only [Act.put, List.getElem_toArray, List.getElem_cons_zero, List.getElem_cons_succ, List.setIfInBounds_toArray, List.set_cons_zero, List.set_cons_succ])
  refine wpAnyH_take (i := 23) (v := ?v23_37) rfl (by kernel_rfl) (by kernel_rfl) (by kernel_rfl) (fun _ _ _ h => h) (Or.inl ⟨by rfl, ?hy23_37⟩) hHeld ?_
  case hy23_37 => (intro w hSw; (try dsimp only at hSw); have q5 := hSw.c5; rw [HP.out.2.2.2.2.2, HLN.out.2.2.2.1] at q5; (try simp only [List.getElem_toArray, List.getElem_cons_zero, List.getElem_cons_succ]); go_simp <;> with_reducible rfl)
  (try simp only [Act.put, List.getElem_toArray, List.getElem_cons_zero, List.getElem_cons_succ, List.setIfInBounds_toArray, List.set_cons_zero, List.set_cons_succ])
  refine wpAnyH_take (i := 24) (v := ?v24_38) rfl (by kernel_rfl) (by kernel_rfl) (by kernel_rfl) (fun _ _ _ h => h) (Or.inl ⟨by rfl, ?hy24_38⟩) hHeld ?_
  case hy24_38 => (intro w hSw; (try dsimp only at hSw); have q5 := hSw.c5; rw [HP.out.2.2.2.2.2, HLN.out.2.2.2.1] at q5; (try simp only [List.getElem_toArray, List.getElem_cons_zero, List.getElem_cons_succ]); go_simp <;> with_reducible rfl)
  (try simp only [Act.put, List.getElem_toArray, List.getElem_cons_zero, List.getElem_cons_succ, List.setIfInBounds_toArray, List.set_cons_zero, List.set_cons_succ])
  refine wpAnyH_take (i := 25) (v := ?v25_39) rfl (by kernel_rfl) (by kernel_rfl) (by kernel_rfl) (fun _ _ _ h => h) (Or.inl ⟨by rfl, ?hy25_39⟩) hHeld ?_
  case hy25_39 => (intro w hSw; (try dsimp only at hSw); have q5 := hSw.c5; rw [HP.out.2.2.2.2.2, HLN.out.2.2.2.1] at q5; (try simp only [List.getElem_toArray, List.getElem_cons_zero, List.getElem_cons_succ]); go_simp <;> with_reducible rfl)
  (try simp only [Act.put, List.getElem_toArray, List.getElem_cons_zero, List.getElem_cons_succ, List.setIfInBounds_toArray, List.set_cons_zero, List.set_cons_succ])
  refine wpAnyH_take (i := 26) (v := ?v26_40) rfl (by kernel_rfl) (by kernel_rfl) (by kernel_rfl) (fun _ _ _ h => h) (Or.inl ⟨by rfl, ?hy26_40⟩) hHeld ?_
  case hy26_40 => (intro w hSw; (try dsimp only at hSw); have q5 := hSw.c5; rw [HP.out.2.2.2.2.2, HLN.out.2.2.2.1] at q5; (try simp only [List.getElem_toArray, List.getElem_cons_zero, List.getElem_cons_succ]); go_simp <;> with_reducible rfl)
  (try simp only [Act.put, List.getElem_toArray, List.getElem_cons_zero, List.getElem_cons_succ, List.setIfInBounds_toArray, List.set_cons_zero, List.set_cons_succ])
  refine wpAnyH_take (i := 27) (v := ?v27_41) rfl (by kernel_rfl) (by kernel_rfl) (by kernel_rfl) (fun _ _ _ h => h) (Or.inl ⟨by rfl, ?hy27_41⟩) hHeld ?_
  case hy27_41 => (intro w hSw; (try dsimp only at hSw); have q5 := hSw.c5; rw [HP.out.2.2.2.2.2, HLN.out.2.2.2.1] at q5; (try simp only [List.getElem_toArray, List.getElem_cons_zero, List.getElem_cons_succ]); go_simp <;> with_reducible rfl)
  (try simp only [Act.put, List.getElem_toArray, List.getElem_cons_zero, List.getElem_cons_succ, List.setIfInBounds_toArray, List.set_cons_zero, List.set_cons_succ])
  refine wpAnyH_ready (rs := [28]) (by kernel_rfl) (by simp) ?_
  refine AllReadyH.cons rfl (fun K hK => ?_) AllReadyH.nil
  (try simp only [List.getElem_toArray, List.getElem_cons_zero, List.getElem_cons_succ])
  go_simp
  refine (al_same _ _ _ _ _ _ S2 S2 _ (by exact (K9.out.row (i.R, 16, i.g, S2) (by simp)).1) (by exact (HCUT.out A6 c6 _ Lb S2 (K9.out.row (A6, M, c6, Lb) (by simp)).1 C6.out.1 HLB.out HLN.out.2.2.2.1).2) (by unfold maxLen; omega) (by unfold maxLen; omega) true (by simp)).mono ?_
  rintro e w10 ⟨rfl, hb⟩
  have K10 := Lib.hid (K9.out.step hb)
  clear hb K9
  (try go_wp2_with fail)
  refine hK.out _ _ (K10.out.box (35, x, i) (by simp)) (fun hHeld => ?_)
  clear hK K
  (try simp only [Act.put, List.getElem_toArray, List.getElem_cons_zero, List.getElem_cons_succ, List.setIfInBounds_toArray, List.set_cons_zero, List.set_cons_succ])
  refine wpAnyH_take (i := 29) (v := ?v29_42) rfl (by kernel_rfl) (by kernel_rfl) (by kernel_rfl) (fun _ _ _ h => h) (Or.inl ⟨by rfl, ?hy29_42⟩) hHeld ?_
  case hy29_42 => (intro w hSw; (try dsimp only at hSw); have q5 := hSw.c5; rw [HP.out.2.2.2.2.2, HLN.out.2.2.2.1] at q5; (try simp only [List.getElem_toArray, List.getElem_cons_zero, List.getElem_cons_succ]); go_simp <;> with_reducible rfl)
  (try simp only [Act.put, List.getElem_toArray, List.getElem_cons_zero, List.getElem_cons_succ, List.setIfInBounds_toArray, List.set_cons_zero, List.set_cons_succ])
  refine wpAnyH_take (i := 30) (v := ?v30_43) rfl (by kernel_rfl) (by kernel_rfl) (by kernel_rfl) (fun _ _ _ h => h) (Or.inl ⟨by rfl, ?hy30_43⟩) hHeld ?_
  case hy30_43 => (intro w hSw; (try dsimp only at hSw); have q5 := hSw.c5; rw [HP.out.2.2.2.2.2, HLN.out.2.2.2.1] at q5; (try simp only [List.getElem_toArray, List.getElem_cons_zero, List.getElem_cons_succ]); go_simp <;> with_reducible rfl)
  (try simp only [Act.put, List.getElem_toArray, List.getElem_cons_zero, List.getElem_cons_succ, List.setIfInBounds_toArray, List.set_cons_zero, List.set_cons_succ])
  refine wpAnyH_take (i := 31) (v := ?v31_44) rfl (by kernel_rfl) (by kernel_rfl) (by kernel_rfl) (fun _ _ _ h => h) (Or.inl ⟨by rfl, ?hy31_44⟩) hHeld ?_
  case hy31_44 => (intro w hSw; (try dsimp only at hSw); have q5 := hSw.c5; rw [HP.out.2.2.2.2.2, HLN.out.2.2.2.1] at q5; (try simp only [List.getElem_toArray, List.getElem_cons_zero, List.getElem_cons_succ]); go_simp <;> with_reducible rfl)
  (try simp only [Act.put, List.getElem_toArray, List.getElem_cons_zero, List.getElem_cons_succ, List.setIfInBounds_toArray, List.set_cons_zero, List.set_cons_succ])
  refine wpAnyH_take (i := 32) (v := ?v32_45) rfl (by kernel_rfl) (by kernel_rfl) (by kernel_rfl) (fun _ _ _ h => h) (Or.inl ⟨by rfl, ?hy32_45⟩) hHeld ?_
  case hy32_45 => (intro w hSw; (try dsimp only at hSw); have q5 := hSw.c5; rw [HP.out.2.2.2.2.2, HLN.out.2.2.2.1] at q5; (try simp only [List.getElem_toArray, List.getElem_cons_zero, List.getElem_cons_succ]); go_simp <;> with_reducible rfl)
  (try simp only [Act.put, List.getElem_toArray, List.getElem_cons_zero, List.getElem_cons_succ, List.setIfInBounds_toArray, List.set_cons_zero, List.set_cons_succ])
  refine wpAnyH_take (i := 35) (v := ?v35_46) rfl (by kernel_rfl) (by kernel_rfl) (by kernel_rfl) (fun _ _ _ h => h) (Or.inl ⟨by rfl, ?hy35_46⟩) hHeld ?_
  case hy35_46 => (intro w hSw; (try dsimp only at hSw); have q5 := hSw.c5; rw [HP.out.2.2.2.2.2, HLN.out.2.2.2.1] at q5; (try simp only [List.getElem_toArray, List.getElem_cons_zero, List.getElem_cons_succ]); go_simp <;> with_reducible rfl)
  (try simp only [Act.put, List.getElem_toArray, List.getElem_cons_zero, List.getElem_cons_succ, List.setIfInBounds_toArray, List.set_cons_zero, List.set_cons_succ])
  refine wpAnyH_take (i := 36) (v := ?v36_47) rfl (by kernel_rfl) (by kernel_rfl) (by kernel_rfl) (fun _ _ _ h => h) (Or.inl ⟨by rfl, ?hy36_47⟩) hHeld ?_
  case hy36_47 => (intro w hSw; (try dsimp only at hSw); have q5 := hSw.c5; rw [HP.out.2.2.2.2.2, HLN.out.2.2.2.1] at q5; (try simp only [List.getElem_toArray, List.getElem_cons_zero, List.getElem_cons_succ]); go_simp <;> with_reducible rfl)
  (try simp only [Act.put, List.getElem_toArray, List.getElem_cons_zero, List.getElem_cons_succ, List.setIfInBounds_toArray, List.set_cons_zero, List.set_cons_succ])
  refine wpAnyH_ready (rs := [33]) (by kernel_rfl) (by simp) ?_
  refine AllReadyH.cons rfl (fun K hK => ?_) AllReadyH.nil
  (try simp only [List.getElem_toArray, List.getElem_cons_zero, List.getElem_cons_succ])
  go_simp
  refine (scheck_any A5 A3 M c5 l3.length c3 La l3 _ (by exact (K10.out.row (A5, M, c5, La) (by simp)).1) (by exact C5.out) (by omega) (by exact (K10.out.row (A3, l3.length, c3, l3) (by simp)).1) (by exact (K10.out.row (A3, l3.length, c3, l3) (by simp)).2)).mono ?_
  rw [HZ.out]
  rintro e w11 ⟨rfl, hb⟩
  have K11 := Lib.hid (K10.out.step hb)
  clear hb K10
  (try go_wp2_with fail)
  refine hK.out _ _ (K11.out.box (35, x, i) (by simp)) (fun hHeld => ?_)
  clear hK K
  (try simp only [Act.put, List.getElem_toArray, List.getElem_cons_zero, List.getElem_cons_succ, List.setIfInBounds_toArray, List.set_cons_zero, List.set_cons_succ])
  refine wpAnyH_take (i := 34) (v := ?v34_48) rfl (by kernel_rfl) (by kernel_rfl) (by kernel_rfl) (fun _ _ _ h => h) (Or.inl ⟨by rfl, ?hy34_48⟩) hHeld ?_
  case hy34_48 => (intro w hSw; (try dsimp only at hSw); have q5 := hSw.c5; rw [HP.out.2.2.2.2.2, HLN.out.2.2.2.1] at q5; (try simp only [List.getElem_toArray, List.getElem_cons_zero, List.getElem_cons_succ]); go_simp <;> with_reducible rfl)
  (try simp only [Act.put, List.getElem_toArray, List.getElem_cons_zero, List.getElem_cons_succ, List.setIfInBounds_toArray, List.set_cons_zero, List.set_cons_succ])
  refine wpAnyH_ready (rs := [37]) (by kernel_rfl) (by simp) ?_
  refine AllReadyH.cons rfl (fun K hK => ?_) AllReadyH.nil
  (try simp only [List.getElem_toArray, List.getElem_cons_zero, List.getElem_cons_succ])
  go_simp
  refine (al_same _ _ _ _ _ _ La Lb _ (by exact (K11.out.row (A5, M, c5, La) (by simp)).1) (by exact (K11.out.row (A6, M, c6, Lb) (by simp)).1) (by unfold maxLen; omega) (by unfold maxLen; omega) v HV.out).mono ?_
  rintro e w12 ⟨rfl, hb⟩
  have K12 := Lib.hid (K11.out.step hb)
  clear hb K11
  (try go_wp2_with fail)
  refine hK.out _ _ (K12.out.box (35, x, i) (by simp)) (fun hHeld => ?_)
  clear hK K
  (try simp only [Act.put, List.getElem_toArray, List.getElem_cons_zero, List.getElem_cons_succ, List.setIfInBounds_toArray, List.set_cons_zero, List.set_cons_succ])
  refine wpAnyH_take (i := 38) (v := ?v38_49) rfl (by kernel_rfl) (by kernel_rfl) (by kernel_rfl) (fun _ _ _ h => h) (Or.inl ⟨by rfl, ?hy38_49⟩) hHeld ?_
  case hy38_49 => (intro w hSw; (try dsimp only at hSw); have q5 := hSw.c5; rw [HP.out.2.2.2.2.2, HLN.out.2.2.2.1] at q5; (try simp only [List.getElem_toArray, List.getElem_cons_zero, List.getElem_cons_succ]); go_simp <;> with_reducible rfl)
  (try simp only [Act.put, List.getElem_toArray, List.getElem_cons_zero, List.getElem_cons_succ, List.setIfInBounds_toArray, List.set_cons_zero, List.set_cons_succ])
  refine wpAnyH_take (i := 39) (v := ?v39_50) rfl (by kernel_rfl) (by kernel_rfl) (by kernel_rfl) (fun _ _ _ h => h) (Or.inl ⟨by rfl, ?hy39_50⟩) hHeld ?_
  case hy39_50 => (intro w hSw; (try dsimp only at hSw); have q5 := hSw.c5; rw [HP.out.2.2.2.2.2, HLN.out.2.2.2.1] at q5; (try simp only [List.getElem_toArray, List.getElem_cons_zero, List.getElem_cons_succ]); go_simp <;> with_reducible rfl)
  (try simp only [Act.put, List.getElem_toArray, List.getElem_cons_zero, List.getElem_cons_succ, List.setIfInBounds_toArray, List.set_cons_zero, List.set_cons_succ])
  refine wpAnyH_take (i := 40) (v := ?v40_51) rfl (by kernel_rfl) (by kernel_rfl) (by kernel_rfl) (fun _ _ _ h => h) (Or.inl ⟨by rfl, ?hy40_51⟩) hHeld ?_
  case hy40_51 => (intro w hSw; (try dsimp only at hSw); have q5 := hSw.c5; rw [HP.out.2.2.2.2.2, HLN.out.2.2.2.1] at q5; (try simp only [List.getElem_toArray, List.getElem_cons_zero, List.getElem_cons_succ]); go_simp <;> with_reducible rfl)
  (try simp only [Act.put, List.getElem_toArray, List.getElem_cons_zero, List.getElem_cons_succ, List.setIfInBounds_toArray, List.set_cons_zero, List.set_cons_succ])
  refine wpAnyH_done (by kernel_rfl) ?_ _
  go_wp2_with fail
  go_ret
  exact ⟨by cases v <;> rfl, K12.out.bel⟩
end Go.Proofs.YtdkdgcpknephnaaGreat
