/- Layer 10's statement HeadWrites, walked. No condition. -/
import Derived.Test.YtpkombfiejdflaaHeadL
namespace Go.Proofs.Ytpkombfiejdflaa
open Go.RowKit
set_option linter.unusedVariables false
set_option linter.unusedSimpArgs false
theorem raw_drop4 (p : Pl) (hv : p.2.1 ≤ 4294967295) : ((rawP p).drop 4).drop 1 = UInt8.ofNat p.2.2.1.length :: p.2.2.1 ++ (UInt8.ofNat p.2.2.2.length :: p.2.2.2) := by
  rw [List.drop_drop]
  exact raw_drop p hv
theorem id_some (p : Pl) (h : Pgood p) (k : Nat) (hk : k ≤ 255) (hl : k ≤ p.2.2.1.length + 1) : idN ((rawP p).drop 4) k = ((UInt8.ofNat p.2.2.1.length :: p.2.2.1).take k, 0) := by
  have e : idN ((rawP p).drop 4) k = ((((rawP p).drop 4).drop 1).take k, 0) := by
    unfold idN
    rw [if_neg (by omega), if_neg (by rw [List.length_drop, raw_len, Int.toNat_natCast]; omega), Int.toNat_natCast]
  rw [e, raw_drop4 p h.v, List.cons_append, ← List.cons_append, List.take_append_of_le_length (by simp only [List.length_cons]; omega)]
theorem drop_len (p : Pl) : ((rawP p).drop 4).length = (rawP p).length - 4 := List.length_drop
attribute [local irreducible] prs byt idN longL rawP
attribute [local go_sem ↓] ex_ldHd ex_stHd ex_ldHr ex_stHr

set_option maxRecDepth 100000 in
set_option maxHeartbeats 8000000 in
theorem HeadWrites_walk (x0 : Hd) (x1 : Hd) (A2 : Option Addr) (n2 c2 : Nat) (l2 : List UInt8) (w : World) (h0 : x0.ok w) (h1 : x1.ok w) (h2 : RB w w.heap.size A2 n2 l2) (m2 : n2 ≤ c2 ∧ c2 ≤ maxLen) :
    Calls Try.prog 4 #[x0.val, x1.val, .slice A2 n2 c2] w fun e w' => e = .returned (.bool true) ∧ Below w.heap.size w w' := by
  have K0 := Lib.hid ((((KW.start w).add h2 m2.1 m2.2)).addh h0 |>.addh h1)
  have v0 := h0.v32
  have HL := Lib.hid h2.len
  clear h0 h1 h2
  by_cases t1 : 400 < x0.a.length
  · have dt1 : decide (400 < (x0.a.length : Int)) = true := decide_eq_true (by omega)
    go_enter Try.func4, Try.ntmps4
    go_wp2_with (first
      | (with_reducible show wpList _ _ _ (⟨_, .box _ (.tmp 0), _, _, _, none⟩ :: _) _ _; refine wpList_boxN rfl _ (.tmp 0) rfl x0 rfl ?_; intro w1 q0 hc1 hb1 hx1; have K1 := Lib.hid (K0.out.boxed hc1 hb1); clear hc1 hb1 hx1 K0)
      | (with_reducible show wpList _ _ _ (⟨_, .box _ (.tmp 1), _, _, _, none⟩ :: _) _ _; refine wpList_boxN rfl _ (.tmp 1) rfl x1 rfl ?_; intro w2 q1 hc1 hb1 hx1; have K2 := Lib.hid (K1.out.boxed hc1 hb1); clear hc1 hb1 hx1 K1))
    refine (alive_any _).mono ?_
    rintro e w3 ⟨rfl, hb⟩
    have K3 := Lib.hid (K2.out.step hb)
    clear hb K2
    have a2 := (K3.out.box (27, q0, x0) (by simp)).c2
    have a3 := (K3.out.box (27, q0, x0) (by simp)).c3
    have b2 := (K3.out.box (27, q1, x1) (by simp)).c2
    have b3 := (K3.out.box (27, q1, x1) (by simp)).c3
    go_wp2_with fail
    go_ret
    exact ⟨rfl, K3.out.bel⟩
  have dt1 : decide (400 < (x0.a.length : Int)) = false := decide_eq_false (by omega)
  by_cases t2 : 400 < x0.b.length
  · have dt2 : decide (400 < (x0.b.length : Int)) = true := decide_eq_true (by omega)
    go_enter Try.func4, Try.ntmps4
    go_wp2_with (first
      | (with_reducible show wpList _ _ _ (⟨_, .box _ (.tmp 0), _, _, _, none⟩ :: _) _ _; refine wpList_boxN rfl _ (.tmp 0) rfl x0 rfl ?_; intro w1 q0 hc1 hb1 hx1; have K1 := Lib.hid (K0.out.boxed hc1 hb1); clear hc1 hb1 hx1 K0)
      | (with_reducible show wpList _ _ _ (⟨_, .box _ (.tmp 1), _, _, _, none⟩ :: _) _ _; refine wpList_boxN rfl _ (.tmp 1) rfl x1 rfl ?_; intro w2 q1 hc1 hb1 hx1; have K2 := Lib.hid (K1.out.boxed hc1 hb1); clear hc1 hb1 hx1 K1))
    refine (alive_any _).mono ?_
    rintro e w3 ⟨rfl, hb⟩
    have K3 := Lib.hid (K2.out.step hb)
    clear hb K2
    have a2 := (K3.out.box (27, q0, x0) (by simp)).c2
    have a3 := (K3.out.box (27, q0, x0) (by simp)).c3
    have b2 := (K3.out.box (27, q1, x1) (by simp)).c2
    have b3 := (K3.out.box (27, q1, x1) (by simp)).c3
    go_wp2_with fail
    go_ret
    exact ⟨rfl, K3.out.bel⟩
  have dt2 : decide (400 < (x0.b.length : Int)) = false := decide_eq_false (by omega)
  by_cases t3 : 400 < x1.a.length
  · have dt3 : decide (400 < (x1.a.length : Int)) = true := decide_eq_true (by omega)
    go_enter Try.func4, Try.ntmps4
    go_wp2_with (first
      | (with_reducible show wpList _ _ _ (⟨_, .box _ (.tmp 0), _, _, _, none⟩ :: _) _ _; refine wpList_boxN rfl _ (.tmp 0) rfl x0 rfl ?_; intro w1 q0 hc1 hb1 hx1; have K1 := Lib.hid (K0.out.boxed hc1 hb1); clear hc1 hb1 hx1 K0)
      | (with_reducible show wpList _ _ _ (⟨_, .box _ (.tmp 1), _, _, _, none⟩ :: _) _ _; refine wpList_boxN rfl _ (.tmp 1) rfl x1 rfl ?_; intro w2 q1 hc1 hb1 hx1; have K2 := Lib.hid (K1.out.boxed hc1 hb1); clear hc1 hb1 hx1 K1))
    refine (alive_any _).mono ?_
    rintro e w3 ⟨rfl, hb⟩
    have K3 := Lib.hid (K2.out.step hb)
    clear hb K2
    have a2 := (K3.out.box (27, q0, x0) (by simp)).c2
    have a3 := (K3.out.box (27, q0, x0) (by simp)).c3
    have b2 := (K3.out.box (27, q1, x1) (by simp)).c2
    have b3 := (K3.out.box (27, q1, x1) (by simp)).c3
    go_wp2_with fail
    go_ret
    exact ⟨rfl, K3.out.bel⟩
  have dt3 : decide (400 < (x1.a.length : Int)) = false := decide_eq_false (by omega)
  by_cases t4 : 400 < x1.b.length
  · have dt4 : decide (400 < (x1.b.length : Int)) = true := decide_eq_true (by omega)
    go_enter Try.func4, Try.ntmps4
    go_wp2_with (first
      | (with_reducible show wpList _ _ _ (⟨_, .box _ (.tmp 0), _, _, _, none⟩ :: _) _ _; refine wpList_boxN rfl _ (.tmp 0) rfl x0 rfl ?_; intro w1 q0 hc1 hb1 hx1; have K1 := Lib.hid (K0.out.boxed hc1 hb1); clear hc1 hb1 hx1 K0)
      | (with_reducible show wpList _ _ _ (⟨_, .box _ (.tmp 1), _, _, _, none⟩ :: _) _ _; refine wpList_boxN rfl _ (.tmp 1) rfl x1 rfl ?_; intro w2 q1 hc1 hb1 hx1; have K2 := Lib.hid (K1.out.boxed hc1 hb1); clear hc1 hb1 hx1 K1))
    refine (alive_any _).mono ?_
    rintro e w3 ⟨rfl, hb⟩
    have K3 := Lib.hid (K2.out.step hb)
    clear hb K2
    have a2 := (K3.out.box (27, q0, x0) (by simp)).c2
    have a3 := (K3.out.box (27, q0, x0) (by simp)).c3
    have b2 := (K3.out.box (27, q1, x1) (by simp)).c2
    have b3 := (K3.out.box (27, q1, x1) (by simp)).c3
    go_wp2_with fail
    go_ret
    exact ⟨rfl, K3.out.bel⟩
  have dt4 : decide (400 < (x1.b.length : Int)) = false := decide_eq_false (by omega)
  by_cases t5 : 300 < n2
  · have dt5 : decide (300 < (n2 : Int)) = true := decide_eq_true (by omega)
    go_enter Try.func4, Try.ntmps4
    go_wp2_with (first
      | (with_reducible show wpList _ _ _ (⟨_, .box _ (.tmp 0), _, _, _, none⟩ :: _) _ _; refine wpList_boxN rfl _ (.tmp 0) rfl x0 rfl ?_; intro w1 q0 hc1 hb1 hx1; have K1 := Lib.hid (K0.out.boxed hc1 hb1); clear hc1 hb1 hx1 K0)
      | (with_reducible show wpList _ _ _ (⟨_, .box _ (.tmp 1), _, _, _, none⟩ :: _) _ _; refine wpList_boxN rfl _ (.tmp 1) rfl x1 rfl ?_; intro w2 q1 hc1 hb1 hx1; have K2 := Lib.hid (K1.out.boxed hc1 hb1); clear hc1 hb1 hx1 K1))
    refine (alive_any _).mono ?_
    rintro e w3 ⟨rfl, hb⟩
    have K3 := Lib.hid (K2.out.step hb)
    clear hb K2
    have a2 := (K3.out.box (27, q0, x0) (by simp)).c2
    have a3 := (K3.out.box (27, q0, x0) (by simp)).c3
    have b2 := (K3.out.box (27, q1, x1) (by simp)).c2
    have b3 := (K3.out.box (27, q1, x1) (by simp)).c3
    go_wp2_with fail
    go_ret
    exact ⟨rfl, K3.out.bel⟩
  have dt5 : decide (300 < (n2 : Int)) = false := decide_eq_false (by omega)
  obtain ⟨v, hv⟩ : ∃ v, decide (x0.pl = x1.pl) = v := ⟨_, rfl⟩
  have HV := Lib.hid hv
  clear hv
  obtain ⟨L0, k0, E0, T0⟩ : ∃ L k, byt x0.pl = (L, k) ∧ Hid (L = [] ∧ k ≠ 0 ∨ L = rawP x0.pl ∧ k = 0 ∧ Pgood x0.pl) := by
    rcases byt_cases x0.pl v0 with h | h | h
    · exact ⟨_, _, h.1, Lib.hid (.inl ⟨rfl, by decide⟩)⟩
    · exact ⟨_, _, h.1, Lib.hid (.inl ⟨rfl, by decide⟩)⟩
    · exact ⟨_, _, h.1, Lib.hid (.inr ⟨rfl, rfl, h.2⟩)⟩
  have HE := Lib.hid E0
  have hL0 : L0.length ≤ 3000 := by
    rcases T0.out with ⟨rfl, _⟩ | ⟨rfl, _, g⟩
    · exact Nat.zero_le _
    · rw [raw_len]; have := g.a; have := g.b; omega
  clear E0
  go_enter Try.func4, Try.ntmps4
  go_wp2_with (first
    | (with_reducible show wpList _ _ _ (⟨_, .box _ (.tmp 0), _, _, _, none⟩ :: _) _ _; refine wpList_boxN rfl _ (.tmp 0) rfl x0 rfl ?_; intro w1 q0 hc1 hb1 hx1; have K1 := Lib.hid (K0.out.boxed hc1 hb1); clear hc1 hb1 hx1 K0)
    | (with_reducible show wpList _ _ _ (⟨_, .box _ (.tmp 1), _, _, _, none⟩ :: _) _ _; refine wpList_boxN rfl _ (.tmp 1) rfl x1 rfl ?_; intro w2 q1 hc1 hb1 hx1; have K2 := Lib.hid (K1.out.boxed hc1 hb1); clear hc1 hb1 hx1 K1))
  refine (alive_any _).mono ?_
  rintro e w3 ⟨rfl, hb⟩
  have K3 := Lib.hid (K2.out.step hb)
  clear hb K2
  have a2 := (K3.out.box (27, q0, x0) (by simp)).c2
  have a3 := (K3.out.box (27, q0, x0) (by simp)).c3
  have b2 := (K3.out.box (27, q1, x1) (by simp)).c2
  have b3 := (K3.out.box (27, q1, x1) (by simp)).c3
  have ql := ldHd_m ht_head (K3.out.box (27, q0, x0) (by simp))
  go_wp2_with fail
  refine (hbytes_any x0 _ (by exact K3.out.hd x0 (by simp)) (by omega) (by omega)).mono ?_
  rw [HE.out]
  rintro e w4 ⟨A4, c4, rfl, ho, hb⟩
  have K4 := Lib.hid (K3.out.own hb ho)
  clear ho hb K3 ql a2 a3 b2 b3
  have ql := ldHd_m ht_head (K4.out.box (27, q0, x0) (by simp))
  go_wp2_with fail
  refine (of_any x0 _ (by exact K4.out.hd x0 (by simp)) (by omega) (by omega)).mono ?_
  rintro e w5 ⟨g5, rfl, hpl5, hown5, hb5⟩
  have K5 := Lib.hid ((K4.out.step hb5).addh hown5.ok)
  have HP5 := Lib.hid hpl5
  clear hpl5 hown5 hb5 K4 ql
  go_wp2_with fail
  refine (rhbytes_any g5 _ (by exact K5.out.hd g5 (by simp)) (by have e : g5.a = x0.a := congrArg (fun p : Pl => p.2.2.1) HP5.out; rw [e]; omega) (by have e : g5.b = x0.b := congrArg (fun p : Pl => p.2.2.2) HP5.out; rw [e]; omega)).mono ?_
  rw [HP5.out, HE.out]
  rintro e w6 ⟨A6, c6, rfl, ho, hb⟩
  have K6 := Lib.hid (K5.out.own hb ho)
  clear ho hb K5
  obtain ⟨m4, hm4⟩ : ∃ m, L0.length = m := ⟨_, rfl⟩
  simp only [hm4] at K6 hL0 ⊢
  have HM4 := Lib.hid hm4
  clear hm4
  go_wp2_with fail
  have HCD : Hc 27 w6.drew q0 x0 ∧ Hc 27 w6.drew q1 x1 := ⟨K6.out.box (27, q0, x0) (by simp), K6.out.box (27, q1, x1) (by simp)⟩
  have K7 := Lib.hid (K6.out.step (Below.refl _ _).drew)
  clear K6
  refine wp_region_held_drew (S := fun w' => Hc 27 w' q0 x0 ∧ Hc 27 w' q1 x1) (by kernel_rfl) HCD (fun hHeld => ?_)
  (try dsimp only at hHeld)
  refine wpAnyH_take (i := 0) (v := ?v0_1) rfl (by kernel_rfl) (by kernel_rfl) (by kernel_rfl) (fun _ _ _ h => h) (Or.inl ⟨by rfl, ?hy0_1⟩) hHeld ?_
  case hy0_1 => (intro w hSw; (try dsimp only at hSw); have q0 := ldHd_m ht_head hSw.1; have q1 := ldHd_m ht_head hSw.2; (try simp only [List.getElem_toArray, List.getElem_cons_zero, List.getElem_cons_succ]); go_simp <;> with_reducible rfl)
  (try simp only [Act.put, List.getElem_toArray, List.getElem_cons_zero, List.getElem_cons_succ, List.setIfInBounds_toArray, List.set_cons_zero, List.set_cons_succ])
  refine wpAnyH_take (i := 1) (v := ?v1_2) rfl (by kernel_rfl) (by kernel_rfl) (by kernel_rfl) (fun _ _ _ h => h) (Or.inl ⟨by rfl, ?hy1_2⟩) hHeld ?_
  case hy1_2 => (intro w hSw; (try dsimp only at hSw); have q0 := ldHd_m ht_head hSw.1; have q1 := ldHd_m ht_head hSw.2; (try simp only [List.getElem_toArray, List.getElem_cons_zero, List.getElem_cons_succ]); go_simp <;> with_reducible rfl)
  (try simp only [Act.put, List.getElem_toArray, List.getElem_cons_zero, List.getElem_cons_succ, List.setIfInBounds_toArray, List.set_cons_zero, List.set_cons_succ])
  refine wpAnyH_take (i := 2) (v := ?v2_3) rfl (by kernel_rfl) (by kernel_rfl) (by kernel_rfl) (fun _ _ _ h => h) (Or.inl ⟨by rfl, ?hy2_3⟩) hHeld ?_
  case hy2_3 => (intro w hSw; (try dsimp only at hSw); have q0 := ldHd_m ht_head hSw.1; have q1 := ldHd_m ht_head hSw.2; (try simp only [List.getElem_toArray, List.getElem_cons_zero, List.getElem_cons_succ]); go_simp <;> with_reducible rfl)
  (try simp only [Act.put, List.getElem_toArray, List.getElem_cons_zero, List.getElem_cons_succ, List.setIfInBounds_toArray, List.set_cons_zero, List.set_cons_succ])
  refine wpAnyH_take (i := 3) (v := ?v3_4) rfl (by kernel_rfl) (by kernel_rfl) (by kernel_rfl) (fun _ _ _ h => h) (Or.inl ⟨by rfl, ?hy3_4⟩) hHeld ?_
  case hy3_4 => (intro w hSw; (try dsimp only at hSw); have q0 := ldHd_m ht_head hSw.1; have q1 := ldHd_m ht_head hSw.2; (try simp only [List.getElem_toArray, List.getElem_cons_zero, List.getElem_cons_succ]); go_simp <;> with_reducible rfl)
  (try simp only [Act.put, List.getElem_toArray, List.getElem_cons_zero, List.getElem_cons_succ, List.setIfInBounds_toArray, List.set_cons_zero, List.set_cons_succ])
  refine wpAnyH_take (i := 4) (v := ?v4_5) rfl (by kernel_rfl) (by kernel_rfl) (by kernel_rfl) (fun _ _ _ h => h) (Or.inl ⟨by rfl, ?hy4_5⟩) hHeld ?_
  case hy4_5 => (intro w hSw; (try dsimp only at hSw); have q0 := ldHd_m ht_head hSw.1; have q1 := ldHd_m ht_head hSw.2; (try simp only [List.getElem_toArray, List.getElem_cons_zero, List.getElem_cons_succ]); go_simp <;> with_reducible rfl)
  (try simp only [Act.put, List.getElem_toArray, List.getElem_cons_zero, List.getElem_cons_succ, List.setIfInBounds_toArray, List.set_cons_zero, List.set_cons_succ])
  refine wpAnyH_take (i := 5) (v := ?v5_6) rfl (by kernel_rfl) (by kernel_rfl) (by kernel_rfl) (fun _ _ _ h => h) (Or.inl ⟨by rfl, ?hy5_6⟩) hHeld ?_
  case hy5_6 => (intro w hSw; (try dsimp only at hSw); have q0 := ldHd_m ht_head hSw.1; have q1 := ldHd_m ht_head hSw.2; (try simp only [List.getElem_toArray, List.getElem_cons_zero, List.getElem_cons_succ]); go_simp <;> with_reducible rfl)
  (try simp only [Act.put, List.getElem_toArray, List.getElem_cons_zero, List.getElem_cons_succ, List.setIfInBounds_toArray, List.set_cons_zero, List.set_cons_succ])
  refine wpAnyH_ready (rs := [6]) (by kernel_rfl) (by simp) ?_
  refine AllReadyH.cons rfl (fun K hK => ?_) AllReadyH.nil
  (try simp only [List.getElem_toArray, List.getElem_cons_zero, List.getElem_cons_succ])
  go_simp
  refine (al_same _ _ _ _ _ _ L0 L0 _ (by exact (K7.out.row (A4, m4, c4, L0) (by simp)).1) (by exact (K7.out.row (A6, m4, c6, L0) (by simp)).1) (by unfold maxLen; omega) (by unfold maxLen; omega) true (by simp)).mono ?_
  rintro e w8 ⟨rfl, hb⟩
  have K8 := Lib.hid (K7.out.step hb)
  clear hb K7
  (try go_wp2_with fail)
  refine hK.out _ _ ⟨K8.out.box (27, q0, x0) (by simp), K8.out.box (27, q1, x1) (by simp)⟩ (fun hHeld => ?_)
  clear hK K
  (try simp only [Act.put, List.getElem_toArray, List.getElem_cons_zero, List.getElem_cons_succ, List.setIfInBounds_toArray, List.set_cons_zero, List.set_cons_succ])
  refine wpAnyH_take (i := 7) (v := ?v7_7) rfl (by kernel_rfl) (by kernel_rfl) (by kernel_rfl) (fun _ _ _ h => h) (Or.inl ⟨by rfl, ?hy7_7⟩) hHeld ?_
  case hy7_7 => (intro w hSw; (try dsimp only at hSw); have q0 := ldHd_m ht_head hSw.1; have q1 := ldHd_m ht_head hSw.2; (try simp only [List.getElem_toArray, List.getElem_cons_zero, List.getElem_cons_succ]); go_simp <;> with_reducible rfl)
  (try simp only [Act.put, List.getElem_toArray, List.getElem_cons_zero, List.getElem_cons_succ, List.setIfInBounds_toArray, List.set_cons_zero, List.set_cons_succ])
  refine wpAnyH_take (i := 8) (v := ?v8_8) rfl (by kernel_rfl) (by kernel_rfl) (by kernel_rfl) (fun _ _ _ h => h) (Or.inl ⟨by rfl, ?hy8_8⟩) hHeld ?_
  case hy8_8 => (intro w hSw; (try dsimp only at hSw); have q0 := ldHd_m ht_head hSw.1; have q1 := ldHd_m ht_head hSw.2; (try simp only [List.getElem_toArray, List.getElem_cons_zero, List.getElem_cons_succ]); go_simp <;> with_reducible rfl)
  (try simp only [Act.put, List.getElem_toArray, List.getElem_cons_zero, List.getElem_cons_succ, List.setIfInBounds_toArray, List.set_cons_zero, List.set_cons_succ])
  refine wpAnyH_take (i := 9) (v := ?v9_9) rfl (by kernel_rfl) (by kernel_rfl) (by kernel_rfl) (fun _ _ _ h => h) (Or.inl ⟨by rfl, ?hy9_9⟩) hHeld ?_
  case hy9_9 => (intro w hSw; (try dsimp only at hSw); have q0 := ldHd_m ht_head hSw.1; have q1 := ldHd_m ht_head hSw.2; (try simp only [List.getElem_toArray, List.getElem_cons_zero, List.getElem_cons_succ]); go_simp <;> with_reducible rfl)
  (try simp only [Act.put, List.getElem_toArray, List.getElem_cons_zero, List.getElem_cons_succ, List.setIfInBounds_toArray, List.set_cons_zero, List.set_cons_succ])
  refine wpAnyH_take (i := 10) (v := ?v10_10) rfl (by kernel_rfl) (by kernel_rfl) (by kernel_rfl) (fun _ _ _ h => h) (Or.inl ⟨by rfl, ?hy10_10⟩) hHeld ?_
  case hy10_10 => (intro w hSw; (try dsimp only at hSw); have q0 := ldHd_m ht_head hSw.1; have q1 := ldHd_m ht_head hSw.2; (try simp only [List.getElem_toArray, List.getElem_cons_zero, List.getElem_cons_succ]); go_simp <;> with_reducible rfl)
  (try simp only [Act.put, List.getElem_toArray, List.getElem_cons_zero, List.getElem_cons_succ, List.setIfInBounds_toArray, List.set_cons_zero, List.set_cons_succ])
  refine wpAnyH_take (i := 11) (v := ?v11_11) rfl (by kernel_rfl) (by kernel_rfl) (by kernel_rfl) (fun _ _ _ h => h) (Or.inl ⟨by rfl, ?hy11_11⟩) hHeld ?_
  case hy11_11 => (intro w hSw; (try dsimp only at hSw); have q0 := ldHd_m ht_head hSw.1; have q1 := ldHd_m ht_head hSw.2; (try simp only [List.getElem_toArray, List.getElem_cons_zero, List.getElem_cons_succ]); go_simp <;> with_reducible rfl)
  (try simp only [Act.put, List.getElem_toArray, List.getElem_cons_zero, List.getElem_cons_succ, List.setIfInBounds_toArray, List.set_cons_zero, List.set_cons_succ])
  refine wpAnyH_take (i := 13) (v := ?v13_12) rfl (by kernel_rfl) (by kernel_rfl) (by kernel_rfl) (fun _ _ _ h => h) (Or.inl ⟨by rfl, ?hy13_12⟩) hHeld ?_
  case hy13_12 => (intro w hSw; (try dsimp only at hSw); have q0 := ldHd_m ht_head hSw.1; have q1 := ldHd_m ht_head hSw.2; (try simp only [List.getElem_toArray, List.getElem_cons_zero, List.getElem_cons_succ]); go_simp <;> with_reducible rfl)
  (try simp only [Act.put, List.getElem_toArray, List.getElem_cons_zero, List.getElem_cons_succ, List.setIfInBounds_toArray, List.set_cons_zero, List.set_cons_succ])
  refine wpAnyH_take (i := 15) (v := ?v15_13) rfl (by kernel_rfl) (by kernel_rfl) (by kernel_rfl) (fun _ _ _ h => h) (Or.inl ⟨by rfl, ?hy15_13⟩) hHeld ?_
  case hy15_13 => (intro w hSw; (try dsimp only at hSw); have q0 := ldHd_m ht_head hSw.1; have q1 := ldHd_m ht_head hSw.2; (try simp only [List.getElem_toArray, List.getElem_cons_zero, List.getElem_cons_succ]); go_simp <;> with_reducible rfl)
  (try simp only [Act.put, List.getElem_toArray, List.getElem_cons_zero, List.getElem_cons_succ, List.setIfInBounds_toArray, List.set_cons_zero, List.set_cons_succ])
  refine wpAnyH_ready (rs := [12]) (by kernel_rfl) (by simp) ?_
  refine AllReadyH.cons rfl (fun K hK => ?_) AllReadyH.nil
  (try simp only [List.getElem_toArray, List.getElem_cons_zero, List.getElem_cons_succ])
  go_simp
  refine (hsame_any x0 x1 _ (by exact K8.out.hd x0 (by simp)) (by exact K8.out.hd x1 (by simp)) v HV.out).mono ?_
  rintro e w9 ⟨rfl, hb⟩
  have K9 := Lib.hid (K8.out.step hb)
  clear hb K8
  (try go_wp2_with fail)
  refine hK.out _ _ ⟨K9.out.box (27, q0, x0) (by simp), K9.out.box (27, q1, x1) (by simp)⟩ (fun hHeld => ?_)
  clear hK K
  (try simp only [Act.put, List.getElem_toArray, List.getElem_cons_zero, List.getElem_cons_succ, List.setIfInBounds_toArray, List.set_cons_zero, List.set_cons_succ])
  refine wpAnyH_ready (rs := [14]) (by kernel_rfl) (by simp) ?_
  refine AllReadyH.cons rfl (fun K hK => ?_) AllReadyH.nil
  (try simp only [List.getElem_toArray, List.getElem_cons_zero, List.getElem_cons_succ])
  go_simp
  refine (of_any x0 _ (by exact K9.out.hd x0 (by simp)) (by omega) (by omega)).mono ?_
  rintro e w10 ⟨g10, rfl, hpl, hown, hb⟩
  have K10 := Lib.hid ((K9.out.step hb).addh hown.ok)
  have HP10 := Lib.hid hpl
  clear hpl hown hb K9
  (try go_wp2_with fail)
  refine hK.out _ _ ⟨K10.out.box (27, q0, x0) (by simp), K10.out.box (27, q1, x1) (by simp)⟩ (fun hHeld => ?_)
  clear hK K
  (try simp only [Act.put, List.getElem_toArray, List.getElem_cons_zero, List.getElem_cons_succ, List.setIfInBounds_toArray, List.set_cons_zero, List.set_cons_succ])
  refine wpAnyH_ready (rs := [16]) (by kernel_rfl) (by simp) ?_
  refine AllReadyH.cons rfl (fun K hK => ?_) AllReadyH.nil
  (try simp only [List.getElem_toArray, List.getElem_cons_zero, List.getElem_cons_succ])
  go_simp
  refine (of_any x1 _ (by exact K10.out.hd x1 (by simp)) (by omega) (by omega)).mono ?_
  rintro e w11 ⟨g11, rfl, hpl, hown, hb⟩
  have K11 := Lib.hid ((K10.out.step hb).addh hown.ok)
  have HP11 := Lib.hid hpl
  clear hpl hown hb K10
  (try go_wp2_with fail)
  refine hK.out _ _ ⟨K11.out.box (27, q0, x0) (by simp), K11.out.box (27, q1, x1) (by simp)⟩ (fun hHeld => ?_)
  clear hK K
  (try simp only [Act.put, List.getElem_toArray, List.getElem_cons_zero, List.getElem_cons_succ, List.setIfInBounds_toArray, List.set_cons_zero, List.set_cons_succ])
  refine wpAnyH_ready (rs := [17]) (by kernel_rfl) (by simp) ?_
  refine AllReadyH.cons rfl (fun K hK => ?_) AllReadyH.nil
  (try simp only [List.getElem_toArray, List.getElem_cons_zero, List.getElem_cons_succ])
  go_simp
  refine (rhsame_any g10 g11 _ (by exact K11.out.hd g10 (by simp)) (by exact K11.out.hd g11 (by simp)) v (by rw [HP10.out, HP11.out]; exact HV.out)).mono ?_
  rintro e w12 ⟨rfl, hb⟩
  have K12 := Lib.hid (K11.out.step hb)
  clear hb K11
  (try go_wp2_with fail)
  refine hK.out _ _ ⟨K12.out.box (27, q0, x0) (by simp), K12.out.box (27, q1, x1) (by simp)⟩ (fun hHeld => ?_)
  clear hK K
  (try simp only [Act.put, List.getElem_toArray, List.getElem_cons_zero, List.getElem_cons_succ, List.setIfInBounds_toArray, List.set_cons_zero, List.set_cons_succ])
  refine wpAnyH_take (i := 18) (v := ?v18_14) rfl (by kernel_rfl) (by kernel_rfl) (by kernel_rfl) (fun _ _ _ h => h) (Or.inl ⟨by rfl, ?hy18_14⟩) hHeld ?_
  case hy18_14 => (intro w hSw; (try dsimp only at hSw); have q0 := ldHd_m ht_head hSw.1; have q1 := ldHd_m ht_head hSw.2; (try simp only [List.getElem_toArray, List.getElem_cons_zero, List.getElem_cons_succ]); go_simp <;> with_reducible rfl)
  (try simp only [Act.put, List.getElem_toArray, List.getElem_cons_zero, List.getElem_cons_succ, List.setIfInBounds_toArray, List.set_cons_zero, List.set_cons_succ])
  refine wpAnyH_take (i := 19) (v := ?v19_15) rfl (by kernel_rfl) (by kernel_rfl) (by kernel_rfl) (fun _ _ _ h => h) (Or.inl ⟨by rfl, ?hy19_15⟩) hHeld ?_
  case hy19_15 => (intro w hSw; (try dsimp only at hSw); have q0 := ldHd_m ht_head hSw.1; have q1 := ldHd_m ht_head hSw.2; (try simp only [List.getElem_toArray, List.getElem_cons_zero, List.getElem_cons_succ]); go_simp <;> with_reducible rfl)
  (try simp only [Act.put, List.getElem_toArray, List.getElem_cons_zero, List.getElem_cons_succ, List.setIfInBounds_toArray, List.set_cons_zero, List.set_cons_succ])
  refine wpAnyH_take (i := 20) (v := ?v20_16) rfl (by kernel_rfl) (by kernel_rfl) (by kernel_rfl) (fun _ _ _ h => h) (Or.inl ⟨by rfl, ?hy20_16⟩) hHeld ?_
  case hy20_16 => (intro w hSw; (try dsimp only at hSw); have q0 := ldHd_m ht_head hSw.1; have q1 := ldHd_m ht_head hSw.2; (try simp only [List.getElem_toArray, List.getElem_cons_zero, List.getElem_cons_succ]); go_simp <;> with_reducible rfl)
  (try simp only [Act.put, List.getElem_toArray, List.getElem_cons_zero, List.getElem_cons_succ, List.setIfInBounds_toArray, List.set_cons_zero, List.set_cons_succ])
  refine wpAnyH_take (i := 21) (v := ?v21_17) rfl (by kernel_rfl) (by kernel_rfl) (by kernel_rfl) (fun _ _ _ h => h) (Or.inl ⟨by rfl, ?hy21_17⟩) hHeld ?_
  case hy21_17 => (intro w hSw; (try dsimp only at hSw); have q0 := ldHd_m ht_head hSw.1; have q1 := ldHd_m ht_head hSw.2; (try simp only [List.getElem_toArray, List.getElem_cons_zero, List.getElem_cons_succ]); go_simp <;> with_reducible rfl)
  (try simp only [Act.put, List.getElem_toArray, List.getElem_cons_zero, List.getElem_cons_succ, List.setIfInBounds_toArray, List.set_cons_zero, List.set_cons_succ])
  refine wpAnyH_take (i := 22) (v := ?v22_18) rfl (by kernel_rfl) (by kernel_rfl) (by kernel_rfl) (fun _ _ _ h => h) (Or.inl ⟨by rfl, ?hy22_18⟩) hHeld ?_
  case hy22_18 => (intro w hSw; (try dsimp only at hSw); have q0 := ldHd_m ht_head hSw.1; have q1 := ldHd_m ht_head hSw.2; (try simp only [List.getElem_toArray, List.getElem_cons_zero, List.getElem_cons_succ]); go_simp <;> with_reducible rfl)
  (try simp only [Act.put, List.getElem_toArray, List.getElem_cons_zero, List.getElem_cons_succ, List.setIfInBounds_toArray, List.set_cons_zero, List.set_cons_succ])
  refine wpAnyH_ready (rs := [23]) (by kernel_rfl) (by simp) ?_
  refine AllReadyH.cons rfl (fun K hK => ?_) AllReadyH.nil
  (try simp only [List.getElem_toArray, List.getElem_cons_zero, List.getElem_cons_succ])
  go_simp
  refine (hsame_any x0 x0 _ (by exact K12.out.hd x0 (by simp)) (by exact K12.out.hd x0 (by simp)) true (decide_eq_true rfl)).mono ?_
  rintro e w13 ⟨rfl, hb⟩
  have K13 := Lib.hid (K12.out.step hb)
  clear hb K12
  (try go_wp2_with fail)
  refine hK.out _ _ ⟨K13.out.box (27, q0, x0) (by simp), K13.out.box (27, q1, x1) (by simp)⟩ (fun hHeld => ?_)
  clear hK K
  (try simp only [Act.put, List.getElem_toArray, List.getElem_cons_zero, List.getElem_cons_succ, List.setIfInBounds_toArray, List.set_cons_zero, List.set_cons_succ])
  refine wpAnyH_take (i := 24) (v := ?v24_19) rfl (by kernel_rfl) (by kernel_rfl) (by kernel_rfl) (fun _ _ _ h => h) (Or.inl ⟨by rfl, ?hy24_19⟩) hHeld ?_
  case hy24_19 => (intro w hSw; (try dsimp only at hSw); have q0 := ldHd_m ht_head hSw.1; have q1 := ldHd_m ht_head hSw.2; (try simp only [List.getElem_toArray, List.getElem_cons_zero, List.getElem_cons_succ]); go_simp <;> with_reducible rfl)
  (try simp only [Act.put, List.getElem_toArray, List.getElem_cons_zero, List.getElem_cons_succ, List.setIfInBounds_toArray, List.set_cons_zero, List.set_cons_succ])
  refine wpAnyH_take (i := 25) (v := ?v25_20) rfl (by kernel_rfl) (by kernel_rfl) (by kernel_rfl) (fun _ _ _ h => h) (Or.inl ⟨by rfl, ?hy25_20⟩) hHeld ?_
  case hy25_20 => (intro w hSw; (try dsimp only at hSw); have q0 := ldHd_m ht_head hSw.1; have q1 := ldHd_m ht_head hSw.2; (try simp only [List.getElem_toArray, List.getElem_cons_zero, List.getElem_cons_succ]); go_simp <;> with_reducible rfl)
  (try simp only [Act.put, List.getElem_toArray, List.getElem_cons_zero, List.getElem_cons_succ, List.setIfInBounds_toArray, List.set_cons_zero, List.set_cons_succ])
  refine wpAnyH_done (by kernel_rfl) ?_ _
  rcases T0.out with ⟨rfl, hk⟩ | ⟨hL, rfl, hG⟩
  · have hk' : (k0 != 0) = true := by simpa using hk
    obtain rfl : 0 = m4 := HM4.out
    go_wp2_with fail
    go_ret
    exact ⟨rfl, K13.out.bel⟩
  have HG := Lib.hid hG
  have R0 := Lib.hid (fun r => (by rw [hL]; exact prs_raw x0.pl hG r : prs (L0 ++ r) = (x0.pl, r, 0)))
  have C0 := Lib.hid (fun k (hk : k < m4) => (by rw [hL]; exact prs_cut x0.pl hG k (by rw [← hL, HM4.out]; exact hk) : (prs (L0.take k)).2.2 = 12))
  have HLL := Lib.hid hL
  clear hL hG
  go_wp2_with fail
  refine (copy_any A4 m4 c4 0 L0 _ (by exact (K13.out.row (A4, m4, c4, L0) (by simp)).1) (by omega)).mono ?_
  rintro e w14 ⟨A14, c14, rfl, ho14, hb14⟩
  have O14 := Lib.hid (And.intro ho14 hb14)
  clear ho14 hb14
  go_wp2_with (first
    | (at_builtin; refine wpList_app rfl (.tmp 93) (.tmp 94) rfl w13.heap.size A14 m4 c14 L0 rfl O14.out.1 w14.heap.size A2 n2 c2 l2 rfl (by exact ((K13.out.step O14.out.2).row (A2, n2, c2, l2) (by simp)).1) (by omega) O14.out.2.size ?_; intro A14' c14' w14' ho hg hb; have K14 := Lib.hid (K13.out.own (O14.out.2.trans hb) ho); clear ho hg hb O14 K13))
  refine (parse_any A14' (m4 + n2) c14' (L0 ++ l2) _ (by exact (K14.out.row _ (.head _)).1) (by omega)).mono ?_
  rw [R0.out]
  intro e w15 qq
  obtain ⟨g15, A15, n15, c15, rfl, hp15, hn15, kk⟩ := K14.out.hdr qq
  have J15 := Lib.hid kk
  have P15 := Lib.hid hp15
  clear qq kk hp15 K14
  obtain rfl : n2 = n15 := by rw [← hn15, ← HL.out]
  go_wp2_with (first
    | (with_reducible show wpList _ _ _ (⟨some 11, .alloc _, _, _, _, none⟩ :: _) _ _; refine wpList_allocN ht_head rfl rfl ?_; intro w15a y0 hc2 hb2 hx2; have H2 := Lib.hid (And.intro hc2 (And.intro hb2 hx2)); clear hc2 hb2 hx2)
    | (refine wpList_stH ht_head rfl (.tmp 11) (.tmp 97) rfl y0 rfl g15 zeroH rfl (by exact H2.out.1) ?_; intro w15b hc3 ho3 hs3; have K15 := Lib.hid (J15.out.var H2.out.2.1 H2.out.2.2 hc3 ho3); have ql := ldHd_m ht_head (K15.out.box (27, y0, g15) (by simp)); have ql2 := ldHd_m ht_head (K15.out.box (27, q0, x0) (by simp)); clear hc3 ho3 hs3 H2 J15))
  refine (hsame_any g15 x0 _ (by exact K15.out.hd g15 (by simp)) (by exact K15.out.hd x0 (by simp)) true (decide_eq_true P15.out)).mono ?_
  rintro e w16 ⟨rfl, hb⟩
  have K16 := Lib.hid (K15.out.step hb)
  clear hb K15 ql ql2
  go_wp2_with fail
  refine (al_same _ _ _ _ _ _ l2 l2 _ (by exact (K16.out.row (A15, n2, c15, l2) (by simp)).1) (by exact (K16.out.row (A2, n2, c2, l2) (by simp)).1) (by unfold maxLen; omega) (by unfold maxLen; omega) true (by simp)).mono ?_
  rintro e w17 ⟨rfl, hb⟩
  have K17 : Hid (KW w [(A4, m4, c4, L0), (A2, n2, c2, l2)] [x0] [(27, q0, x0)] w17) := by
    have k := K16.out.step hb
    exact Lib.hid ((((KW.mk k.bel (fun r hr => (by cases hr)) (fun r hr => (by cases hr)) (fun b hm => by rw [List.mem_singleton.1 hm]; exact k.box _ (by simp)) : KW w [] [] [(27, q0, x0)] w17).addh (k.hd x0 (by simp))).add (k.row (A2, n2, c2, l2) (by simp)).1 (k.row (A2, n2, c2, l2) (by simp)).2.1 (k.row (A2, n2, c2, l2) (by simp)).2.2).add (k.row (A4, m4, c4, L0) (by simp)).1 (k.row (A4, m4, c4, L0) (by simp)).2.1 (k.row (A4, m4, c4, L0) (by simp)).2.2)
  clear hb K16
  go_wp2_with fail
  go_loopw [14] (fun i wr => ∃ j : Nat, j ≤ m4 ∧ i = .int .i64 j ∧ KW w [(A4, m4, c4, L0), (A2, n2, c2, l2)] [x0] [(27, q0, x0)] wr) (fun i _ => m4 - (intOf i).toNat)
  case atStart => exact ⟨0, Nat.zero_le _, rfl, K17.out⟩
  case round =>
    obtain ⟨j, hj, rfl, hk⟩ := hrel
    by_cases hlt : j < m4
    · have HK := Lib.hid hk
      have hc4 := (hk.row (A4, m4, c4, L0) (by simp)).2.1
      have hcut : ∀ W : World, (Instr.slice 22 (.slice A4 m4 c4) none (some (.int .i64 (j : Int))) none).run Try.prog W = .ok (.slice (cutA A4 c4 0) j c4) W := cut_h A4 m4 c4 j (by simp only at hc4; omega)
      have hpart := (hk.row (A4, m4, c4, L0) (by simp)).1.part (i := 0) (j := j) (c := c4) (Nat.zero_le _) (by simp only; omega) hc4
      simp only [Nat.sub_zero, List.drop_zero] at hpart
      have HPA := Lib.hid hpart
      have HCU := Lib.hid (C0.out j hlt)
      obtain ⟨pr, HPR⟩ : ∃ pr, Hid (pr = prs (L0.take j)) := ⟨_, Lib.hid rfl⟩
      rw [← HPR.out] at HCU
      clear hk hc4 hpart
      go_wp2_with fail
      refine (parse_any _ j c4 (L0.take j) _ (by exact HPA.out) (by omega)).mono ?_
      rw [← HPR.out]
      intro e w18 qq
      obtain ⟨g18, A18, n18, c18, rfl, hp18, hn18, kk⟩ := HK.out.hdr qq
      rw [HCU.out]
      have J18 := Lib.hid kk
      clear qq kk hp18 HK hcut
      go_wp2_with (first
        | (with_reducible show wpList _ _ _ (⟨some 15, .alloc _, _, _, _, none⟩ :: _) _ _; refine wpList_allocN ht_head rfl rfl ?_; intro w18a y1 hc2 hb2 hx2; have H2 := Lib.hid (And.intro hc2 (And.intro hb2 hx2)); clear hc2 hb2 hx2)
        | (refine wpList_stH ht_head rfl (.tmp 15) (.tmp 125) rfl y1 rfl g18 zeroH rfl (by exact H2.out.1) ?_; intro w18b hc3 ho3 hs3; have K18 := Lib.hid (J18.out.var H2.out.2.1 H2.out.2.2 hc3 ho3); clear hc3 ho3 hs3 H2 J18))
      go_roundw
      case rel =>
        have k := K18.out
        exact ⟨j + 1, by omega, by go_num, k.bel, fun r hr => k.row r (by simp only [List.mem_cons, List.not_mem_nil, or_false] at hr ⊢; exact .inr hr), fun h hh => k.hd h (by simp only [List.mem_cons, List.not_mem_nil, or_false] at hh ⊢; exact .inr hh), fun b hb => k.box b (by simp only [List.mem_cons, List.not_mem_nil, or_false] at hb ⊢; exact .inr hb)⟩
      case measure => simp [intOf]; omega
    · obtain rfl : j = m4 := by omega
      have K19 := Lib.hid (hk.step (Below.refl _ _).drew)
      clear hk K17
      have hm7 : 7 ≤ j := by rw [← HM4.out, HLL.out, raw_len]; omega
      go_wp2_with fail
      have hcut4 : ∀ W : World, (Instr.slice 22 (.slice A4 j c4) (some (.int .i64 4)) none none).run Try.prog W = .ok (.slice (cutA A4 c4 4) (j - 4) (c4 - 4)) W := cut_l A4 j c4 4 (by omega)
      have hr4 := K19.out.row (A4, j, c4, L0) (by simp)
      have hpart := hr4.1.part (i := 4) (j := j) (c := c4) (by omega) (Nat.le_refl _) hr4.2.1
      rw [List.take_of_length_le (by simp only; rw [HM4.out]; exact Nat.le_refl _)] at hpart
      have HPA := Lib.hid hpart
      have HC4 := Lib.hid hr4.2
      have a255 : x0.a.length ≤ 255 := HG.out.a
      clear hpart hr4
      obtain ⟨a, ha⟩ : ∃ a, a = x0.a := ⟨_, rfl⟩
      have HAL := Lib.hid ha
      obtain ⟨na, hna⟩ : ∃ na, x0.a.length = na := ⟨_, rfl⟩
      have HNA := Lib.hid hna
      have hn255 : na ≤ 255 := by rw [← hna]; exact a255
      have KB19 : Hid (Hc 27 wr.drew q0 x0) := Lib.hid (K19.out.box (27, q0, x0) (by simp))
      have DL := Lib.hid (drop_len x0.pl)
      clear a255 ha
      have hcell2 : ∀ W : World, Hc 27 W q0 x0 → W.cell? ⟨q0, 2, none⟩ = some (.slice x0.A na x0.c) := fun W k => by rw [← hna]; exact k.c2
      clear hna
      by_cases h255 : na = 255
      · skip
        subst h255
        have hw : IntKind.i64.wrap ((255 : Nat) + 1 : Int) = 256 := by decide
        obtain ⟨kk, hkk⟩ : ∃ kk : Nat, kk = 255 := ⟨_, rfl⟩
        have HID : Hid (idN (L0.drop 4) kk = ((UInt8.ofNat x0.a.length :: x0.a).take kk, 0)) := Lib.hid (by rw [HLL.out]; exact id_some x0.pl HG.out kk (by omega) (by have : x0.a.length = 255 := HNA.out; show kk ≤ x0.a.length + 1; omega))
        refine wp_region_held_drew (S := fun w' => Hc 27 w' q0 x0) (by kernel_rfl) KB19.out (fun hHeld => ?_)
        (try dsimp only at hHeld)
        refine wpAnyH_take (i := 0) (v := ?v0_21) rfl (by kernel_rfl) (by kernel_rfl) (by kernel_rfl) (fun _ _ _ h => h) (Or.inl ⟨by rfl, ?hy0_21⟩) hHeld ?_
        case hy0_21 => (intro w hSw; (try dsimp only at hSw); have q0 := hcell2 _ hSw; (try simp only [List.getElem_toArray, List.getElem_cons_zero, List.getElem_cons_succ]); go_simp <;> with_reducible rfl)
        (try simp only [Act.put, List.getElem_toArray, List.getElem_cons_zero, List.getElem_cons_succ, List.setIfInBounds_toArray, List.set_cons_zero, List.set_cons_succ])
        refine wpAnyH_take (i := 1) (v := ?v1_22) rfl (by kernel_rfl) (by kernel_rfl) (by kernel_rfl) (fun _ _ _ h => h) (Or.inl ⟨by rfl, ?hy1_22⟩) hHeld ?_
        case hy1_22 => (intro w hSw; (try dsimp only at hSw); have q0 := hcell2 _ hSw; (try simp only [List.getElem_toArray, List.getElem_cons_zero, List.getElem_cons_succ]); go_simp <;> with_reducible rfl)
        (try simp only [Act.put, List.getElem_toArray, List.getElem_cons_zero, List.getElem_cons_succ, List.setIfInBounds_toArray, List.set_cons_zero, List.set_cons_succ])
        refine wpAnyH_take (i := 2) (v := ?v2_23) rfl (by kernel_rfl) (by kernel_rfl) (by kernel_rfl) (fun _ _ _ h => h) (Or.inl ⟨by rfl, ?hy2_23⟩) hHeld ?_
        case hy2_23 => (intro w hSw; (try dsimp only at hSw); have q0 := hcell2 _ hSw; (try simp only [List.getElem_toArray, List.getElem_cons_zero, List.getElem_cons_succ]); go_simp <;> with_reducible rfl)
        (try simp only [Act.put, List.getElem_toArray, List.getElem_cons_zero, List.getElem_cons_succ, List.setIfInBounds_toArray, List.set_cons_zero, List.set_cons_succ])
        refine wpAnyH_take (i := 3) (v := ?v3_24) rfl (by kernel_rfl) (by kernel_rfl) (by kernel_rfl) (fun _ _ _ h => h) (Or.inl ⟨by rfl, ?hy3_24⟩) hHeld ?_
        case hy3_24 => (intro w hSw; (try dsimp only at hSw); have q0 := hcell2 _ hSw; (try simp only [List.getElem_toArray, List.getElem_cons_zero, List.getElem_cons_succ]); go_simp <;> with_reducible rfl)
        (try simp only [Act.put, List.getElem_toArray, List.getElem_cons_zero, List.getElem_cons_succ, List.setIfInBounds_toArray, List.set_cons_zero, List.set_cons_succ])
        refine wpAnyH_take (i := 4) (v := ?v4_25) rfl (by kernel_rfl) (by kernel_rfl) (by kernel_rfl) (fun _ _ _ h => h) (Or.inl ⟨by rfl, ?hy4_25⟩) hHeld ?_
        case hy4_25 => (intro w hSw; (try dsimp only at hSw); have q0 := hcell2 _ hSw; (try simp only [List.getElem_toArray, List.getElem_cons_zero, List.getElem_cons_succ]); go_simp <;> with_reducible rfl)
        (try simp only [Act.put, List.getElem_toArray, List.getElem_cons_zero, List.getElem_cons_succ, List.setIfInBounds_toArray, List.set_cons_zero, List.set_cons_succ])
        refine wpAnyH_take (i := 5) (v := ?v5_26) rfl (by kernel_rfl) (by kernel_rfl) (by kernel_rfl) (fun _ _ _ h => h) (Or.inl ⟨by rfl, ?hy5_26⟩) hHeld ?_
        case hy5_26 => (intro w hSw; (try dsimp only at hSw); have q0 := hcell2 _ hSw; (try simp only [List.getElem_toArray, List.getElem_cons_zero, List.getElem_cons_succ]); go_simp <;> with_reducible rfl)
        (try simp only [Act.put, List.getElem_toArray, List.getElem_cons_zero, List.getElem_cons_succ, List.setIfInBounds_toArray, List.set_cons_zero, List.set_cons_succ])
        refine wpAnyH_take (i := 6) (v := ?v6_27) rfl (by kernel_rfl) (by kernel_rfl) (by kernel_rfl) (fun _ _ _ h => h) (Or.inl ⟨by rfl, ?hy6_27⟩) hHeld ?_
        case hy6_27 => (intro w hSw; (try dsimp only at hSw); have q0 := hcell2 _ hSw; (try simp only [List.getElem_toArray, List.getElem_cons_zero, List.getElem_cons_succ]); go_simp <;> with_reducible rfl)
        (try simp only [Act.put, List.getElem_toArray, List.getElem_cons_zero, List.getElem_cons_succ, List.setIfInBounds_toArray, List.set_cons_zero, List.set_cons_succ])
        refine wpAnyH_ready (rs := [7]) (by kernel_rfl) (by simp) ?_
        refine AllReadyH.cons rfl (fun K hK => ?_) AllReadyH.nil
        (try simp only [List.getElem_toArray, List.getElem_cons_zero, List.getElem_cons_succ])
        go_simp
        rw [show (if (255 : Int) < IntKind.i64.wrap 256 then (255 : Int) else IntKind.i64.wrap 256) = ((kk : Nat) : Int) from by rw [hkk]; decide]
        have hkk255 : kk ≤ 255 := by omega
        have HKK := Lib.hid hkk
        clear hkk
        refine (hid_any (cutA A4 c4 4) (j - 4) (c4 - 4) (L0.drop 4) kk _ (by exact HPA.out) (by have h1 := HC4.out; simp only at h1; omega) (by omega)).mono ?_
        rw [HID.out]
        rintro e w20 ⟨A20, c20, rfl, ho, hb⟩
        have K20 := Lib.hid (K19.out.own hb ho)
        have O20 := Lib.hid ho
        clear ho hb
        (try go_wp2_with fail)
        refine hK.out _ _ (K20.out.box (27, q0, x0) (by simp)) (fun hHeld => ?_)
        clear hK K
        (try simp only [Act.put, List.getElem_toArray, List.getElem_cons_zero, List.getElem_cons_succ, List.setIfInBounds_toArray, List.set_cons_zero, List.set_cons_succ])
        refine wpAnyH_take (i := 8) (v := ?v8_28) rfl (by kernel_rfl) (by kernel_rfl) (by kernel_rfl) (fun _ _ _ h => h) (Or.inl ⟨by rfl, ?hy8_28⟩) hHeld ?_
        case hy8_28 => (intro w hSw; (try dsimp only at hSw); have q0 := hcell2 _ hSw; (try simp only [List.getElem_toArray, List.getElem_cons_zero, List.getElem_cons_succ]); go_simp <;> with_reducible rfl)
        (try simp only [Act.put, List.getElem_toArray, List.getElem_cons_zero, List.getElem_cons_succ, List.setIfInBounds_toArray, List.set_cons_zero, List.set_cons_succ])
        refine wpAnyH_take (i := 9) (v := ?v9_29) rfl (by kernel_rfl) (by kernel_rfl) (by kernel_rfl) (fun _ _ _ h => h) (Or.inl ⟨by rfl, ?hy9_29⟩) hHeld ?_
        case hy9_29 => (intro w hSw; (try dsimp only at hSw); have q0 := hcell2 _ hSw; (try simp only [List.getElem_toArray, List.getElem_cons_zero, List.getElem_cons_succ]); go_simp <;> with_reducible rfl)
        (try simp only [Act.put, List.getElem_toArray, List.getElem_cons_zero, List.getElem_cons_succ, List.setIfInBounds_toArray, List.set_cons_zero, List.set_cons_succ])
        refine wpAnyH_take (i := 10) (v := ?v10_30) rfl (by kernel_rfl) (by kernel_rfl) (by kernel_rfl) (fun _ _ _ h => h) (Or.inl ⟨by rfl, ?hy10_30⟩) hHeld ?_
        case hy10_30 => (intro w hSw; (try dsimp only at hSw); have q0 := hcell2 _ hSw; (try simp only [List.getElem_toArray, List.getElem_cons_zero, List.getElem_cons_succ]); go_simp <;> with_reducible rfl)
        (try simp only [Act.put, List.getElem_toArray, List.getElem_cons_zero, List.getElem_cons_succ, List.setIfInBounds_toArray, List.set_cons_zero, List.set_cons_succ])
        refine wpAnyH_take (i := 11) (v := ?v11_31) rfl (by kernel_rfl) (by kernel_rfl) (by kernel_rfl) (fun _ _ _ h => h) (Or.inl ⟨by rfl, ?hy11_31⟩) hHeld ?_
        case hy11_31 => (intro w hSw; (try dsimp only at hSw); have q0 := hcell2 _ hSw; (try simp only [List.getElem_toArray, List.getElem_cons_zero, List.getElem_cons_succ]); go_simp <;> with_reducible rfl)
        (try simp only [Act.put, List.getElem_toArray, List.getElem_cons_zero, List.getElem_cons_succ, List.setIfInBounds_toArray, List.set_cons_zero, List.set_cons_succ])
        refine wpAnyH_take (i := 12) (v := ?v12_32) rfl (by kernel_rfl) (by kernel_rfl) (by kernel_rfl) (fun _ _ _ h => h) (Or.inl ⟨by rfl, ?hy12_32⟩) hHeld ?_
        case hy12_32 => (intro w hSw; (try dsimp only at hSw); have q0 := hcell2 _ hSw; (try simp only [List.getElem_toArray, List.getElem_cons_zero, List.getElem_cons_succ]); go_simp <;> with_reducible rfl)
        (try simp only [Act.put, List.getElem_toArray, List.getElem_cons_zero, List.getElem_cons_succ, List.setIfInBounds_toArray, List.set_cons_zero, List.set_cons_succ])
        refine wpAnyH_done (by kernel_rfl) ?_ _
        go_wp2_with fail
        have K21 := Lib.hid (K20.out.step (Below.refl _ _).drew)
        refine wp_region_held_drew (S := fun w' => Hc 27 w' q0 x0) (by kernel_rfl) (K21.out.box (27, q0, x0) (by simp)) (fun hHeld => ?_)
        (try dsimp only at hHeld)
        refine wpAnyH_take (i := 0) (v := ?v0_33) rfl (by kernel_rfl) (by kernel_rfl) (by kernel_rfl) (fun _ _ _ h => h) (Or.inl ⟨by rfl, ?hy0_33⟩) hHeld ?_
        case hy0_33 => (intro w hSw; (try dsimp only at hSw); have q0 := hcell2 _ hSw; (try simp only [List.getElem_toArray, List.getElem_cons_zero, List.getElem_cons_succ]); go_simp <;> with_reducible rfl)
        (try simp only [Act.put, List.getElem_toArray, List.getElem_cons_zero, List.getElem_cons_succ, List.setIfInBounds_toArray, List.set_cons_zero, List.set_cons_succ])
        refine wpAnyH_take (i := 1) (v := ?v1_34) rfl (by kernel_rfl) (by kernel_rfl) (by kernel_rfl) (fun _ _ _ h => h) (Or.inl ⟨by rfl, ?hy1_34⟩) hHeld ?_
        case hy1_34 => (intro w hSw; (try dsimp only at hSw); have q0 := hcell2 _ hSw; (try simp only [List.getElem_toArray, List.getElem_cons_zero, List.getElem_cons_succ]); go_simp <;> with_reducible rfl)
        (try simp only [Act.put, List.getElem_toArray, List.getElem_cons_zero, List.getElem_cons_succ, List.setIfInBounds_toArray, List.set_cons_zero, List.set_cons_succ])
        refine wpAnyH_take (i := 2) (v := ?v2_35) rfl (by kernel_rfl) (by kernel_rfl) (by kernel_rfl) (fun _ _ _ h => h) (Or.inl ⟨by rfl, ?hy2_35⟩) hHeld ?_
        case hy2_35 => (intro w hSw; (try dsimp only at hSw); have q0 := hcell2 _ hSw; (try simp only [List.getElem_toArray, List.getElem_cons_zero, List.getElem_cons_succ]); go_simp <;> with_reducible rfl)
        (try simp only [Act.put, List.getElem_toArray, List.getElem_cons_zero, List.getElem_cons_succ, List.setIfInBounds_toArray, List.set_cons_zero, List.set_cons_succ])
        refine wpAnyH_take (i := 3) (v := ?v3_36) rfl (by kernel_rfl) (by kernel_rfl) (by kernel_rfl) (fun _ _ _ h => h) (Or.inl ⟨by rfl, ?hy3_36⟩) hHeld ?_
        case hy3_36 => (intro w hSw; (try dsimp only at hSw); have q0 := hcell2 _ hSw; (try simp only [List.getElem_toArray, List.getElem_cons_zero, List.getElem_cons_succ]); go_simp <;> with_reducible rfl)
        (try simp only [Act.put, List.getElem_toArray, List.getElem_cons_zero, List.getElem_cons_succ, List.setIfInBounds_toArray, List.set_cons_zero, List.set_cons_succ])
        refine wpAnyH_take (i := 4) (v := ?v4_37) rfl (by kernel_rfl) (by kernel_rfl) (by kernel_rfl) (fun _ _ _ h => h) (Or.inl ⟨by rfl, ?hy4_37⟩) hHeld ?_
        case hy4_37 => (intro w hSw; (try dsimp only at hSw); have q0 := hcell2 _ hSw; (try simp only [List.getElem_toArray, List.getElem_cons_zero, List.getElem_cons_succ]); go_simp <;> with_reducible rfl)
        (try simp only [Act.put, List.getElem_toArray, List.getElem_cons_zero, List.getElem_cons_succ, List.setIfInBounds_toArray, List.set_cons_zero, List.set_cons_succ])
        refine wpAnyH_take (i := 5) (v := ?v5_38) rfl (by kernel_rfl) (by kernel_rfl) (by kernel_rfl) (fun _ _ _ h => h) (Or.inl ⟨by rfl, ?hy5_38⟩) hHeld ?_
        case hy5_38 => (intro w hSw; (try dsimp only at hSw); have q0 := hcell2 _ hSw; (try simp only [List.getElem_toArray, List.getElem_cons_zero, List.getElem_cons_succ]); go_simp <;> with_reducible rfl)
        (try simp only [Act.put, List.getElem_toArray, List.getElem_cons_zero, List.getElem_cons_succ, List.setIfInBounds_toArray, List.set_cons_zero, List.set_cons_succ])
        refine wpAnyH_take (i := 6) (v := ?v6_39) rfl (by kernel_rfl) (by kernel_rfl) (by kernel_rfl) (fun _ _ _ h => h) (Or.inl ⟨by rfl, ?hy6_39⟩) hHeld ?_
        case hy6_39 => (intro w hSw; (try dsimp only at hSw); have q0 := hcell2 _ hSw; (try simp only [List.getElem_toArray, List.getElem_cons_zero, List.getElem_cons_succ]); go_simp <;> with_reducible rfl)
        (try simp only [Act.put, List.getElem_toArray, List.getElem_cons_zero, List.getElem_cons_succ, List.setIfInBounds_toArray, List.set_cons_zero, List.set_cons_succ])
        refine wpAnyH_take (i := 7) (v := ?v7_40) rfl (by kernel_rfl) (by kernel_rfl) (by kernel_rfl) (fun _ _ _ h => h) (Or.inl ⟨by rfl, ?hy7_40⟩) hHeld ?_
        case hy7_40 => (intro w hSw; (try dsimp only at hSw); have q0 := hcell2 _ hSw; (try simp only [List.getElem_toArray, List.getElem_cons_zero, List.getElem_cons_succ]); go_simp <;> with_reducible rfl)
        (try simp only [Act.put, List.getElem_toArray, List.getElem_cons_zero, List.getElem_cons_succ, List.setIfInBounds_toArray, List.set_cons_zero, List.set_cons_succ])
        refine wpAnyH_take (i := 8) (v := ?v8_41) rfl (by kernel_rfl) (by kernel_rfl) (by kernel_rfl) (fun _ _ _ h => h) (Or.inl ⟨by rfl, ?hy8_41⟩) hHeld ?_
        case hy8_41 => (intro w hSw; (try dsimp only at hSw); have q0 := hcell2 _ hSw; (try simp only [List.getElem_toArray, List.getElem_cons_zero, List.getElem_cons_succ]); go_simp <;> with_reducible rfl)
        (try simp only [Act.put, List.getElem_toArray, List.getElem_cons_zero, List.getElem_cons_succ, List.setIfInBounds_toArray, List.set_cons_zero, List.set_cons_succ])
        refine wpAnyH_take (i := 9) (v := undef) rfl (by kernel_rfl) (by kernel_rfl) (by kernel_rfl) (fun _ _ _ h => h) (Or.inr ⟨by rfl, rfl⟩) hHeld ?_
        (try simp only [Act.put, List.getElem_toArray, List.getElem_cons_zero, List.getElem_cons_succ, List.setIfInBounds_toArray, List.set_cons_zero, List.set_cons_succ])
        refine wpAnyH_take (i := 10) (v := undef) rfl (by kernel_rfl) (by kernel_rfl) (by kernel_rfl) (fun _ _ _ h => h) (Or.inr ⟨by rfl, rfl⟩) hHeld ?_
        (try simp only [Act.put, List.getElem_toArray, List.getElem_cons_zero, List.getElem_cons_succ, List.setIfInBounds_toArray, List.set_cons_zero, List.set_cons_succ])
        refine wpAnyH_take (i := 11) (v := undef) rfl (by kernel_rfl) (by kernel_rfl) (by kernel_rfl) (fun _ _ _ h => h) (Or.inr ⟨by rfl, rfl⟩) hHeld ?_
        (try simp only [Act.put, List.getElem_toArray, List.getElem_cons_zero, List.getElem_cons_succ, List.setIfInBounds_toArray, List.set_cons_zero, List.set_cons_succ])
        refine wpAnyH_take (i := 12) (v := undef) rfl (by kernel_rfl) (by kernel_rfl) (by kernel_rfl) (fun _ _ _ h => h) (Or.inr ⟨by rfl, rfl⟩) hHeld ?_
        (try simp only [Act.put, List.getElem_toArray, List.getElem_cons_zero, List.getElem_cons_succ, List.setIfInBounds_toArray, List.set_cons_zero, List.set_cons_succ])
        refine wpAnyH_take (i := 13) (v := undef) rfl (by kernel_rfl) (by kernel_rfl) (by kernel_rfl) (fun _ _ _ h => h) (Or.inr ⟨by rfl, rfl⟩) hHeld ?_
        (try simp only [Act.put, List.getElem_toArray, List.getElem_cons_zero, List.getElem_cons_succ, List.setIfInBounds_toArray, List.set_cons_zero, List.set_cons_succ])
        refine wpAnyH_take (i := 14) (v := undef) rfl (by kernel_rfl) (by kernel_rfl) (by kernel_rfl) (fun _ _ _ h => h) (Or.inr ⟨by rfl, rfl⟩) hHeld ?_
        (try simp only [Act.put, List.getElem_toArray, List.getElem_cons_zero, List.getElem_cons_succ, List.setIfInBounds_toArray, List.set_cons_zero, List.set_cons_succ])
        refine wpAnyH_take (i := 15) (v := undef) rfl (by kernel_rfl) (by kernel_rfl) (by kernel_rfl) (fun _ _ _ h => h) (Or.inr ⟨by rfl, rfl⟩) hHeld ?_
        (try simp only [Act.put, List.getElem_toArray, List.getElem_cons_zero, List.getElem_cons_succ, List.setIfInBounds_toArray, List.set_cons_zero, List.set_cons_succ])
        refine wpAnyH_take (i := 16) (v := undef) rfl (by kernel_rfl) (by kernel_rfl) (by kernel_rfl) (fun _ _ _ h => h) (Or.inr ⟨by rfl, rfl⟩) hHeld ?_
        (try simp only [Act.put, List.getElem_toArray, List.getElem_cons_zero, List.getElem_cons_succ, List.setIfInBounds_toArray, List.set_cons_zero, List.set_cons_succ])
        refine wpAnyH_take (i := 17) (v := undef) rfl (by kernel_rfl) (by kernel_rfl) (by kernel_rfl) (fun _ _ _ h => h) (Or.inr ⟨by rfl, rfl⟩) hHeld ?_
        (try simp only [Act.put, List.getElem_toArray, List.getElem_cons_zero, List.getElem_cons_succ, List.setIfInBounds_toArray, List.set_cons_zero, List.set_cons_succ])
        refine wpAnyH_take (i := 18) (v := undef) rfl (by kernel_rfl) (by kernel_rfl) (by kernel_rfl) (fun _ _ _ h => h) (Or.inr ⟨by rfl, rfl⟩) hHeld ?_
        (try simp only [Act.put, List.getElem_toArray, List.getElem_cons_zero, List.getElem_cons_succ, List.setIfInBounds_toArray, List.set_cons_zero, List.set_cons_succ])
        refine wpAnyH_take (i := 19) (v := undef) rfl (by kernel_rfl) (by kernel_rfl) (by kernel_rfl) (fun _ _ _ h => h) (Or.inr ⟨by rfl, rfl⟩) hHeld ?_
        (try simp only [Act.put, List.getElem_toArray, List.getElem_cons_zero, List.getElem_cons_succ, List.setIfInBounds_toArray, List.set_cons_zero, List.set_cons_succ])
        refine wpAnyH_take (i := 20) (v := undef) rfl (by kernel_rfl) (by kernel_rfl) (by kernel_rfl) (fun _ _ _ h => h) (Or.inr ⟨by rfl, rfl⟩) hHeld ?_
        (try simp only [Act.put, List.getElem_toArray, List.getElem_cons_zero, List.getElem_cons_succ, List.setIfInBounds_toArray, List.set_cons_zero, List.set_cons_succ])
        refine wpAnyH_take (i := 21) (v := undef) rfl (by kernel_rfl) (by kernel_rfl) (by kernel_rfl) (fun _ _ _ h => h) (Or.inr ⟨by rfl, rfl⟩) hHeld ?_
        (try simp only [Act.put, List.getElem_toArray, List.getElem_cons_zero, List.getElem_cons_succ, List.setIfInBounds_toArray, List.set_cons_zero, List.set_cons_succ])
        refine wpAnyH_take (i := 22) (v := undef) rfl (by kernel_rfl) (by kernel_rfl) (by kernel_rfl) (fun _ _ _ h => h) (Or.inr ⟨by rfl, rfl⟩) hHeld ?_
        (try simp only [Act.put, List.getElem_toArray, List.getElem_cons_zero, List.getElem_cons_succ, List.setIfInBounds_toArray, List.set_cons_zero, List.set_cons_succ])
        refine wpAnyH_take (i := 23) (v := undef) rfl (by kernel_rfl) (by kernel_rfl) (by kernel_rfl) (fun _ _ _ h => h) (Or.inr ⟨by rfl, rfl⟩) hHeld ?_
        (try simp only [Act.put, List.getElem_toArray, List.getElem_cons_zero, List.getElem_cons_succ, List.setIfInBounds_toArray, List.set_cons_zero, List.set_cons_succ])
        refine wpAnyH_take (i := 24) (v := undef) rfl (by kernel_rfl) (by kernel_rfl) (by kernel_rfl) (fun _ _ _ h => h) (Or.inr ⟨by rfl, rfl⟩) hHeld ?_
        (try simp only [Act.put, List.getElem_toArray, List.getElem_cons_zero, List.getElem_cons_succ, List.setIfInBounds_toArray, List.set_cons_zero, List.set_cons_succ])
        refine wpAnyH_take (i := 25) (v := undef) rfl (by kernel_rfl) (by kernel_rfl) (by kernel_rfl) (fun _ _ _ h => h) (Or.inr ⟨by rfl, rfl⟩) hHeld ?_
        (try simp only [Act.put, List.getElem_toArray, List.getElem_cons_zero, List.getElem_cons_succ, List.setIfInBounds_toArray, List.set_cons_zero, List.set_cons_succ])
        refine wpAnyH_take (i := 26) (v := undef) rfl (by kernel_rfl) (by kernel_rfl) (by kernel_rfl) (fun _ _ _ h => h) (Or.inr ⟨by rfl, rfl⟩) hHeld ?_
        (try simp only [Act.put, List.getElem_toArray, List.getElem_cons_zero, List.getElem_cons_succ, List.setIfInBounds_toArray, List.set_cons_zero, List.set_cons_succ])
        refine wpAnyH_take (i := 27) (v := undef) rfl (by kernel_rfl) (by kernel_rfl) (by kernel_rfl) (fun _ _ _ h => h) (Or.inr ⟨by rfl, rfl⟩) hHeld ?_
        (try simp only [Act.put, List.getElem_toArray, List.getElem_cons_zero, List.getElem_cons_succ, List.setIfInBounds_toArray, List.set_cons_zero, List.set_cons_succ])
        refine wpAnyH_take (i := 28) (v := ?v28_42) rfl (by kernel_rfl) (by kernel_rfl) (by kernel_rfl) (fun _ _ _ h => h) (Or.inl ⟨by rfl, ?hy28_42⟩) hHeld ?_
        case hy28_42 => (intro w hSw; (try dsimp only at hSw); have q0 := hcell2 _ hSw; (try simp only [List.getElem_toArray, List.getElem_cons_zero, List.getElem_cons_succ]); go_simp <;> with_reducible rfl)
        (try simp only [Act.put, List.getElem_toArray, List.getElem_cons_zero, List.getElem_cons_succ, List.setIfInBounds_toArray, List.set_cons_zero, List.set_cons_succ])
        refine wpAnyH_take (i := 29) (v := ?v29_43) rfl (by kernel_rfl) (by kernel_rfl) (by kernel_rfl) (fun _ _ _ h => h) (Or.inl ⟨by rfl, ?hy29_43⟩) hHeld ?_
        case hy29_43 => (intro w hSw; (try dsimp only at hSw); have q0 := hcell2 _ hSw; (try simp only [List.getElem_toArray, List.getElem_cons_zero, List.getElem_cons_succ]); go_simp <;> with_reducible rfl)
        (try simp only [Act.put, List.getElem_toArray, List.getElem_cons_zero, List.getElem_cons_succ, List.setIfInBounds_toArray, List.set_cons_zero, List.set_cons_succ])
        refine wpAnyH_done (by kernel_rfl) ?_ _
        go_wp2_with fail
        go_ret
        exact ⟨rfl, K21.out.bel⟩
      · skip
        have hw : IntKind.i64.wrap ((na : Int) + 1) = ((na + 1 : Nat) : Int) := by rw [IntKind.wrap_i64]; omega
        obtain ⟨kk, hkk⟩ : ∃ kk : Nat, kk = na + 1 := ⟨_, rfl⟩
        rw [← hkk] at hw
        have hkk255 : kk ≤ 255 := by omega
        have HID : Hid (idN (L0.drop 4) kk = (UInt8.ofNat na :: x0.a, 0)) := Lib.hid (by rw [HLL.out, id_some x0.pl HG.out kk (by omega) (by have : x0.a.length = na := HNA.out; show kk ≤ x0.a.length + 1; omega)]; show ((UInt8.ofNat x0.a.length :: x0.a).take kk, (0 : Int)) = _; rw [HNA.out, List.take_of_length_le (by have : x0.a.length = na := HNA.out; simp only [List.length_cons]; omega)])
        have HKK := Lib.hid hkk
        clear hkk
        refine wp_region_held_drew (S := fun w' => Hc 27 w' q0 x0) (by kernel_rfl) KB19.out (fun hHeld => ?_)
        (try dsimp only at hHeld)
        refine wpAnyH_take (i := 0) (v := ?v0_44) rfl (by kernel_rfl) (by kernel_rfl) (by kernel_rfl) (fun _ _ _ h => h) (Or.inl ⟨by rfl, ?hy0_44⟩) hHeld ?_
        case hy0_44 => (intro w hSw; (try dsimp only at hSw); have q0 := hcell2 _ hSw; (try simp only [List.getElem_toArray, List.getElem_cons_zero, List.getElem_cons_succ]); go_simp <;> with_reducible rfl)
        (try simp only [Act.put, List.getElem_toArray, List.getElem_cons_zero, List.getElem_cons_succ, List.setIfInBounds_toArray, List.set_cons_zero, List.set_cons_succ])
        refine wpAnyH_take (i := 1) (v := ?v1_45) rfl (by kernel_rfl) (by kernel_rfl) (by kernel_rfl) (fun _ _ _ h => h) (Or.inl ⟨by rfl, ?hy1_45⟩) hHeld ?_
        case hy1_45 => (intro w hSw; (try dsimp only at hSw); have q0 := hcell2 _ hSw; (try simp only [List.getElem_toArray, List.getElem_cons_zero, List.getElem_cons_succ]); go_simp <;> with_reducible rfl)
        (try simp only [Act.put, List.getElem_toArray, List.getElem_cons_zero, List.getElem_cons_succ, List.setIfInBounds_toArray, List.set_cons_zero, List.set_cons_succ])
        refine wpAnyH_take (i := 2) (v := ?v2_46) rfl (by kernel_rfl) (by kernel_rfl) (by kernel_rfl) (fun _ _ _ h => h) (Or.inl ⟨by rfl, ?hy2_46⟩) hHeld ?_
        case hy2_46 => (intro w hSw; (try dsimp only at hSw); have q0 := hcell2 _ hSw; (try simp only [List.getElem_toArray, List.getElem_cons_zero, List.getElem_cons_succ]); go_simp <;> with_reducible rfl)
        (try simp only [Act.put, List.getElem_toArray, List.getElem_cons_zero, List.getElem_cons_succ, List.setIfInBounds_toArray, List.set_cons_zero, List.set_cons_succ])
        refine wpAnyH_take (i := 3) (v := ?v3_47) rfl (by kernel_rfl) (by kernel_rfl) (by kernel_rfl) (fun _ _ _ h => h) (Or.inl ⟨by rfl, ?hy3_47⟩) hHeld ?_
        case hy3_47 => (intro w hSw; (try dsimp only at hSw); have q0 := hcell2 _ hSw; (try simp only [List.getElem_toArray, List.getElem_cons_zero, List.getElem_cons_succ]); go_simp <;> with_reducible rfl)
        (try simp only [Act.put, List.getElem_toArray, List.getElem_cons_zero, List.getElem_cons_succ, List.setIfInBounds_toArray, List.set_cons_zero, List.set_cons_succ])
        refine wpAnyH_take (i := 4) (v := ?v4_48) rfl (by kernel_rfl) (by kernel_rfl) (by kernel_rfl) (fun _ _ _ h => h) (Or.inl ⟨by rfl, ?hy4_48⟩) hHeld ?_
        case hy4_48 => (intro w hSw; (try dsimp only at hSw); have q0 := hcell2 _ hSw; (try simp only [List.getElem_toArray, List.getElem_cons_zero, List.getElem_cons_succ]); go_simp <;> with_reducible rfl)
        (try simp only [Act.put, List.getElem_toArray, List.getElem_cons_zero, List.getElem_cons_succ, List.setIfInBounds_toArray, List.set_cons_zero, List.set_cons_succ])
        refine wpAnyH_take (i := 5) (v := ?v5_49) rfl (by kernel_rfl) (by kernel_rfl) (by kernel_rfl) (fun _ _ _ h => h) (Or.inl ⟨by rfl, ?hy5_49⟩) hHeld ?_
        case hy5_49 => (intro w hSw; (try dsimp only at hSw); have q0 := hcell2 _ hSw; (try simp only [List.getElem_toArray, List.getElem_cons_zero, List.getElem_cons_succ]); go_simp <;> with_reducible rfl)
        (try simp only [Act.put, List.getElem_toArray, List.getElem_cons_zero, List.getElem_cons_succ, List.setIfInBounds_toArray, List.set_cons_zero, List.set_cons_succ])
        refine wpAnyH_take (i := 6) (v := ?v6_50) rfl (by kernel_rfl) (by kernel_rfl) (by kernel_rfl) (fun _ _ _ h => h) (Or.inl ⟨by rfl, ?hy6_50⟩) hHeld ?_
        case hy6_50 => (intro w hSw; (try dsimp only at hSw); have q0 := hcell2 _ hSw; (try simp only [List.getElem_toArray, List.getElem_cons_zero, List.getElem_cons_succ]); go_simp <;> with_reducible rfl)
        (try simp only [Act.put, List.getElem_toArray, List.getElem_cons_zero, List.getElem_cons_succ, List.setIfInBounds_toArray, List.set_cons_zero, List.set_cons_succ])
        refine wpAnyH_ready (rs := [7]) (by kernel_rfl) (by simp) ?_
        refine AllReadyH.cons rfl (fun K hK => ?_) AllReadyH.nil
        (try simp only [List.getElem_toArray, List.getElem_cons_zero, List.getElem_cons_succ])
        go_simp
        rw [show (if (255 : Int) < (kk : Int) then (255 : Int) else (kk : Int)) = (kk : Int) from if_neg (by omega)]
        refine (hid_any (cutA A4 c4 4) (j - 4) (c4 - 4) (L0.drop 4) kk _ (by exact HPA.out) (by have h1 := HC4.out; simp only at h1; omega) (by omega)).mono ?_
        rw [HID.out]
        rintro e w20 ⟨A20, c20, rfl, ho, hb⟩
        have K20 := Lib.hid (K19.out.own hb ho)
        have O20 := Lib.hid ho
        clear ho hb
        (try go_wp2_with fail)
        refine hK.out _ _ (K20.out.box (27, q0, x0) (by simp)) (fun hHeld => ?_)
        clear hK K
        (try simp only [Act.put, List.getElem_toArray, List.getElem_cons_zero, List.getElem_cons_succ, List.setIfInBounds_toArray, List.set_cons_zero, List.set_cons_succ])
        refine wpAnyH_take (i := 8) (v := ?v8_51) rfl (by kernel_rfl) (by kernel_rfl) (by kernel_rfl) (fun _ _ _ h => h) (Or.inl ⟨by rfl, ?hy8_51⟩) hHeld ?_
        case hy8_51 => (intro w hSw; (try dsimp only at hSw); have q0 := hcell2 _ hSw; (try simp only [List.getElem_toArray, List.getElem_cons_zero, List.getElem_cons_succ]); go_simp <;> with_reducible rfl)
        (try simp only [Act.put, List.getElem_toArray, List.getElem_cons_zero, List.getElem_cons_succ, List.setIfInBounds_toArray, List.set_cons_zero, List.set_cons_succ])
        refine wpAnyH_take (i := 9) (v := ?v9_52) rfl (by kernel_rfl) (by kernel_rfl) (by kernel_rfl) (fun _ _ _ h => h) (Or.inl ⟨by rfl, ?hy9_52⟩) hHeld ?_
        case hy9_52 => (intro w hSw; (try dsimp only at hSw); have q0 := hcell2 _ hSw; (try simp only [List.getElem_toArray, List.getElem_cons_zero, List.getElem_cons_succ]); go_simp <;> with_reducible rfl)
        (try simp only [Act.put, List.getElem_toArray, List.getElem_cons_zero, List.getElem_cons_succ, List.setIfInBounds_toArray, List.set_cons_zero, List.set_cons_succ])
        refine wpAnyH_take (i := 10) (v := ?v10_53) rfl (by kernel_rfl) (by kernel_rfl) (by kernel_rfl) (fun _ _ _ h => h) (Or.inl ⟨by rfl, ?hy10_53⟩) hHeld ?_
        case hy10_53 => (intro w hSw; (try dsimp only at hSw); have q0 := hcell2 _ hSw; (try simp only [List.getElem_toArray, List.getElem_cons_zero, List.getElem_cons_succ]); go_simp <;> with_reducible rfl)
        (try simp only [Act.put, List.getElem_toArray, List.getElem_cons_zero, List.getElem_cons_succ, List.setIfInBounds_toArray, List.set_cons_zero, List.set_cons_succ])
        refine wpAnyH_take (i := 11) (v := ?v11_54) rfl (by kernel_rfl) (by kernel_rfl) (by kernel_rfl) (fun _ _ _ h => h) (Or.inl ⟨by rfl, ?hy11_54⟩) hHeld ?_
        case hy11_54 => (intro w hSw; (try dsimp only at hSw); have q0 := hcell2 _ hSw; (try simp only [List.getElem_toArray, List.getElem_cons_zero, List.getElem_cons_succ]); go_simp <;> with_reducible rfl)
        (try simp only [Act.put, List.getElem_toArray, List.getElem_cons_zero, List.getElem_cons_succ, List.setIfInBounds_toArray, List.set_cons_zero, List.set_cons_succ])
        refine wpAnyH_take (i := 12) (v := ?v12_55) rfl (by kernel_rfl) (by kernel_rfl) (by kernel_rfl) (fun _ _ _ h => h) (Or.inl ⟨by rfl, ?hy12_55⟩) hHeld ?_
        case hy12_55 => (intro w hSw; (try dsimp only at hSw); have q0 := hcell2 _ hSw; (try simp only [List.getElem_toArray, List.getElem_cons_zero, List.getElem_cons_succ]); go_simp <;> with_reducible rfl)
        (try simp only [Act.put, List.getElem_toArray, List.getElem_cons_zero, List.getElem_cons_succ, List.setIfInBounds_toArray, List.set_cons_zero, List.set_cons_succ])
        refine wpAnyH_done (by kernel_rfl) ?_ _
        go_wp2_with fail
        have K21 := Lib.hid (K20.out.step (Below.refl _ _).drew)
        have hlen20 := O20.out.len
        have O21 : Hid (OwnB w20.drew wr.drew.heap.size A20 kk c20 (UInt8.ofNat na :: x0.a)) := Lib.hid (by
          have h1 : (UInt8.ofNat na :: x0.a).length = kk := by simp only [List.length_cons]; have : x0.a.length = na := HNA.out; have := HKK.out; omega
          rw [← h1]
          exact O20.out.drew)
        have hkl : (UInt8.ofNat na :: x0.a).length = kk := O21.out.len
        obtain ⟨g20, rfl, _, _⟩ := O21.out.form (by have := HKK.out; omega)
        have hc20 : w20.drew.cell? ⟨g20, 0, none⟩ = some (.int .u8 (na : Int)) := by
          have := O21.out.cellAt (j := 0) (x := UInt8.ofNat na) rfl
          rw [this]
          simp
          omega
        have hcut1 : ∀ W : World, (Instr.slice 22 (.slice (some ⟨g20, 0, none⟩) kk c20) (some (.int .i64 1)) none none).run Try.prog W = .ok (.slice (cutA (some ⟨g20, 0, none⟩) c20 1) (kk - 1) (c20 - 1)) W := cut_l _ kk c20 1 (by have := HKK.out; omega)
        have hpb := O21.out.rb.part (i := 1) (j := kk) (c := c20) (by have := HKK.out; omega) (Nat.le_refl _) O21.out.cap.1
        rw [List.take_of_length_le (by omega), show (UInt8.ofNat na :: x0.a).drop 1 = x0.a from rfl] at hpb
        have HPB := Lib.hid hpb
        have hpc := (K21.out.hd x0 (by simp)).a
        rw [HNA.out] at hpc
        have HPC := Lib.hid hpc
        have hne : ((na : Int) == 255) = false := by rw [beq_eq_false_iff_ne]; omega
        have HBX : Hc 27 w20.drew q0 x0 ∧ w20.drew.cell? ⟨g20, 0, none⟩ = some (.int .u8 (na : Int)) := ⟨K21.out.box (27, q0, x0) (by simp), hc20⟩
        rw [show x0.a.length + 1 = kk from by rw [← hkl, List.length_cons]]
        have hwn : IntKind.i64.wrap (na : Int) = (na : Int) := by rw [IntKind.wrap_i64]; omega
        have hee : ((na : Int) == (na : Int)) = true := by simp
        have kk0 : 0 < kk := by have := HKK.out; omega
        clear hpb hpc hc20 hlen20 hkl
        refine wp_region_held_drew (S := fun w' => Hc 27 w' q0 x0 ∧ w'.cell? ⟨g20, 0, none⟩ = some (.int .u8 (na : Int))) (by kernel_rfl) HBX (fun hHeld => ?_)
        (try dsimp only at hHeld)
        refine wpAnyH_take (i := 0) (v := ?v0_56) rfl (by kernel_rfl) (by kernel_rfl) (by kernel_rfl) (fun _ _ _ h => h) (Or.inl ⟨by rfl, ?hy0_56⟩) hHeld ?_
        case hy0_56 => (intro w hSw; (try dsimp only at hSw); have q0 := hcell2 _ hSw.1; have q1 := hSw.2; (try simp only [List.getElem_toArray, List.getElem_cons_zero, List.getElem_cons_succ]); go_simp <;> with_reducible rfl)
        (try simp only [Act.put, List.getElem_toArray, List.getElem_cons_zero, List.getElem_cons_succ, List.setIfInBounds_toArray, List.set_cons_zero, List.set_cons_succ])
        refine wpAnyH_take (i := 1) (v := ?v1_57) rfl (by kernel_rfl) (by kernel_rfl) (by kernel_rfl) (fun _ _ _ h => h) (Or.inl ⟨by rfl, ?hy1_57⟩) hHeld ?_
        case hy1_57 => (intro w hSw; (try dsimp only at hSw); have q0 := hcell2 _ hSw.1; have q1 := hSw.2; (try simp only [List.getElem_toArray, List.getElem_cons_zero, List.getElem_cons_succ]); go_simp <;> with_reducible rfl)
        (try simp only [Act.put, List.getElem_toArray, List.getElem_cons_zero, List.getElem_cons_succ, List.setIfInBounds_toArray, List.set_cons_zero, List.set_cons_succ])
        refine wpAnyH_take (i := 2) (v := ?v2_58) rfl (by kernel_rfl) (by kernel_rfl) (by kernel_rfl) (fun _ _ _ h => h) (Or.inl ⟨by rfl, ?hy2_58⟩) hHeld ?_
        case hy2_58 => (intro w hSw; (try dsimp only at hSw); have q0 := hcell2 _ hSw.1; have q1 := hSw.2; (try simp only [List.getElem_toArray, List.getElem_cons_zero, List.getElem_cons_succ]); go_simp <;> with_reducible rfl)
        (try simp only [Act.put, List.getElem_toArray, List.getElem_cons_zero, List.getElem_cons_succ, List.setIfInBounds_toArray, List.set_cons_zero, List.set_cons_succ])
        refine wpAnyH_take (i := 3) (v := ?v3_59) rfl (by kernel_rfl) (by kernel_rfl) (by kernel_rfl) (fun _ _ _ h => h) (Or.inl ⟨by rfl, ?hy3_59⟩) hHeld ?_
        case hy3_59 => (intro w hSw; (try dsimp only at hSw); have q0 := hcell2 _ hSw.1; have q1 := hSw.2; (try simp only [List.getElem_toArray, List.getElem_cons_zero, List.getElem_cons_succ]); go_simp <;> with_reducible rfl)
        (try simp only [Act.put, List.getElem_toArray, List.getElem_cons_zero, List.getElem_cons_succ, List.setIfInBounds_toArray, List.set_cons_zero, List.set_cons_succ])
        refine wpAnyH_take (i := 4) (v := ?v4_60) rfl (by kernel_rfl) (by kernel_rfl) (by kernel_rfl) (fun _ _ _ h => h) (Or.inl ⟨by rfl, ?hy4_60⟩) hHeld ?_
        case hy4_60 => (intro w hSw; (try dsimp only at hSw); have q0 := hcell2 _ hSw.1; have q1 := hSw.2; (try simp only [List.getElem_toArray, List.getElem_cons_zero, List.getElem_cons_succ]); go_simp <;> with_reducible rfl)
        (try simp only [Act.put, List.getElem_toArray, List.getElem_cons_zero, List.getElem_cons_succ, List.setIfInBounds_toArray, List.set_cons_zero, List.set_cons_succ])
        refine wpAnyH_take (i := 5) (v := ?v5_61) rfl (by kernel_rfl) (by kernel_rfl) (by kernel_rfl) (fun _ _ _ h => h) (Or.inl ⟨by rfl, ?hy5_61⟩) hHeld ?_
        case hy5_61 => (intro w hSw; (try dsimp only at hSw); have q0 := hcell2 _ hSw.1; have q1 := hSw.2; (try simp only [List.getElem_toArray, List.getElem_cons_zero, List.getElem_cons_succ]); go_simp <;> with_reducible rfl)
        (try simp only [Act.put, List.getElem_toArray, List.getElem_cons_zero, List.getElem_cons_succ, List.setIfInBounds_toArray, List.set_cons_zero, List.set_cons_succ])
        refine wpAnyH_take (i := 6) (v := ?v6_62) rfl (by kernel_rfl) (by kernel_rfl) (by kernel_rfl) (fun _ _ _ h => h) (Or.inl ⟨by rfl, ?hy6_62⟩) hHeld ?_
        case hy6_62 => (intro w hSw; (try dsimp only at hSw); have q0 := hcell2 _ hSw.1; have q1 := hSw.2; (try simp only [List.getElem_toArray, List.getElem_cons_zero, List.getElem_cons_succ]); go_simp <;> with_reducible rfl)
        (try simp only [Act.put, List.getElem_toArray, List.getElem_cons_zero, List.getElem_cons_succ, List.setIfInBounds_toArray, List.set_cons_zero, List.set_cons_succ])
        refine wpAnyH_take (i := 7) (v := ?v7_63) rfl (by kernel_rfl) (by kernel_rfl) (by kernel_rfl) (fun _ _ _ h => h) (Or.inl ⟨by rfl, ?hy7_63⟩) hHeld ?_
        case hy7_63 => (intro w hSw; (try dsimp only at hSw); have q0 := hcell2 _ hSw.1; have q1 := hSw.2; (try simp only [List.getElem_toArray, List.getElem_cons_zero, List.getElem_cons_succ]); go_simp <;> with_reducible rfl)
        (try simp only [Act.put, List.getElem_toArray, List.getElem_cons_zero, List.getElem_cons_succ, List.setIfInBounds_toArray, List.set_cons_zero, List.set_cons_succ])
        refine wpAnyH_take (i := 8) (v := ?v8_64) rfl (by kernel_rfl) (by kernel_rfl) (by kernel_rfl) (fun _ _ _ h => h) (Or.inl ⟨by rfl, ?hy8_64⟩) hHeld ?_
        case hy8_64 => (intro w hSw; (try dsimp only at hSw); have q0 := hcell2 _ hSw.1; have q1 := hSw.2; (try simp only [List.getElem_toArray, List.getElem_cons_zero, List.getElem_cons_succ]); go_simp <;> with_reducible rfl)
        (try simp only [Act.put, List.getElem_toArray, List.getElem_cons_zero, List.getElem_cons_succ, List.setIfInBounds_toArray, List.set_cons_zero, List.set_cons_succ])
        refine wpAnyH_take (i := 9) (v := ?v9_65) rfl (by kernel_rfl) (by kernel_rfl) (by kernel_rfl) (fun _ _ _ h => h) (Or.inl ⟨by rfl, ?hy9_65⟩) hHeld ?_
        case hy9_65 => (intro w hSw; (try dsimp only at hSw); have q0 := hcell2 _ hSw.1; have q1 := hSw.2; (try simp only [List.getElem_toArray, List.getElem_cons_zero, List.getElem_cons_succ]); go_simp <;> with_reducible rfl)
        (try simp only [Act.put, List.getElem_toArray, List.getElem_cons_zero, List.getElem_cons_succ, List.setIfInBounds_toArray, List.set_cons_zero, List.set_cons_succ])
        refine wpAnyH_take (i := 10) (v := ?v10_66) rfl (by kernel_rfl) (by kernel_rfl) (by kernel_rfl) (fun _ _ _ h => h) (Or.inl ⟨by rfl, ?hy10_66⟩) hHeld ?_
        case hy10_66 => (intro w hSw; (try dsimp only at hSw); have q0 := hcell2 _ hSw.1; have q1 := hSw.2; (try simp only [List.getElem_toArray, List.getElem_cons_zero, List.getElem_cons_succ]); go_simp <;> with_reducible rfl)
        (try simp only [Act.put, List.getElem_toArray, List.getElem_cons_zero, List.getElem_cons_succ, List.setIfInBounds_toArray, List.set_cons_zero, List.set_cons_succ])
        refine wpAnyH_take (i := 11) (v := ?v11_67) rfl (by kernel_rfl) (by kernel_rfl) (by kernel_rfl) (fun _ _ _ h => h) (Or.inl ⟨by rfl, ?hy11_67⟩) hHeld ?_
        case hy11_67 => (intro w hSw; (try dsimp only at hSw); have q0 := hcell2 _ hSw.1; have q1 := hSw.2; (try simp only [List.getElem_toArray, List.getElem_cons_zero, List.getElem_cons_succ]); go_simp <;> with_reducible rfl)
        (try simp only [Act.put, List.getElem_toArray, List.getElem_cons_zero, List.getElem_cons_succ, List.setIfInBounds_toArray, List.set_cons_zero, List.set_cons_succ])
        refine wpAnyH_take (i := 12) (v := ?v12_68) rfl (by kernel_rfl) (by kernel_rfl) (by kernel_rfl) (fun _ _ _ h => h) (Or.inl ⟨by rfl, ?hy12_68⟩) hHeld ?_
        case hy12_68 => (intro w hSw; (try dsimp only at hSw); have q0 := hcell2 _ hSw.1; have q1 := hSw.2; (try simp only [List.getElem_toArray, List.getElem_cons_zero, List.getElem_cons_succ]); go_simp <;> with_reducible rfl)
        (try simp only [Act.put, List.getElem_toArray, List.getElem_cons_zero, List.getElem_cons_succ, List.setIfInBounds_toArray, List.set_cons_zero, List.set_cons_succ])
        refine wpAnyH_take (i := 13) (v := ?v13_69) rfl (by kernel_rfl) (by kernel_rfl) (by kernel_rfl) (fun _ _ _ h => h) (Or.inl ⟨by rfl, ?hy13_69⟩) hHeld ?_
        case hy13_69 => (intro w hSw; (try dsimp only at hSw); have q0 := hcell2 _ hSw.1; have q1 := hSw.2; (try simp only [List.getElem_toArray, List.getElem_cons_zero, List.getElem_cons_succ]); go_simp <;> with_reducible rfl)
        (try simp only [Act.put, List.getElem_toArray, List.getElem_cons_zero, List.getElem_cons_succ, List.setIfInBounds_toArray, List.set_cons_zero, List.set_cons_succ])
        refine wpAnyH_take (i := 14) (v := ?v14_70) rfl (by kernel_rfl) (by kernel_rfl) (by kernel_rfl) (fun _ _ _ h => h) (Or.inl ⟨by rfl, ?hy14_70⟩) hHeld ?_
        case hy14_70 => (intro w hSw; (try dsimp only at hSw); have q0 := hcell2 _ hSw.1; have q1 := hSw.2; (try simp only [List.getElem_toArray, List.getElem_cons_zero, List.getElem_cons_succ]); go_simp <;> with_reducible rfl)
        (try simp only [Act.put, List.getElem_toArray, List.getElem_cons_zero, List.getElem_cons_succ, List.setIfInBounds_toArray, List.set_cons_zero, List.set_cons_succ])
        refine wpAnyH_take (i := 15) (v := ?v15_71) rfl (by kernel_rfl) (by kernel_rfl) (by kernel_rfl) (fun _ _ _ h => h) (Or.inl ⟨by rfl, ?hy15_71⟩) hHeld ?_
        case hy15_71 => (intro w hSw; (try dsimp only at hSw); have q0 := hcell2 _ hSw.1; have q1 := hSw.2; (try simp only [List.getElem_toArray, List.getElem_cons_zero, List.getElem_cons_succ]); go_simp <;> with_reducible rfl)
        (try simp only [Act.put, List.getElem_toArray, List.getElem_cons_zero, List.getElem_cons_succ, List.setIfInBounds_toArray, List.set_cons_zero, List.set_cons_succ])
        refine wpAnyH_take (i := 16) (v := ?v16_72) rfl (by kernel_rfl) (by kernel_rfl) (by kernel_rfl) (fun _ _ _ h => h) (Or.inl ⟨by rfl, ?hy16_72⟩) hHeld ?_
        case hy16_72 => (intro w hSw; (try dsimp only at hSw); have q0 := hcell2 _ hSw.1; have q1 := hSw.2; (try simp only [List.getElem_toArray, List.getElem_cons_zero, List.getElem_cons_succ]); go_simp <;> with_reducible rfl)
        (try simp only [Act.put, List.getElem_toArray, List.getElem_cons_zero, List.getElem_cons_succ, List.setIfInBounds_toArray, List.set_cons_zero, List.set_cons_succ])
        refine wpAnyH_take (i := 17) (v := ?v17_73) rfl (by kernel_rfl) (by kernel_rfl) (by kernel_rfl) (fun _ _ _ h => h) (Or.inl ⟨by rfl, ?hy17_73⟩) hHeld ?_
        case hy17_73 => (intro w hSw; (try dsimp only at hSw); have q0 := hcell2 _ hSw.1; have q1 := hSw.2; (try simp only [List.getElem_toArray, List.getElem_cons_zero, List.getElem_cons_succ]); go_simp <;> with_reducible rfl)
        (try simp only [Act.put, List.getElem_toArray, List.getElem_cons_zero, List.getElem_cons_succ, List.setIfInBounds_toArray, List.set_cons_zero, List.set_cons_succ])
        refine wpAnyH_take (i := 18) (v := ?v18_74) rfl (by kernel_rfl) (by kernel_rfl) (by kernel_rfl) (fun _ _ _ h => h) (Or.inl ⟨by rfl, ?hy18_74⟩) hHeld ?_
        case hy18_74 => (intro w hSw; (try dsimp only at hSw); have q0 := hcell2 _ hSw.1; have q1 := hSw.2; (try simp only [List.getElem_toArray, List.getElem_cons_zero, List.getElem_cons_succ]); go_simp <;> with_reducible rfl)
        (try simp only [Act.put, List.getElem_toArray, List.getElem_cons_zero, List.getElem_cons_succ, List.setIfInBounds_toArray, List.set_cons_zero, List.set_cons_succ])
        refine wpAnyH_take (i := 19) (v := ?v19_75) rfl (by kernel_rfl) (by kernel_rfl) (by kernel_rfl) (fun _ _ _ h => h) (Or.inl ⟨by rfl, ?hy19_75⟩) hHeld ?_
        case hy19_75 => (intro w hSw; (try dsimp only at hSw); have q0 := hcell2 _ hSw.1; have q1 := hSw.2; (try simp only [List.getElem_toArray, List.getElem_cons_zero, List.getElem_cons_succ]); go_simp <;> with_reducible rfl)
        (try simp only [Act.put, List.getElem_toArray, List.getElem_cons_zero, List.getElem_cons_succ, List.setIfInBounds_toArray, List.set_cons_zero, List.set_cons_succ])
        refine wpAnyH_take (i := 20) (v := ?v20_76) rfl (by kernel_rfl) (by kernel_rfl) (by kernel_rfl) (fun _ _ _ h => h) (Or.inl ⟨by rfl, ?hy20_76⟩) hHeld ?_
        case hy20_76 => (intro w hSw; (try dsimp only at hSw); have q0 := hcell2 _ hSw.1; have q1 := hSw.2; (try simp only [List.getElem_toArray, List.getElem_cons_zero, List.getElem_cons_succ]); go_simp <;> with_reducible rfl)
        (try simp only [Act.put, List.getElem_toArray, List.getElem_cons_zero, List.getElem_cons_succ, List.setIfInBounds_toArray, List.set_cons_zero, List.set_cons_succ])
        refine wpAnyH_take (i := 21) (v := ?v21_77) rfl (by kernel_rfl) (by kernel_rfl) (by kernel_rfl) (fun _ _ _ h => h) (Or.inl ⟨by rfl, ?hy21_77⟩) hHeld ?_
        case hy21_77 => (intro w hSw; (try dsimp only at hSw); have q0 := hcell2 _ hSw.1; have q1 := hSw.2; (try simp only [List.getElem_toArray, List.getElem_cons_zero, List.getElem_cons_succ]); go_simp <;> with_reducible rfl)
        (try simp only [Act.put, List.getElem_toArray, List.getElem_cons_zero, List.getElem_cons_succ, List.setIfInBounds_toArray, List.set_cons_zero, List.set_cons_succ])
        refine wpAnyH_take (i := 22) (v := ?v22_78) rfl (by kernel_rfl) (by kernel_rfl) (by kernel_rfl) (fun _ _ _ h => h) (Or.inl ⟨by rfl, ?hy22_78⟩) hHeld ?_
        case hy22_78 => (intro w hSw; (try dsimp only at hSw); have q0 := hcell2 _ hSw.1; have q1 := hSw.2; (try simp only [List.getElem_toArray, List.getElem_cons_zero, List.getElem_cons_succ]); go_simp <;> with_reducible rfl)
        (try simp only [Act.put, List.getElem_toArray, List.getElem_cons_zero, List.getElem_cons_succ, List.setIfInBounds_toArray, List.set_cons_zero, List.set_cons_succ])
        refine wpAnyH_take (i := 23) (v := ?v23_79) rfl (by kernel_rfl) (by kernel_rfl) (by kernel_rfl) (fun _ _ _ h => h) (Or.inl ⟨by rfl, ?hy23_79⟩) hHeld ?_
        case hy23_79 => (intro w hSw; (try dsimp only at hSw); have q0 := hcell2 _ hSw.1; have q1 := hSw.2; (try simp only [List.getElem_toArray, List.getElem_cons_zero, List.getElem_cons_succ]); go_simp <;> with_reducible rfl)
        (try simp only [Act.put, List.getElem_toArray, List.getElem_cons_zero, List.getElem_cons_succ, List.setIfInBounds_toArray, List.set_cons_zero, List.set_cons_succ])
        refine wpAnyH_take (i := 24) (v := ?v24_80) rfl (by kernel_rfl) (by kernel_rfl) (by kernel_rfl) (fun _ _ _ h => h) (Or.inl ⟨by rfl, ?hy24_80⟩) hHeld ?_
        case hy24_80 => (intro w hSw; (try dsimp only at hSw); have q0 := hcell2 _ hSw.1; have q1 := hSw.2; (try simp only [List.getElem_toArray, List.getElem_cons_zero, List.getElem_cons_succ]); go_simp <;> with_reducible rfl)
        (try simp only [Act.put, List.getElem_toArray, List.getElem_cons_zero, List.getElem_cons_succ, List.setIfInBounds_toArray, List.set_cons_zero, List.set_cons_succ])
        refine wpAnyH_take (i := 25) (v := ?v25_81) rfl (by kernel_rfl) (by kernel_rfl) (by kernel_rfl) (fun _ _ _ h => h) (Or.inl ⟨by rfl, ?hy25_81⟩) hHeld ?_
        case hy25_81 => (intro w hSw; (try dsimp only at hSw); have q0 := hcell2 _ hSw.1; have q1 := hSw.2; (try simp only [List.getElem_toArray, List.getElem_cons_zero, List.getElem_cons_succ]); go_simp <;> with_reducible rfl)
        (try simp only [Act.put, List.getElem_toArray, List.getElem_cons_zero, List.getElem_cons_succ, List.setIfInBounds_toArray, List.set_cons_zero, List.set_cons_succ])
        refine wpAnyH_ready (rs := [26]) (by kernel_rfl) (by simp) ?_
        refine AllReadyH.cons rfl (fun K hK => ?_) AllReadyH.nil
        (try simp only [List.getElem_toArray, List.getElem_cons_zero, List.getElem_cons_succ])
        go_simp
        refine (al_same _ _ _ _ _ _ x0.a x0.a _ (by exact HPB.out) (by exact HPC.out) (by unfold maxLen; omega) (by unfold maxLen; omega) true (by simp)).mono ?_
        rintro e w22 ⟨rfl, hb⟩
        have K22 := Lib.hid (K21.out.step hb)
        have hcc : w22.cell? ⟨g20, 0, none⟩ = some (.int .u8 (na : Int)) := (hb.cell (p := ⟨g20, 0, none⟩) (World.block_lt_of_cell? _ _ HBX.2)).trans HBX.2
        clear hb
        (try go_wp2_with fail)
        refine hK.out _ _ ⟨K22.out.box (27, q0, x0) (by simp), hcc⟩ (fun hHeld => ?_)
        clear hK K
        (try simp only [Act.put, List.getElem_toArray, List.getElem_cons_zero, List.getElem_cons_succ, List.setIfInBounds_toArray, List.set_cons_zero, List.set_cons_succ])
        refine wpAnyH_take (i := 27) (v := ?v27_82) rfl (by kernel_rfl) (by kernel_rfl) (by kernel_rfl) (fun _ _ _ h => h) (Or.inl ⟨by rfl, ?hy27_82⟩) hHeld ?_
        case hy27_82 => (intro w hSw; (try dsimp only at hSw); have q0 := hcell2 _ hSw.1; have q1 := hSw.2; (try simp only [List.getElem_toArray, List.getElem_cons_zero, List.getElem_cons_succ]); go_simp <;> with_reducible rfl)
        (try simp only [Act.put, List.getElem_toArray, List.getElem_cons_zero, List.getElem_cons_succ, List.setIfInBounds_toArray, List.set_cons_zero, List.set_cons_succ])
        refine wpAnyH_take (i := 28) (v := ?v28_83) rfl (by kernel_rfl) (by kernel_rfl) (by kernel_rfl) (fun _ _ _ h => h) (Or.inl ⟨by rfl, ?hy28_83⟩) hHeld ?_
        case hy28_83 => (intro w hSw; (try dsimp only at hSw); have q0 := hcell2 _ hSw.1; have q1 := hSw.2; (try simp only [List.getElem_toArray, List.getElem_cons_zero, List.getElem_cons_succ]); go_simp <;> with_reducible rfl)
        (try simp only [Act.put, List.getElem_toArray, List.getElem_cons_zero, List.getElem_cons_succ, List.setIfInBounds_toArray, List.set_cons_zero, List.set_cons_succ])
        refine wpAnyH_take (i := 29) (v := ?v29_84) rfl (by kernel_rfl) (by kernel_rfl) (by kernel_rfl) (fun _ _ _ h => h) (Or.inl ⟨by rfl, ?hy29_84⟩) hHeld ?_
        case hy29_84 => (intro w hSw; (try dsimp only at hSw); have q0 := hcell2 _ hSw.1; have q1 := hSw.2; (try simp only [List.getElem_toArray, List.getElem_cons_zero, List.getElem_cons_succ]); go_simp <;> with_reducible rfl)
        (try simp only [Act.put, List.getElem_toArray, List.getElem_cons_zero, List.getElem_cons_succ, List.setIfInBounds_toArray, List.set_cons_zero, List.set_cons_succ])
        refine wpAnyH_done (by kernel_rfl) ?_ _
        go_wp2_with fail
        go_ret
        exact ⟨rfl, K22.out.bel⟩
end Go.Proofs.Ytpkombfiejdflaa
