/- Layer 10's statement HeadApart, walked. No condition. -/
import Derived.Test.YtpkombfiejdflaaHeadL
namespace Go.Proofs.Ytpkombfiejdflaa
open Go.RowKit
set_option linter.unusedVariables false
set_option linter.unusedSimpArgs false
attribute [local irreducible] prs byt idN longL rawP
attribute [local go_sem ↓] ex_ldHd ex_stHd ex_ldHr ex_stHr

set_option maxRecDepth 100000 in
set_option maxHeartbeats 8000000 in
theorem HeadApart_walk (x0 : Hd) (x1 : Hd) (A2 : Option Addr) (n2 c2 : Nat) (l2 : List UInt8) (A3 : Option Addr) (n3 c3 : Nat) (l3 : List UInt8) (w : World) (h0 : x0.ok w) (h1 : x1.ok w) (h2 : RB w w.heap.size A2 n2 l2) (m2 : n2 ≤ c2 ∧ c2 ≤ maxLen) (h3 : RB w w.heap.size A3 n3 l3) (m3 : n3 ≤ c3 ∧ c3 ≤ maxLen) :
    Calls Try.prog 6 #[x0.val, x1.val, .slice A2 n2 c2, .slice A3 n3 c3] w fun e w' => e = .returned (.bool true) ∧ Below w.heap.size w w' := by
  have hl2 := h2.len
  have hl3 := h3.len
  have K0 := Lib.hid ((((KW.start w).add h2 m2.1 m2.2).add h3 m3.1 m3.2).addh h0 |>.addh h1)
  have v0 := h0.v32
  have v1 := h1.v32
  have HL := Lib.hid (And.intro hl2 hl3)
  clear h0 h1 h2 h3 hl2 hl3
  by_cases t1 : 255 < x0.a.length
  · have dt1 : decide (255 < (x0.a.length : Int)) = true := decide_eq_true (by omega)
    go_enter Try.func6, Try.ntmps6
    go_wp2_with (first
      | (with_reducible show wpList _ _ _ (⟨_, .box _ (.tmp 0), _, _, _, none⟩ :: _) _ _; refine wpList_boxN rfl _ (.tmp 0) rfl x0 rfl ?_; intro w1 q0 hc1 hb1 hx1; have K1 := Lib.hid (K0.out.boxed hc1 hb1); clear hc1 hb1 hx1 K0)
      | (with_reducible show wpList _ _ _ (⟨_, .box _ (.tmp 1), _, _, _, none⟩ :: _) _ _; refine wpList_boxN rfl _ (.tmp 1) rfl x1 rfl ?_; intro w2 q1 hc1 hb1 hx1; have K2 := Lib.hid (K1.out.boxed hc1 hb1); clear hc1 hb1 hx1 K1))
    refine (alive_any _).mono ?_
    rintro e w3 ⟨rfl, hb⟩
    have K3 := Lib.hid (K2.out.step hb)
    clear hb K2
    have a2 := (K3.out.box (27, q0, x0) (by simp)).c2
    have a3 := (K3.out.box (27, q0, x0) (by simp)).c3
    have b2 := (K3.out.box (27, q1, x1) (by simp)).c2
    have b3 := (K3.out.box (27, q1, x1) (by simp)).c3
    go_wp2_with fail
    go_ret
    exact ⟨rfl, K3.out.bel⟩
  have dt1 : decide (255 < (x0.a.length : Int)) = false := decide_eq_false (by omega)
  by_cases t2 : 255 < x0.b.length
  · have dt2 : decide (255 < (x0.b.length : Int)) = true := decide_eq_true (by omega)
    go_enter Try.func6, Try.ntmps6
    go_wp2_with (first
      | (with_reducible show wpList _ _ _ (⟨_, .box _ (.tmp 0), _, _, _, none⟩ :: _) _ _; refine wpList_boxN rfl _ (.tmp 0) rfl x0 rfl ?_; intro w1 q0 hc1 hb1 hx1; have K1 := Lib.hid (K0.out.boxed hc1 hb1); clear hc1 hb1 hx1 K0)
      | (with_reducible show wpList _ _ _ (⟨_, .box _ (.tmp 1), _, _, _, none⟩ :: _) _ _; refine wpList_boxN rfl _ (.tmp 1) rfl x1 rfl ?_; intro w2 q1 hc1 hb1 hx1; have K2 := Lib.hid (K1.out.boxed hc1 hb1); clear hc1 hb1 hx1 K1))
    refine (alive_any _).mono ?_
    rintro e w3 ⟨rfl, hb⟩
    have K3 := Lib.hid (K2.out.step hb)
    clear hb K2
    have a2 := (K3.out.box (27, q0, x0) (by simp)).c2
    have a3 := (K3.out.box (27, q0, x0) (by simp)).c3
    have b2 := (K3.out.box (27, q1, x1) (by simp)).c2
    have b3 := (K3.out.box (27, q1, x1) (by simp)).c3
    go_wp2_with fail
    go_ret
    exact ⟨rfl, K3.out.bel⟩
  have dt2 : decide (255 < (x0.b.length : Int)) = false := decide_eq_false (by omega)
  by_cases t3 : 255 < x1.a.length
  · have dt3 : decide (255 < (x1.a.length : Int)) = true := decide_eq_true (by omega)
    go_enter Try.func6, Try.ntmps6
    go_wp2_with (first
      | (with_reducible show wpList _ _ _ (⟨_, .box _ (.tmp 0), _, _, _, none⟩ :: _) _ _; refine wpList_boxN rfl _ (.tmp 0) rfl x0 rfl ?_; intro w1 q0 hc1 hb1 hx1; have K1 := Lib.hid (K0.out.boxed hc1 hb1); clear hc1 hb1 hx1 K0)
      | (with_reducible show wpList _ _ _ (⟨_, .box _ (.tmp 1), _, _, _, none⟩ :: _) _ _; refine wpList_boxN rfl _ (.tmp 1) rfl x1 rfl ?_; intro w2 q1 hc1 hb1 hx1; have K2 := Lib.hid (K1.out.boxed hc1 hb1); clear hc1 hb1 hx1 K1))
    refine (alive_any _).mono ?_
    rintro e w3 ⟨rfl, hb⟩
    have K3 := Lib.hid (K2.out.step hb)
    clear hb K2
    have a2 := (K3.out.box (27, q0, x0) (by simp)).c2
    have a3 := (K3.out.box (27, q0, x0) (by simp)).c3
    have b2 := (K3.out.box (27, q1, x1) (by simp)).c2
    have b3 := (K3.out.box (27, q1, x1) (by simp)).c3
    go_wp2_with fail
    go_ret
    exact ⟨rfl, K3.out.bel⟩
  have dt3 : decide (255 < (x1.a.length : Int)) = false := decide_eq_false (by omega)
  by_cases t4 : 255 < x1.b.length
  · have dt4 : decide (255 < (x1.b.length : Int)) = true := decide_eq_true (by omega)
    go_enter Try.func6, Try.ntmps6
    go_wp2_with (first
      | (with_reducible show wpList _ _ _ (⟨_, .box _ (.tmp 0), _, _, _, none⟩ :: _) _ _; refine wpList_boxN rfl _ (.tmp 0) rfl x0 rfl ?_; intro w1 q0 hc1 hb1 hx1; have K1 := Lib.hid (K0.out.boxed hc1 hb1); clear hc1 hb1 hx1 K0)
      | (with_reducible show wpList _ _ _ (⟨_, .box _ (.tmp 1), _, _, _, none⟩ :: _) _ _; refine wpList_boxN rfl _ (.tmp 1) rfl x1 rfl ?_; intro w2 q1 hc1 hb1 hx1; have K2 := Lib.hid (K1.out.boxed hc1 hb1); clear hc1 hb1 hx1 K1))
    refine (alive_any _).mono ?_
    rintro e w3 ⟨rfl, hb⟩
    have K3 := Lib.hid (K2.out.step hb)
    clear hb K2
    have a2 := (K3.out.box (27, q0, x0) (by simp)).c2
    have a3 := (K3.out.box (27, q0, x0) (by simp)).c3
    have b2 := (K3.out.box (27, q1, x1) (by simp)).c2
    have b3 := (K3.out.box (27, q1, x1) (by simp)).c3
    go_wp2_with fail
    go_ret
    exact ⟨rfl, K3.out.bel⟩
  have dt4 : decide (255 < (x1.b.length : Int)) = false := decide_eq_false (by omega)
  by_cases t5 : 300 < n2
  · have dt5 : decide (300 < (n2 : Int)) = true := decide_eq_true (by omega)
    go_enter Try.func6, Try.ntmps6
    go_wp2_with (first
      | (with_reducible show wpList _ _ _ (⟨_, .box _ (.tmp 0), _, _, _, none⟩ :: _) _ _; refine wpList_boxN rfl _ (.tmp 0) rfl x0 rfl ?_; intro w1 q0 hc1 hb1 hx1; have K1 := Lib.hid (K0.out.boxed hc1 hb1); clear hc1 hb1 hx1 K0)
      | (with_reducible show wpList _ _ _ (⟨_, .box _ (.tmp 1), _, _, _, none⟩ :: _) _ _; refine wpList_boxN rfl _ (.tmp 1) rfl x1 rfl ?_; intro w2 q1 hc1 hb1 hx1; have K2 := Lib.hid (K1.out.boxed hc1 hb1); clear hc1 hb1 hx1 K1))
    refine (alive_any _).mono ?_
    rintro e w3 ⟨rfl, hb⟩
    have K3 := Lib.hid (K2.out.step hb)
    clear hb K2
    have a2 := (K3.out.box (27, q0, x0) (by simp)).c2
    have a3 := (K3.out.box (27, q0, x0) (by simp)).c3
    have b2 := (K3.out.box (27, q1, x1) (by simp)).c2
    have b3 := (K3.out.box (27, q1, x1) (by simp)).c3
    go_wp2_with fail
    go_ret
    exact ⟨rfl, K3.out.bel⟩
  have dt5 : decide (300 < (n2 : Int)) = false := decide_eq_false (by omega)
  by_cases t6 : 300 < n3
  · have dt6 : decide (300 < (n3 : Int)) = true := decide_eq_true (by omega)
    go_enter Try.func6, Try.ntmps6
    go_wp2_with (first
      | (with_reducible show wpList _ _ _ (⟨_, .box _ (.tmp 0), _, _, _, none⟩ :: _) _ _; refine wpList_boxN rfl _ (.tmp 0) rfl x0 rfl ?_; intro w1 q0 hc1 hb1 hx1; have K1 := Lib.hid (K0.out.boxed hc1 hb1); clear hc1 hb1 hx1 K0)
      | (with_reducible show wpList _ _ _ (⟨_, .box _ (.tmp 1), _, _, _, none⟩ :: _) _ _; refine wpList_boxN rfl _ (.tmp 1) rfl x1 rfl ?_; intro w2 q1 hc1 hb1 hx1; have K2 := Lib.hid (K1.out.boxed hc1 hb1); clear hc1 hb1 hx1 K1))
    refine (alive_any _).mono ?_
    rintro e w3 ⟨rfl, hb⟩
    have K3 := Lib.hid (K2.out.step hb)
    clear hb K2
    have a2 := (K3.out.box (27, q0, x0) (by simp)).c2
    have a3 := (K3.out.box (27, q0, x0) (by simp)).c3
    have b2 := (K3.out.box (27, q1, x1) (by simp)).c2
    have b3 := (K3.out.box (27, q1, x1) (by simp)).c3
    go_wp2_with fail
    go_ret
    exact ⟨rfl, K3.out.bel⟩
  have dt6 : decide (300 < (n3 : Int)) = false := decide_eq_false (by omega)
  obtain ⟨L0, k0, E0, T0⟩ : ∃ L k, byt x0.pl = (L, k) ∧ Hid (L = [] ∧ k = 14 ∧ x0.f.toNat < 128 ∨ L = rawP x0.pl ∧ k = 0 ∧ Pgood x0.pl) := by
    rcases byt_cases x0.pl v0 with h | h | h
    · exact ⟨_, _, h.1, Lib.hid (.inl ⟨rfl, rfl, h.2⟩)⟩
    · rw [byt_ok x0.pl h.2 (by show ¬ (255 < x0.a.length ∨ 255 < x0.b.length); omega)] at h
      exact absurd (show (0 : Int) = 15 from congrArg Prod.snd h.1) (by decide)
    · exact ⟨_, _, h.1, Lib.hid (.inr ⟨rfl, rfl, h.2⟩)⟩
  obtain ⟨L1, k1, E1, T1⟩ : ∃ L k, byt x1.pl = (L, k) ∧ Hid (L = [] ∧ k = 14 ∧ x1.f.toNat < 128 ∨ L = rawP x1.pl ∧ k = 0 ∧ Pgood x1.pl) := by
    rcases byt_cases x1.pl v1 with h | h | h
    · exact ⟨_, _, h.1, Lib.hid (.inl ⟨rfl, rfl, h.2⟩)⟩
    · rw [byt_ok x1.pl h.2 (by show ¬ (255 < x1.a.length ∨ 255 < x1.b.length); omega)] at h
      exact absurd (show (0 : Int) = 15 from congrArg Prod.snd h.1) (by decide)
    · exact ⟨_, _, h.1, Lib.hid (.inr ⟨rfl, rfl, h.2⟩)⟩
  have HE := Lib.hid (And.intro E0 E1)
  clear E0 E1
  go_enter Try.func6, Try.ntmps6
  go_wp2_with (first
    | (with_reducible show wpList _ _ _ (⟨_, .box _ (.tmp 0), _, _, _, none⟩ :: _) _ _; refine wpList_boxN rfl _ (.tmp 0) rfl x0 rfl ?_; intro w1 q0 hc1 hb1 hx1; have K1 := Lib.hid (K0.out.boxed hc1 hb1); clear hc1 hb1 hx1 K0)
    | (with_reducible show wpList _ _ _ (⟨_, .box _ (.tmp 1), _, _, _, none⟩ :: _) _ _; refine wpList_boxN rfl _ (.tmp 1) rfl x1 rfl ?_; intro w2 q1 hc1 hb1 hx1; have K2 := Lib.hid (K1.out.boxed hc1 hb1); clear hc1 hb1 hx1 K1))
  refine (alive_any _).mono ?_
  rintro e w3 ⟨rfl, hb⟩
  have K3 := Lib.hid (K2.out.step hb)
  clear hb K2
  have a2 := (K3.out.box (27, q0, x0) (by simp)).c2
  have a3 := (K3.out.box (27, q0, x0) (by simp)).c3
  have b2 := (K3.out.box (27, q1, x1) (by simp)).c2
  have b3 := (K3.out.box (27, q1, x1) (by simp)).c3
  have ql := ldHd_m ht_head (K3.out.box (27, q0, x0) (by simp))
  go_wp2_with fail
  refine (hbytes_any x0 _ (by exact K3.out.hd x0 (by simp)) (by omega) (by omega)).mono ?_
  rw [HE.out.1]
  rintro e w4 ⟨A4, c4, rfl, ho, hb⟩
  have K4 := Lib.hid (K3.out.own hb ho)
  clear ho hb K3 ql a2 a3 b2 b3
  have ql := ldHd_m ht_head (K4.out.box (27, q1, x1) (by simp))
  go_wp2_with fail
  refine (hbytes_any x1 _ (by exact K4.out.hd x1 (by simp)) (by omega) (by omega)).mono ?_
  rw [HE.out.2]
  rintro e w5 ⟨A5, c5, rfl, ho, hb⟩
  have K5 := Lib.hid (K4.out.own hb ho)
  have a0 := (K5.out.box (27, q0, x0) (by simp)).c0
  have b0 := (K5.out.box (27, q1, x1) (by simp)).c0
  have f0 := x0.f.toNat_lt
  have f1 := x1.f.toNat_lt
  clear ho hb K4 ql
  rcases T0.out with ⟨rfl, rfl, t0⟩ | ⟨rfl, rfl, G0⟩
  · have u0 : decide ((x0.f.toNat : Int) < 128) = true := decide_eq_true (by omega)
    rcases T1.out with ⟨rfl, rfl, t1'⟩ | ⟨rfl, rfl, G1⟩
    · have u1 : decide ((x1.f.toNat : Int) < 128) = true := decide_eq_true (by omega)
      go_wp2_with fail
      go_ret
      exact ⟨rfl, K5.out.bel⟩
    · have u1 : decide ((x1.f.toNat : Int) < 128) = false := decide_eq_false (by have := G1.f; show ¬ ((x1.f.toNat : Int) < 128); have : ¬ x1.f.toNat < 128 := this; omega)
      go_wp2_with fail
      go_ret
      exact ⟨rfl, K5.out.bel⟩
  · have u0 : decide ((x0.f.toNat : Int) < 128) = false := decide_eq_false (by have : ¬ x0.f.toNat < 128 := G0.f; omega)
    rcases T1.out with ⟨rfl, rfl, t1'⟩ | ⟨rfl, rfl, G1⟩
    · have u1 : decide ((x1.f.toNat : Int) < 128) = true := decide_eq_true (by omega)
      go_wp2_with fail
      go_ret
      exact ⟨rfl, K5.out.bel⟩
    · have HG0 := Lib.hid G0
      have HG1 := Lib.hid G1
      have hinj := raw_inj G0 G1
      obtain ⟨v, hv⟩ : ∃ v, decide (x0.pl = x1.pl) = v := ⟨_, rfl⟩
      rw [hv] at hinj
      have HV := Lib.hid (And.intro hv hinj)
      have hr0 : (rawP x0.pl).length ≤ 1000 := by rw [raw_len]; have := G0.a; have := G0.b; omega
      have hr1 : (rawP x1.pl).length ≤ 1000 := by rw [raw_len]; have := G1.a; have := G1.b; omega
      have R0 := Lib.hid (prs_raw x0.pl G0)
      obtain ⟨L0, HL0⟩ : ∃ L, Hid (rawP x0.pl = L) := ⟨_, Lib.hid rfl⟩
      obtain ⟨L1, HL1⟩ : ∃ L, Hid (rawP x1.pl = L) := ⟨_, Lib.hid rfl⟩
      simp only [HL0.out, HL1.out] at K5 HV hr0 hr1 R0 ⊢
      obtain ⟨m4, hm4⟩ : ∃ m, L0.length = m := ⟨_, rfl⟩
      obtain ⟨m5, hm5⟩ : ∃ m, L1.length = m := ⟨_, rfl⟩
      simp only [hm4, hm5] at K5 hr0 hr1 ⊢
      clear G0 G1 hinj hv a0 b0 u0 hm4 hm5 T0 T1
      go_wp2_with fail
      have HCD : Hc 27 w5.drew q0 x0 ∧ Hc 27 w5.drew q1 x1 := ⟨K5.out.box (27, q0, x0) (by simp), K5.out.box (27, q1, x1) (by simp)⟩
      have K5' := Lib.hid (K5.out.step (Below.refl _ _).drew)
      clear K5
      refine wp_region_held_drew (S := fun w' => Hc 27 w' q0 x0 ∧ Hc 27 w' q1 x1) (by kernel_rfl) HCD (fun hHeld => ?_)
      (try dsimp only at hHeld)
      refine wpAnyH_take (i := 0) (v := ?v0_1) rfl (by kernel_rfl) (by kernel_rfl) (by kernel_rfl) (fun _ _ _ h => h) (Or.inl ⟨by rfl, ?hy0_1⟩) hHeld ?_
      case hy0_1 => (intro w hSw; (try dsimp only at hSw); have q0 := ldHd_m ht_head hSw.1; have q1 := ldHd_m ht_head hSw.2; (try simp only [List.getElem_toArray, List.getElem_cons_zero, List.getElem_cons_succ]); go_simp <;> with_reducible rfl)
      (try simp only [Act.put, List.getElem_toArray, List.getElem_cons_zero, List.getElem_cons_succ, List.setIfInBounds_toArray, List.set_cons_zero, List.set_cons_succ])
      refine wpAnyH_take (i := 1) (v := ?v1_2) rfl (by kernel_rfl) (by kernel_rfl) (by kernel_rfl) (fun _ _ _ h => h) (Or.inl ⟨by rfl, ?hy1_2⟩) hHeld ?_
      case hy1_2 => (intro w hSw; (try dsimp only at hSw); have q0 := ldHd_m ht_head hSw.1; have q1 := ldHd_m ht_head hSw.2; (try simp only [List.getElem_toArray, List.getElem_cons_zero, List.getElem_cons_succ]); go_simp <;> with_reducible rfl)
      (try simp only [Act.put, List.getElem_toArray, List.getElem_cons_zero, List.getElem_cons_succ, List.setIfInBounds_toArray, List.set_cons_zero, List.set_cons_succ])
      refine wpAnyH_take (i := 3) (v := ?v3_3) rfl (by kernel_rfl) (by kernel_rfl) (by kernel_rfl) (fun _ _ _ h => h) (Or.inl ⟨by rfl, ?hy3_3⟩) hHeld ?_
      case hy3_3 => (intro w hSw; (try dsimp only at hSw); have q0 := ldHd_m ht_head hSw.1; have q1 := ldHd_m ht_head hSw.2; (try simp only [List.getElem_toArray, List.getElem_cons_zero, List.getElem_cons_succ]); go_simp <;> with_reducible rfl)
      (try simp only [Act.put, List.getElem_toArray, List.getElem_cons_zero, List.getElem_cons_succ, List.setIfInBounds_toArray, List.set_cons_zero, List.set_cons_succ])
      refine wpAnyH_take (i := 4) (v := ?v4_4) rfl (by kernel_rfl) (by kernel_rfl) (by kernel_rfl) (fun _ _ _ h => h) (Or.inl ⟨by rfl, ?hy4_4⟩) hHeld ?_
      case hy4_4 => (intro w hSw; (try dsimp only at hSw); have q0 := ldHd_m ht_head hSw.1; have q1 := ldHd_m ht_head hSw.2; (try simp only [List.getElem_toArray, List.getElem_cons_zero, List.getElem_cons_succ]); go_simp <;> with_reducible rfl)
      (try simp only [Act.put, List.getElem_toArray, List.getElem_cons_zero, List.getElem_cons_succ, List.setIfInBounds_toArray, List.set_cons_zero, List.set_cons_succ])
      refine wpAnyH_ready (rs := [2]) (by kernel_rfl) (by simp) ?_
      refine AllReadyH.cons rfl (fun K hK => ?_) AllReadyH.nil
      (try simp only [List.getElem_toArray, List.getElem_cons_zero, List.getElem_cons_succ])
      go_simp
      refine (al_same _ _ _ _ _ _ L0 L1 _ (by exact (K5'.out.row (A4, m4, c4, L0) (by simp)).1) (by exact (K5'.out.row (A5, m5, c5, L1) (by simp)).1) (by unfold maxLen; omega) (by unfold maxLen; omega) v HV.out.2).mono ?_
      rintro e w6 ⟨rfl, hb⟩
      have K6 := Lib.hid (K5'.out.step hb)
      clear hb K5'
      (try go_wp2_with fail)
      refine hK.out _ _ ⟨K6.out.box (27, q0, x0) (by simp), K6.out.box (27, q1, x1) (by simp)⟩ (fun hHeld => ?_)
      clear hK K
      (try simp only [Act.put, List.getElem_toArray, List.getElem_cons_zero, List.getElem_cons_succ, List.setIfInBounds_toArray, List.set_cons_zero, List.set_cons_succ])
      refine wpAnyH_ready (rs := [5]) (by kernel_rfl) (by simp) ?_
      refine AllReadyH.cons rfl (fun K hK => ?_) AllReadyH.nil
      (try simp only [List.getElem_toArray, List.getElem_cons_zero, List.getElem_cons_succ])
      go_simp
      refine (hsame_any x0 x1 _ (by exact K6.out.hd x0 (by simp)) (by exact K6.out.hd x1 (by simp)) v HV.out.1).mono ?_
      rintro e w7 ⟨rfl, hb⟩
      have K7 := Lib.hid (K6.out.step hb)
      clear hb K6
      (try go_wp2_with fail)
      refine hK.out _ _ ⟨K7.out.box (27, q0, x0) (by simp), K7.out.box (27, q1, x1) (by simp)⟩ (fun hHeld => ?_)
      clear hK K
      (try simp only [Act.put, List.getElem_toArray, List.getElem_cons_zero, List.getElem_cons_succ, List.setIfInBounds_toArray, List.set_cons_zero, List.set_cons_succ])
      refine wpAnyH_take (i := 6) (v := ?v6_5) rfl (by kernel_rfl) (by kernel_rfl) (by kernel_rfl) (fun _ _ _ h => h) (Or.inl ⟨by rfl, ?hy6_5⟩) hHeld ?_
      case hy6_5 => (intro w hSw; (try dsimp only at hSw); have q0 := ldHd_m ht_head hSw.1; have q1 := ldHd_m ht_head hSw.2; (try simp only [List.getElem_toArray, List.getElem_cons_zero, List.getElem_cons_succ]); go_simp <;> with_reducible rfl)
      (try simp only [Act.put, List.getElem_toArray, List.getElem_cons_zero, List.getElem_cons_succ, List.setIfInBounds_toArray, List.set_cons_zero, List.set_cons_succ])
      refine wpAnyH_done (by kernel_rfl) ?_ _
      have HNV : Hid ((v != v) = false) := Lib.hid (by cases v <;> rfl)
      (try rw [HNV.out])
      go_wp2_with fail
      refine (copy_any A4 m4 c4 0 L0 _ (by exact (K7.out.row (A4, m4, c4, L0) (by simp)).1) (by omega)).mono ?_
      rintro e w8 ⟨A8, c8, rfl, ho8, hb8⟩
      have O8 := Lib.hid (And.intro ho8 hb8)
      clear ho8 hb8
      go_wp2_with (first
        | (at_builtin; refine wpList_app rfl (.tmp 92) (.tmp 93) rfl w7.heap.size A8 m4 c8 L0 rfl O8.out.1 w8.heap.size A2 n2 c2 l2 rfl (by exact ((K7.out.step O8.out.2).row (A2, n2, c2, l2) (by simp)).1) (by omega) O8.out.2.size ?_; intro A8' c8' w8' ho hg hb; have K8 := Lib.hid (K7.out.own (O8.out.2.trans hb) ho); clear ho hg hb O8 K7))
      refine (parse_any A8' (m4 + n2) c8' (L0 ++ l2) _ (by exact (K8.out.row _ (.head _)).1) (by omega)).mono ?_
      rw [R0.out]
      intro e w9 qq
      obtain ⟨g9, A9, n9, c9, rfl, hp9, hn9, kk⟩ := K8.out.hdr qq
      have J9 := Lib.hid kk
      have P9 := Lib.hid hp9
      clear qq kk hp9 K8
      obtain rfl : n2 = n9 := by rw [← hn9, ← HL.out.1]
      go_wp2_with (first
        | (with_reducible show wpList _ _ _ (⟨some 13, .alloc _, _, _, _, none⟩ :: _) _ _; refine wpList_allocN ht_head rfl rfl ?_; intro w9a y0 hc2 hb2 hx2; have H2 := Lib.hid (And.intro hc2 (And.intro hb2 hx2)); clear hc2 hb2 hx2)
        | (refine wpList_stH ht_head rfl (.tmp 13) (.tmp 96) rfl y0 rfl g9 zeroH rfl (by exact H2.out.1) ?_; intro w9b hc3 ho3 hs3; have K9 := Lib.hid (J9.out.var H2.out.2.1 H2.out.2.2 hc3 ho3); clear hc3 ho3 hs3 H2 J9))
      refine (copy_any A4 m4 c4 0 L0 _ (by exact (K9.out.row (A4, m4, c4, L0) (by simp)).1) (by omega)).mono ?_
      rintro e w10 ⟨A10, c10, rfl, ho10, hb10⟩
      have O10 := Lib.hid (And.intro ho10 hb10)
      clear ho10 hb10
      go_wp2_with (first
        | (at_builtin; refine wpList_app rfl (.tmp 101) (.tmp 102) rfl w9b.heap.size A10 m4 c10 L0 rfl O10.out.1 w10.heap.size A3 n3 c3 l3 rfl (by exact ((K9.out.step O10.out.2).row (A3, n3, c3, l3) (by simp)).1) (by omega) O10.out.2.size ?_; intro A10' c10' w10' ho hg hb; have K10 := Lib.hid (K9.out.own (O10.out.2.trans hb) ho); clear ho hg hb O10 K9))
      refine (parse_any A10' (m4 + n3) c10' (L0 ++ l3) _ (by exact (K10.out.row _ (.head _)).1) (by omega)).mono ?_
      rw [R0.out]
      intro e w11 qq
      obtain ⟨g11, A11, n11, c11, rfl, hp11, hn11, kk⟩ := K10.out.hdr qq
      have J11 := Lib.hid kk
      have P11 := Lib.hid hp11
      clear qq kk hp11 K10
      obtain rfl : n3 = n11 := by rw [← hn11, ← HL.out.2]
      go_wp2_with (first
        | (with_reducible show wpList _ _ _ (⟨some 16, .alloc _, _, _, _, none⟩ :: _) _ _; refine wpList_allocN ht_head rfl rfl ?_; intro w11a y1 hc2 hb2 hx2; have H2 := Lib.hid (And.intro hc2 (And.intro hb2 hx2)); clear hc2 hb2 hx2)
        | (refine wpList_stH ht_head rfl (.tmp 16) (.tmp 105) rfl y1 rfl g11 zeroH rfl (by exact H2.out.1) ?_; intro w11b hc3 ho3 hs3; have K11 := Lib.hid (J11.out.var H2.out.2.1 H2.out.2.2 hc3 ho3); have ql := ldHd_m ht_head (K11.out.box (27, y1, g11) (by simp)); have ql2 := ldHd_m ht_head (K11.out.box (27, y0, g9) (by simp)); clear hc3 ho3 hs3 H2 J11))
      refine (hsame_any g9 g11 _ (by exact K11.out.hd g9 (by simp)) (by exact K11.out.hd g11 (by simp)) true (decide_eq_true (by rw [P9.out, P11.out]))).mono ?_
      rintro e w12 ⟨rfl, hb⟩
      have K12 := Lib.hid (K11.out.step hb)
      clear hb K11 ql ql2
      go_wp2_with fail
      go_ret
      exact ⟨rfl, K12.out.bel⟩
end Go.Proofs.Ytpkombfiejdflaa
