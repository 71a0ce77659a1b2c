/- Layer 10's statement HeadParses, walked. No condition. -/
import Derived.Test.YtpkombfiejdflaaHeadL
namespace Go.Proofs.Ytpkombfiejdflaa
open Go.RowKit
set_option linter.unusedVariables false
set_option linter.unusedSimpArgs false
theorem prs_small (l : List UInt8) : (prs l).1.2.2.1.length ≤ 255 ∧ (prs l).1.2.2.2.length ≤ 255 := by
  by_cases h : (prs l).2.2 = 0
  · exact ⟨(prs_back h).1.a, (prs_back h).1.b⟩
  · rw [(prs_err h).1]; exact ⟨Nat.zero_le _, Nat.zero_le _⟩
theorem idN_cases (l : List UInt8) (n : Int) : ((n < 0 ∨ 255 < n) ∧ idN l n = ([], 11)) ∨ (∃ k : Nat, n = k ∧ k ≤ 255 ∧ l.length < k + 1 ∧ idN l n = ([], 12)) ∨ (∃ k : Nat, n = k ∧ k ≤ 255 ∧ k + 1 ≤ l.length ∧ idN l n = ((l.drop 1).take k, 0)) := by
  by_cases h : n < 0 ∨ 255 < n
  · exact .inl ⟨h, if_pos h⟩
  · obtain ⟨k, rfl⟩ : ∃ k : Nat, n = k := ⟨n.toNat, by omega⟩
    by_cases h1 : l.length < k + 1
    · exact .inr (.inl ⟨k, rfl, by omega, h1, (if_neg h).trans (if_pos (by omega))⟩)
    · exact .inr (.inr ⟨k, rfl, by omega, by omega, (if_neg h).trans (if_neg (by omega))⟩)
theorem idN_len (l : List UInt8) (n : Int) : (idN l n).1.length ≤ 255 := by
  rcases idN_cases l n with ⟨_, e⟩ | ⟨k, _, _, _, e⟩ | ⟨k, _, h, _, e⟩
  · rw [e]; exact Nat.zero_le _
  · rw [e]; exact Nat.zero_le _
  · rw [e]; simp only [List.length_take, List.length_drop]; omega
theorem byte_up (x : UInt8) : ∃ y : UInt8, ((x.toNat : Int) + 1) % 256 = (y.toNat : Int) := ⟨UInt8.ofNat (x.toNat + 1), by simp⟩
theorem long_nil : longL [] = false := rfl
theorem long_cons (f : UInt8) (t : List UInt8) : longL (f :: t) = decide (128 ≤ f.toNat) := rfl
attribute [local irreducible] prs byt idN longL rawP
attribute [local go_sem ↓] ex_ldHd ex_stHd ex_ldHr ex_stHr


set_option maxRecDepth 100000 in
set_option maxHeartbeats 8000000 in
theorem HeadParses_walk (A0 : Option Addr) (n0 c0 : Nat) (l0 : List UInt8) (x1 : Int) (w : World) (h0 : RB w w.heap.size A0 n0 l0) (m0 : n0 ≤ c0 ∧ c0 ≤ maxLen) (h1 : (Lit.int .i64 x1).wf = true) :
    Calls Try.prog 3 #[.slice A0 n0 c0, .int .i64 x1] w fun e w' => e = .returned (.bool true) ∧ Below w.heap.size w w' := by
  have hl := h0.len
  by_cases hn : 3000 < n0
  · have d : decide (3000 < (n0 : Int)) = true := decide_eq_true (by omega)
    go_enter Try.func3, Try.ntmps3
    go_wp2_with fail
    refine (alive_any _).mono ?_
    rintro e w1 ⟨rfl, hb⟩
    go_wp2_with fail
    go_ret
    exact ⟨rfl, hb⟩
  have d : decide (3000 < (n0 : Int)) = false := decide_eq_false (by omega)
  rcases l0 with _ | ⟨f, t⟩
  · obtain ⟨v, hv⟩ : ∃ v, longL [] = v := ⟨_, rfl⟩
    have hvf : v = false := by rw [← hv, long_nil]
    subst hvf
    obtain ⟨l0, HL0⟩ : ∃ l : List UInt8, l = [] := ⟨_, rfl⟩
    rw [← HL0] at h0 hl hv
    have hpos : decide ((0 : Int) < (n0 : Int)) = false := decide_eq_false (by rw [← hl, HL0]; decide)
    have hpos' : ¬ 0 < n0 := by rw [← hl, HL0]; decide
    clear HL0
    obtain ⟨r, HR⟩ : ∃ r, Hid (r = prs l0) := ⟨_, Lib.hid rfl⟩
    obtain ⟨di, HI⟩ : ∃ r, Hid (r = idN l0 x1) := ⟨_, Lib.hid rfl⟩
    have hsm := prs_small l0
    rw [← HR.out] at hsm
    have HSM := Lib.hid hsm
    have hid5 : di.1.length ≤ 255 := by rw [HI.out]; exact idN_len _ _
    have K0 := Lib.hid ((KW.start w).add h0 m0.1 m0.2)
    clear h0 hsm
    go_enter Try.func3, Try.ntmps3
    go_wp2_with fail
    refine (alive_any _).mono ?_
    rintro e w1 ⟨rfl, hb⟩
    have K1 := Lib.hid (K0.out.step hb)
    clear hb K0
    go_wp2_with fail
    refine (copy_any A0 n0 c0 0 l0 _ (by exact (K1.out.row _ (.head _)).1) (by omega)).mono ?_
    rintro e w2 ⟨A2, c2, rfl, ho, hb⟩
    have K2 := Lib.hid (K1.out.own hb ho)
    clear ho hb K1
    go_wp2_with fail
    refine (parse_any A2 n0 c2 l0 _ (by exact (K2.out.row _ (.head _)).1) (by omega)).mono ?_
    rw [← HR.out]
    rintro e w3 ⟨h, A3, n3, c3, rfl, hp, hho, hro, hb⟩
    have B3 := Lib.hid (bel_next K2.out.bel hb)
    have H2 := Lib.hid K2.out.bel.size
    have RO3 : Hid (RB w3 w2.heap.size A2 n0 l0 ∧ RB w3 w2.heap.size A0 n0 l0 ∧ w2.heap.size ≤ w3.heap.size) := Lib.hid ⟨((K2.out.row (A2, n0, c2, l0) (by simp)).1).below hb, ((K2.out.row (A0, n0, c0, l0) (by simp)).1).below hb, hb.size⟩
    have O3 := Lib.hid hro
    have K3 := Lib.hid (((((KW.start w3).add (RO3.out.2.1.more RO3.out.2.2) m0.1 m0.2).add (RO3.out.1.more RO3.out.2.2) (K2.out.row (A2, n0, c2, l0) (by simp)).2.1 (K2.out.row (A2, n0, c2, l0) (by simp)).2.2).add hro.rb hro.cap.1 hro.cap.2).addh hho.ok)
    have HP := Lib.hid hp
    have HN3 := Lib.hid hro.len
    clear hb hro hho hp K2
    go_wp2_with (first
      | (with_reducible show wpList _ _ _ (⟨some 6, .alloc _, _, _, _, none⟩ :: _) _ _; refine wpList_allocN ht_head rfl rfl ?_; intro w3a y0 hc2 hb2 hx2; have H2 := Lib.hid (And.intro hc2 (And.intro hb2 hx2)); clear hc2 hb2 hx2)
      | (refine wpList_stH ht_head rfl (.tmp 6) (.tmp 25) rfl y0 rfl h zeroH rfl (by exact H2.out.1) ?_; intro w3b hc3 ho3 hs3; have K4 := Lib.hid (K3.out.var H2.out.2.1 H2.out.2.2 hc3 ho3); clear hc3 ho3 hs3 H2 K3))
    refine (rparse_any A0 n0 c0 l0 _ (by exact (K4.out.row (A0, n0, c0, l0) (by simp)).1) m0 (by omega)).mono ?_
    rw [← HR.out]
    intro e w5 qq
    obtain ⟨g, A5, n5, c5, rfl, hpg, hn5, kk⟩ := K4.out.hdr qq
    obtain rfl : n3 = n5 := by rw [← hn5, HN3.out]
    have K5 := Lib.hid kk
    have HPG := Lib.hid hpg
    clear qq kk hpg
    go_wp2_with (first
      | (with_reducible show wpList _ _ _ (⟨some 9, .alloc _, _, _, _, none⟩ :: _) _ _; refine wpList_allocN ht_ref rfl rfl ?_; intro w5a y1 hc2 hb2 hx2; have H2 := Lib.hid (And.intro hc2 (And.intro hb2 hx2)); clear hc2 hb2 hx2)
      | (refine wpList_stH ht_ref rfl (.tmp 9) (.tmp 31) rfl y1 rfl g zeroH rfl (by exact H2.out.1) ?_; intro w5b hc3 ho3 hs3; have K6 := Lib.hid (K5.out.var H2.out.2.1 H2.out.2.2 hc3 ho3); clear hc3 ho3 hs3 H2 K5))
    have K6' := Lib.hid (K6.out.step (Below.refl _ _).drew)
    refine wp_region_held_drew (S := fun w' => Hc 27 w' y0 h ∧ Hc 31 w' y1 g ∧ True) (by kernel_rfl) ⟨(K6'.out.box (27, y0, h) (by simp)), (K6'.out.box (31, y1, g) (by simp)), trivial⟩ (fun hHeld => ?_)
    (try dsimp only at hHeld)
    refine wpAnyH_take (i := 0) (v := ?v0_1) rfl (by kernel_rfl) (by kernel_rfl) (by kernel_rfl) (fun _ _ _ h => h) (Or.inl ⟨by rfl, ?hy0_1⟩) hHeld ?_
    case hy0_1 => (intro w hSw; (try dsimp only at hSw); have q0 := ldHd_m ht_head hSw.1; have q1 := ldHd_m ht_ref hSw.2.1; have q2 := hSw.2.2; (try simp only [List.getElem_toArray, List.getElem_cons_zero, List.getElem_cons_succ]); go_simp <;> with_reducible rfl)
    (try simp only [Act.put, List.getElem_toArray, List.getElem_cons_zero, List.getElem_cons_succ, List.setIfInBounds_toArray, List.set_cons_zero, List.set_cons_succ])
    refine wpAnyH_take (i := 1) (v := ?v1_2) rfl (by kernel_rfl) (by kernel_rfl) (by kernel_rfl) (fun _ _ _ h => h) (Or.inl ⟨by rfl, ?hy1_2⟩) hHeld ?_
    case hy1_2 => (intro w hSw; (try dsimp only at hSw); have q0 := ldHd_m ht_head hSw.1; have q1 := ldHd_m ht_ref hSw.2.1; have q2 := hSw.2.2; (try simp only [List.getElem_toArray, List.getElem_cons_zero, List.getElem_cons_succ]); go_simp <;> with_reducible rfl)
    (try simp only [Act.put, List.getElem_toArray, List.getElem_cons_zero, List.getElem_cons_succ, List.setIfInBounds_toArray, List.set_cons_zero, List.set_cons_succ])
    refine wpAnyH_take (i := 2) (v := ?v2_3) rfl (by kernel_rfl) (by kernel_rfl) (by kernel_rfl) (fun _ _ _ h => h) (Or.inl ⟨by rfl, ?hy2_3⟩) hHeld ?_
    case hy2_3 => (intro w hSw; (try dsimp only at hSw); have q0 := ldHd_m ht_head hSw.1; have q1 := ldHd_m ht_ref hSw.2.1; have q2 := hSw.2.2; (try simp only [List.getElem_toArray, List.getElem_cons_zero, List.getElem_cons_succ]); go_simp <;> with_reducible rfl)
    (try simp only [Act.put, List.getElem_toArray, List.getElem_cons_zero, List.getElem_cons_succ, List.setIfInBounds_toArray, List.set_cons_zero, List.set_cons_succ])
    refine wpAnyH_take (i := 3) (v := ?v3_4) rfl (by kernel_rfl) (by kernel_rfl) (by kernel_rfl) (fun _ _ _ h => h) (Or.inl ⟨by rfl, ?hy3_4⟩) hHeld ?_
    case hy3_4 => (intro w hSw; (try dsimp only at hSw); have q0 := ldHd_m ht_head hSw.1; have q1 := ldHd_m ht_ref hSw.2.1; have q2 := hSw.2.2; (try simp only [List.getElem_toArray, List.getElem_cons_zero, List.getElem_cons_succ]); go_simp <;> with_reducible rfl)
    (try simp only [Act.put, List.getElem_toArray, List.getElem_cons_zero, List.getElem_cons_succ, List.setIfInBounds_toArray, List.set_cons_zero, List.set_cons_succ])
    refine wpAnyH_take (i := 4) (v := ?v4_5) rfl (by kernel_rfl) (by kernel_rfl) (by kernel_rfl) (fun _ _ _ h => h) (Or.inl ⟨by rfl, ?hy4_5⟩) hHeld ?_
    case hy4_5 => (intro w hSw; (try dsimp only at hSw); have q0 := ldHd_m ht_head hSw.1; have q1 := ldHd_m ht_ref hSw.2.1; have q2 := hSw.2.2; (try simp only [List.getElem_toArray, List.getElem_cons_zero, List.getElem_cons_succ]); go_simp <;> with_reducible rfl)
    (try simp only [Act.put, List.getElem_toArray, List.getElem_cons_zero, List.getElem_cons_succ, List.setIfInBounds_toArray, List.set_cons_zero, List.set_cons_succ])
    refine wpAnyH_take (i := 6) (v := ?v6_6) rfl (by kernel_rfl) (by kernel_rfl) (by kernel_rfl) (fun _ _ _ h => h) (Or.inl ⟨by rfl, ?hy6_6⟩) hHeld ?_
    case hy6_6 => (intro w hSw; (try dsimp only at hSw); have q0 := ldHd_m ht_head hSw.1; have q1 := ldHd_m ht_ref hSw.2.1; have q2 := hSw.2.2; (try simp only [List.getElem_toArray, List.getElem_cons_zero, List.getElem_cons_succ]); go_simp <;> with_reducible rfl)
    (try simp only [Act.put, List.getElem_toArray, List.getElem_cons_zero, List.getElem_cons_succ, List.setIfInBounds_toArray, List.set_cons_zero, List.set_cons_succ])
    refine wpAnyH_ready (rs := [5]) (by kernel_rfl) (by simp) ?_
    refine AllReadyH.cons rfl (fun K hK => ?_) AllReadyH.nil
    (try simp only [List.getElem_toArray, List.getElem_cons_zero, List.getElem_cons_succ])
    go_simp
    refine (of_any h _ (by exact K6'.out.hd h (by simp)) (by have := HSM.out.1; rw [← HP.out] at this; exact Nat.le_trans this (by decide)) (by have := HSM.out.2; rw [← HP.out] at this; exact Nat.le_trans this (by decide))).mono ?_
    rintro e w6 ⟨g6, rfl, hpl6, hown6, hb6⟩
    have K7 := Lib.hid ((K6'.out.step hb6).addh hown6.ok)
    have HP6 := Lib.hid hpl6
    clear hpl6 hown6 hb6 K6'
    (try go_wp2_with fail)
    refine hK.out _ _ ⟨(K7.out.box (27, y0, h) (by simp)), (K7.out.box (31, y1, g) (by simp)), trivial⟩ (fun hHeld => ?_)
    clear hK K
    (try simp only [Act.put, List.getElem_toArray, List.getElem_cons_zero, List.getElem_cons_succ, List.setIfInBounds_toArray, List.set_cons_zero, List.set_cons_succ])
    refine wpAnyH_ready (rs := [7]) (by kernel_rfl) (by simp) ?_
    refine AllReadyH.cons rfl (fun K hK => ?_) AllReadyH.nil
    (try simp only [List.getElem_toArray, List.getElem_cons_zero, List.getElem_cons_succ])
    go_simp
    refine (rhsame_any g6 g _ (by exact K7.out.hd g6 (by simp)) (by exact K7.out.hd g (by simp)) true (decide_eq_true (by rw [HP6.out, HP.out, HPG.out]))).mono ?_
    rintro e w7 ⟨rfl, hb7⟩
    have K8 := Lib.hid (K7.out.step hb7)
    clear hb7 K7
    (try go_wp2_with fail)
    refine hK.out _ _ ⟨(K8.out.box (27, y0, h) (by simp)), (K8.out.box (31, y1, g) (by simp)), trivial⟩ (fun hHeld => ?_)
    clear hK K
    (try simp only [Act.put, List.getElem_toArray, List.getElem_cons_zero, List.getElem_cons_succ, List.setIfInBounds_toArray, List.set_cons_zero, List.set_cons_succ])
    refine wpAnyH_take (i := 8) (v := ?v8_7) rfl (by kernel_rfl) (by kernel_rfl) (by kernel_rfl) (fun _ _ _ h => h) (Or.inl ⟨by rfl, ?hy8_7⟩) hHeld ?_
    case hy8_7 => (intro w hSw; (try dsimp only at hSw); have q0 := ldHd_m ht_head hSw.1; have q1 := ldHd_m ht_ref hSw.2.1; have q2 := hSw.2.2; (try simp only [List.getElem_toArray, List.getElem_cons_zero, List.getElem_cons_succ]); go_simp <;> with_reducible rfl)
    (try simp only [Act.put, List.getElem_toArray, List.getElem_cons_zero, List.getElem_cons_succ, List.setIfInBounds_toArray, List.set_cons_zero, List.set_cons_succ])
    refine wpAnyH_take (i := 9) (v := ?v9_8) rfl (by kernel_rfl) (by kernel_rfl) (by kernel_rfl) (fun _ _ _ h => h) (Or.inl ⟨by rfl, ?hy9_8⟩) hHeld ?_
    case hy9_8 => (intro w hSw; (try dsimp only at hSw); have q0 := ldHd_m ht_head hSw.1; have q1 := ldHd_m ht_ref hSw.2.1; have q2 := hSw.2.2; (try simp only [List.getElem_toArray, List.getElem_cons_zero, List.getElem_cons_succ]); go_simp <;> with_reducible rfl)
    (try simp only [Act.put, List.getElem_toArray, List.getElem_cons_zero, List.getElem_cons_succ, List.setIfInBounds_toArray, List.set_cons_zero, List.set_cons_succ])
    refine wpAnyH_take (i := 10) (v := ?v10_9) rfl (by kernel_rfl) (by kernel_rfl) (by kernel_rfl) (fun _ _ _ h => h) (Or.inl ⟨by rfl, ?hy10_9⟩) hHeld ?_
    case hy10_9 => (intro w hSw; (try dsimp only at hSw); have q0 := ldHd_m ht_head hSw.1; have q1 := ldHd_m ht_ref hSw.2.1; have q2 := hSw.2.2; (try simp only [List.getElem_toArray, List.getElem_cons_zero, List.getElem_cons_succ]); go_simp <;> with_reducible rfl)
    (try simp only [Act.put, List.getElem_toArray, List.getElem_cons_zero, List.getElem_cons_succ, List.setIfInBounds_toArray, List.set_cons_zero, List.set_cons_succ])
    refine wpAnyH_take (i := 11) (v := ?v11_10) rfl (by kernel_rfl) (by kernel_rfl) (by kernel_rfl) (fun _ _ _ h => h) (Or.inl ⟨by rfl, ?hy11_10⟩) hHeld ?_
    case hy11_10 => (intro w hSw; (try dsimp only at hSw); have q0 := ldHd_m ht_head hSw.1; have q1 := ldHd_m ht_ref hSw.2.1; have q2 := hSw.2.2; (try simp only [List.getElem_toArray, List.getElem_cons_zero, List.getElem_cons_succ]); go_simp <;> with_reducible rfl)
    (try simp only [Act.put, List.getElem_toArray, List.getElem_cons_zero, List.getElem_cons_succ, List.setIfInBounds_toArray, List.set_cons_zero, List.set_cons_succ])
    refine wpAnyH_take (i := 12) (v := ?v12_11) rfl (by kernel_rfl) (by kernel_rfl) (by kernel_rfl) (fun _ _ _ h => h) (Or.inl ⟨by rfl, ?hy12_11⟩) hHeld ?_
    case hy12_11 => (intro w hSw; (try dsimp only at hSw); have q0 := ldHd_m ht_head hSw.1; have q1 := ldHd_m ht_ref hSw.2.1; have q2 := hSw.2.2; (try simp only [List.getElem_toArray, List.getElem_cons_zero, List.getElem_cons_succ]); go_simp <;> with_reducible rfl)
    (try simp only [Act.put, List.getElem_toArray, List.getElem_cons_zero, List.getElem_cons_succ, List.setIfInBounds_toArray, List.set_cons_zero, List.set_cons_succ])
    refine wpAnyH_ready (rs := [13]) (by kernel_rfl) (by simp) ?_
    refine AllReadyH.cons rfl (fun K hK => ?_) AllReadyH.nil
    (try simp only [List.getElem_toArray, List.getElem_cons_zero, List.getElem_cons_succ])
    go_simp
    refine (al_same _ _ _ _ _ _ r.2.1 r.2.1 _ (by exact (K8.out.row (A3, n3, c3, r.2.1) (by simp)).1) (by exact (K8.out.row (A5, n3, c5, r.2.1) (by simp)).1) (Nat.le_trans (K8.out.row (A3, n3, c3, r.2.1) (by simp)).2.1 (K8.out.row (A3, n3, c3, r.2.1) (by simp)).2.2) (Nat.le_trans (K8.out.row (A3, n3, c3, r.2.1) (by simp)).2.1 (K8.out.row (A3, n3, c3, r.2.1) (by simp)).2.2) true (by simp)).mono ?_
    rintro e w8 ⟨rfl, hb8⟩
    have K9 := Lib.hid (K8.out.step hb8)
    clear hb8 K8
    (try go_wp2_with fail)
    refine hK.out _ _ ⟨(K9.out.box (27, y0, h) (by simp)), (K9.out.box (31, y1, g) (by simp)), trivial⟩ (fun hHeld => ?_)
    clear hK K
    (try simp only [Act.put, List.getElem_toArray, List.getElem_cons_zero, List.getElem_cons_succ, List.setIfInBounds_toArray, List.set_cons_zero, List.set_cons_succ])
    refine wpAnyH_take (i := 14) (v := ?v14_12) rfl (by kernel_rfl) (by kernel_rfl) (by kernel_rfl) (fun _ _ _ h => h) (Or.inl ⟨by rfl, ?hy14_12⟩) hHeld ?_
    case hy14_12 => (intro w hSw; (try dsimp only at hSw); have q0 := ldHd_m ht_head hSw.1; have q1 := ldHd_m ht_ref hSw.2.1; have q2 := hSw.2.2; (try simp only [List.getElem_toArray, List.getElem_cons_zero, List.getElem_cons_succ]); go_simp <;> with_reducible rfl)
    (try simp only [Act.put, List.getElem_toArray, List.getElem_cons_zero, List.getElem_cons_succ, List.setIfInBounds_toArray, List.set_cons_zero, List.set_cons_succ])
    refine wpAnyH_take (i := 15) (v := ?v15_13) rfl (by kernel_rfl) (by kernel_rfl) (by kernel_rfl) (fun _ _ _ h => h) (Or.inl ⟨by rfl, ?hy15_13⟩) hHeld ?_
    case hy15_13 => (intro w hSw; (try dsimp only at hSw); have q0 := ldHd_m ht_head hSw.1; have q1 := ldHd_m ht_ref hSw.2.1; have q2 := hSw.2.2; (try simp only [List.getElem_toArray, List.getElem_cons_zero, List.getElem_cons_succ]); go_simp <;> with_reducible rfl)
    (try simp only [Act.put, List.getElem_toArray, List.getElem_cons_zero, List.getElem_cons_succ, List.setIfInBounds_toArray, List.set_cons_zero, List.set_cons_succ])
    refine wpAnyH_take (i := 16) (v := ?v16_14) rfl (by kernel_rfl) (by kernel_rfl) (by kernel_rfl) (fun _ _ _ h => h) (Or.inl ⟨by rfl, ?hy16_14⟩) hHeld ?_
    case hy16_14 => (intro w hSw; (try dsimp only at hSw); have q0 := ldHd_m ht_head hSw.1; have q1 := ldHd_m ht_ref hSw.2.1; have q2 := hSw.2.2; (try simp only [List.getElem_toArray, List.getElem_cons_zero, List.getElem_cons_succ]); go_simp <;> with_reducible rfl)
    (try simp only [Act.put, List.getElem_toArray, List.getElem_cons_zero, List.getElem_cons_succ, List.setIfInBounds_toArray, List.set_cons_zero, List.set_cons_succ])
    refine wpAnyH_take (i := 17) (v := ?v17_15) rfl (by kernel_rfl) (by kernel_rfl) (by kernel_rfl) (fun _ _ _ h => h) (Or.inl ⟨by rfl, ?hy17_15⟩) hHeld ?_
    case hy17_15 => (intro w hSw; (try dsimp only at hSw); have q0 := ldHd_m ht_head hSw.1; have q1 := ldHd_m ht_ref hSw.2.1; have q2 := hSw.2.2; (try simp only [List.getElem_toArray, List.getElem_cons_zero, List.getElem_cons_succ]); go_simp <;> with_reducible rfl)
    (try simp only [Act.put, List.getElem_toArray, List.getElem_cons_zero, List.getElem_cons_succ, List.setIfInBounds_toArray, List.set_cons_zero, List.set_cons_succ])
    refine wpAnyH_take (i := 19) (v := ?v19_16) rfl (by kernel_rfl) (by kernel_rfl) (by kernel_rfl) (fun _ _ _ h => h) (Or.inl ⟨by rfl, ?hy19_16⟩) hHeld ?_
    case hy19_16 => (intro w hSw; (try dsimp only at hSw); have q0 := ldHd_m ht_head hSw.1; have q1 := ldHd_m ht_ref hSw.2.1; have q2 := hSw.2.2; (try simp only [List.getElem_toArray, List.getElem_cons_zero, List.getElem_cons_succ]); go_simp <;> with_reducible rfl)
    (try simp only [Act.put, List.getElem_toArray, List.getElem_cons_zero, List.getElem_cons_succ, List.setIfInBounds_toArray, List.set_cons_zero, List.set_cons_succ])
    refine wpAnyH_take (i := 20) (v := ?v20_17) rfl (by kernel_rfl) (by kernel_rfl) (by kernel_rfl) (fun _ _ _ h => h) (Or.inl ⟨by rfl, ?hy20_17⟩) hHeld ?_
    case hy20_17 => (intro w hSw; (try dsimp only at hSw); have q0 := ldHd_m ht_head hSw.1; have q1 := ldHd_m ht_ref hSw.2.1; have q2 := hSw.2.2; (try simp only [List.getElem_toArray, List.getElem_cons_zero, List.getElem_cons_succ]); go_simp <;> with_reducible rfl)
    (try simp only [Act.put, List.getElem_toArray, List.getElem_cons_zero, List.getElem_cons_succ, List.setIfInBounds_toArray, List.set_cons_zero, List.set_cons_succ])
    refine wpAnyH_take (i := 21) (v := ?v21_18) rfl (by kernel_rfl) (by kernel_rfl) (by kernel_rfl) (fun _ _ _ h => h) (Or.inl ⟨by rfl, ?hy21_18⟩) hHeld ?_
    case hy21_18 => (intro w hSw; (try dsimp only at hSw); have q0 := ldHd_m ht_head hSw.1; have q1 := ldHd_m ht_ref hSw.2.1; have q2 := hSw.2.2; (try simp only [List.getElem_toArray, List.getElem_cons_zero, List.getElem_cons_succ]); go_simp <;> with_reducible rfl)
    (try simp only [Act.put, List.getElem_toArray, List.getElem_cons_zero, List.getElem_cons_succ, List.setIfInBounds_toArray, List.set_cons_zero, List.set_cons_succ])
    refine wpAnyH_ready (rs := [18]) (by kernel_rfl) (by simp) ?_
    refine AllReadyH.cons rfl (fun K hK => ?_) AllReadyH.nil
    (try simp only [List.getElem_toArray, List.getElem_cons_zero, List.getElem_cons_succ])
    go_simp
    refine (hlong_any A2 n0 c2 l0 _ (by exact (K9.out.row (A2, n0, c2, l0) (by simp)).1) false hv).mono ?_
    rintro e w9 ⟨rfl, rfl⟩
    (try go_wp2_with fail)
    refine hK.out _ _ ⟨(K9.out.box (27, y0, h) (by simp)), (K9.out.box (31, y1, g) (by simp)), trivial⟩ (fun hHeld => ?_)
    clear hK K
    (try simp only [Act.put, List.getElem_toArray, List.getElem_cons_zero, List.getElem_cons_succ, List.setIfInBounds_toArray, List.set_cons_zero, List.set_cons_succ])
    refine wpAnyH_take (i := 22) (v := ?v22_19) rfl (by kernel_rfl) (by kernel_rfl) (by kernel_rfl) (fun _ _ _ h => h) (Or.inl ⟨by rfl, ?hy22_19⟩) hHeld ?_
    case hy22_19 => (intro w hSw; (try dsimp only at hSw); have q0 := ldHd_m ht_head hSw.1; have q1 := ldHd_m ht_ref hSw.2.1; have q2 := hSw.2.2; (try simp only [List.getElem_toArray, List.getElem_cons_zero, List.getElem_cons_succ]); go_simp <;> with_reducible rfl)
    (try simp only [Act.put, List.getElem_toArray, List.getElem_cons_zero, List.getElem_cons_succ, List.setIfInBounds_toArray, List.set_cons_zero, List.set_cons_succ])
    refine wpAnyH_take (i := 23) (v := undef) rfl (by kernel_rfl) (by kernel_rfl) (by kernel_rfl) (fun _ _ _ h => h) (Or.inr ⟨by rfl, rfl⟩) hHeld ?_
    (try simp only [Act.put, List.getElem_toArray, List.getElem_cons_zero, List.getElem_cons_succ, List.setIfInBounds_toArray, List.set_cons_zero, List.set_cons_succ])
    refine wpAnyH_take (i := 24) (v := undef) rfl (by kernel_rfl) (by kernel_rfl) (by kernel_rfl) (fun _ _ _ h => h) (Or.inr ⟨by rfl, rfl⟩) hHeld ?_
    (try simp only [Act.put, List.getElem_toArray, List.getElem_cons_zero, List.getElem_cons_succ, List.setIfInBounds_toArray, List.set_cons_zero, List.set_cons_succ])
    refine wpAnyH_take (i := 25) (v := undef) rfl (by kernel_rfl) (by kernel_rfl) (by kernel_rfl) (fun _ _ _ h => h) (Or.inr ⟨by rfl, rfl⟩) hHeld ?_
    (try simp only [Act.put, List.getElem_toArray, List.getElem_cons_zero, List.getElem_cons_succ, List.setIfInBounds_toArray, List.set_cons_zero, List.set_cons_succ])
    refine wpAnyH_take (i := 26) (v := undef) rfl (by kernel_rfl) (by kernel_rfl) (by kernel_rfl) (fun _ _ _ h => h) (Or.inr ⟨by rfl, rfl⟩) hHeld ?_
    (try simp only [Act.put, List.getElem_toArray, List.getElem_cons_zero, List.getElem_cons_succ, List.setIfInBounds_toArray, List.set_cons_zero, List.set_cons_succ])
    refine wpAnyH_take (i := 27) (v := ?v27_20) rfl (by kernel_rfl) (by kernel_rfl) (by kernel_rfl) (fun _ _ _ h => h) (Or.inl ⟨by rfl, ?hy27_20⟩) hHeld ?_
    case hy27_20 => (intro w hSw; (try dsimp only at hSw); have q0 := ldHd_m ht_head hSw.1; have q1 := ldHd_m ht_ref hSw.2.1; have q2 := hSw.2.2; (try simp only [List.getElem_toArray, List.getElem_cons_zero, List.getElem_cons_succ]); go_simp <;> with_reducible rfl)
    (try simp only [Act.put, List.getElem_toArray, List.getElem_cons_zero, List.getElem_cons_succ, List.setIfInBounds_toArray, List.set_cons_zero, List.set_cons_succ])
    refine wpAnyH_take (i := 28) (v := ?v28_21) rfl (by kernel_rfl) (by kernel_rfl) (by kernel_rfl) (fun _ _ _ h => h) (Or.inl ⟨by rfl, ?hy28_21⟩) hHeld ?_
    case hy28_21 => (intro w hSw; (try dsimp only at hSw); have q0 := ldHd_m ht_head hSw.1; have q1 := ldHd_m ht_ref hSw.2.1; have q2 := hSw.2.2; (try simp only [List.getElem_toArray, List.getElem_cons_zero, List.getElem_cons_succ]); go_simp <;> with_reducible rfl)
    (try simp only [Act.put, List.getElem_toArray, List.getElem_cons_zero, List.getElem_cons_succ, List.setIfInBounds_toArray, List.set_cons_zero, List.set_cons_succ])
    refine wpAnyH_take (i := 29) (v := ?v29_22) rfl (by kernel_rfl) (by kernel_rfl) (by kernel_rfl) (fun _ _ _ h => h) (Or.inl ⟨by rfl, ?hy29_22⟩) hHeld ?_
    case hy29_22 => (intro w hSw; (try dsimp only at hSw); have q0 := ldHd_m ht_head hSw.1; have q1 := ldHd_m ht_ref hSw.2.1; have q2 := hSw.2.2; (try simp only [List.getElem_toArray, List.getElem_cons_zero, List.getElem_cons_succ]); go_simp <;> with_reducible rfl)
    (try simp only [Act.put, List.getElem_toArray, List.getElem_cons_zero, List.getElem_cons_succ, List.setIfInBounds_toArray, List.set_cons_zero, List.set_cons_succ])
    refine wpAnyH_done (by kernel_rfl) ?_ _
    go_wp2_with fail
    refine (hid_any A2 n0 c2 l0 x1 _ (by exact (K9.out.row (A2, n0, c2, l0) (by simp)).1) (by exact (K9.out.row (A2, n0, c2, l0) (by simp)).2) (by omega)).mono ?_
    rw [← HI.out]
    rintro e w10 ⟨A6, c6, rfl, ho6, hb6⟩
    have K10 := Lib.hid (K9.out.own hb6 ho6)
    have O6 := Lib.hid ho6
    have O6 := Lib.hid ho6
    have RO10 : Hid (RB w10 w2.heap.size A2 n0 l0 ∧ RB w10 w2.heap.size A0 n0 l0) := Lib.hid ⟨RO3.out.1.below (K10.out.bel.mono RO3.out.2.2), RO3.out.2.1.below (K10.out.bel.mono RO3.out.2.2)⟩
    have O10 := Lib.hid (O3.out.below K10.out.bel)
    have HD : Hid (∀ g o, A6 = some ⟨g, o, none⟩ → g ∉ blkO A3) := Lib.hid (fun g o e hm => by
      obtain ⟨a, ea, hk⟩ := mem_blkO hm
      have q1 := (O6.out.spot ⟨g, o, none⟩ e).2.1
      have q2 := (O3.out.spot a ea).2.2
      have q3 := K9.out.bel.size
      simp only at q1
      omega)
    have C6 := Lib.hid ho6.cap
    have hn3 : n3 ≤ 9223372036854775807 := by have h1 := O3.out.cap; unfold maxLen at h1; omega
    have C2 := Lib.hid ((K9.out.row (A2, n0, c2, l0) (by simp)).2)
    clear ho6 hb6 K9
    go_wp2_with fail
    go_loopw [14] (fun i wr => ∃ j : Nat, j ≤ n3 ∧ i = .int .i64 j ∧ Oth (blkO A3) w10 wr ∧ ∃ q, OwnB wr w2.heap.size A3 n3 c3 q) (fun i _ => n3 - (intOf i).toNat)
    case atStart => exact ⟨0, Nat.zero_le _, rfl, Oth.refl _ _, _, O10.out⟩
    case round =>
      obtain ⟨j, hj, rfl, hoth, q, hown⟩ := hrel
      by_cases hlt : j < n3
      · obtain ⟨gb, rfl, _, _⟩ := hown.form (by omega)
        have hq : j < q.length := by rw [hown.len]; exact hlt
        obtain ⟨x, hx⟩ : ∃ x, q[j]? = some x := ⟨_, List.getElem?_eq_getElem hq⟩
        have hc := hown.cellAt hx
        have hf := hown.freeAt j
        obtain ⟨y, hy⟩ := byte_up x
        have hx8 := x.toNat_lt
        clear hx
        go_wp2
        go_roundw
        case rel => exact ⟨j + 1, by omega, by go_num, hoth.set (x := gb) (by simp [blkO]) j _, _, hown.stored j y _ (by rw [bv])⟩
        case measure => simp [intOf]; omega
      · obtain rfl : j = n3 := by omega
        have hlow : ∀ k ∈ blkO A3, w2.heap.size ≤ k := fun k hk => by
          obtain ⟨a, ea, hk⟩ := mem_blkO hk
          have q1 := (O3.out.spot a ea).2.1
          omega
        have hs10 : w2.heap.size ≤ w10.heap.size := Nat.le_trans RO3.out.2.2 K10.out.bel.size
        have hbw : Below w2.heap.size w10 wr := hoth.below hlow hs10
        have hs11 : w2.heap.size ≤ wr.heap.size := Nat.le_trans hs10 hoth.size
        have K11 : Hid (KW w [(A6, di.1.length, c6, di.1), (A2, n0, c2, l0), (A0, n0, c0, l0)] [] [] wr) := by
          have hB : Below w.heap.size w wr := (bel_next B3.out K10.out.bel).trans (hoth.below (fun k hk => Nat.le_trans H2.out (hlow k hk)) (Nat.le_trans H2.out hs10))
          have KB : KW w [] [] [] wr := ⟨hB, fun r hr => (by cases hr), fun r hr => (by cases hr), fun r hr => (by cases hr)⟩
          exact Lib.hid (((KB.add ((RO10.out.2.below hbw).more hs11) m0.1 m0.2).add ((RO10.out.1.below hbw).more hs11) C2.out.1 C2.out.2).add ((O6.out.oth hoth HD.out).rb) C6.out.1 C6.out.2)
        clear hoth hown hbw hs10 hs11 hlow K10
        have d255 : ∀ k : Nat, k ≤ 255 → decide (255 < (k : Int)) = false := fun k hk => decide_eq_false (by omega)
        rcases idN_cases l0 x1 with ⟨hz, e⟩ | ⟨k, rfl, hk, hk1, e⟩ | ⟨k, rfl, hk, hk1, e⟩
        · rw [← HI.out] at e
          subst e
          go_wp2_with fail
          refine (al_same _ _ _ _ _ _ l0 l0 _ (by exact (K11.out.row (A2, n0, c2, l0) (by simp)).1) (by exact (K11.out.row (A0, n0, c0, l0) (by simp)).1) (by unfold maxLen; omega) (by unfold maxLen; omega) true (by simp)).mono ?_
          rintro e w12 ⟨rfl, hb⟩
          have K12 := Lib.hid (K11.out.step hb)
          clear hb K11
          by_cases hx0 : x1 < 0
          · have e0 : decide (x1 < 0) = true := decide_eq_true hx0
            go_wp2_with fail
            go_ret
            exact ⟨rfl, K12.out.bel⟩
          · have e0 : decide (x1 < 0) = false := decide_eq_false hx0
            have e1 : decide (255 < x1) = true := decide_eq_true (by omega)
            go_wp2_with fail
            go_ret
            exact ⟨rfl, K12.out.bel⟩
        · rw [← HI.out] at e
          subst e
          go_wp2_with fail
          refine (al_same _ _ _ _ _ _ l0 l0 _ (by exact (K11.out.row (A2, n0, c2, l0) (by simp)).1) (by exact (K11.out.row (A0, n0, c0, l0) (by simp)).1) (by unfold maxLen; omega) (by unfold maxLen; omega) true (by simp)).mono ?_
          rintro e w12 ⟨rfl, hb⟩
          have K12 := Lib.hid (K11.out.step hb)
          clear hb K11
          have e0 : decide ((k : Int) < 0) = false := decide_eq_false (by omega)
          have e1 := d255 k hk
          have e2 : decide ((n0 : Int) ≤ (k : Int)) = true := decide_eq_true (by omega)
          have e3 : n0 ≤ k := by omega
          go_wp2_with fail
          go_ret
          exact ⟨rfl, K12.out.bel⟩
        · rw [← HI.out] at e
          have e5 := Lib.hid (show di.1 = (l0.drop 1).take k by rw [e])
          have e6 : di.2 = 0 := by rw [e]
          clear e
          obtain ⟨D, code⟩ := di
          simp only at e6
          subst e6
          simp only at K11
          go_wp2_with fail
          refine (al_same _ _ _ _ _ _ l0 l0 _ (by exact (K11.out.row (A2, n0, c2, l0) (by simp)).1) (by exact (K11.out.row (A0, n0, c0, l0) (by simp)).1) (by unfold maxLen; omega) (by unfold maxLen; omega) true (by simp)).mono ?_
          rintro e w12 ⟨rfl, hb⟩
          have K12 := Lib.hid (K11.out.step hb)
          clear hb K11
          have hrow := (K12.out.row (A0, n0, c0, l0) (by simp)).1
          have hpart := hrow.part (i := 1) (j := k + 1) (c := c0) (by omega) (by simp only; omega) m0.1
          have ecut : (l0.take (k + 1)).drop 1 = (l0.drop 1).take k := by rw [List.drop_take]; rfl
          rw [ecut, Nat.add_sub_cancel, ← show D = (l0.drop 1).take k from e5.out] at hpart
          have hcut := cut_lh A0 n0 c0 1 (k + 1) (by omega) (by omega)
          rw [Nat.add_sub_cancel, show (((k + 1 : Nat) : Int)) = (k : Int) + 1 from by omega] at hcut
          have hcut1 : ∀ W : World, (Instr.slice 22 (.slice A0 n0 c0) (some (.int .i64 1)) (some (.int .i64 ((k : Int) + 1))) none).run Try.prog W = .ok (.slice (cutA A0 c0 1) k (c0 - 1)) W := hcut
          have hDl := Lib.hid hpart.len
          have HPA := Lib.hid hpart
          have e0 : decide ((k : Int) < 0) = false := decide_eq_false (by omega)
          have e1 := d255 k hk
          have e2 : decide ((n0 : Int) ≤ (k : Int)) = false := decide_eq_false (by omega)
          have e3 : ¬ n0 ≤ k := by omega
          clear hrow hpart hcut ecut e5
          go_wp2_with fail
          refine (al_same _ _ _ _ _ _ D D _ (by exact (K12.out.row (A6, D.length, c6, D) (by simp)).1) (by exact HPA.out) (by have := hDl.out; unfold maxLen; omega) (by unfold maxLen; omega) true (by simp)).mono ?_
          rintro e w13 ⟨rfl, hb⟩
          have K13 := Lib.hid (K12.out.step hb)
          clear hb K12
          go_wp2_with fail
          go_ret
          exact ⟨rfl, K13.out.bel⟩
  · obtain ⟨v, hv⟩ : ∃ v, longL (f :: t) = v := ⟨_, rfl⟩
    have hvt : decide (128 ≤ (f.toNat : Int)) = v := by rw [← hv, long_cons]; exact decide_eq_decide.2 (by omega)
    obtain ⟨m, rfl⟩ : ∃ m, n0 = m + 1 := ⟨t.length, by rw [← hl]; rfl⟩
    obtain ⟨b, o, hA, hb, x, hx, hcell⟩ := h0.at_ (k := 0) (by omega)
    obtain rfl : f = x := by simpa using hx
    rw [Nat.add_zero] at hcell
    have HC0 := Lib.hid hcell
    obtain ⟨n0, hn0⟩ : ∃ n0, n0 = m + 1 := ⟨_, rfl⟩
    rw [← hn0] at h0 hl m0 hn d ⊢
    have hpos : decide ((0 : Int) < (n0 : Int)) = true := decide_eq_true (by omega)
    have hpos' : 0 < n0 := by omega
    obtain ⟨l0, HL0⟩ : ∃ l : List UInt8, l = f :: t := ⟨_, rfl⟩
    rw [← HL0] at h0 hl hv
    subst hA
    clear hx hcell hn0 HL0
    obtain ⟨r, HR⟩ : ∃ r, Hid (r = prs l0) := ⟨_, Lib.hid rfl⟩
    obtain ⟨di, HI⟩ : ∃ r, Hid (r = idN l0 x1) := ⟨_, Lib.hid rfl⟩
    have hsm := prs_small l0
    rw [← HR.out] at hsm
    have HSM := Lib.hid hsm
    have hid5 : di.1.length ≤ 255 := by rw [HI.out]; exact idN_len _ _
    have K0 := Lib.hid ((KW.start w).add h0 m0.1 m0.2)
    clear h0 hsm
    go_enter Try.func3, Try.ntmps3
    go_wp2_with fail
    refine (alive_any _).mono ?_
    rintro e w1 ⟨rfl, hb⟩
    have K1 := Lib.hid (K0.out.step hb)
    clear hb K0
    go_wp2_with fail
    refine (copy_any (some ⟨b, o, none⟩) n0 c0 0 l0 _ (by exact (K1.out.row _ (.head _)).1) (by omega)).mono ?_
    rintro e w2 ⟨A2, c2, rfl, ho, hb⟩
    have K2 := Lib.hid (K1.out.own hb ho)
    clear ho hb K1
    go_wp2_with fail
    refine (parse_any A2 n0 c2 l0 _ (by exact (K2.out.row _ (.head _)).1) (by omega)).mono ?_
    rw [← HR.out]
    rintro e w3 ⟨h, A3, n3, c3, rfl, hp, hho, hro, hb⟩
    have B3 := Lib.hid (bel_next K2.out.bel hb)
    have H2 := Lib.hid K2.out.bel.size
    have RO3 : Hid (RB w3 w2.heap.size A2 n0 l0 ∧ RB w3 w2.heap.size (some ⟨b, o, none⟩) n0 l0 ∧ w2.heap.size ≤ w3.heap.size) := Lib.hid ⟨((K2.out.row (A2, n0, c2, l0) (by simp)).1).below hb, ((K2.out.row ((some ⟨b, o, none⟩), n0, c0, l0) (by simp)).1).below hb, hb.size⟩
    have O3 := Lib.hid hro
    have K3 := Lib.hid (((((KW.start w3).add (RO3.out.2.1.more RO3.out.2.2) m0.1 m0.2).add (RO3.out.1.more RO3.out.2.2) (K2.out.row (A2, n0, c2, l0) (by simp)).2.1 (K2.out.row (A2, n0, c2, l0) (by simp)).2.2).add hro.rb hro.cap.1 hro.cap.2).addh hho.ok)
    have HP := Lib.hid hp
    have HN3 := Lib.hid hro.len
    clear hb hro hho hp K2
    go_wp2_with (first
      | (with_reducible show wpList _ _ _ (⟨some 6, .alloc _, _, _, _, none⟩ :: _) _ _; refine wpList_allocN ht_head rfl rfl ?_; intro w3a y0 hc2 hb2 hx2; have H2 := Lib.hid (And.intro hc2 (And.intro hb2 hx2)); clear hc2 hb2 hx2)
      | (refine wpList_stH ht_head rfl (.tmp 6) (.tmp 25) rfl y0 rfl h zeroH rfl (by exact H2.out.1) ?_; intro w3b hc3 ho3 hs3; have K4 := Lib.hid (K3.out.var H2.out.2.1 H2.out.2.2 hc3 ho3); clear hc3 ho3 hs3 H2 K3))
    refine (rparse_any (some ⟨b, o, none⟩) n0 c0 l0 _ (by exact (K4.out.row ((some ⟨b, o, none⟩), n0, c0, l0) (by simp)).1) m0 (by omega)).mono ?_
    rw [← HR.out]
    intro e w5 qq
    obtain ⟨g, A5, n5, c5, rfl, hpg, hn5, kk⟩ := K4.out.hdr qq
    obtain rfl : n3 = n5 := by rw [← hn5, HN3.out]
    have K5 := Lib.hid kk
    have HPG := Lib.hid hpg
    clear qq kk hpg
    go_wp2_with (first
      | (with_reducible show wpList _ _ _ (⟨some 9, .alloc _, _, _, _, none⟩ :: _) _ _; refine wpList_allocN ht_ref rfl rfl ?_; intro w5a y1 hc2 hb2 hx2; have H2 := Lib.hid (And.intro hc2 (And.intro hb2 hx2)); clear hc2 hb2 hx2)
      | (refine wpList_stH ht_ref rfl (.tmp 9) (.tmp 31) rfl y1 rfl g zeroH rfl (by exact H2.out.1) ?_; intro w5b hc3 ho3 hs3; have K6 := Lib.hid (K5.out.var H2.out.2.1 H2.out.2.2 hc3 ho3); clear hc3 ho3 hs3 H2 K5))
    have K6' := Lib.hid (K6.out.step (Below.refl _ _).drew)
    refine wp_region_held_drew (S := fun w' => Hc 27 w' y0 h ∧ Hc 31 w' y1 g ∧ w'.cell? ⟨b, o, none⟩ = some (.int .u8 (f.toNat : Int))) (by kernel_rfl) ⟨(K6'.out.box (27, y0, h) (by simp)), (K6'.out.box (31, y1, g) (by simp)), (K6'.out.bel.cell (p := ⟨b, o, none⟩) (Nat.lt_of_lt_of_le hb B3.out.size)).trans ((B3.out.cell (p := ⟨b, o, none⟩) hb).trans HC0.out)⟩ (fun hHeld => ?_)
    (try dsimp only at hHeld)
    refine wpAnyH_take (i := 0) (v := ?v0_23) rfl (by kernel_rfl) (by kernel_rfl) (by kernel_rfl) (fun _ _ _ h => h) (Or.inl ⟨by rfl, ?hy0_23⟩) hHeld ?_
    case hy0_23 => (intro w hSw; (try dsimp only at hSw); have q0 := ldHd_m ht_head hSw.1; have q1 := ldHd_m ht_ref hSw.2.1; have q2 := hSw.2.2; (try simp only [List.getElem_toArray, List.getElem_cons_zero, List.getElem_cons_succ]); go_simp <;> with_reducible rfl)
    (try simp only [Act.put, List.getElem_toArray, List.getElem_cons_zero, List.getElem_cons_succ, List.setIfInBounds_toArray, List.set_cons_zero, List.set_cons_succ])
    refine wpAnyH_take (i := 1) (v := ?v1_24) rfl (by kernel_rfl) (by kernel_rfl) (by kernel_rfl) (fun _ _ _ h => h) (Or.inl ⟨by rfl, ?hy1_24⟩) hHeld ?_
    case hy1_24 => (intro w hSw; (try dsimp only at hSw); have q0 := ldHd_m ht_head hSw.1; have q1 := ldHd_m ht_ref hSw.2.1; have q2 := hSw.2.2; (try simp only [List.getElem_toArray, List.getElem_cons_zero, List.getElem_cons_succ]); go_simp <;> with_reducible rfl)
    (try simp only [Act.put, List.getElem_toArray, List.getElem_cons_zero, List.getElem_cons_succ, List.setIfInBounds_toArray, List.set_cons_zero, List.set_cons_succ])
    refine wpAnyH_take (i := 2) (v := ?v2_25) rfl (by kernel_rfl) (by kernel_rfl) (by kernel_rfl) (fun _ _ _ h => h) (Or.inl ⟨by rfl, ?hy2_25⟩) hHeld ?_
    case hy2_25 => (intro w hSw; (try dsimp only at hSw); have q0 := ldHd_m ht_head hSw.1; have q1 := ldHd_m ht_ref hSw.2.1; have q2 := hSw.2.2; (try simp only [List.getElem_toArray, List.getElem_cons_zero, List.getElem_cons_succ]); go_simp <;> with_reducible rfl)
    (try simp only [Act.put, List.getElem_toArray, List.getElem_cons_zero, List.getElem_cons_succ, List.setIfInBounds_toArray, List.set_cons_zero, List.set_cons_succ])
    refine wpAnyH_take (i := 3) (v := ?v3_26) rfl (by kernel_rfl) (by kernel_rfl) (by kernel_rfl) (fun _ _ _ h => h) (Or.inl ⟨by rfl, ?hy3_26⟩) hHeld ?_
    case hy3_26 => (intro w hSw; (try dsimp only at hSw); have q0 := ldHd_m ht_head hSw.1; have q1 := ldHd_m ht_ref hSw.2.1; have q2 := hSw.2.2; (try simp only [List.getElem_toArray, List.getElem_cons_zero, List.getElem_cons_succ]); go_simp <;> with_reducible rfl)
    (try simp only [Act.put, List.getElem_toArray, List.getElem_cons_zero, List.getElem_cons_succ, List.setIfInBounds_toArray, List.set_cons_zero, List.set_cons_succ])
    refine wpAnyH_take (i := 4) (v := ?v4_27) rfl (by kernel_rfl) (by kernel_rfl) (by kernel_rfl) (fun _ _ _ h => h) (Or.inl ⟨by rfl, ?hy4_27⟩) hHeld ?_
    case hy4_27 => (intro w hSw; (try dsimp only at hSw); have q0 := ldHd_m ht_head hSw.1; have q1 := ldHd_m ht_ref hSw.2.1; have q2 := hSw.2.2; (try simp only [List.getElem_toArray, List.getElem_cons_zero, List.getElem_cons_succ]); go_simp <;> with_reducible rfl)
    (try simp only [Act.put, List.getElem_toArray, List.getElem_cons_zero, List.getElem_cons_succ, List.setIfInBounds_toArray, List.set_cons_zero, List.set_cons_succ])
    refine wpAnyH_take (i := 6) (v := ?v6_28) rfl (by kernel_rfl) (by kernel_rfl) (by kernel_rfl) (fun _ _ _ h => h) (Or.inl ⟨by rfl, ?hy6_28⟩) hHeld ?_
    case hy6_28 => (intro w hSw; (try dsimp only at hSw); have q0 := ldHd_m ht_head hSw.1; have q1 := ldHd_m ht_ref hSw.2.1; have q2 := hSw.2.2; (try simp only [List.getElem_toArray, List.getElem_cons_zero, List.getElem_cons_succ]); go_simp <;> with_reducible rfl)
    (try simp only [Act.put, List.getElem_toArray, List.getElem_cons_zero, List.getElem_cons_succ, List.setIfInBounds_toArray, List.set_cons_zero, List.set_cons_succ])
    refine wpAnyH_ready (rs := [5]) (by kernel_rfl) (by simp) ?_
    refine AllReadyH.cons rfl (fun K hK => ?_) AllReadyH.nil
    (try simp only [List.getElem_toArray, List.getElem_cons_zero, List.getElem_cons_succ])
    go_simp
    refine (of_any h _ (by exact K6'.out.hd h (by simp)) (by have := HSM.out.1; rw [← HP.out] at this; exact Nat.le_trans this (by decide)) (by have := HSM.out.2; rw [← HP.out] at this; exact Nat.le_trans this (by decide))).mono ?_
    rintro e w6 ⟨g6, rfl, hpl6, hown6, hb6⟩
    have K7 := Lib.hid ((K6'.out.step hb6).addh hown6.ok)
    have HP6 := Lib.hid hpl6
    clear hpl6 hown6 hb6 K6'
    (try go_wp2_with fail)
    refine hK.out _ _ ⟨(K7.out.box (27, y0, h) (by simp)), (K7.out.box (31, y1, g) (by simp)), (K7.out.bel.cell (p := ⟨b, o, none⟩) (Nat.lt_of_lt_of_le hb B3.out.size)).trans ((B3.out.cell (p := ⟨b, o, none⟩) hb).trans HC0.out)⟩ (fun hHeld => ?_)
    clear hK K
    (try simp only [Act.put, List.getElem_toArray, List.getElem_cons_zero, List.getElem_cons_succ, List.setIfInBounds_toArray, List.set_cons_zero, List.set_cons_succ])
    refine wpAnyH_ready (rs := [7]) (by kernel_rfl) (by simp) ?_
    refine AllReadyH.cons rfl (fun K hK => ?_) AllReadyH.nil
    (try simp only [List.getElem_toArray, List.getElem_cons_zero, List.getElem_cons_succ])
    go_simp
    refine (rhsame_any g6 g _ (by exact K7.out.hd g6 (by simp)) (by exact K7.out.hd g (by simp)) true (decide_eq_true (by rw [HP6.out, HP.out, HPG.out]))).mono ?_
    rintro e w7 ⟨rfl, hb7⟩
    have K8 := Lib.hid (K7.out.step hb7)
    clear hb7 K7
    (try go_wp2_with fail)
    refine hK.out _ _ ⟨(K8.out.box (27, y0, h) (by simp)), (K8.out.box (31, y1, g) (by simp)), (K8.out.bel.cell (p := ⟨b, o, none⟩) (Nat.lt_of_lt_of_le hb B3.out.size)).trans ((B3.out.cell (p := ⟨b, o, none⟩) hb).trans HC0.out)⟩ (fun hHeld => ?_)
    clear hK K
    (try simp only [Act.put, List.getElem_toArray, List.getElem_cons_zero, List.getElem_cons_succ, List.setIfInBounds_toArray, List.set_cons_zero, List.set_cons_succ])
    refine wpAnyH_take (i := 8) (v := ?v8_29) rfl (by kernel_rfl) (by kernel_rfl) (by kernel_rfl) (fun _ _ _ h => h) (Or.inl ⟨by rfl, ?hy8_29⟩) hHeld ?_
    case hy8_29 => (intro w hSw; (try dsimp only at hSw); have q0 := ldHd_m ht_head hSw.1; have q1 := ldHd_m ht_ref hSw.2.1; have q2 := hSw.2.2; (try simp only [List.getElem_toArray, List.getElem_cons_zero, List.getElem_cons_succ]); go_simp <;> with_reducible rfl)
    (try simp only [Act.put, List.getElem_toArray, List.getElem_cons_zero, List.getElem_cons_succ, List.setIfInBounds_toArray, List.set_cons_zero, List.set_cons_succ])
    refine wpAnyH_take (i := 9) (v := ?v9_30) rfl (by kernel_rfl) (by kernel_rfl) (by kernel_rfl) (fun _ _ _ h => h) (Or.inl ⟨by rfl, ?hy9_30⟩) hHeld ?_
    case hy9_30 => (intro w hSw; (try dsimp only at hSw); have q0 := ldHd_m ht_head hSw.1; have q1 := ldHd_m ht_ref hSw.2.1; have q2 := hSw.2.2; (try simp only [List.getElem_toArray, List.getElem_cons_zero, List.getElem_cons_succ]); go_simp <;> with_reducible rfl)
    (try simp only [Act.put, List.getElem_toArray, List.getElem_cons_zero, List.getElem_cons_succ, List.setIfInBounds_toArray, List.set_cons_zero, List.set_cons_succ])
    refine wpAnyH_take (i := 10) (v := ?v10_31) rfl (by kernel_rfl) (by kernel_rfl) (by kernel_rfl) (fun _ _ _ h => h) (Or.inl ⟨by rfl, ?hy10_31⟩) hHeld ?_
    case hy10_31 => (intro w hSw; (try dsimp only at hSw); have q0 := ldHd_m ht_head hSw.1; have q1 := ldHd_m ht_ref hSw.2.1; have q2 := hSw.2.2; (try simp only [List.getElem_toArray, List.getElem_cons_zero, List.getElem_cons_succ]); go_simp <;> with_reducible rfl)
    (try simp only [Act.put, List.getElem_toArray, List.getElem_cons_zero, List.getElem_cons_succ, List.setIfInBounds_toArray, List.set_cons_zero, List.set_cons_succ])
    refine wpAnyH_take (i := 11) (v := ?v11_32) rfl (by kernel_rfl) (by kernel_rfl) (by kernel_rfl) (fun _ _ _ h => h) (Or.inl ⟨by rfl, ?hy11_32⟩) hHeld ?_
    case hy11_32 => (intro w hSw; (try dsimp only at hSw); have q0 := ldHd_m ht_head hSw.1; have q1 := ldHd_m ht_ref hSw.2.1; have q2 := hSw.2.2; (try simp only [List.getElem_toArray, List.getElem_cons_zero, List.getElem_cons_succ]); go_simp <;> with_reducible rfl)
    (try simp only [Act.put, List.getElem_toArray, List.getElem_cons_zero, List.getElem_cons_succ, List.setIfInBounds_toArray, List.set_cons_zero, List.set_cons_succ])
    refine wpAnyH_take (i := 12) (v := ?v12_33) rfl (by kernel_rfl) (by kernel_rfl) (by kernel_rfl) (fun _ _ _ h => h) (Or.inl ⟨by rfl, ?hy12_33⟩) hHeld ?_
    case hy12_33 => (intro w hSw; (try dsimp only at hSw); have q0 := ldHd_m ht_head hSw.1; have q1 := ldHd_m ht_ref hSw.2.1; have q2 := hSw.2.2; (try simp only [List.getElem_toArray, List.getElem_cons_zero, List.getElem_cons_succ]); go_simp <;> with_reducible rfl)
    (try simp only [Act.put, List.getElem_toArray, List.getElem_cons_zero, List.getElem_cons_succ, List.setIfInBounds_toArray, List.set_cons_zero, List.set_cons_succ])
    refine wpAnyH_ready (rs := [13]) (by kernel_rfl) (by simp) ?_
    refine AllReadyH.cons rfl (fun K hK => ?_) AllReadyH.nil
    (try simp only [List.getElem_toArray, List.getElem_cons_zero, List.getElem_cons_succ])
    go_simp
    refine (al_same _ _ _ _ _ _ r.2.1 r.2.1 _ (by exact (K8.out.row (A3, n3, c3, r.2.1) (by simp)).1) (by exact (K8.out.row (A5, n3, c5, r.2.1) (by simp)).1) (Nat.le_trans (K8.out.row (A3, n3, c3, r.2.1) (by simp)).2.1 (K8.out.row (A3, n3, c3, r.2.1) (by simp)).2.2) (Nat.le_trans (K8.out.row (A3, n3, c3, r.2.1) (by simp)).2.1 (K8.out.row (A3, n3, c3, r.2.1) (by simp)).2.2) true (by simp)).mono ?_
    rintro e w8 ⟨rfl, hb8⟩
    have K9 := Lib.hid (K8.out.step hb8)
    clear hb8 K8
    (try go_wp2_with fail)
    refine hK.out _ _ ⟨(K9.out.box (27, y0, h) (by simp)), (K9.out.box (31, y1, g) (by simp)), (K9.out.bel.cell (p := ⟨b, o, none⟩) (Nat.lt_of_lt_of_le hb B3.out.size)).trans ((B3.out.cell (p := ⟨b, o, none⟩) hb).trans HC0.out)⟩ (fun hHeld => ?_)
    clear hK K
    (try simp only [Act.put, List.getElem_toArray, List.getElem_cons_zero, List.getElem_cons_succ, List.setIfInBounds_toArray, List.set_cons_zero, List.set_cons_succ])
    refine wpAnyH_take (i := 14) (v := ?v14_34) rfl (by kernel_rfl) (by kernel_rfl) (by kernel_rfl) (fun _ _ _ h => h) (Or.inl ⟨by rfl, ?hy14_34⟩) hHeld ?_
    case hy14_34 => (intro w hSw; (try dsimp only at hSw); have q0 := ldHd_m ht_head hSw.1; have q1 := ldHd_m ht_ref hSw.2.1; have q2 := hSw.2.2; (try simp only [List.getElem_toArray, List.getElem_cons_zero, List.getElem_cons_succ]); go_simp <;> with_reducible rfl)
    (try simp only [Act.put, List.getElem_toArray, List.getElem_cons_zero, List.getElem_cons_succ, List.setIfInBounds_toArray, List.set_cons_zero, List.set_cons_succ])
    refine wpAnyH_take (i := 15) (v := ?v15_35) rfl (by kernel_rfl) (by kernel_rfl) (by kernel_rfl) (fun _ _ _ h => h) (Or.inl ⟨by rfl, ?hy15_35⟩) hHeld ?_
    case hy15_35 => (intro w hSw; (try dsimp only at hSw); have q0 := ldHd_m ht_head hSw.1; have q1 := ldHd_m ht_ref hSw.2.1; have q2 := hSw.2.2; (try simp only [List.getElem_toArray, List.getElem_cons_zero, List.getElem_cons_succ]); go_simp <;> with_reducible rfl)
    (try simp only [Act.put, List.getElem_toArray, List.getElem_cons_zero, List.getElem_cons_succ, List.setIfInBounds_toArray, List.set_cons_zero, List.set_cons_succ])
    refine wpAnyH_take (i := 16) (v := ?v16_36) rfl (by kernel_rfl) (by kernel_rfl) (by kernel_rfl) (fun _ _ _ h => h) (Or.inl ⟨by rfl, ?hy16_36⟩) hHeld ?_
    case hy16_36 => (intro w hSw; (try dsimp only at hSw); have q0 := ldHd_m ht_head hSw.1; have q1 := ldHd_m ht_ref hSw.2.1; have q2 := hSw.2.2; (try simp only [List.getElem_toArray, List.getElem_cons_zero, List.getElem_cons_succ]); go_simp <;> with_reducible rfl)
    (try simp only [Act.put, List.getElem_toArray, List.getElem_cons_zero, List.getElem_cons_succ, List.setIfInBounds_toArray, List.set_cons_zero, List.set_cons_succ])
    refine wpAnyH_take (i := 17) (v := ?v17_37) rfl (by kernel_rfl) (by kernel_rfl) (by kernel_rfl) (fun _ _ _ h => h) (Or.inl ⟨by rfl, ?hy17_37⟩) hHeld ?_
    case hy17_37 => (intro w hSw; (try dsimp only at hSw); have q0 := ldHd_m ht_head hSw.1; have q1 := ldHd_m ht_ref hSw.2.1; have q2 := hSw.2.2; (try simp only [List.getElem_toArray, List.getElem_cons_zero, List.getElem_cons_succ]); go_simp <;> with_reducible rfl)
    (try simp only [Act.put, List.getElem_toArray, List.getElem_cons_zero, List.getElem_cons_succ, List.setIfInBounds_toArray, List.set_cons_zero, List.set_cons_succ])
    refine wpAnyH_take (i := 19) (v := ?v19_38) rfl (by kernel_rfl) (by kernel_rfl) (by kernel_rfl) (fun _ _ _ h => h) (Or.inl ⟨by rfl, ?hy19_38⟩) hHeld ?_
    case hy19_38 => (intro w hSw; (try dsimp only at hSw); have q0 := ldHd_m ht_head hSw.1; have q1 := ldHd_m ht_ref hSw.2.1; have q2 := hSw.2.2; (try simp only [List.getElem_toArray, List.getElem_cons_zero, List.getElem_cons_succ]); go_simp <;> with_reducible rfl)
    (try simp only [Act.put, List.getElem_toArray, List.getElem_cons_zero, List.getElem_cons_succ, List.setIfInBounds_toArray, List.set_cons_zero, List.set_cons_succ])
    refine wpAnyH_take (i := 20) (v := ?v20_39) rfl (by kernel_rfl) (by kernel_rfl) (by kernel_rfl) (fun _ _ _ h => h) (Or.inl ⟨by rfl, ?hy20_39⟩) hHeld ?_
    case hy20_39 => (intro w hSw; (try dsimp only at hSw); have q0 := ldHd_m ht_head hSw.1; have q1 := ldHd_m ht_ref hSw.2.1; have q2 := hSw.2.2; (try simp only [List.getElem_toArray, List.getElem_cons_zero, List.getElem_cons_succ]); go_simp <;> with_reducible rfl)
    (try simp only [Act.put, List.getElem_toArray, List.getElem_cons_zero, List.getElem_cons_succ, List.setIfInBounds_toArray, List.set_cons_zero, List.set_cons_succ])
    refine wpAnyH_take (i := 21) (v := ?v21_40) rfl (by kernel_rfl) (by kernel_rfl) (by kernel_rfl) (fun _ _ _ h => h) (Or.inl ⟨by rfl, ?hy21_40⟩) hHeld ?_
    case hy21_40 => (intro w hSw; (try dsimp only at hSw); have q0 := ldHd_m ht_head hSw.1; have q1 := ldHd_m ht_ref hSw.2.1; have q2 := hSw.2.2; (try simp only [List.getElem_toArray, List.getElem_cons_zero, List.getElem_cons_succ]); go_simp <;> with_reducible rfl)
    (try simp only [Act.put, List.getElem_toArray, List.getElem_cons_zero, List.getElem_cons_succ, List.setIfInBounds_toArray, List.set_cons_zero, List.set_cons_succ])
    refine wpAnyH_ready (rs := [18]) (by kernel_rfl) (by simp) ?_
    refine AllReadyH.cons rfl (fun K hK => ?_) AllReadyH.nil
    (try simp only [List.getElem_toArray, List.getElem_cons_zero, List.getElem_cons_succ])
    go_simp
    refine (hlong_any A2 n0 c2 l0 _ (by exact (K9.out.row (A2, n0, c2, l0) (by simp)).1) v hv).mono ?_
    rintro e w9 ⟨rfl, rfl⟩
    (try go_wp2_with fail)
    refine hK.out _ _ ⟨(K9.out.box (27, y0, h) (by simp)), (K9.out.box (31, y1, g) (by simp)), (K9.out.bel.cell (p := ⟨b, o, none⟩) (Nat.lt_of_lt_of_le hb B3.out.size)).trans ((B3.out.cell (p := ⟨b, o, none⟩) hb).trans HC0.out)⟩ (fun hHeld => ?_)
    clear hK K
    (try simp only [Act.put, List.getElem_toArray, List.getElem_cons_zero, List.getElem_cons_succ, List.setIfInBounds_toArray, List.set_cons_zero, List.set_cons_succ])
    refine wpAnyH_take (i := 22) (v := ?v22_41) rfl (by kernel_rfl) (by kernel_rfl) (by kernel_rfl) (fun _ _ _ h => h) (Or.inl ⟨by rfl, ?hy22_41⟩) hHeld ?_
    case hy22_41 => (intro w hSw; (try dsimp only at hSw); have q0 := ldHd_m ht_head hSw.1; have q1 := ldHd_m ht_ref hSw.2.1; have q2 := hSw.2.2; (try simp only [List.getElem_toArray, List.getElem_cons_zero, List.getElem_cons_succ]); go_simp <;> with_reducible rfl)
    (try simp only [Act.put, List.getElem_toArray, List.getElem_cons_zero, List.getElem_cons_succ, List.setIfInBounds_toArray, List.set_cons_zero, List.set_cons_succ])
    refine wpAnyH_take (i := 23) (v := ?v23_42) rfl (by kernel_rfl) (by kernel_rfl) (by kernel_rfl) (fun _ _ _ h => h) (Or.inl ⟨by rfl, ?hy23_42⟩) hHeld ?_
    case hy23_42 => (intro w hSw; (try dsimp only at hSw); have q0 := ldHd_m ht_head hSw.1; have q1 := ldHd_m ht_ref hSw.2.1; have q2 := hSw.2.2; (try simp only [List.getElem_toArray, List.getElem_cons_zero, List.getElem_cons_succ]); go_simp <;> with_reducible rfl)
    (try simp only [Act.put, List.getElem_toArray, List.getElem_cons_zero, List.getElem_cons_succ, List.setIfInBounds_toArray, List.set_cons_zero, List.set_cons_succ])
    refine wpAnyH_take (i := 24) (v := ?v24_43) rfl (by kernel_rfl) (by kernel_rfl) (by kernel_rfl) (fun _ _ _ h => h) (Or.inl ⟨by rfl, ?hy24_43⟩) hHeld ?_
    case hy24_43 => (intro w hSw; (try dsimp only at hSw); have q0 := ldHd_m ht_head hSw.1; have q1 := ldHd_m ht_ref hSw.2.1; have q2 := hSw.2.2; (try simp only [List.getElem_toArray, List.getElem_cons_zero, List.getElem_cons_succ]); go_simp <;> with_reducible rfl)
    (try simp only [Act.put, List.getElem_toArray, List.getElem_cons_zero, List.getElem_cons_succ, List.setIfInBounds_toArray, List.set_cons_zero, List.set_cons_succ])
    refine wpAnyH_take (i := 25) (v := ?v25_44) rfl (by kernel_rfl) (by kernel_rfl) (by kernel_rfl) (fun _ _ _ h => h) (Or.inl ⟨by rfl, ?hy25_44⟩) hHeld ?_
    case hy25_44 => (intro w hSw; (try dsimp only at hSw); have q0 := ldHd_m ht_head hSw.1; have q1 := ldHd_m ht_ref hSw.2.1; have q2 := hSw.2.2; (try simp only [List.getElem_toArray, List.getElem_cons_zero, List.getElem_cons_succ]); go_simp <;> with_reducible rfl)
    (try simp only [Act.put, List.getElem_toArray, List.getElem_cons_zero, List.getElem_cons_succ, List.setIfInBounds_toArray, List.set_cons_zero, List.set_cons_succ])
    refine wpAnyH_take (i := 26) (v := ?v26_45) rfl (by kernel_rfl) (by kernel_rfl) (by kernel_rfl) (fun _ _ _ h => h) (Or.inl ⟨by rfl, ?hy26_45⟩) hHeld ?_
    case hy26_45 => (intro w hSw; (try dsimp only at hSw); have q0 := ldHd_m ht_head hSw.1; have q1 := ldHd_m ht_ref hSw.2.1; have q2 := hSw.2.2; (try simp only [List.getElem_toArray, List.getElem_cons_zero, List.getElem_cons_succ]); go_simp <;> with_reducible rfl)
    (try simp only [Act.put, List.getElem_toArray, List.getElem_cons_zero, List.getElem_cons_succ, List.setIfInBounds_toArray, List.set_cons_zero, List.set_cons_succ])
    refine wpAnyH_take (i := 27) (v := ?v27_46) rfl (by kernel_rfl) (by kernel_rfl) (by kernel_rfl) (fun _ _ _ h => h) (Or.inl ⟨by rfl, ?hy27_46⟩) hHeld ?_
    case hy27_46 => (intro w hSw; (try dsimp only at hSw); have q0 := ldHd_m ht_head hSw.1; have q1 := ldHd_m ht_ref hSw.2.1; have q2 := hSw.2.2; (try simp only [List.getElem_toArray, List.getElem_cons_zero, List.getElem_cons_succ]); go_simp <;> with_reducible rfl)
    (try simp only [Act.put, List.getElem_toArray, List.getElem_cons_zero, List.getElem_cons_succ, List.setIfInBounds_toArray, List.set_cons_zero, List.set_cons_succ])
    refine wpAnyH_take (i := 28) (v := ?v28_47) rfl (by kernel_rfl) (by kernel_rfl) (by kernel_rfl) (fun _ _ _ h => h) (Or.inl ⟨by rfl, ?hy28_47⟩) hHeld ?_
    case hy28_47 => (intro w hSw; (try dsimp only at hSw); have q0 := ldHd_m ht_head hSw.1; have q1 := ldHd_m ht_ref hSw.2.1; have q2 := hSw.2.2; (try simp only [List.getElem_toArray, List.getElem_cons_zero, List.getElem_cons_succ]); go_simp <;> with_reducible rfl)
    (try simp only [Act.put, List.getElem_toArray, List.getElem_cons_zero, List.getElem_cons_succ, List.setIfInBounds_toArray, List.set_cons_zero, List.set_cons_succ])
    refine wpAnyH_take (i := 29) (v := ?v29_48) rfl (by kernel_rfl) (by kernel_rfl) (by kernel_rfl) (fun _ _ _ h => h) (Or.inl ⟨by rfl, ?hy29_48⟩) hHeld ?_
    case hy29_48 => (intro w hSw; (try dsimp only at hSw); have q0 := ldHd_m ht_head hSw.1; have q1 := ldHd_m ht_ref hSw.2.1; have q2 := hSw.2.2; (try simp only [List.getElem_toArray, List.getElem_cons_zero, List.getElem_cons_succ]); go_simp <;> with_reducible rfl)
    (try simp only [Act.put, List.getElem_toArray, List.getElem_cons_zero, List.getElem_cons_succ, List.setIfInBounds_toArray, List.set_cons_zero, List.set_cons_succ])
    refine wpAnyH_done (by kernel_rfl) ?_ _
    go_wp2_with fail
    refine (hid_any A2 n0 c2 l0 x1 _ (by exact (K9.out.row (A2, n0, c2, l0) (by simp)).1) (by exact (K9.out.row (A2, n0, c2, l0) (by simp)).2) (by omega)).mono ?_
    rw [← HI.out]
    rintro e w10 ⟨A6, c6, rfl, ho6, hb6⟩
    have K10 := Lib.hid (K9.out.own hb6 ho6)
    have O6 := Lib.hid ho6
    have O6 := Lib.hid ho6
    have RO10 : Hid (RB w10 w2.heap.size A2 n0 l0 ∧ RB w10 w2.heap.size (some ⟨b, o, none⟩) n0 l0) := Lib.hid ⟨RO3.out.1.below (K10.out.bel.mono RO3.out.2.2), RO3.out.2.1.below (K10.out.bel.mono RO3.out.2.2)⟩
    have O10 := Lib.hid (O3.out.below K10.out.bel)
    have HD : Hid (∀ g o, A6 = some ⟨g, o, none⟩ → g ∉ blkO A3) := Lib.hid (fun g o e hm => by
      obtain ⟨a, ea, hk⟩ := mem_blkO hm
      have q1 := (O6.out.spot ⟨g, o, none⟩ e).2.1
      have q2 := (O3.out.spot a ea).2.2
      have q3 := K9.out.bel.size
      simp only at q1
      omega)
    have C6 := Lib.hid ho6.cap
    have hn3 : n3 ≤ 9223372036854775807 := by have h1 := O3.out.cap; unfold maxLen at h1; omega
    have C2 := Lib.hid ((K9.out.row (A2, n0, c2, l0) (by simp)).2)
    clear ho6 hb6 K9
    go_wp2_with fail
    go_loopw [14] (fun i wr => ∃ j : Nat, j ≤ n3 ∧ i = .int .i64 j ∧ Oth (blkO A3) w10 wr ∧ ∃ q, OwnB wr w2.heap.size A3 n3 c3 q) (fun i _ => n3 - (intOf i).toNat)
    case atStart => exact ⟨0, Nat.zero_le _, rfl, Oth.refl _ _, _, O10.out⟩
    case round =>
      obtain ⟨j, hj, rfl, hoth, q, hown⟩ := hrel
      by_cases hlt : j < n3
      · obtain ⟨gb, rfl, _, _⟩ := hown.form (by omega)
        have hq : j < q.length := by rw [hown.len]; exact hlt
        obtain ⟨x, hx⟩ : ∃ x, q[j]? = some x := ⟨_, List.getElem?_eq_getElem hq⟩
        have hc := hown.cellAt hx
        have hf := hown.freeAt j
        obtain ⟨y, hy⟩ := byte_up x
        have hx8 := x.toNat_lt
        clear hx
        go_wp2
        go_roundw
        case rel => exact ⟨j + 1, by omega, by go_num, hoth.set (x := gb) (by simp [blkO]) j _, _, hown.stored j y _ (by rw [bv])⟩
        case measure => simp [intOf]; omega
      · obtain rfl : j = n3 := by omega
        have hlow : ∀ k ∈ blkO A3, w2.heap.size ≤ k := fun k hk => by
          obtain ⟨a, ea, hk⟩ := mem_blkO hk
          have q1 := (O3.out.spot a ea).2.1
          omega
        have hs10 : w2.heap.size ≤ w10.heap.size := Nat.le_trans RO3.out.2.2 K10.out.bel.size
        have hbw : Below w2.heap.size w10 wr := hoth.below hlow hs10
        have hs11 : w2.heap.size ≤ wr.heap.size := Nat.le_trans hs10 hoth.size
        have K11 : Hid (KW w [(A6, di.1.length, c6, di.1), (A2, n0, c2, l0), ((some ⟨b, o, none⟩), n0, c0, l0)] [] [] wr) := by
          have hB : Below w.heap.size w wr := (bel_next B3.out K10.out.bel).trans (hoth.below (fun k hk => Nat.le_trans H2.out (hlow k hk)) (Nat.le_trans H2.out hs10))
          have KB : KW w [] [] [] wr := ⟨hB, fun r hr => (by cases hr), fun r hr => (by cases hr), fun r hr => (by cases hr)⟩
          exact Lib.hid (((KB.add ((RO10.out.2.below hbw).more hs11) m0.1 m0.2).add ((RO10.out.1.below hbw).more hs11) C2.out.1 C2.out.2).add ((O6.out.oth hoth HD.out).rb) C6.out.1 C6.out.2)
        clear hoth hown hbw hs10 hs11 hlow K10
        have d255 : ∀ k : Nat, k ≤ 255 → decide (255 < (k : Int)) = false := fun k hk => decide_eq_false (by omega)
        rcases idN_cases l0 x1 with ⟨hz, e⟩ | ⟨k, rfl, hk, hk1, e⟩ | ⟨k, rfl, hk, hk1, e⟩
        · rw [← HI.out] at e
          subst e
          go_wp2_with fail
          refine (al_same _ _ _ _ _ _ l0 l0 _ (by exact (K11.out.row (A2, n0, c2, l0) (by simp)).1) (by exact (K11.out.row ((some ⟨b, o, none⟩), n0, c0, l0) (by simp)).1) (by unfold maxLen; omega) (by unfold maxLen; omega) true (by simp)).mono ?_
          rintro e w12 ⟨rfl, hb⟩
          have K12 := Lib.hid (K11.out.step hb)
          clear hb K11
          by_cases hx0 : x1 < 0
          · have e0 : decide (x1 < 0) = true := decide_eq_true hx0
            go_wp2_with fail
            go_ret
            exact ⟨rfl, K12.out.bel⟩
          · have e0 : decide (x1 < 0) = false := decide_eq_false hx0
            have e1 : decide (255 < x1) = true := decide_eq_true (by omega)
            go_wp2_with fail
            go_ret
            exact ⟨rfl, K12.out.bel⟩
        · rw [← HI.out] at e
          subst e
          go_wp2_with fail
          refine (al_same _ _ _ _ _ _ l0 l0 _ (by exact (K11.out.row (A2, n0, c2, l0) (by simp)).1) (by exact (K11.out.row ((some ⟨b, o, none⟩), n0, c0, l0) (by simp)).1) (by unfold maxLen; omega) (by unfold maxLen; omega) true (by simp)).mono ?_
          rintro e w12 ⟨rfl, hb⟩
          have K12 := Lib.hid (K11.out.step hb)
          clear hb K11
          have e0 : decide ((k : Int) < 0) = false := decide_eq_false (by omega)
          have e1 := d255 k hk
          have e2 : decide ((n0 : Int) ≤ (k : Int)) = true := decide_eq_true (by omega)
          have e3 : n0 ≤ k := by omega
          go_wp2_with fail
          go_ret
          exact ⟨rfl, K12.out.bel⟩
        · rw [← HI.out] at e
          have e5 := Lib.hid (show di.1 = (l0.drop 1).take k by rw [e])
          have e6 : di.2 = 0 := by rw [e]
          clear e
          obtain ⟨D, code⟩ := di
          simp only at e6
          subst e6
          simp only at K11
          go_wp2_with fail
          refine (al_same _ _ _ _ _ _ l0 l0 _ (by exact (K11.out.row (A2, n0, c2, l0) (by simp)).1) (by exact (K11.out.row ((some ⟨b, o, none⟩), n0, c0, l0) (by simp)).1) (by unfold maxLen; omega) (by unfold maxLen; omega) true (by simp)).mono ?_
          rintro e w12 ⟨rfl, hb⟩
          have K12 := Lib.hid (K11.out.step hb)
          clear hb K11
          have hrow := (K12.out.row ((some ⟨b, o, none⟩), n0, c0, l0) (by simp)).1
          have hpart := hrow.part (i := 1) (j := k + 1) (c := c0) (by omega) (by simp only; omega) m0.1
          have ecut : (l0.take (k + 1)).drop 1 = (l0.drop 1).take k := by rw [List.drop_take]; rfl
          rw [ecut, Nat.add_sub_cancel, ← show D = (l0.drop 1).take k from e5.out] at hpart
          have hcut := cut_lh (some ⟨b, o, none⟩) n0 c0 1 (k + 1) (by omega) (by omega)
          rw [Nat.add_sub_cancel, show (((k + 1 : Nat) : Int)) = (k : Int) + 1 from by omega] at hcut
          have hcut1 : ∀ W : World, (Instr.slice 22 (.slice (some ⟨b, o, none⟩) n0 c0) (some (.int .i64 1)) (some (.int .i64 ((k : Int) + 1))) none).run Try.prog W = .ok (.slice (cutA (some ⟨b, o, none⟩) c0 1) k (c0 - 1)) W := hcut
          have hDl := Lib.hid hpart.len
          have HPA := Lib.hid hpart
          have e0 : decide ((k : Int) < 0) = false := decide_eq_false (by omega)
          have e1 := d255 k hk
          have e2 : decide ((n0 : Int) ≤ (k : Int)) = false := decide_eq_false (by omega)
          have e3 : ¬ n0 ≤ k := by omega
          clear hrow hpart hcut ecut e5
          go_wp2_with fail
          refine (al_same _ _ _ _ _ _ D D _ (by exact (K12.out.row (A6, D.length, c6, D) (by simp)).1) (by exact HPA.out) (by have := hDl.out; unfold maxLen; omega) (by unfold maxLen; omega) true (by simp)).mono ?_
          rintro e w13 ⟨rfl, hb⟩
          have K13 := Lib.hid (K12.out.step hb)
          clear hb K12
          go_wp2_with fail
          go_ret
          exact ⟨rfl, K13.out.bel⟩
end Go.Proofs.Ytpkombfiejdflaa
