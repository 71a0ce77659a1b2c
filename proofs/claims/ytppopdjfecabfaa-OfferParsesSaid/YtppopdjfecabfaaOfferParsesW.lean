/- Layer 13's statement OfferParses, walked. No condition. -/
import Derived.Test.YtppopdjfecabfaaOffW
import Derived.Test.YtppopdjfecabfaaOpenVers
namespace Go.Proofs.Ytppopdjfecabfaa
open Go.RowKit
set_option linter.unusedVariables false
set_option linter.unusedSimpArgs false
attribute [local irreducible] putL byt mkO offL rawP verL prs splV vnum numL oprs answ hasV lngL
attribute [local go_sem ↓] ex_ldHd ex_stHd ex_ldHr ex_stHr
theorem rohas_lit (A : Option Addr) (n c : Nat) (l : List UInt8) (v : Nat) (z : Int) (hz : (v : Int) = z) (w : World) (h : RB w w.heap.size A n l) (hc : n ≤ c ∧ c ≤ maxLen) (hn : n ≤ 1000000) (hv : v ≤ 4294967295) (u : Bool) (hu : hasV l v = u) :
    Calls Try.prog 20 #[.slice A n c, .int .u32 z] w fun e w' => e = .returned (.bool u) ∧ Below w.heap.size w w' := by
  subst hz
  subst hu
  exact rohas_any A n c l v w h hc hn hv
theorem oprs_ids (l : List UInt8) : (oprs l).1.2.2.1.length ≤ 255 ∧ (oprs l).1.2.2.2.length ≤ 255 := by
  have h := prs_ids l
  unfold oprs
  (repeat' split) <;> first | exact h | exact ⟨Nat.zero_le _, Nat.zero_le _⟩
set_option maxRecDepth 100000 in
set_option maxHeartbeats 8000000 in
theorem OfferParses_walk (A0 : Option Addr) (n0 c0 : Nat) (l0 : List UInt8) (x1 : Int) (w : World) (h0 : RB w w.heap.size A0 n0 l0) (m0 : n0 ≤ c0 ∧ c0 ≤ maxLen) (h1 : (Lit.int .u32 x1).wf = true) :
    Calls Try.prog 4 #[.slice A0 n0 c0, .int .u32 x1] w fun e w' => e = .returned (.bool true) ∧ Below w.heap.size w w' := by
  obtain ⟨v, hv, hv32⟩ : ∃ v : Nat, (v : Int) = x1 ∧ v ≤ 4294967295 := by have := bounds_u32 h1; exact ⟨x1.toNat, by omega, by omega⟩
  subst hv
  clear h1
  have K0 := Lib.hid ((VW.start w).add h0 m0.1 m0.2)
  obtain ⟨u, HU⟩ : ∃ u, Hid (hasV l0 v = u) := ⟨_, Lib.hid rfl⟩
  obtain ⟨r, HR⟩ : ∃ r, Hid (r = oprs l0) := ⟨_, Lib.hid rfl⟩
  have HSM : Hid (r.1.2.2.1.length ≤ 255 ∧ r.1.2.2.2.length ≤ 255) := Lib.hid (by rw [HR.out]; exact oprs_ids l0)
  clear h0
  by_cases t0 : 3000 < n0
  · have d0 : decide (3000 < (n0 : Int)) = true := decide_eq_true (by omega)
    go_enter Try.func4, Try.ntmps4
    go_wp2_with fail
    refine (oalive_any _).mono ?_
    rintro e w1 ⟨rfl, hb1⟩
    have K1 := Lib.hid (K0.out.step hb1)
    clear hb1 K0
    go_wp2_with fail
    go_ret
    exact ⟨rfl, K1.out.bel⟩
  have d0 : decide (3000 < (n0 : Int)) = false := decide_eq_false (by omega)
  go_enter Try.func4, Try.ntmps4
  go_wp2_with fail
  refine (oalive_any _).mono ?_
  rintro e w1 ⟨rfl, hb1⟩
  have K1 := Lib.hid (K0.out.step hb1)
  clear hb1 K0
  go_wp2_with fail
  refine (copy_any A0 n0 c0 0 l0 _ (by exact (K1.out.row (A0, n0, c0, l0) (by simp)).1) (by omega)).mono ?_
  rintro e w2 ⟨A2, c2, rfl, ho, hb⟩
  have K2 := Lib.hid (K1.out.own hb ho)
  clear ho hb K1
  go_wp2_with fail
  refine (oparse_any A2 n0 c2 l0 _ (by exact (K2.out.row (A2, n0, c2, l0) (by simp)).1) (by exact (K2.out.row (A2, n0, c2, l0) (by simp)).2) (by omega)).mono ?_
  rw [← HR.out]
  intro e w3 qq
  obtain ⟨h, A3, n3, c3, rfl, hp, hn, kk⟩ := K2.out.hdr qq
  have K3 := Lib.hid kk
  have HPh := Lib.hid hp
  have HNh := Lib.hid hn
  clear qq kk hp hn K2
  go_wp2_with (first
    | (with_reducible show wpList _ _ _ (⟨some 6, .alloc _, _, _, _, none⟩ :: _) _ _; refine wpList_allocN ht_head rfl rfl ?_; intro w3a y0 hc2 hb2 hx2; have H2 := Lib.hid (And.intro hc2 (And.intro hb2 hx2)); clear hc2 hb2 hx2)
    | (refine wpList_stH ht_head rfl (.tmp 6) (.tmp 22) rfl y0 rfl h zeroH rfl (by exact H2.out.1) ?_; intro w4 hc3 ho3 hs3; have K4 := Lib.hid (K3.out.var H2.out.2.1 H2.out.2.2 hc3 ho3); clear hc3 ho3 hs3 H2 K3))
  refine (roparse_any A0 n0 c0 l0 _ (by exact (K4.out.row (A0, n0, c0, l0) (by simp)).1) m0 (by omega)).mono ?_
  rw [← HR.out]
  intro e w5 qq
  obtain ⟨g, A5, n5, c5, rfl, hp, hn, kk⟩ := K4.out.hdr qq
  have K5 := Lib.hid kk
  have HPg := Lib.hid hp
  have HNg := Lib.hid hn
  clear qq kk hp hn K4
  obtain rfl : n3 = n5 := by rw [← HNg.out, HNh.out]
  go_wp2_with (first
    | (with_reducible show wpList _ _ _ (⟨some 9, .alloc _, _, _, _, none⟩ :: _) _ _; refine wpList_allocN ht_ref rfl rfl ?_; intro w5a y1 hc2 hb2 hx2; have H2 := Lib.hid (And.intro hc2 (And.intro hb2 hx2)); clear hc2 hb2 hx2)
    | (refine wpList_stH ht_ref rfl (.tmp 9) (.tmp 28) rfl y1 rfl g zeroH rfl (by exact H2.out.1) ?_; intro w6 hc3 ho3 hs3; have K6 := Lib.hid (K5.out.var H2.out.2.1 H2.out.2.2 hc3 ho3); clear hc3 ho3 hs3 H2 K5))
  have K7 := Lib.hid (K6.out.step (Below.refl _ _).drew)
  clear K6
  refine wp_region_held_drew (S := fun w' => Hc 37 w' y0 h ∧ Hc 40 w' y1 g ∧ True) (by kernel_rfl) ⟨(K7.out.box (37, y0, h) (by simp)), (K7.out.box (40, y1, g) (by simp)), trivial⟩ (fun hHeld => ?_)
  (try dsimp only at hHeld)
  refine wpAnyH_take (i := 0) (v := ?v0_1) rfl (by kernel_rfl) (by kernel_rfl) (by kernel_rfl) (fun _ _ _ h => h) (Or.inl ⟨by rfl, ?hy0_1⟩) hHeld ?_
  case hy0_1 => (intro w hSw; (try dsimp only at hSw); have q0 := ldHd_m ht_head hSw.1; have q1 := ldHd_m ht_ref hSw.2.1; have q2 := hSw.2.2; (try simp only [List.getElem_toArray, List.getElem_cons_zero, List.getElem_cons_succ]); go_simp <;> with_reducible rfl)
  (try simp only [Act.put, List.getElem_toArray, List.getElem_cons_zero, List.getElem_cons_succ, List.setIfInBounds_toArray, List.set_cons_zero, List.set_cons_succ])
  refine wpAnyH_take (i := 1) (v := ?v1_2) rfl (by kernel_rfl) (by kernel_rfl) (by kernel_rfl) (fun _ _ _ h => h) (Or.inl ⟨by rfl, ?hy1_2⟩) hHeld ?_
  case hy1_2 => (intro w hSw; (try dsimp only at hSw); have q0 := ldHd_m ht_head hSw.1; have q1 := ldHd_m ht_ref hSw.2.1; have q2 := hSw.2.2; (try simp only [List.getElem_toArray, List.getElem_cons_zero, List.getElem_cons_succ]); go_simp <;> with_reducible rfl)
  (try simp only [Act.put, List.getElem_toArray, List.getElem_cons_zero, List.getElem_cons_succ, List.setIfInBounds_toArray, List.set_cons_zero, List.set_cons_succ])
  refine wpAnyH_take (i := 2) (v := ?v2_3) rfl (by kernel_rfl) (by kernel_rfl) (by kernel_rfl) (fun _ _ _ h => h) (Or.inl ⟨by rfl, ?hy2_3⟩) hHeld ?_
  case hy2_3 => (intro w hSw; (try dsimp only at hSw); have q0 := ldHd_m ht_head hSw.1; have q1 := ldHd_m ht_ref hSw.2.1; have q2 := hSw.2.2; (try simp only [List.getElem_toArray, List.getElem_cons_zero, List.getElem_cons_succ]); go_simp <;> with_reducible rfl)
  (try simp only [Act.put, List.getElem_toArray, List.getElem_cons_zero, List.getElem_cons_succ, List.setIfInBounds_toArray, List.set_cons_zero, List.set_cons_succ])
  refine wpAnyH_take (i := 3) (v := ?v3_4) rfl (by kernel_rfl) (by kernel_rfl) (by kernel_rfl) (fun _ _ _ h => h) (Or.inl ⟨by rfl, ?hy3_4⟩) hHeld ?_
  case hy3_4 => (intro w hSw; (try dsimp only at hSw); have q0 := ldHd_m ht_head hSw.1; have q1 := ldHd_m ht_ref hSw.2.1; have q2 := hSw.2.2; (try simp only [List.getElem_toArray, List.getElem_cons_zero, List.getElem_cons_succ]); go_simp <;> with_reducible rfl)
  (try simp only [Act.put, List.getElem_toArray, List.getElem_cons_zero, List.getElem_cons_succ, List.setIfInBounds_toArray, List.set_cons_zero, List.set_cons_succ])
  refine wpAnyH_take (i := 4) (v := ?v4_5) rfl (by kernel_rfl) (by kernel_rfl) (by kernel_rfl) (fun _ _ _ h => h) (Or.inl ⟨by rfl, ?hy4_5⟩) hHeld ?_
  case hy4_5 => (intro w hSw; (try dsimp only at hSw); have q0 := ldHd_m ht_head hSw.1; have q1 := ldHd_m ht_ref hSw.2.1; have q2 := hSw.2.2; (try simp only [List.getElem_toArray, List.getElem_cons_zero, List.getElem_cons_succ]); go_simp <;> with_reducible rfl)
  (try simp only [Act.put, List.getElem_toArray, List.getElem_cons_zero, List.getElem_cons_succ, List.setIfInBounds_toArray, List.set_cons_zero, List.set_cons_succ])
  refine wpAnyH_take (i := 6) (v := ?v6_6) rfl (by kernel_rfl) (by kernel_rfl) (by kernel_rfl) (fun _ _ _ h => h) (Or.inl ⟨by rfl, ?hy6_6⟩) hHeld ?_
  case hy6_6 => (intro w hSw; (try dsimp only at hSw); have q0 := ldHd_m ht_head hSw.1; have q1 := ldHd_m ht_ref hSw.2.1; have q2 := hSw.2.2; (try simp only [List.getElem_toArray, List.getElem_cons_zero, List.getElem_cons_succ]); go_simp <;> with_reducible rfl)
  (try simp only [Act.put, List.getElem_toArray, List.getElem_cons_zero, List.getElem_cons_succ, List.setIfInBounds_toArray, List.set_cons_zero, List.set_cons_succ])
  refine wpAnyH_ready (rs := [5]) (by kernel_rfl) (by simp) ?_
  refine AllReadyH.cons rfl (fun K hK => ?_) AllReadyH.nil
  (try simp only [List.getElem_toArray, List.getElem_cons_zero, List.getElem_cons_succ])
  go_simp
  refine (hof_any h _ (by exact K7.out.hd h (by simp)) (by have := HSM.out.1; rw [← HPh.out] at this; exact Nat.le_trans this (by decide)) (by have := HSM.out.2; rw [← HPh.out] at this; exact Nat.le_trans this (by decide))).mono ?_
  rintro e w8 ⟨g6, rfl, hpl6, hown6, hb6⟩
  have K8 := Lib.hid ((K7.out.step hb6).addh hown6.ok)
  have HP6 := Lib.hid hpl6
  clear hpl6 hown6 hb6 K7
  (try go_wp2_with fail)
  refine hK.out _ _ ⟨(K8.out.box (37, y0, h) (by simp)), (K8.out.box (40, y1, g) (by simp)), trivial⟩ (fun hHeld => ?_)
  clear hK K
  (try simp only [Act.put, List.getElem_toArray, List.getElem_cons_zero, List.getElem_cons_succ, List.setIfInBounds_toArray, List.set_cons_zero, List.set_cons_succ])
  refine wpAnyH_ready (rs := [7]) (by kernel_rfl) (by simp) ?_
  refine AllReadyH.cons rfl (fun K hK => ?_) AllReadyH.nil
  (try simp only [List.getElem_toArray, List.getElem_cons_zero, List.getElem_cons_succ])
  go_simp
  refine (rhsame_any g6 g _ (by exact K8.out.hd g6 (by simp)) (by exact K8.out.hd g (by simp)) true (decide_eq_true (by rw [HP6.out, HPh.out, HPg.out]))).mono ?_
  rintro e w9 ⟨rfl, hb⟩
  have K9 := Lib.hid (K8.out.step hb)
  clear hb K8
  (try go_wp2_with fail)
  refine hK.out _ _ ⟨(K9.out.box (37, y0, h) (by simp)), (K9.out.box (40, y1, g) (by simp)), trivial⟩ (fun hHeld => ?_)
  clear hK K
  (try simp only [Act.put, List.getElem_toArray, List.getElem_cons_zero, List.getElem_cons_succ, List.setIfInBounds_toArray, List.set_cons_zero, List.set_cons_succ])
  refine wpAnyH_take (i := 8) (v := ?v8_7) rfl (by kernel_rfl) (by kernel_rfl) (by kernel_rfl) (fun _ _ _ h => h) (Or.inl ⟨by rfl, ?hy8_7⟩) hHeld ?_
  case hy8_7 => (intro w hSw; (try dsimp only at hSw); have q0 := ldHd_m ht_head hSw.1; have q1 := ldHd_m ht_ref hSw.2.1; have q2 := hSw.2.2; (try simp only [List.getElem_toArray, List.getElem_cons_zero, List.getElem_cons_succ]); go_simp <;> with_reducible rfl)
  (try simp only [Act.put, List.getElem_toArray, List.getElem_cons_zero, List.getElem_cons_succ, List.setIfInBounds_toArray, List.set_cons_zero, List.set_cons_succ])
  refine wpAnyH_take (i := 9) (v := ?v9_8) rfl (by kernel_rfl) (by kernel_rfl) (by kernel_rfl) (fun _ _ _ h => h) (Or.inl ⟨by rfl, ?hy9_8⟩) hHeld ?_
  case hy9_8 => (intro w hSw; (try dsimp only at hSw); have q0 := ldHd_m ht_head hSw.1; have q1 := ldHd_m ht_ref hSw.2.1; have q2 := hSw.2.2; (try simp only [List.getElem_toArray, List.getElem_cons_zero, List.getElem_cons_succ]); go_simp <;> with_reducible rfl)
  (try simp only [Act.put, List.getElem_toArray, List.getElem_cons_zero, List.getElem_cons_succ, List.setIfInBounds_toArray, List.set_cons_zero, List.set_cons_succ])
  refine wpAnyH_take (i := 10) (v := ?v10_9) rfl (by kernel_rfl) (by kernel_rfl) (by kernel_rfl) (fun _ _ _ h => h) (Or.inl ⟨by rfl, ?hy10_9⟩) hHeld ?_
  case hy10_9 => (intro w hSw; (try dsimp only at hSw); have q0 := ldHd_m ht_head hSw.1; have q1 := ldHd_m ht_ref hSw.2.1; have q2 := hSw.2.2; (try simp only [List.getElem_toArray, List.getElem_cons_zero, List.getElem_cons_succ]); go_simp <;> with_reducible rfl)
  (try simp only [Act.put, List.getElem_toArray, List.getElem_cons_zero, List.getElem_cons_succ, List.setIfInBounds_toArray, List.set_cons_zero, List.set_cons_succ])
  refine wpAnyH_take (i := 11) (v := ?v11_10) rfl (by kernel_rfl) (by kernel_rfl) (by kernel_rfl) (fun _ _ _ h => h) (Or.inl ⟨by rfl, ?hy11_10⟩) hHeld ?_
  case hy11_10 => (intro w hSw; (try dsimp only at hSw); have q0 := ldHd_m ht_head hSw.1; have q1 := ldHd_m ht_ref hSw.2.1; have q2 := hSw.2.2; (try simp only [List.getElem_toArray, List.getElem_cons_zero, List.getElem_cons_succ]); go_simp <;> with_reducible rfl)
  (try simp only [Act.put, List.getElem_toArray, List.getElem_cons_zero, List.getElem_cons_succ, List.setIfInBounds_toArray, List.set_cons_zero, List.set_cons_succ])
  refine wpAnyH_ready (rs := [12]) (by kernel_rfl) (by simp) ?_
  refine AllReadyH.cons rfl (fun K hK => ?_) AllReadyH.nil
  (try simp only [List.getElem_toArray, List.getElem_cons_zero, List.getElem_cons_succ])
  go_simp
  refine (al_vsame A3 A5 n3 c3 n3 c5 r.2.1 r.2.1 _ (by exact (K9.out.vl (A3, n3, c3, r.2.1) (by simp)).1) (by exact (K9.out.vl (A5, n3, c5, r.2.1) (by simp)).1) (Nat.le_trans (K9.out.vl (A3, n3, c3, r.2.1) (by simp)).2.1 (K9.out.vl (A3, n3, c3, r.2.1) (by simp)).2.2) (Nat.le_trans (K9.out.vl (A5, n3, c5, r.2.1) (by simp)).2.1 (K9.out.vl (A5, n3, c5, r.2.1) (by simp)).2.2) true (by simp)).mono ?_
  rintro e w10 ⟨rfl, hb⟩
  have K10 := Lib.hid (K9.out.step hb)
  clear hb K9
  (try go_wp2_with fail)
  refine hK.out _ _ ⟨(K10.out.box (37, y0, h) (by simp)), (K10.out.box (40, y1, g) (by simp)), trivial⟩ (fun hHeld => ?_)
  clear hK K
  (try simp only [Act.put, List.getElem_toArray, List.getElem_cons_zero, List.getElem_cons_succ, List.setIfInBounds_toArray, List.set_cons_zero, List.set_cons_succ])
  refine wpAnyH_take (i := 13) (v := ?v13_11) rfl (by kernel_rfl) (by kernel_rfl) (by kernel_rfl) (fun _ _ _ h => h) (Or.inl ⟨by rfl, ?hy13_11⟩) hHeld ?_
  case hy13_11 => (intro w hSw; (try dsimp only at hSw); have q0 := ldHd_m ht_head hSw.1; have q1 := ldHd_m ht_ref hSw.2.1; have q2 := hSw.2.2; (try simp only [List.getElem_toArray, List.getElem_cons_zero, List.getElem_cons_succ]); go_simp <;> with_reducible rfl)
  (try simp only [Act.put, List.getElem_toArray, List.getElem_cons_zero, List.getElem_cons_succ, List.setIfInBounds_toArray, List.set_cons_zero, List.set_cons_succ])
  refine wpAnyH_take (i := 14) (v := ?v14_12) rfl (by kernel_rfl) (by kernel_rfl) (by kernel_rfl) (fun _ _ _ h => h) (Or.inl ⟨by rfl, ?hy14_12⟩) hHeld ?_
  case hy14_12 => (intro w hSw; (try dsimp only at hSw); have q0 := ldHd_m ht_head hSw.1; have q1 := ldHd_m ht_ref hSw.2.1; have q2 := hSw.2.2; (try simp only [List.getElem_toArray, List.getElem_cons_zero, List.getElem_cons_succ]); go_simp <;> with_reducible rfl)
  (try simp only [Act.put, List.getElem_toArray, List.getElem_cons_zero, List.getElem_cons_succ, List.setIfInBounds_toArray, List.set_cons_zero, List.set_cons_succ])
  refine wpAnyH_take (i := 15) (v := ?v15_13) rfl (by kernel_rfl) (by kernel_rfl) (by kernel_rfl) (fun _ _ _ h => h) (Or.inl ⟨by rfl, ?hy15_13⟩) hHeld ?_
  case hy15_13 => (intro w hSw; (try dsimp only at hSw); have q0 := ldHd_m ht_head hSw.1; have q1 := ldHd_m ht_ref hSw.2.1; have q2 := hSw.2.2; (try simp only [List.getElem_toArray, List.getElem_cons_zero, List.getElem_cons_succ]); go_simp <;> with_reducible rfl)
  (try simp only [Act.put, List.getElem_toArray, List.getElem_cons_zero, List.getElem_cons_succ, List.setIfInBounds_toArray, List.set_cons_zero, List.set_cons_succ])
  refine wpAnyH_take (i := 16) (v := ?v16_14) rfl (by kernel_rfl) (by kernel_rfl) (by kernel_rfl) (fun _ _ _ h => h) (Or.inl ⟨by rfl, ?hy16_14⟩) hHeld ?_
  case hy16_14 => (intro w hSw; (try dsimp only at hSw); have q0 := ldHd_m ht_head hSw.1; have q1 := ldHd_m ht_ref hSw.2.1; have q2 := hSw.2.2; (try simp only [List.getElem_toArray, List.getElem_cons_zero, List.getElem_cons_succ]); go_simp <;> with_reducible rfl)
  (try simp only [Act.put, List.getElem_toArray, List.getElem_cons_zero, List.getElem_cons_succ, List.setIfInBounds_toArray, List.set_cons_zero, List.set_cons_succ])
  refine wpAnyH_take (i := 18) (v := ?v18_15) rfl (by kernel_rfl) (by kernel_rfl) (by kernel_rfl) (fun _ _ _ h => h) (Or.inl ⟨by rfl, ?hy18_15⟩) hHeld ?_
  case hy18_15 => (intro w hSw; (try dsimp only at hSw); have q0 := ldHd_m ht_head hSw.1; have q1 := ldHd_m ht_ref hSw.2.1; have q2 := hSw.2.2; (try simp only [List.getElem_toArray, List.getElem_cons_zero, List.getElem_cons_succ]); go_simp <;> with_reducible rfl)
  (try simp only [Act.put, List.getElem_toArray, List.getElem_cons_zero, List.getElem_cons_succ, List.setIfInBounds_toArray, List.set_cons_zero, List.set_cons_succ])
  refine wpAnyH_take (i := 19) (v := ?v19_16) rfl (by kernel_rfl) (by kernel_rfl) (by kernel_rfl) (fun _ _ _ h => h) (Or.inl ⟨by rfl, ?hy19_16⟩) hHeld ?_
  case hy19_16 => (intro w hSw; (try dsimp only at hSw); have q0 := ldHd_m ht_head hSw.1; have q1 := ldHd_m ht_ref hSw.2.1; have q2 := hSw.2.2; (try simp only [List.getElem_toArray, List.getElem_cons_zero, List.getElem_cons_succ]); go_simp <;> with_reducible rfl)
  (try simp only [Act.put, List.getElem_toArray, List.getElem_cons_zero, List.getElem_cons_succ, List.setIfInBounds_toArray, List.set_cons_zero, List.set_cons_succ])
  refine wpAnyH_ready (rs := [17]) (by kernel_rfl) (by simp) ?_
  refine AllReadyH.cons rfl (fun K hK => ?_) AllReadyH.nil
  (try simp only [List.getElem_toArray, List.getElem_cons_zero, List.getElem_cons_succ])
  go_simp
  refine (ohas_lit A2 n0 c2 l0 v _ rfl _ (by exact (K10.out.row (A2, n0, c2, l0) (by simp)).1) (by exact (K10.out.row (A2, n0, c2, l0) (by simp)).2) (by omega) hv32 u HU.out).mono ?_
  rintro e w11 ⟨rfl, hb⟩
  have K11 := Lib.hid (K10.out.step hb)
  clear hb K10
  (try go_wp2_with fail)
  refine hK.out _ _ ⟨(K11.out.box (37, y0, h) (by simp)), (K11.out.box (40, y1, g) (by simp)), trivial⟩ (fun hHeld => ?_)
  clear hK K
  (try simp only [Act.put, List.getElem_toArray, List.getElem_cons_zero, List.getElem_cons_succ, List.setIfInBounds_toArray, List.set_cons_zero, List.set_cons_succ])
  refine wpAnyH_ready (rs := [20]) (by kernel_rfl) (by simp) ?_
  refine AllReadyH.cons rfl (fun K hK => ?_) AllReadyH.nil
  (try simp only [List.getElem_toArray, List.getElem_cons_zero, List.getElem_cons_succ])
  go_simp
  refine (rohas_lit A0 n0 c0 l0 v _ rfl _ (by exact (K11.out.row (A0, n0, c0, l0) (by simp)).1) m0 (by omega) hv32 u HU.out).mono ?_
  rintro e w12 ⟨rfl, hb⟩
  have K12 := Lib.hid (K11.out.step hb)
  clear hb K11
  (try go_wp2_with fail)
  refine hK.out _ _ ⟨(K12.out.box (37, y0, h) (by simp)), (K12.out.box (40, y1, g) (by simp)), trivial⟩ (fun hHeld => ?_)
  clear hK K
  (try simp only [Act.put, List.getElem_toArray, List.getElem_cons_zero, List.getElem_cons_succ, List.setIfInBounds_toArray, List.set_cons_zero, List.set_cons_succ])
  refine wpAnyH_take (i := 21) (v := ?v21_17) rfl (by kernel_rfl) (by kernel_rfl) (by kernel_rfl) (fun _ _ _ h => h) (Or.inl ⟨by rfl, ?hy21_17⟩) hHeld ?_
  case hy21_17 => (intro w hSw; (try dsimp only at hSw); have q0 := ldHd_m ht_head hSw.1; have q1 := ldHd_m ht_ref hSw.2.1; have q2 := hSw.2.2; (try simp only [List.getElem_toArray, List.getElem_cons_zero, List.getElem_cons_succ]); go_simp <;> with_reducible rfl)
  (try simp only [Act.put, List.getElem_toArray, List.getElem_cons_zero, List.getElem_cons_succ, List.setIfInBounds_toArray, List.set_cons_zero, List.set_cons_succ])
  refine wpAnyH_take (i := 22) (v := ?v22_18) rfl (by kernel_rfl) (by kernel_rfl) (by kernel_rfl) (fun _ _ _ h => h) (Or.inl ⟨by rfl, ?hy22_18⟩) hHeld ?_
  case hy22_18 => (intro w hSw; (try dsimp only at hSw); have q0 := ldHd_m ht_head hSw.1; have q1 := ldHd_m ht_ref hSw.2.1; have q2 := hSw.2.2; (try simp only [List.getElem_toArray, List.getElem_cons_zero, List.getElem_cons_succ]); go_simp <;> with_reducible rfl)
  (try simp only [Act.put, List.getElem_toArray, List.getElem_cons_zero, List.getElem_cons_succ, List.setIfInBounds_toArray, List.set_cons_zero, List.set_cons_succ])
  refine wpAnyH_take (i := 23) (v := ?v23_19) rfl (by kernel_rfl) (by kernel_rfl) (by kernel_rfl) (fun _ _ _ h => h) (Or.inl ⟨by rfl, ?hy23_19⟩) hHeld ?_
  case hy23_19 => (intro w hSw; (try dsimp only at hSw); have q0 := ldHd_m ht_head hSw.1; have q1 := ldHd_m ht_ref hSw.2.1; have q2 := hSw.2.2; (try simp only [List.getElem_toArray, List.getElem_cons_zero, List.getElem_cons_succ]); go_simp <;> with_reducible rfl)
  (try simp only [Act.put, List.getElem_toArray, List.getElem_cons_zero, List.getElem_cons_succ, List.setIfInBounds_toArray, List.set_cons_zero, List.set_cons_succ])
  refine wpAnyH_take (i := 24) (v := ?v24_20) rfl (by kernel_rfl) (by kernel_rfl) (by kernel_rfl) (fun _ _ _ h => h) (Or.inl ⟨by rfl, ?hy24_20⟩) hHeld ?_
  case hy24_20 => (intro w hSw; (try dsimp only at hSw); have q0 := ldHd_m ht_head hSw.1; have q1 := ldHd_m ht_ref hSw.2.1; have q2 := hSw.2.2; (try simp only [List.getElem_toArray, List.getElem_cons_zero, List.getElem_cons_succ]); go_simp <;> with_reducible rfl)
  (try simp only [Act.put, List.getElem_toArray, List.getElem_cons_zero, List.getElem_cons_succ, List.setIfInBounds_toArray, List.set_cons_zero, List.set_cons_succ])
  refine wpAnyH_take (i := 25) (v := ?v25_21) rfl (by kernel_rfl) (by kernel_rfl) (by kernel_rfl) (fun _ _ _ h => h) (Or.inl ⟨by rfl, ?hy25_21⟩) hHeld ?_
  case hy25_21 => (intro w hSw; (try dsimp only at hSw); have q0 := ldHd_m ht_head hSw.1; have q1 := ldHd_m ht_ref hSw.2.1; have q2 := hSw.2.2; (try simp only [List.getElem_toArray, List.getElem_cons_zero, List.getElem_cons_succ]); go_simp <;> with_reducible rfl)
  (try simp only [Act.put, List.getElem_toArray, List.getElem_cons_zero, List.getElem_cons_succ, List.setIfInBounds_toArray, List.set_cons_zero, List.set_cons_succ])
  refine wpAnyH_ready (rs := [26]) (by kernel_rfl) (by simp) ?_
  refine AllReadyH.cons rfl (fun K hK => ?_) AllReadyH.nil
  (try simp only [List.getElem_toArray, List.getElem_cons_zero, List.getElem_cons_succ])
  go_simp
  refine (al_same A2 A0 n0 c2 n0 c0 l0 l0 _ (by exact (K12.out.row (A2, n0, c2, l0) (by simp)).1) (by exact (K12.out.row (A0, n0, c0, l0) (by simp)).1) (by unfold maxLen; omega) (by unfold maxLen; omega) true (by simp)).mono ?_
  rintro e w13 ⟨rfl, hb⟩
  have K13 := Lib.hid (K12.out.step hb)
  clear hb K12
  (try go_wp2_with fail)
  refine hK.out _ _ ⟨(K13.out.box (37, y0, h) (by simp)), (K13.out.box (40, y1, g) (by simp)), trivial⟩ (fun hHeld => ?_)
  clear hK K
  (try simp only [Act.put, List.getElem_toArray, List.getElem_cons_zero, List.getElem_cons_succ, List.setIfInBounds_toArray, List.set_cons_zero, List.set_cons_succ])
  refine wpAnyH_take (i := 27) (v := ?v27_22) rfl (by kernel_rfl) (by kernel_rfl) (by kernel_rfl) (fun _ _ _ h => h) (Or.inl ⟨by rfl, ?hy27_22⟩) hHeld ?_
  case hy27_22 => (intro w hSw; (try dsimp only at hSw); have q0 := ldHd_m ht_head hSw.1; have q1 := ldHd_m ht_ref hSw.2.1; have q2 := hSw.2.2; (try simp only [List.getElem_toArray, List.getElem_cons_zero, List.getElem_cons_succ]); go_simp <;> with_reducible rfl)
  (try simp only [Act.put, List.getElem_toArray, List.getElem_cons_zero, List.getElem_cons_succ, List.setIfInBounds_toArray, List.set_cons_zero, List.set_cons_succ])
  refine wpAnyH_take (i := 28) (v := ?v28_23) rfl (by kernel_rfl) (by kernel_rfl) (by kernel_rfl) (fun _ _ _ h => h) (Or.inl ⟨by rfl, ?hy28_23⟩) hHeld ?_
  case hy28_23 => (intro w hSw; (try dsimp only at hSw); have q0 := ldHd_m ht_head hSw.1; have q1 := ldHd_m ht_ref hSw.2.1; have q2 := hSw.2.2; (try simp only [List.getElem_toArray, List.getElem_cons_zero, List.getElem_cons_succ]); go_simp <;> with_reducible rfl)
  (try simp only [Act.put, List.getElem_toArray, List.getElem_cons_zero, List.getElem_cons_succ, List.setIfInBounds_toArray, List.set_cons_zero, List.set_cons_succ])
  refine wpAnyH_done (by kernel_rfl) ?_ _
  go_wp2_with fail
  go_ret
  exact ⟨rfl, K13.out.bel⟩
end Go.Proofs.Ytppopdjfecabfaa
