/- The walk of GhashLinear: products are linear; a sum of two texts is the fold of their blocks and of the block of their lengths. Conditions: the arguments are as they come in. -/
import Derived.Test.YtilpdojliaiokaaGhWalks
namespace Go.Proofs.Ytilpdojliaiokaa
open Go.RowKit
set_option linter.unusedVariables false
set_option linter.unusedSimpArgs false
attribute [local irreducible] PE gMul gFold Ho bks longL bB sumG nB ldP stP bsP osP gNext K2 X2 hl

set_option maxRecDepth 100000 in
set_option maxHeartbeats 4000000 in
theorem GhashLinear_walk (A0 : Option Addr) (n0 c0 : Nat) (l0 : List UInt8) (x1 : Nat) (x2 : Nat) (A3 : Option Addr) (n3 c3 : Nat) (l3 : List UInt8) (A4 : Option Addr) (n4 c4 : Nat) (l4 : List UInt8) (w : World) (h0 : RB w w.heap.size A0 n0 l0) (m0 : n0 ≤ c0 ∧ c0 ≤ maxLen) (h1 : x1 < 2 ^ 128) (h2 : x2 < 2 ^ 128) (h3 : RB w w.heap.size A3 n3 l3) (m3 : n3 ≤ c3 ∧ c3 ≤ maxLen) (h4 : RB w w.heap.size A4 n4 l4) (m4 : n4 ≤ c4 ∧ c4 ≤ maxLen) :
    Calls Try.prog 6 #[.slice A0 n0 c0, PE x1, PE x2, .slice A3 n3 c3, .slice A4 n4 c4] w fun e w' => e = .returned (.bool true) ∧ Below w.heap.size w w' := by
  unfold maxLen at m0 m3 m4
  have H0 := Lib.hid h0
  have H3 := Lib.hid h3
  have H4 := Lib.hid h4
  have e0 := h0.len
  have e3 := h3.len
  have e4 := h4.len
  have HX := Lib.hid (⟨h1, h2⟩ : x1 < 2 ^ 128 ∧ x2 < 2 ^ 128)
  clear h0 h1 h2 h3 h4
  obtain ⟨G, HG⟩ : ∃ G, Hid (G = w.heap.size) := ⟨_, Lib.hid rfl⟩
  go_enter Try.func6, Try.ntmps6
  go_wp2_with (first | (refine wpList_boxX rfl _ (.tmp 1) rfl x1 rfl ?_) | (refine wpList_boxX rfl _ (.tmp 2) rfl x2 rfl ?_))
  refine (alive_any _).mono ?_
  rintro e w1 ⟨rfl, hb1⟩
  have HXW : Hid (X2 G (G + 1) x1 x2 w1) := Lib.hid (by
    rw [HG.out]
    refine X2.keep ?_ hb1
    unfold X2
    exact ⟨Ew.alloc (Ew.new w _ _ _ rfl) _, Ew.new _ _ _ _ (by simp)⟩)
  have HB1 : Hid (Below w.heap.size w w1) := Lib.hid (((below_alloc w _).alloc (by simp) _).trans (hb1.mono (by simp; omega)))
  have hG1 : G + 1 < w1.heap.size := by have := HXW.out; unfold X2 at this; exact Ew.lt this.2
  clear hb1
  have hwG : w.heap.size ≤ G := by rw [HG.out]; exact Nat.le_refl _
  rw [← HG.out]
  by_cases h16 : n0 = 16
  · subst h16
    by_cases h3' : n3 ≤ 100
    · have hg3 : decide ((n3 : Int) > 100) = false := decide_eq_false (by omega)
      by_cases h4' : n4 ≤ 100
      · have hg4 : decide ((n4 : Int) > 100) = false := decide_eq_false (by omega)
        obtain ⟨h, HH⟩ : ∃ h, Hid (h = nB l0 ∧ h < 2 ^ 128) := ⟨_, Lib.hid ⟨rfl, nB_lt l0 e0⟩⟩
        obtain ⟨s, HS⟩ : ∃ s, Hid (s = x1 ^^^ x2 ∧ s < 2 ^ 128) := ⟨_, Lib.hid ⟨rfl, Nat.xor_lt_two_pow HX.out.1 HX.out.2⟩⟩
        obtain ⟨p, HP⟩ : ∃ p, Hid (p = gMul s h) := ⟨_, Lib.hid rfl⟩
        obtain ⟨pa, HPA⟩ : ∃ pa, Hid (pa = gMul x1 h ∧ pa < 2 ^ 128) := ⟨_, Lib.hid ⟨rfl, gMul_lt _ _ HX.out.1⟩⟩
        obtain ⟨pb, HPB⟩ : ∃ pb, Hid (pb = gMul x2 h ∧ pb < 2 ^ 128) := ⟨_, Lib.hid ⟨rfl, gMul_lt _ _ HX.out.2⟩⟩
        have HPS : Hid (p = pa ^^^ pb) := Lib.hid (by rw [HP.out, HS.out.1, HPA.out.1, HPB.out.1]; exact gMul_left _ _ _)
        obtain ⟨na, HNA⟩ : ∃ na, Hid (na = gNext x1 ∧ na < 2 ^ 128) := ⟨_, Lib.hid ⟨rfl, gNext_lt _ HX.out.1⟩⟩
        obtain ⟨q, HQ⟩ : ∃ q, Hid (q = gMul na h) := ⟨_, Lib.hid rfl⟩
        have HQN : Hid (q = gNext pa) := Lib.hid (by rw [HQ.out, HNA.out.1, HPA.out.1]; exact gMul_next _ _)
        have HZ : Hid ((0 : Nat) = gMul 0 h) := Lib.hid (gMul_zero' h).symm
        go_wp2_with fail
        refine (new_k w w1 A0 16 c0 h l0 rfl m0.1 H0.out HB1.out HH.out.1).mono ?_
        rintro e v0 ⟨b, rfl, hb1, hbl, k0⟩
        have K0 := Lib.hid k0
        have Y0 := Lib.hid (X2.keep HXW.out hbl)
        have hbG : G + 1 < b := by omega
        clear hb1 hbl k0 HXW
        go_wp2_with fail
        have K1 := Lib.hid K0.out.drew
        have Y1 := Lib.hid (X2.keep Y0.out (Below.refl _ _).drew)
        have HSD := Lib.hid Y1.out.s
        refine wp_region_held_drew (S := fun w' => ldP (.pointer (some ⟨G, 0, none⟩)) w' = .ok (.value (PE x1)) w' ∧ ldP (.pointer (some ⟨G + 1, 0, none⟩)) w' = .ok (.value (PE x2)) w') (by kernel_rfl) HSD.out (fun hHeld => ?_)
        (try dsimp only at hHeld)
        refine wpAnyH_take (i := 0) (v := ?v0_1) rfl (by kernel_rfl) (by kernel_rfl) (by kernel_rfl) (fun _ _ _ h => h) (Or.inl ⟨by rfl, ?hy0_1⟩) hHeld ?_
        case hy0_1 => (intro w hSw; (try dsimp only at hSw); obtain ⟨hSw1, hSw2⟩ := hSw; (try simp only [List.getElem_toArray, List.getElem_cons_zero, List.getElem_cons_succ]); go_simp <;> with_reducible rfl)
        (try simp only [Act.put, List.getElem_toArray, List.getElem_cons_zero, List.getElem_cons_succ, List.setIfInBounds_toArray, List.set_cons_zero, List.set_cons_succ])
        refine wpAnyH_take (i := 1) (v := ?v1_2) rfl (by kernel_rfl) (by kernel_rfl) (by kernel_rfl) (fun _ _ _ h => h) (Or.inl ⟨by rfl, ?hy1_2⟩) hHeld ?_
        case hy1_2 => (intro w hSw; (try dsimp only at hSw); obtain ⟨hSw1, hSw2⟩ := hSw; (try simp only [List.getElem_toArray, List.getElem_cons_zero, List.getElem_cons_succ]); go_simp <;> with_reducible rfl)
        (try simp only [Act.put, List.getElem_toArray, List.getElem_cons_zero, List.getElem_cons_succ, List.setIfInBounds_toArray, List.set_cons_zero, List.set_cons_succ])
        refine wpAnyH_take (i := 2) (v := ?v2_3) rfl (by kernel_rfl) (by kernel_rfl) (by kernel_rfl) (fun _ _ _ h => h) (Or.inl ⟨by rfl, ?hy2_3⟩) hHeld ?_
        case hy2_3 => (intro w hSw; (try dsimp only at hSw); obtain ⟨hSw1, hSw2⟩ := hSw; (try simp only [List.getElem_toArray, List.getElem_cons_zero, List.getElem_cons_succ]); go_simp <;> with_reducible rfl)
        (try simp only [Act.put, List.getElem_toArray, List.getElem_cons_zero, List.getElem_cons_succ, List.setIfInBounds_toArray, List.set_cons_zero, List.set_cons_succ])
        refine wpAnyH_take (i := 6) (v := ?v6_4) rfl (by kernel_rfl) (by kernel_rfl) (by kernel_rfl) (fun _ _ _ h => h) (Or.inl ⟨by rfl, ?hy6_4⟩) hHeld ?_
        case hy6_4 => (intro w hSw; (try dsimp only at hSw); obtain ⟨hSw1, hSw2⟩ := hSw; (try simp only [List.getElem_toArray, List.getElem_cons_zero, List.getElem_cons_succ]); go_simp <;> with_reducible rfl)
        (try simp only [Act.put, List.getElem_toArray, List.getElem_cons_zero, List.getElem_cons_succ, List.setIfInBounds_toArray, List.set_cons_zero, List.set_cons_succ])
        refine wpAnyH_take (i := 7) (v := ?v7_5) rfl (by kernel_rfl) (by kernel_rfl) (by kernel_rfl) (fun _ _ _ h => h) (Or.inl ⟨by rfl, ?hy7_5⟩) hHeld ?_
        case hy7_5 => (intro w hSw; (try dsimp only at hSw); obtain ⟨hSw1, hSw2⟩ := hSw; (try simp only [List.getElem_toArray, List.getElem_cons_zero, List.getElem_cons_succ]); go_simp <;> with_reducible rfl)
        (try simp only [Act.put, List.getElem_toArray, List.getElem_cons_zero, List.getElem_cons_succ, List.setIfInBounds_toArray, List.set_cons_zero, List.set_cons_succ])
        refine wpAnyH_take (i := 9) (v := ?v9_6) rfl (by kernel_rfl) (by kernel_rfl) (by kernel_rfl) (fun _ _ _ h => h) (Or.inl ⟨by rfl, ?hy9_6⟩) hHeld ?_
        case hy9_6 => (intro w hSw; (try dsimp only at hSw); obtain ⟨hSw1, hSw2⟩ := hSw; (try simp only [List.getElem_toArray, List.getElem_cons_zero, List.getElem_cons_succ]); go_simp <;> with_reducible rfl)
        (try simp only [Act.put, List.getElem_toArray, List.getElem_cons_zero, List.getElem_cons_succ, List.setIfInBounds_toArray, List.set_cons_zero, List.set_cons_succ])
        refine wpAnyH_take (i := 10) (v := ?v10_7) rfl (by kernel_rfl) (by kernel_rfl) (by kernel_rfl) (fun _ _ _ h => h) (Or.inl ⟨by rfl, ?hy10_7⟩) hHeld ?_
        case hy10_7 => (intro w hSw; (try dsimp only at hSw); obtain ⟨hSw1, hSw2⟩ := hSw; (try simp only [List.getElem_toArray, List.getElem_cons_zero, List.getElem_cons_succ]); go_simp <;> with_reducible rfl)
        (try simp only [Act.put, List.getElem_toArray, List.getElem_cons_zero, List.getElem_cons_succ, List.setIfInBounds_toArray, List.set_cons_zero, List.set_cons_succ])
        refine wpAnyH_ready (rs := [3]) (by kernel_rfl) (by simp) ?_
        refine AllReadyH.cons rfl (fun K hK => ?_) AllReadyH.nil
        (try simp only [List.getElem_toArray, List.getElem_cons_zero, List.getElem_cons_succ])
        go_simp
        refine hK.out _ _ (X2.s (X2.keep Y1.out (below_alloc _ _))) (fun hHeld => ?_)
        clear hK K
        (try simp only [Act.put, List.getElem_toArray, List.getElem_cons_zero, List.getElem_cons_succ, List.setIfInBounds_toArray, List.set_cons_zero, List.set_cons_succ])
        refine wpAnyH_ready (rs := [4]) (by kernel_rfl) (by simp) ?_
        refine AllReadyH.cons rfl (fun K hK => ?_) AllReadyH.nil
        (try simp only [List.getElem_toArray, List.getElem_cons_zero, List.getElem_cons_succ])
        go_simp
        refine (sum2_kd x1 x2 s v0 HX.out.1 HX.out.2 HS.out.1).mono ?_
        rintro e v2 ⟨rfl, hb⟩
        have K2a := Lib.hid (K0.out.keep hb)
        have Y2 := Lib.hid (X2.keep Y0.out hb)
        clear hb
        (try go_wp2_with fail)
        refine hK.out _ _ (X2.s Y2.out) (fun hHeld => ?_)
        clear hK K
        (try simp only [Act.put, List.getElem_toArray, List.getElem_cons_zero, List.getElem_cons_succ, List.setIfInBounds_toArray, List.set_cons_zero, List.set_cons_succ])
        refine wpAnyH_ready (rs := [5]) (by kernel_rfl) (by simp) ?_
        refine AllReadyH.cons rfl (fun K hK => ?_) AllReadyH.nil
        (try simp only [List.getElem_toArray, List.getElem_cons_zero, List.getElem_cons_succ])
        go_simp
        refine (times_k K2a.out s p HS.out.2 HP.out).mono ?_
        rintro e v3 ⟨rfl, k, hb⟩
        have K3 := Lib.hid k
        have Y3 := Lib.hid (X2.but Y2.out hb (by omega) (by omega))
        clear k hb
        (try go_wp2_with fail)
        refine hK.out _ _ (X2.s Y3.out) (fun hHeld => ?_)
        clear hK K
        (try simp only [Act.put, List.getElem_toArray, List.getElem_cons_zero, List.getElem_cons_succ, List.setIfInBounds_toArray, List.set_cons_zero, List.set_cons_succ])
        refine wpAnyH_ready (rs := [8]) (by kernel_rfl) (by simp) ?_
        refine AllReadyH.cons rfl (fun K hK => ?_) AllReadyH.nil
        (try simp only [List.getElem_toArray, List.getElem_cons_zero, List.getElem_cons_succ])
        go_simp
        refine (times_k K3.out x1 pa HX.out.1 HPA.out.1).mono ?_
        rintro e v4 ⟨rfl, k, hb⟩
        have K4 := Lib.hid k
        have Y4 := Lib.hid (X2.but Y3.out hb (by omega) (by omega))
        clear k hb
        (try go_wp2_with fail)
        refine hK.out _ _ (X2.s Y4.out) (fun hHeld => ?_)
        clear hK K
        (try simp only [Act.put, List.getElem_toArray, List.getElem_cons_zero, List.getElem_cons_succ, List.setIfInBounds_toArray, List.set_cons_zero, List.set_cons_succ])
        refine wpAnyH_ready (rs := [11]) (by kernel_rfl) (by simp) ?_
        refine AllReadyH.cons rfl (fun K hK => ?_) AllReadyH.nil
        (try simp only [List.getElem_toArray, List.getElem_cons_zero, List.getElem_cons_succ])
        go_simp
        refine (times_k K4.out x2 pb HX.out.2 HPB.out.1).mono ?_
        rintro e v5 ⟨rfl, k, hb⟩
        have K5 := Lib.hid k
        have Y5 := Lib.hid (X2.but Y4.out hb (by omega) (by omega))
        clear k hb
        (try go_wp2_with fail)
        refine hK.out _ _ (X2.s Y5.out) (fun hHeld => ?_)
        clear hK K
        (try simp only [Act.put, List.getElem_toArray, List.getElem_cons_zero, List.getElem_cons_succ, List.setIfInBounds_toArray, List.set_cons_zero, List.set_cons_succ])
        refine wpAnyH_ready (rs := [12]) (by kernel_rfl) (by simp) ?_
        refine AllReadyH.cons rfl (fun K hK => ?_) AllReadyH.nil
        (try simp only [List.getElem_toArray, List.getElem_cons_zero, List.getElem_cons_succ])
        go_simp
        refine hK.out _ _ (X2.s (X2.keep Y5.out (below_alloc _ _))) (fun hHeld => ?_)
        clear hK K
        (try simp only [Act.put, List.getElem_toArray, List.getElem_cons_zero, List.getElem_cons_succ, List.setIfInBounds_toArray, List.set_cons_zero, List.set_cons_succ])
        refine wpAnyH_ready (rs := [13]) (by kernel_rfl) (by simp) ?_
        refine AllReadyH.cons rfl (fun K hK => ?_) AllReadyH.nil
        (try simp only [List.getElem_toArray, List.getElem_cons_zero, List.getElem_cons_succ])
        go_simp
        refine (sum2_k pa pb p _ HPA.out.2 HPB.out.2 HPS.out).mono ?_
        rintro e v6 ⟨rfl, hb⟩
        have K6 := Lib.hid (K5.out.keep hb)
        have Y6 := Lib.hid (X2.keep Y5.out hb)
        clear hb
        (try go_wp2_with fail)
        refine hK.out _ _ (X2.s Y6.out) (fun hHeld => ?_)
        clear hK K
        (try simp only [Act.put, List.getElem_toArray, List.getElem_cons_zero, List.getElem_cons_succ, List.setIfInBounds_toArray, List.set_cons_zero, List.set_cons_succ])
        refine wpAnyH_take (i := 14) (v := ?v14_8) rfl (by kernel_rfl) (by kernel_rfl) (by kernel_rfl) (fun _ _ _ h => h) (Or.inl ⟨by rfl, ?hy14_8⟩) hHeld ?_
        case hy14_8 => (intro w hSw; (try dsimp only at hSw); obtain ⟨hSw1, hSw2⟩ := hSw; (try simp only [List.getElem_toArray, List.getElem_cons_zero, List.getElem_cons_succ]); go_simp <;> with_reducible rfl)
        (try simp only [Act.put, List.getElem_toArray, List.getElem_cons_zero, List.getElem_cons_succ, List.setIfInBounds_toArray, List.set_cons_zero, List.set_cons_succ])
        refine wpAnyH_take (i := 15) (v := ?v15_9) rfl (by kernel_rfl) (by kernel_rfl) (by kernel_rfl) (fun _ _ _ h => h) (Or.inl ⟨by rfl, ?hy15_9⟩) hHeld ?_
        case hy15_9 => (intro w hSw; (try dsimp only at hSw); obtain ⟨hSw1, hSw2⟩ := hSw; (try simp only [List.getElem_toArray, List.getElem_cons_zero, List.getElem_cons_succ]); go_simp <;> with_reducible rfl)
        (try simp only [Act.put, List.getElem_toArray, List.getElem_cons_zero, List.getElem_cons_succ, List.setIfInBounds_toArray, List.set_cons_zero, List.set_cons_succ])
        refine wpAnyH_take (i := 16) (v := ?v16_10) rfl (by kernel_rfl) (by kernel_rfl) (by kernel_rfl) (fun _ _ _ h => h) (Or.inl ⟨by rfl, ?hy16_10⟩) hHeld ?_
        case hy16_10 => (intro w hSw; (try dsimp only at hSw); obtain ⟨hSw1, hSw2⟩ := hSw; (try simp only [List.getElem_toArray, List.getElem_cons_zero, List.getElem_cons_succ]); go_simp <;> with_reducible rfl)
        (try simp only [Act.put, List.getElem_toArray, List.getElem_cons_zero, List.getElem_cons_succ, List.setIfInBounds_toArray, List.set_cons_zero, List.set_cons_succ])
        refine wpAnyH_take (i := 17) (v := ?v17_11) rfl (by kernel_rfl) (by kernel_rfl) (by kernel_rfl) (fun _ _ _ h => h) (Or.inl ⟨by rfl, ?hy17_11⟩) hHeld ?_
        case hy17_11 => (intro w hSw; (try dsimp only at hSw); obtain ⟨hSw1, hSw2⟩ := hSw; (try simp only [List.getElem_toArray, List.getElem_cons_zero, List.getElem_cons_succ]); go_simp <;> with_reducible rfl)
        (try simp only [Act.put, List.getElem_toArray, List.getElem_cons_zero, List.getElem_cons_succ, List.setIfInBounds_toArray, List.set_cons_zero, List.set_cons_succ])
        refine wpAnyH_take (i := 20) (v := ?v20_12) rfl (by kernel_rfl) (by kernel_rfl) (by kernel_rfl) (fun _ _ _ h => h) (Or.inl ⟨by rfl, ?hy20_12⟩) hHeld ?_
        case hy20_12 => (intro w hSw; (try dsimp only at hSw); obtain ⟨hSw1, hSw2⟩ := hSw; (try simp only [List.getElem_toArray, List.getElem_cons_zero, List.getElem_cons_succ]); go_simp <;> with_reducible rfl)
        (try simp only [Act.put, List.getElem_toArray, List.getElem_cons_zero, List.getElem_cons_succ, List.setIfInBounds_toArray, List.set_cons_zero, List.set_cons_succ])
        refine wpAnyH_take (i := 21) (v := ?v21_13) rfl (by kernel_rfl) (by kernel_rfl) (by kernel_rfl) (fun _ _ _ h => h) (Or.inl ⟨by rfl, ?hy21_13⟩) hHeld ?_
        case hy21_13 => (intro w hSw; (try dsimp only at hSw); obtain ⟨hSw1, hSw2⟩ := hSw; (try simp only [List.getElem_toArray, List.getElem_cons_zero, List.getElem_cons_succ]); go_simp <;> with_reducible rfl)
        (try simp only [Act.put, List.getElem_toArray, List.getElem_cons_zero, List.getElem_cons_succ, List.setIfInBounds_toArray, List.set_cons_zero, List.set_cons_succ])
        refine wpAnyH_ready (rs := [18]) (by kernel_rfl) (by simp) ?_
        refine AllReadyH.cons rfl (fun K hK => ?_) AllReadyH.nil
        (try simp only [List.getElem_toArray, List.getElem_cons_zero, List.getElem_cons_succ])
        go_simp
        refine (next_k x1 na _ HX.out.1 HNA.out.1).mono ?_
        rintro e v7 ⟨rfl, hb⟩
        have K7 := Lib.hid (K6.out.keep hb)
        have Y7 := Lib.hid (X2.keep Y6.out hb)
        clear hb
        (try go_wp2_with fail)
        refine hK.out _ _ (X2.s Y7.out) (fun hHeld => ?_)
        clear hK K
        (try simp only [Act.put, List.getElem_toArray, List.getElem_cons_zero, List.getElem_cons_succ, List.setIfInBounds_toArray, List.set_cons_zero, List.set_cons_succ])
        refine wpAnyH_ready (rs := [19]) (by kernel_rfl) (by simp) ?_
        refine AllReadyH.cons rfl (fun K hK => ?_) AllReadyH.nil
        (try simp only [List.getElem_toArray, List.getElem_cons_zero, List.getElem_cons_succ])
        go_simp
        refine (times_k K7.out na q HNA.out.2 HQ.out).mono ?_
        rintro e v8 ⟨rfl, k, hb⟩
        have K8 := Lib.hid k
        have Y8 := Lib.hid (X2.but Y7.out hb (by omega) (by omega))
        clear k hb
        (try go_wp2_with fail)
        refine hK.out _ _ (X2.s Y8.out) (fun hHeld => ?_)
        clear hK K
        (try simp only [Act.put, List.getElem_toArray, List.getElem_cons_zero, List.getElem_cons_succ, List.setIfInBounds_toArray, List.set_cons_zero, List.set_cons_succ])
        refine wpAnyH_ready (rs := [22]) (by kernel_rfl) (by simp) ?_
        refine AllReadyH.cons rfl (fun K hK => ?_) AllReadyH.nil
        (try simp only [List.getElem_toArray, List.getElem_cons_zero, List.getElem_cons_succ])
        go_simp
        refine (times_k K8.out x1 pa HX.out.1 HPA.out.1).mono ?_
        rintro e v9 ⟨rfl, k, hb⟩
        have K9 := Lib.hid k
        have Y9 := Lib.hid (X2.but Y8.out hb (by omega) (by omega))
        clear k hb
        (try go_wp2_with fail)
        refine hK.out _ _ (X2.s Y9.out) (fun hHeld => ?_)
        clear hK K
        (try simp only [Act.put, List.getElem_toArray, List.getElem_cons_zero, List.getElem_cons_succ, List.setIfInBounds_toArray, List.set_cons_zero, List.set_cons_succ])
        refine wpAnyH_ready (rs := [23]) (by kernel_rfl) (by simp) ?_
        refine AllReadyH.cons rfl (fun K hK => ?_) AllReadyH.nil
        (try simp only [List.getElem_toArray, List.getElem_cons_zero, List.getElem_cons_succ])
        go_simp
        refine (next_k pa q _ HPA.out.2 HQN.out).mono ?_
        rintro e v10 ⟨rfl, hb⟩
        have K10 := Lib.hid (K9.out.keep hb)
        have Y10 := Lib.hid (X2.keep Y9.out hb)
        clear hb
        (try go_wp2_with fail)
        refine hK.out _ _ (X2.s Y10.out) (fun hHeld => ?_)
        clear hK K
        (try simp only [Act.put, List.getElem_toArray, List.getElem_cons_zero, List.getElem_cons_succ, List.setIfInBounds_toArray, List.set_cons_zero, List.set_cons_succ])
        refine wpAnyH_take (i := 24) (v := ?v24_14) rfl (by kernel_rfl) (by kernel_rfl) (by kernel_rfl) (fun _ _ _ h => h) (Or.inl ⟨by rfl, ?hy24_14⟩) hHeld ?_
        case hy24_14 => (intro w hSw; (try dsimp only at hSw); obtain ⟨hSw1, hSw2⟩ := hSw; (try simp only [List.getElem_toArray, List.getElem_cons_zero, List.getElem_cons_succ]); go_simp <;> with_reducible rfl)
        (try simp only [Act.put, List.getElem_toArray, List.getElem_cons_zero, List.getElem_cons_succ, List.setIfInBounds_toArray, List.set_cons_zero, List.set_cons_succ])
        refine wpAnyH_take (i := 25) (v := ?v25_15) rfl (by kernel_rfl) (by kernel_rfl) (by kernel_rfl) (fun _ _ _ h => h) (Or.inl ⟨by rfl, ?hy25_15⟩) hHeld ?_
        case hy25_15 => (intro w hSw; (try dsimp only at hSw); obtain ⟨hSw1, hSw2⟩ := hSw; (try simp only [List.getElem_toArray, List.getElem_cons_zero, List.getElem_cons_succ]); go_simp <;> with_reducible rfl)
        (try simp only [Act.put, List.getElem_toArray, List.getElem_cons_zero, List.getElem_cons_succ, List.setIfInBounds_toArray, List.set_cons_zero, List.set_cons_succ])
        refine wpAnyH_take (i := 26) (v := ?v26_16) rfl (by kernel_rfl) (by kernel_rfl) (by kernel_rfl) (fun _ _ _ h => h) (Or.inl ⟨by rfl, ?hy26_16⟩) hHeld ?_
        case hy26_16 => (intro w hSw; (try dsimp only at hSw); obtain ⟨hSw1, hSw2⟩ := hSw; (try simp only [List.getElem_toArray, List.getElem_cons_zero, List.getElem_cons_succ]); go_simp <;> with_reducible rfl)
        (try simp only [Act.put, List.getElem_toArray, List.getElem_cons_zero, List.getElem_cons_succ, List.setIfInBounds_toArray, List.set_cons_zero, List.set_cons_succ])
        refine wpAnyH_take (i := 27) (v := ?v27_17) rfl (by kernel_rfl) (by kernel_rfl) (by kernel_rfl) (fun _ _ _ h => h) (Or.inl ⟨by rfl, ?hy27_17⟩) hHeld ?_
        case hy27_17 => (intro w hSw; (try dsimp only at hSw); obtain ⟨hSw1, hSw2⟩ := hSw; (try simp only [List.getElem_toArray, List.getElem_cons_zero, List.getElem_cons_succ]); go_simp <;> with_reducible rfl)
        (try simp only [Act.put, List.getElem_toArray, List.getElem_cons_zero, List.getElem_cons_succ, List.setIfInBounds_toArray, List.set_cons_zero, List.set_cons_succ])
        refine wpAnyH_take (i := 28) (v := ?v28_18) rfl (by kernel_rfl) (by kernel_rfl) (by kernel_rfl) (fun _ _ _ h => h) (Or.inl ⟨by rfl, ?hy28_18⟩) hHeld ?_
        case hy28_18 => (intro w hSw; (try dsimp only at hSw); obtain ⟨hSw1, hSw2⟩ := hSw; (try simp only [List.getElem_toArray, List.getElem_cons_zero, List.getElem_cons_succ]); go_simp <;> with_reducible rfl)
        (try simp only [Act.put, List.getElem_toArray, List.getElem_cons_zero, List.getElem_cons_succ, List.setIfInBounds_toArray, List.set_cons_zero, List.set_cons_succ])
        refine wpAnyH_take (i := 30) (v := ?v30_19) rfl (by kernel_rfl) (by kernel_rfl) (by kernel_rfl) (fun _ _ _ h => h) (Or.inl ⟨by rfl, ?hy30_19⟩) hHeld ?_
        case hy30_19 => (intro w hSw; (try dsimp only at hSw); obtain ⟨hSw1, hSw2⟩ := hSw; (try simp only [List.getElem_toArray, List.getElem_cons_zero, List.getElem_cons_succ]); go_simp <;> with_reducible rfl)
        (try simp only [Act.put, List.getElem_toArray, List.getElem_cons_zero, List.getElem_cons_succ, List.setIfInBounds_toArray, List.set_cons_zero, List.set_cons_succ])
        refine wpAnyH_ready (rs := [29]) (by kernel_rfl) (by simp) ?_
        refine AllReadyH.cons rfl (fun K hK => ?_) AllReadyH.nil
        (try simp only [List.getElem_toArray, List.getElem_cons_zero, List.getElem_cons_succ])
        go_simp
        have TZ := times_k K10.out 0 0 (by omega) HZ.out
        rw [show #[Value.pointer (some ⟨b, 0, none⟩), PE 0] = #[Value.pointer (some ⟨b, 0, none⟩), .agg #[.int .u64 0, .int .u64 0]] by rw [pe_0]] at TZ
        refine TZ.mono ?_
        rintro e v11 ⟨rfl, k, hb⟩
        have K11 := Lib.hid k
        have Y11 := Lib.hid (X2.but Y10.out hb (by omega) (by omega))
        clear k hb
        (try go_wp2_with fail)
        refine hK.out _ _ (X2.s Y11.out) (fun hHeld => ?_)
        clear hK K
        (try simp only [Act.put, List.getElem_toArray, List.getElem_cons_zero, List.getElem_cons_succ, List.setIfInBounds_toArray, List.set_cons_zero, List.set_cons_succ])
        refine wpAnyH_take (i := 31) (v := ?v31_20) rfl (by kernel_rfl) (by kernel_rfl) (by kernel_rfl) (fun _ _ _ h => h) (Or.inl ⟨by rfl, ?hy31_20⟩) hHeld ?_
        case hy31_20 => (intro w hSw; (try dsimp only at hSw); obtain ⟨hSw1, hSw2⟩ := hSw; (try simp only [List.getElem_toArray, List.getElem_cons_zero, List.getElem_cons_succ]); go_simp <;> with_reducible rfl)
        (try simp only [Act.put, List.getElem_toArray, List.getElem_cons_zero, List.getElem_cons_succ, List.setIfInBounds_toArray, List.set_cons_zero, List.set_cons_succ])
        refine wpAnyH_ready (rs := [32]) (by kernel_rfl) (by simp) ?_
        refine AllReadyH.cons rfl (fun K hK => ?_) AllReadyH.nil
        (try simp only [List.getElem_toArray, List.getElem_cons_zero, List.getElem_cons_succ])
        go_simp
        refine hK.out _ _ (X2.s Y11.out) (fun _ => ?_)
        clear hK K
        (try simp only [Act.put, List.getElem_toArray, List.getElem_cons_zero, List.getElem_cons_succ, List.setIfInBounds_toArray, List.set_cons_zero, List.set_cons_succ])
        refine wpAnyH_done (by kernel_rfl) ?_ _
        obtain ⟨m1, HM1⟩ : ∃ m1, Hid (m1 = (n3 + 15) / 16 ∧ m1 ≤ 1000) := ⟨_, Lib.hid ⟨rfl, by omega⟩⟩
        obtain ⟨m2, HM2⟩ : ∃ m2, Hid (m2 = (n4 + 15) / 16 ∧ m2 ≤ 1000) := ⟨_, Lib.hid ⟨rfl, by omega⟩⟩
        have hc3 : n3 ≤ c3 := m3.1
        have hc4 : n4 ≤ c4 := m4.1
        clear K0 Y0 K1 Y1 K2a Y2 K3 Y3 K4 Y4 K5 Y5 K6 Y6 K7 Y7 K8 Y8 K9 Y9 K10 Y10 Y11 HSD HS HP HPA HPB HPS HNA HQ HQN HZ TZ
        go_wp2_with fail
        refine (blocks_any A3 n3 c3 l3 _ (K11.out.rb H3.out) hc3 (by omega)).mono ?_
        rintro e v12 ⟨B1, d1, rfl, ho12, hb12⟩
        rw [← HM1.out.1] at ho12 ⊢
        have HO12 := Lib.hid ho12
        have HB12 := Lib.hid hb12
        have K12 := Lib.hid (K11.out.keep hb12)
        clear ho12 hb12
        go_wp2_with fail
        refine (blocks_any A4 n4 c4 l4 _ (K12.out.rb H4.out) hc4 (by omega)).mono ?_
        rintro e v13 ⟨B2, d2, rfl, ho13, hb13⟩
        rw [← HM2.out.1] at ho13 ⊢
        have HO13 := Lib.hid ho13
        have HB13 := Lib.hid hb13
        have K13 := Lib.hid (K12.out.keep hb13)
        clear ho13 hb13
        have HW := Lib.hid (⟨HM1.out.2, HM2.out.2⟩ : m1 ≤ 1000 ∧ m2 ≤ 1000)
        obtain ⟨x3, HX3⟩ : ∃ x3, Hid (x3 = hl (n3 * 8) (n4 * 8)) := ⟨_, Lib.hid rfl⟩
        have HPE : Hid (Value.agg #[.int .u64 ((n3 : Int) * 8), .int .u64 ((n4 : Int) * 8)] = PE x3) := Lib.hid (by rw [HX3.out, pe_hl _ _ (by omega)]; unfold EV; rw [Int.natCast_mul, Int.natCast_mul]; rfl)
        have HX3L : Hid (x3 < 2 ^ 128) := Lib.hid (by rw [HX3.out]; exact hl_lt _ _ (by omega) (by omega))
        obtain ⟨S, HSS⟩ : ∃ S, Hid (S = sumG h l3 l4 ∧ S < 2 ^ 128) := ⟨_, Lib.hid ⟨rfl, sumG_lt h HH.out.2 l3 l4⟩⟩
        have HSF : Hid (S = gFold h 0 (bks l3 ++ bks l4 ++ [x3])) := Lib.hid (by rw [HSS.out.1, HX3.out, Nat.mul_comm n3, Nat.mul_comm n4, ← long_block n3 n4 (by omega) (by omega)]; unfold sumG sumN; rw [e3, e4])
        have hb11 : b < v11.heap.size := K11.out.ho.lt
        have hw11 : w.heap.size ≤ v11.heap.size := K11.out.bel.size
        go_wp2_with (first | (at_builtin; refine wpList_appEE rfl (.tmp 76) (.tmp 78) rfl v11.heap.size B1 m1 d1 (bks l3) rfl (by exact OwnX.below HO12.out HB13.out) v12.heap.size B2 m2 d2 (bks l4) rfl (by exact HO13.out) (by have := HW.out; omega) (by exact Nat.le_trans HB12.out.size HB13.out.size) ?_; intro B3 d3 v14 ho14 hb14; have HO14 := Lib.hid ho14; have K14 := Lib.hid (K13.out.below hb14 hw11 hb11); have hs14 : v11.heap.size ≤ v14.heap.size := Nat.le_trans (Nat.le_trans HB12.out.size HB13.out.size) hb14.size; clear ho14 hb14) | (refine wpList_oneE rfl (.tmp 89) rfl x3 HPE.out ?_) | (at_builtin; refine wpList_appE rfl (.tmp 80) (.tmp 90) rfl v11.heap.size B3 (m1 + m2) d3 (bks l3 ++ bks l4) rfl (by exact OwnX.below HO14.out (below_alloc _ _)) v14.heap.size 1 1 [x3] rfl rfl (by exact oneE_cells v14 x3) (by have := HW.out; omega) (by rw [World.size_alloc]; omega) ?_; intro B5 d5 v15 ho15 hb15; have HO15 := Lib.hid ho15; have K15 := Lib.hid (K2.below (K14.out.keep (below_alloc _ _)) hb15 hw11 hb11); clear ho15 hb15))
        refine (sum_gh b h true A3 A4 n3 c3 n4 c4 l3 l4 _ K15.out.ho HH.out.2 (K15.out.rb H3.out) (K15.out.rb H4.out) hc3 hc4 (by omega) (by omega) (RB.apart H4.out K15.out.lo)).mono ?_
        rw [← HSS.out.1]
        rintro e v16 ⟨A16, c16, rfl, ho16, hb16, hh16⟩
        have K16 := Lib.hid (K15.out.use hb16 hh16)
        have hb15 : b < v15.heap.size := K15.out.ho.lt
        have HR16 := Lib.hid ho16.rb
        have HA16 := Lib.hid (OwnB.apart ho16 hb15)
        have HE16 := Lib.hid ((XE.but (OwnE.xe HO15.out (app_lt _ _ (app_lt _ _ (bks_lt l3) (bks_lt l4)) (fun i x hx => by
          match i, hx with
          | 0, hx => injection hx with hx; rw [← hx]; exact HX3L.out))) hb16 (Nat.le_refl _) (fun g o _ e => OwnX.apart HO15.out hb11 g o e)).lt hb16.size)
        have HA15 := Lib.hid (OwnX.apart HO15.out hb11)
        clear ho16 hb16 hh16 K15 HO12 HO13 HO14 K12 K13 K14 HB12 HB13 HPE HX3
        have FZ := fold_k K16.out 0 S B5 (m1 + m2 + 1) d5 (bks l3 ++ bks l4 ++ [x3]) (by omega) (by have := HW.out; omega) HE16.out (fun g o _ e => HA15.out g o e) HSF.out
        rw [show #[Value.pointer (some ⟨b, 0, none⟩), PE 0, Value.slice B5 (m1 + m2 + 1) d5] = #[Value.pointer (some ⟨b, 0, none⟩), .agg #[.int .u64 0, .int .u64 0], Value.slice B5 (m1 + m2 + 1) d5] by rw [pe_0]] at FZ
        have HFZ := Lib.hid FZ
        clear FZ
        go_wp2_with fail
        refine HFZ.out.mono ?_
        rintro e v17 ⟨rfl, ⟨d17, k17⟩, hb17⟩
        have K17 := Lib.hid k17
        have HR17 := Lib.hid ((HR16.out.but hb17 (Nat.le_refl _) HA16.out).more hb17.size)
        clear k17 hb17 HFZ HR16 HA16 HE16 HA15 HO15
        obtain ⟨V, HV⟩ : ∃ V, Hid (V = v17.heap.size) := ⟨_, Lib.hid rfl⟩
        obtain ⟨v18, HW18⟩ : ∃ v18, Hid (v18 = (v17.alloc (.cells #[.int .u64 0, .int .u64 0] 36)).setCells v17.heap.size 0 (es (S / 2 ^ 64) (S % 2 ^ 64))) := ⟨_, Lib.hid rfl⟩
        have hb18 : Below v17.heap.size v17 v18 := by rw [HW18.out]; exact below_setCells (below_alloc _ _) (Nat.le_refl _) _ _
        have K18 := Lib.hid (K17.out.keep hb18)
        have HR18 := Lib.hid (HR17.out.step hb18)
        have q18 : ldP (.pointer (some ⟨V, 0, none⟩)) v18 = .ok (.value (PE S)) v18 := ldP_x (by rw [HW18.out, HV.out]; exact Ew.whole (Ew.new v17 0 0 _ rfl) _ _)
        have hq3 : ((n3 : Int) + 15) / 16 = (m1 : Int) := by have := HM1.out.1; omega
        have hq4 : ((n4 : Int) + 15) / 16 = (m2 : Int) := by have := HM2.out.1; omega
        have hcm : ((m1 + m2 + 1 : Nat) : Int) = (m1 : Int) + (m2 : Int) + 1 := by omega
        clear hb18
        go_wp2_with (first | (refine wpList_stX rfl (.tmp 15) (.tmp 99) rfl v17.heap.size rfl S 0 rfl (by exact Ew.new v17 0 0 _ rfl) ?_; show wpList _ _ _ _ _ ((v17.alloc (.cells #[.int .u64 0, .int .u64 0] 36)).setCells v17.heap.size 0 (es (S / 2 ^ 64) (S % 2 ^ 64))); rw [← HW18.out, ← HV.out]; clear HW18))
        refine (bytes_pe S _ HSS.out.2).mono ?_
        rintro e v19 ⟨A19, c19, rfl, ho19, hb19⟩
        have K19 := Lib.hid (K18.out.keep hb19)
        have HR19 := Lib.hid (HR18.out.step hb19)
        have HO19 := Lib.hid ho19.rb
        clear ho19 hb19
        go_wp2_with fail
        refine (al_same A16 A19 16 c16 16 c19 (bB S) (bB S) _ HR19.out HO19.out (by unfold maxLen; omega) (by unfold maxLen; omega) true (by simp)).mono ?_
        rintro e v20 ⟨rfl, hb20⟩
        have K20 := Lib.hid (K19.out.keep hb20)
        clear hb20
        have hw1 := HW.out.1
        have hw2 := HW.out.2
        go_wp2_with fail
        go_ret
        exact ⟨rfl, K20.out.bel⟩
      · have hg4 : decide ((n4 : Int) > 100) = true := decide_eq_true (by omega)
        go_wp2_with fail
        go_ret
        exact ⟨rfl, HB1.out⟩
    · have hg3 : decide ((n3 : Int) > 100) = true := decide_eq_true (by omega)
      go_wp2_with fail
      go_ret
      exact ⟨rfl, HB1.out⟩
  · have hn : ((n0 : Int) != 16) = true := by simp; omega
    go_wp2_with fail
    go_ret
    exact ⟨rfl, HB1.out⟩
end Go.Proofs.Ytilpdojliaiokaa
