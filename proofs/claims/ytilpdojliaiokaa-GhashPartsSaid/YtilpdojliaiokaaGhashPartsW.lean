/- The walk of GhashParts: folds go on where a part ends; folds of sums are sums of folds. Conditions: the arguments are as they come in. -/
import Derived.Test.YtilpdojliaiokaaGhWalks
import Derived.Test.YtilpdojliaiokaaOpen
namespace Go.Proofs.Ytilpdojliaiokaa
open Go.RowKit
set_option linter.unusedVariables false
set_option linter.unusedSimpArgs false
theorem xorZ_lt (l m : List Nat) (hl : ∀ (i x : Nat), l[i]? = some x → x < 2 ^ 128) (hm : ∀ (i x : Nat), m[i]? = some x → x < 2 ^ 128) (i x : Nat) (h : (xorZ l m)[i]? = some x) : x < 2 ^ 128 := by
  unfold xorZ at h
  rw [List.getElem?_zipWith] at h
  rcases h1 : l[i]? with _ | a
  · rw [h1] at h; simp at h
  · rcases h2 : m[i]? with _ | c
    · rw [h1, h2] at h; simp at h
    · rw [h1, h2] at h
      injection h with h
      rw [← h]
      exact Nat.xor_lt_two_pow (hl i a h1) (hm i c h2)
theorem xorZ_take (l m : List Nat) (k a c : Nat) (hl : l[k]? = some a) (hm : m[k]? = some c) : xorZ (l.take (k + 1)) (m.take (k + 1)) = xorZ (l.take k) (m.take k) ++ [a ^^^ c] := by
  have h1 := (List.getElem?_eq_some_iff.1 hl).1
  have h2 := (List.getElem?_eq_some_iff.1 hm).1
  rw [List.take_add_one, List.take_add_one, hl, hm]
  exact xorZ_snoc _ _ _ _ (by rw [List.length_take, List.length_take]; omega)
theorem Lit_i64 (x : Int) (h : (Lit.int .i64 x).wf = true) : -9223372036854775808 ≤ x ∧ x ≤ 9223372036854775807 := Go.bounds_i64 h
attribute [local irreducible] PE gMul gFold Ho bks longL bB sumG nB ldP stP bsP osP gNext K2 X2 hl xorZ

set_option maxRecDepth 100000 in
set_option maxHeartbeats 4000000 in
theorem GhashParts_walk (A0 : Option Addr) (n0 c0 : Nat) (l0 : List UInt8) (x1 : Nat) (A2 : Option Addr) (n2 c2 : Nat) (l2 : List Nat) (A3 : Option Addr) (n3 c3 : Nat) (l3 : List Nat) (x4 : Int) (w : World) (h0 : RB w w.heap.size A0 n0 l0) (m0 : n0 ≤ c0 ∧ c0 ≤ maxLen) (h1 : x1 < 2 ^ 128) (h2 : XE w w.heap.size A2 n2 l2) (m2 : n2 ≤ c2 ∧ c2 ≤ maxLen) (h3 : XE w w.heap.size A3 n3 l3) (m3 : n3 ≤ c3 ∧ c3 ≤ maxLen) (h4 : (Lit.int .i64 x4).wf = true) :
    Calls Try.prog 5 #[.slice A0 n0 c0, PE x1, .slice A2 n2 c2, .slice A3 n3 c3, .int .i64 x4] w fun e w' => e = .returned (.bool true) ∧ Below w.heap.size w w' := by
  unfold maxLen at m0 m2 m3
  have hx4 := Lit_i64 x4 h4
  have H0 := Lib.hid h0
  have H2 := Lib.hid h2
  have H3 := Lib.hid h3
  have e0 := h0.len
  have e2 := h2.1
  have e3 := h3.1
  have HX := Lib.hid h1
  clear h0 h1 h2 h3 h4
  obtain ⟨G, HG⟩ : ∃ G, Hid (G = w.heap.size) := ⟨_, Lib.hid rfl⟩
  go_enter Try.func5, Try.ntmps5
  go_wp2_with (refine wpList_boxX rfl _ (.tmp 1) rfl x1 rfl ?_)
  refine (alive_any _).mono ?_
  rintro e w1 ⟨rfl, hb1⟩
  have HXW : Hid (Xw w1 G x1) := Lib.hid (by rw [HG.out]; exact Xw.keep (Ew.new w _ _ _ rfl) hb1)
  have HB1 : Hid (Below w.heap.size w w1) := Lib.hid ((below_alloc w _).trans (hb1.mono (by simp)))
  have hG1 : G < w1.heap.size := Ew.lt HXW.out
  clear hb1
  have hwG : w.heap.size ≤ G := by rw [HG.out]; exact Nat.le_refl _
  rw [← HG.out]
  by_cases h16 : n0 = 16
  · subst h16
    by_cases h2' : n2 ≤ 30
    · have hg2 : decide ((n2 : Int) > 30) = false := decide_eq_false (by omega)
      by_cases h3' : n3 = n2
      · subst h3'
        by_cases h4' : x4 < 0
        · have hg4 : decide (x4 < 0) = true := decide_eq_true h4'
          go_wp2_with fail
          go_ret
          exact ⟨rfl, HB1.out⟩
        · by_cases h5' : x4 > n3
          · have hg4 : decide (x4 < 0) = false := decide_eq_false h4'
            have hg5 : decide (x4 > n3) = true := decide_eq_true h5'
            go_wp2_with fail
            go_ret
            exact ⟨rfl, HB1.out⟩
          · obtain ⟨k, rfl⟩ : ∃ k : Nat, x4 = (k : Int) := ⟨x4.toNat, by omega⟩
            have hkn : k ≤ n3 := by omega
            have hg5 : decide ((k : Int) > n3) = false := decide_eq_false (by omega)
            clear h4' h5' hx4
            obtain ⟨h, HH⟩ : ∃ h, Hid (h = nB l0 ∧ h < 2 ^ 128) := ⟨_, Lib.hid ⟨rfl, nB_lt l0 e0⟩⟩
            obtain ⟨r, HR⟩ : ∃ r, Hid (r = gFold h x1 l2) := ⟨_, Lib.hid rfl⟩
            obtain ⟨r1, HR1⟩ : ∃ r1, Hid (r1 = gFold h x1 (l2.take k) ∧ r1 < 2 ^ 128) := ⟨_, Lib.hid ⟨rfl, gFold_lt h HH.out.2 _ _ HX.out (fun i x hx => by
              rw [List.getElem?_take] at hx
              split at hx
              · exact H2.out.2.1 i x hx
              · cases hx)⟩⟩
            have HR2 : Hid (r = gFold h r1 (l2.drop k)) := Lib.hid (by rw [HR.out, HR1.out.1]; exact gFold_cut h x1 l2 k)
            have hn30 : n3 ≤ 1000000 := by omega
            have hc2 : n3 ≤ c2 := m2.1
            have HC1 : Hid (XE w w.heap.size (cutE A2 c2 0) k (l2.take k)) := Lib.hid (by have := H2.out.cut (i := 0) (j := k) (c := c2) (by omega) hkn hc2; rwa [Nat.sub_zero, List.drop_zero] at this)
            have HC2 : Hid (XE w w.heap.size (cutE A2 c2 k) (n3 - k) (l2.drop k)) := Lib.hid (by have := H2.out.cut (i := k) (j := n3) (c := c2) hkn (Nat.le_refl _) hc2; rwa [List.take_of_length_le (by omega)] at this)
            have hcu1 := cutE_h A2 n3 c2 k (by omega)
            have hcu2 := cutE_l A2 n3 c2 k hkn
            go_wp2_with fail
            refine (new_k w w1 A0 16 c0 h l0 rfl m0.1 H0.out HB1.out HH.out.1).mono ?_
            rintro e v0 ⟨b, rfl, hb1, hbl, k0⟩
            have K0 := Lib.hid k0
            have Y0 := Lib.hid (Xw.keep HXW.out hbl)
            have hbG : G < b := by omega
            clear hb1 hbl k0 HXW
            go_wp2_with fail
            have K1 := Lib.hid K0.out.drew
            have Y1 := Lib.hid (Xw.keep Y0.out (Below.refl _ _).drew)
            have HSD := Lib.hid (ldP_x Y1.out)
            refine wp_region_held_drew (S := fun w' => ldP (.pointer (some ⟨G, 0, none⟩)) w' = .ok (.value (PE x1)) w') (by kernel_rfl) HSD.out (fun hHeld => ?_)
            (try dsimp only at hHeld)
            refine wpAnyH_take (i := 0) (v := ?v0_1) rfl (by kernel_rfl) (by kernel_rfl) (by kernel_rfl) (fun _ _ _ h => h) (Or.inl ⟨by rfl, ?hy0_1⟩) hHeld ?_
            case hy0_1 => (intro w hSw; (try dsimp only at hSw); (try simp only [List.getElem_toArray, List.getElem_cons_zero, List.getElem_cons_succ]); go_simp <;> with_reducible rfl)
            (try simp only [Act.put, List.getElem_toArray, List.getElem_cons_zero, List.getElem_cons_succ, List.setIfInBounds_toArray, List.set_cons_zero, List.set_cons_succ])
            refine wpAnyH_take (i := 1) (v := ?v1_2) rfl (by kernel_rfl) (by kernel_rfl) (by kernel_rfl) (fun _ _ _ h => h) (Or.inl ⟨by rfl, ?hy1_2⟩) hHeld ?_
            case hy1_2 => (intro w hSw; (try dsimp only at hSw); (try simp only [List.getElem_toArray, List.getElem_cons_zero, List.getElem_cons_succ]); go_simp <;> with_reducible rfl)
            (try simp only [Act.put, List.getElem_toArray, List.getElem_cons_zero, List.getElem_cons_succ, List.setIfInBounds_toArray, List.set_cons_zero, List.set_cons_succ])
            refine wpAnyH_take (i := 2) (v := ?v2_3) rfl (by kernel_rfl) (by kernel_rfl) (by kernel_rfl) (fun _ _ _ h => h) (Or.inl ⟨by rfl, ?hy2_3⟩) hHeld ?_
            case hy2_3 => (intro w hSw; (try dsimp only at hSw); (try simp only [List.getElem_toArray, List.getElem_cons_zero, List.getElem_cons_succ]); go_simp <;> with_reducible rfl)
            (try simp only [Act.put, List.getElem_toArray, List.getElem_cons_zero, List.getElem_cons_succ, List.setIfInBounds_toArray, List.set_cons_zero, List.set_cons_succ])
            refine wpAnyH_take (i := 4) (v := ?v4_4) rfl (by kernel_rfl) (by kernel_rfl) (by kernel_rfl) (fun _ _ _ h => h) (Or.inl ⟨by rfl, ?hy4_4⟩) hHeld ?_
            case hy4_4 => (intro w hSw; (try dsimp only at hSw); (try simp only [List.getElem_toArray, List.getElem_cons_zero, List.getElem_cons_succ]); go_simp <;> with_reducible rfl)
            (try simp only [Act.put, List.getElem_toArray, List.getElem_cons_zero, List.getElem_cons_succ, List.setIfInBounds_toArray, List.set_cons_zero, List.set_cons_succ])
            refine wpAnyH_take (i := 5) (v := ?v5_5) rfl (by kernel_rfl) (by kernel_rfl) (by kernel_rfl) (fun _ _ _ h => h) (Or.inl ⟨by rfl, ?hy5_5⟩) hHeld ?_
            case hy5_5 => (intro w hSw; (try dsimp only at hSw); (try simp only [List.getElem_toArray, List.getElem_cons_zero, List.getElem_cons_succ]); go_simp <;> with_reducible rfl)
            (try simp only [Act.put, List.getElem_toArray, List.getElem_cons_zero, List.getElem_cons_succ, List.setIfInBounds_toArray, List.set_cons_zero, List.set_cons_succ])
            refine wpAnyH_take (i := 6) (v := ?v6_6) rfl (by kernel_rfl) (by kernel_rfl) (by kernel_rfl) (fun _ _ _ h => h) (Or.inl ⟨by rfl, ?hy6_6⟩) hHeld ?_
            case hy6_6 => (intro w hSw; (try dsimp only at hSw); (try simp only [List.getElem_toArray, List.getElem_cons_zero, List.getElem_cons_succ]); go_simp <;> with_reducible rfl)
            (try simp only [Act.put, List.getElem_toArray, List.getElem_cons_zero, List.getElem_cons_succ, List.setIfInBounds_toArray, List.set_cons_zero, List.set_cons_succ])
            refine wpAnyH_take (i := 7) (v := ?v7_7) rfl (by kernel_rfl) (by kernel_rfl) (by kernel_rfl) (fun _ _ _ h => h) (Or.inl ⟨by rfl, ?hy7_7⟩) hHeld ?_
            case hy7_7 => (intro w hSw; (try dsimp only at hSw); (try simp only [List.getElem_toArray, List.getElem_cons_zero, List.getElem_cons_succ]); go_simp <;> with_reducible rfl)
            (try simp only [Act.put, List.getElem_toArray, List.getElem_cons_zero, List.getElem_cons_succ, List.setIfInBounds_toArray, List.set_cons_zero, List.set_cons_succ])
            refine wpAnyH_take (i := 8) (v := ?v8_8) rfl (by kernel_rfl) (by kernel_rfl) (by kernel_rfl) (fun _ _ _ h => h) (Or.inl ⟨by rfl, ?hy8_8⟩) hHeld ?_
            case hy8_8 => (intro w hSw; (try dsimp only at hSw); (try simp only [List.getElem_toArray, List.getElem_cons_zero, List.getElem_cons_succ]); go_simp <;> with_reducible rfl)
            (try simp only [Act.put, List.getElem_toArray, List.getElem_cons_zero, List.getElem_cons_succ, List.setIfInBounds_toArray, List.set_cons_zero, List.set_cons_succ])
            refine wpAnyH_take (i := 9) (v := ?v9_9) rfl (by kernel_rfl) (by kernel_rfl) (by kernel_rfl) (fun _ _ _ h => h) (Or.inl ⟨by rfl, ?hy9_9⟩) hHeld ?_
            case hy9_9 => (intro w hSw; (try dsimp only at hSw); (try simp only [List.getElem_toArray, List.getElem_cons_zero, List.getElem_cons_succ]); go_simp <;> with_reducible rfl)
            (try simp only [Act.put, List.getElem_toArray, List.getElem_cons_zero, List.getElem_cons_succ, List.setIfInBounds_toArray, List.set_cons_zero, List.set_cons_succ])
            refine wpAnyH_take (i := 11) (v := ?v11_10) rfl (by kernel_rfl) (by kernel_rfl) (by kernel_rfl) (fun _ _ _ h => h) (Or.inl ⟨by rfl, ?hy11_10⟩) hHeld ?_
            case hy11_10 => (intro w hSw; (try dsimp only at hSw); (try simp only [List.getElem_toArray, List.getElem_cons_zero, List.getElem_cons_succ]); go_simp <;> with_reducible rfl)
            (try simp only [Act.put, List.getElem_toArray, List.getElem_cons_zero, List.getElem_cons_succ, List.setIfInBounds_toArray, List.set_cons_zero, List.set_cons_succ])
            refine wpAnyH_take (i := 12) (v := ?v12_11) rfl (by kernel_rfl) (by kernel_rfl) (by kernel_rfl) (fun _ _ _ h => h) (Or.inl ⟨by rfl, ?hy12_11⟩) hHeld ?_
            case hy12_11 => (intro w hSw; (try dsimp only at hSw); (try simp only [List.getElem_toArray, List.getElem_cons_zero, List.getElem_cons_succ]); go_simp <;> with_reducible rfl)
            (try simp only [Act.put, List.getElem_toArray, List.getElem_cons_zero, List.getElem_cons_succ, List.setIfInBounds_toArray, List.set_cons_zero, List.set_cons_succ])
            refine wpAnyH_take (i := 13) (v := ?v13_12) rfl (by kernel_rfl) (by kernel_rfl) (by kernel_rfl) (fun _ _ _ h => h) (Or.inl ⟨by rfl, ?hy13_12⟩) hHeld ?_
            case hy13_12 => (intro w hSw; (try dsimp only at hSw); (try simp only [List.getElem_toArray, List.getElem_cons_zero, List.getElem_cons_succ]); go_simp <;> with_reducible rfl)
            (try simp only [Act.put, List.getElem_toArray, List.getElem_cons_zero, List.getElem_cons_succ, List.setIfInBounds_toArray, List.set_cons_zero, List.set_cons_succ])
            refine wpAnyH_ready (rs := [3]) (by kernel_rfl) (by simp) ?_
            refine AllReadyH.cons rfl (fun K hK => ?_) AllReadyH.nil
            (try simp only [List.getElem_toArray, List.getElem_cons_zero, List.getElem_cons_succ])
            go_simp
            refine (fold_k K1.out x1 r A2 n3 c2 l2 HX.out hn30 (K1.out.xe H2.out) (XE.apart H2.out K1.out.lo) HR.out).mono ?_
            rintro e v2 ⟨rfl, ⟨d2, k⟩, hb⟩
            have K2 := Lib.hid k
            have Y2 := Lib.hid (Xw.but Y1.out hb (by omega))
            clear k hb
            (try go_wp2_with fail)
            refine hK.out _ _ (ldP_x Y2.out) (fun hHeld => ?_)
            clear hK K
            (try simp only [Act.put, List.getElem_toArray, List.getElem_cons_zero, List.getElem_cons_succ, List.setIfInBounds_toArray, List.set_cons_zero, List.set_cons_succ])
            refine wpAnyH_ready (rs := [10]) (by kernel_rfl) (by simp) ?_
            refine AllReadyH.cons rfl (fun K hK => ?_) AllReadyH.nil
            (try simp only [List.getElem_toArray, List.getElem_cons_zero, List.getElem_cons_succ])
            go_simp
            refine (fold_k K2.out x1 r1 (cutE A2 c2 0) k c2 (l2.take k) HX.out (by omega) (K2.out.xe HC1.out) (XE.apart HC1.out K2.out.lo) HR1.out.1).mono ?_
            rintro e v3 ⟨rfl, ⟨d3, k⟩, hb⟩
            have K3 := Lib.hid k
            have Y3 := Lib.hid (Xw.but Y2.out hb (by omega))
            clear k hb
            (try go_wp2_with fail)
            refine hK.out _ _ (ldP_x Y3.out) (fun hHeld => ?_)
            clear hK K
            (try simp only [Act.put, List.getElem_toArray, List.getElem_cons_zero, List.getElem_cons_succ, List.setIfInBounds_toArray, List.set_cons_zero, List.set_cons_succ])
            refine wpAnyH_ready (rs := [14]) (by kernel_rfl) (by simp) ?_
            refine AllReadyH.cons rfl (fun K hK => ?_) AllReadyH.nil
            (try simp only [List.getElem_toArray, List.getElem_cons_zero, List.getElem_cons_succ])
            go_simp
            refine (fold_k K3.out r1 r (cutE A2 c2 k) (n3 - k) (c2 - k) (l2.drop k) HR1.out.2 (by omega) (K3.out.xe HC2.out) (XE.apart HC2.out K3.out.lo) HR2.out).mono ?_
            rintro e v4 ⟨rfl, ⟨d4, k⟩, hb⟩
            have K4 := Lib.hid k
            have Y4 := Lib.hid (Xw.but Y3.out hb (by omega))
            clear k hb
            (try go_wp2_with fail)
            refine hK.out _ _ (ldP_x Y4.out) (fun hHeld => ?_)
            clear hK K
            (try simp only [Act.put, List.getElem_toArray, List.getElem_cons_zero, List.getElem_cons_succ, List.setIfInBounds_toArray, List.set_cons_zero, List.set_cons_succ])
            refine wpAnyH_ready (rs := [15]) (by kernel_rfl) (by simp) ?_
            refine AllReadyH.cons rfl (fun K hK => ?_) AllReadyH.nil
            (try simp only [List.getElem_toArray, List.getElem_cons_zero, List.getElem_cons_succ])
            go_simp
            refine hK.out _ _ (ldP_x Y4.out) (fun _ => ?_)
            clear hK K
            (try simp only [Act.put, List.getElem_toArray, List.getElem_cons_zero, List.getElem_cons_succ, List.setIfInBounds_toArray, List.set_cons_zero, List.set_cons_succ])
            refine wpAnyH_done (by kernel_rfl) ?_ _
            clear K0 Y0 K1 Y1 K2 Y2 K3 Y3 HSD HR HR1 HR2 HC1 HC2 hcu1 hcu2
            obtain ⟨B0, HB0⟩ : ∃ B0, Hid (B0 = v4.heap.size) := ⟨_, Lib.hid rfl⟩
            have hbB : b < B0 := by rw [HB0.out]; exact K4.out.ho.lt
            have hwB : w.heap.size ≤ B0 := by rw [HB0.out]; exact K4.out.bel.size
            have HO0 : Hid (OwnE (v4.alloc (.cells #[] 36)) B0 (some ⟨B0, 0, none⟩) 0 0 (xorZ (l2.take 0) (l3.take 0))) := Lib.hid (by rw [HB0.out, List.take_zero, List.take_zero, show xorZ [] [] = [] by unfold xorZ; rfl]; exact OwnX.lit0 _ _ _ v4 _ (Nat.le_refl _))
            have K5 := Lib.hid (K4.out.keep (below_alloc v4 (.cells #[] 36)))
            have Y5 := Lib.hid (Xw.keep Y4.out (below_alloc v4 (.cells #[] 36)))
            have hB5 : B0 ≤ (v4.alloc (.cells #[] 36)).heap.size := by rw [HB0.out]; simp
            go_wp2_with fail
            rw [← HB0.out]
            go_loopw [13, 14] (fun v i wr => ∃ q c1 g1 : Nat, q ≤ n3 ∧ i = .int .i64 q ∧ v = .slice (some ⟨g1, 0, none⟩) q c1 ∧ Hid (OwnE wr B0 (some ⟨g1, 0, none⟩) q c1 (xorZ (l2.take q) (l3.take q))) ∧ Hid (K2 w b h d4 wr) ∧ Hid (Xw wr G x1) ∧ B0 ≤ wr.heap.size) (fun _ i _ => n3 - (intOf i).toNat)
            case atStart => exact ⟨0, 0, B0, by omega, rfl, rfl, HO0, K5, Y5, hB5⟩
            case round =>
              obtain ⟨q, c1, g1, hq, rfl, rfl, ho, hk, hy, hB⟩ := hrel
              clear HO0 K5 Y5 hB5 K4 Y4
              by_cases hlt : q < n3
              · obtain ⟨ga, oa, rfl, hga, hca⟩ := H2.out.2.2 (by omega)
                obtain ⟨gb, ob, rfl, hgb, hcb⟩ := H3.out.2.2 (by omega)
                obtain ⟨xa, hxa⟩ : ∃ x, l2[q]? = some x := ⟨_, List.getElem?_eq_getElem (by omega)⟩
                obtain ⟨xb, hxb⟩ : ∃ x, l3[q]? = some x := ⟨_, List.getElem?_eq_getElem (by omega)⟩
                obtain ⟨z, HZ⟩ : ∃ z, Hid (z = xa ^^^ xb) := ⟨_, Lib.hid rfl⟩
                have HLA := Lib.hid (H2.out.2.1 q xa hxa)
                have HLB := Lib.hid (H3.out.2.1 q xb hxb)
                have HTK : Hid (xorZ (l2.take (q + 1)) (l3.take (q + 1)) = xorZ (l2.take q) (l3.take q) ++ [z]) := Lib.hid (by rw [HZ.out]; exact xorZ_take l2 l3 q xa xb hxa hxb)
                have HLD : Hid (∀ W, Below w.heap.size w W → ldP (.pointer (some ⟨ga, oa + q * 2, none⟩)) W = .ok (.value (PE xa)) W ∧ ldP (.pointer (some ⟨gb, ob + q * 2, none⟩)) W = .ok (.value (PE xb)) W) := Lib.hid (fun W hW => ⟨ldP_m (fun j v hv => (hW.cell (p := ⟨ga, oa + q * 2 + j, none⟩) hga).trans (hca q xa hxa j v hv)), ldP_m (fun j v hv => (hW.cell (p := ⟨gb, ob + q * 2 + j, none⟩) hgb).trans (hcb q xb hxb j v hv))⟩)
                have hqi : (q : Int) < (n3 : Int) := by omega
                have HLT := Lib.hid hlt
                have HSD := Lib.hid (HLD.out _ hk.out.drew.bel)
                clear hca hcb hxa hxb
                go_wp2_with fail
                refine wp_region_held_drew (S := fun w' => ldP (.pointer (some ⟨ga, oa + q * 2, none⟩)) w' = .ok (.value (PE xa)) w' ∧ ldP (.pointer (some ⟨gb, ob + q * 2, none⟩)) w' = .ok (.value (PE xb)) w') (by kernel_rfl) HSD.out (fun hHeld => ?_)
                (try dsimp only at hHeld)
                refine wpAnyH_take (i := 0) (v := ?v0_13) rfl (by kernel_rfl) (by kernel_rfl) (by kernel_rfl) (fun _ _ _ h => h) (Or.inl ⟨by rfl, ?hy0_13⟩) hHeld ?_
                case hy0_13 => (intro w hSw; (try dsimp only at hSw); obtain ⟨hSw1, hSw2⟩ := hSw; (try simp only [List.getElem_toArray, List.getElem_cons_zero, List.getElem_cons_succ]); go_simp <;> with_reducible rfl)
                (try simp only [Act.put, List.getElem_toArray, List.getElem_cons_zero, List.getElem_cons_succ, List.setIfInBounds_toArray, List.set_cons_zero, List.set_cons_succ])
                refine wpAnyH_take (i := 1) (v := ?v1_14) rfl (by kernel_rfl) (by kernel_rfl) (by kernel_rfl) (fun _ _ _ h => h) (Or.inl ⟨by rfl, ?hy1_14⟩) hHeld ?_
                case hy1_14 => (intro w hSw; (try dsimp only at hSw); obtain ⟨hSw1, hSw2⟩ := hSw; (try simp only [List.getElem_toArray, List.getElem_cons_zero, List.getElem_cons_succ]); go_simp <;> with_reducible rfl)
                (try simp only [Act.put, List.getElem_toArray, List.getElem_cons_zero, List.getElem_cons_succ, List.setIfInBounds_toArray, List.set_cons_zero, List.set_cons_succ])
                refine wpAnyH_take (i := 2) (v := ?v2_15) rfl (by kernel_rfl) (by kernel_rfl) (by kernel_rfl) (fun _ _ _ h => h) (Or.inl ⟨by rfl, ?hy2_15⟩) hHeld ?_
                case hy2_15 => (intro w hSw; (try dsimp only at hSw); obtain ⟨hSw1, hSw2⟩ := hSw; (try simp only [List.getElem_toArray, List.getElem_cons_zero, List.getElem_cons_succ]); go_simp <;> with_reducible rfl)
                (try simp only [Act.put, List.getElem_toArray, List.getElem_cons_zero, List.getElem_cons_succ, List.setIfInBounds_toArray, List.set_cons_zero, List.set_cons_succ])
                refine wpAnyH_take (i := 3) (v := ?v3_16) rfl (by kernel_rfl) (by kernel_rfl) (by kernel_rfl) (fun _ _ _ h => h) (Or.inl ⟨by rfl, ?hy3_16⟩) hHeld ?_
                case hy3_16 => (intro w hSw; (try dsimp only at hSw); obtain ⟨hSw1, hSw2⟩ := hSw; (try simp only [List.getElem_toArray, List.getElem_cons_zero, List.getElem_cons_succ]); go_simp <;> with_reducible rfl)
                (try simp only [Act.put, List.getElem_toArray, List.getElem_cons_zero, List.getElem_cons_succ, List.setIfInBounds_toArray, List.set_cons_zero, List.set_cons_succ])
                refine wpAnyH_take (i := 4) (v := ?v4_17) rfl (by kernel_rfl) (by kernel_rfl) (by kernel_rfl) (fun _ _ _ h => h) (Or.inl ⟨by rfl, ?hy4_17⟩) hHeld ?_
                case hy4_17 => (intro w hSw; (try dsimp only at hSw); obtain ⟨hSw1, hSw2⟩ := hSw; (try simp only [List.getElem_toArray, List.getElem_cons_zero, List.getElem_cons_succ]); go_simp <;> with_reducible rfl)
                (try simp only [Act.put, List.getElem_toArray, List.getElem_cons_zero, List.getElem_cons_succ, List.setIfInBounds_toArray, List.set_cons_zero, List.set_cons_succ])
                refine wpAnyH_take (i := 5) (v := ?v5_18) rfl (by kernel_rfl) (by kernel_rfl) (by kernel_rfl) (fun _ _ _ h => h) (Or.inl ⟨by rfl, ?hy5_18⟩) hHeld ?_
                case hy5_18 => (intro w hSw; (try dsimp only at hSw); obtain ⟨hSw1, hSw2⟩ := hSw; (try simp only [List.getElem_toArray, List.getElem_cons_zero, List.getElem_cons_succ]); go_simp <;> with_reducible rfl)
                (try simp only [Act.put, List.getElem_toArray, List.getElem_cons_zero, List.getElem_cons_succ, List.setIfInBounds_toArray, List.set_cons_zero, List.set_cons_succ])
                refine wpAnyH_take (i := 6) (v := ?v6_19) rfl (by kernel_rfl) (by kernel_rfl) (by kernel_rfl) (fun _ _ _ h => h) (Or.inl ⟨by rfl, ?hy6_19⟩) hHeld ?_
                case hy6_19 => (intro w hSw; (try dsimp only at hSw); obtain ⟨hSw1, hSw2⟩ := hSw; (try simp only [List.getElem_toArray, List.getElem_cons_zero, List.getElem_cons_succ]); go_simp <;> with_reducible rfl)
                (try simp only [Act.put, List.getElem_toArray, List.getElem_cons_zero, List.getElem_cons_succ, List.setIfInBounds_toArray, List.set_cons_zero, List.set_cons_succ])
                refine wpAnyH_take (i := 7) (v := ?v7_20) rfl (by kernel_rfl) (by kernel_rfl) (by kernel_rfl) (fun _ _ _ h => h) (Or.inl ⟨by rfl, ?hy7_20⟩) hHeld ?_
                case hy7_20 => (intro w hSw; (try dsimp only at hSw); obtain ⟨hSw1, hSw2⟩ := hSw; (try simp only [List.getElem_toArray, List.getElem_cons_zero, List.getElem_cons_succ]); go_simp <;> with_reducible rfl)
                (try simp only [Act.put, List.getElem_toArray, List.getElem_cons_zero, List.getElem_cons_succ, List.setIfInBounds_toArray, List.set_cons_zero, List.set_cons_succ])
                refine wpAnyH_take (i := 8) (v := ?v8_21) rfl (by kernel_rfl) (by kernel_rfl) (by kernel_rfl) (fun _ _ _ h => h) (Or.inl ⟨by rfl, ?hy8_21⟩) hHeld ?_
                case hy8_21 => (intro w hSw; (try dsimp only at hSw); obtain ⟨hSw1, hSw2⟩ := hSw; (try simp only [List.getElem_toArray, List.getElem_cons_zero, List.getElem_cons_succ]); go_simp <;> with_reducible rfl)
                (try simp only [Act.put, List.getElem_toArray, List.getElem_cons_zero, List.getElem_cons_succ, List.setIfInBounds_toArray, List.set_cons_zero, List.set_cons_succ])
                refine wpAnyH_ready (rs := [9]) (by kernel_rfl) (by simp) ?_
                refine AllReadyH.cons rfl (fun K hK => ?_) AllReadyH.nil
                (try simp only [List.getElem_toArray, List.getElem_cons_zero, List.getElem_cons_succ])
                go_simp
                refine hK.out _ _ (HLD.out _ (hk.out.drew.keep (below_alloc _ _)).bel) (fun hHeld => ?_)
                clear hK K
                (try simp only [Act.put, List.getElem_toArray, List.getElem_cons_zero, List.getElem_cons_succ, List.setIfInBounds_toArray, List.set_cons_zero, List.set_cons_succ])
                refine wpAnyH_ready (rs := [10]) (by kernel_rfl) (by simp) ?_
                refine AllReadyH.cons rfl (fun K hK => ?_) AllReadyH.nil
                (try simp only [List.getElem_toArray, List.getElem_cons_zero, List.getElem_cons_succ])
                go_simp
                refine (sum2_kd xa xb z wr HLA.out HLB.out HZ.out).mono ?_
                rintro e v6 ⟨rfl, hb⟩
                have K6 := Lib.hid (hk.out.keep hb)
                have Y6 := Lib.hid (Xw.keep hy.out hb)
                have O6 := Lib.hid (OwnX.below ho.out hb)
                have hB6 : B0 ≤ v6.heap.size := Nat.le_trans hB hb.size
                clear hb
                (try go_wp2_with fail)
                refine hK.out _ _ (HLD.out _ K6.out.bel) (fun hHeld => ?_)
                clear hK K
                (try simp only [Act.put, List.getElem_toArray, List.getElem_cons_zero, List.getElem_cons_succ, List.setIfInBounds_toArray, List.set_cons_zero, List.set_cons_succ])
                refine wpAnyH_ready (rs := [11]) (by kernel_rfl) (by simp) ?_
                refine AllReadyH.cons rfl (fun K hK => ?_) AllReadyH.nil
                (try simp only [List.getElem_toArray, List.getElem_cons_zero, List.getElem_cons_succ])
                go_simp
                refine hK.out _ _ (HLD.out _ (K6.out.keep (below_alloc _ _)).bel) (fun hHeld => ?_)
                clear hK K
                (try simp only [Act.put, List.getElem_toArray, List.getElem_cons_zero, List.getElem_cons_succ, List.setIfInBounds_toArray, List.set_cons_zero, List.set_cons_succ])
                refine wpAnyH_ready (rs := [12]) (by kernel_rfl) (by simp) ?_
                refine AllReadyH.cons rfl (fun K hK => ?_) AllReadyH.nil
                (try simp only [List.getElem_toArray, List.getElem_cons_zero, List.getElem_cons_succ])
                rw [if_pos (by rfl)]
                refine wp_appX cells_pe (.tmp 77) (.tmp 88) rfl B0 (some ⟨g1, 0, none⟩) q c1 (xorZ (l2.take q) (l3.take q)) rfl (OwnX.below O6.out (below_alloc v6 (.cells (eC z).toArray 36))) v6.heap.size 1 1 [z] rfl rfl (by exact oneE_cells v6 z) (by have := HLT.out; unfold maxLen; omega) (by have := HLT.out; omega) (by rw [World.size_alloc]; omega) ?_
                intro A7 c7 v7 ho7 hb7
                obtain ⟨g7, rfl⟩ := OwnX.form2 ho7 (by omega)
                have O7 := Lib.hid ho7
                have K7 := Lib.hid (K2.below (K6.out.keep (below_alloc _ _)) hb7 hwB hbB)
                have Y7 : Hid (Xw v7 G x1) := Lib.hid (Ew.below (Xw.keep Y6.out (below_alloc _ _)) hb7 (by omega))
                have hB7 : B0 ≤ v7.heap.size := Nat.le_trans hB6 (by have := hb7.size; rw [World.size_alloc] at this; omega)
                clear ho7 hb7
                refine hK.out _ _ (HLD.out _ K7.out.bel) (fun hHeld => ?_)
                clear hK K
                (try simp only [Act.put, List.getElem_toArray, List.getElem_cons_zero, List.getElem_cons_succ, List.setIfInBounds_toArray, List.set_cons_zero, List.set_cons_succ])
                refine wpAnyH_ready (rs := [13]) (by kernel_rfl) (by simp) ?_
                refine AllReadyH.cons rfl (fun K hK => ?_) AllReadyH.nil
                (try simp only [List.getElem_toArray, List.getElem_cons_zero, List.getElem_cons_succ])
                go_simp
                refine hK.out _ _ (HLD.out _ K7.out.bel) (fun _ => ?_)
                clear hK K
                (try simp only [Act.put, List.getElem_toArray, List.getElem_cons_zero, List.getElem_cons_succ, List.setIfInBounds_toArray, List.set_cons_zero, List.set_cons_succ])
                refine wpAnyH_done (by kernel_rfl) ?_ _
                go_wp2_with fail
                go_roundw
                case rel => exact ⟨q + 1, c7, g7, by omega, by go_num, rfl, Lib.hid (by rw [HTK.out]; exact O7.out), K7, Y7, hB7⟩
                case measure => simp [intOf]; omega
              · have hqn : q = n3 := by omega
                subst hqn
                obtain ⟨Z, HZ⟩ : ∃ Z, Hid (Z = xorZ l2 l3) := ⟨_, Lib.hid rfl⟩
                have HO : Hid (OwnE wr B0 (some ⟨g1, 0, none⟩) q c1 Z) := Lib.hid (by have := ho.out; rw [List.take_of_length_le (by omega), List.take_of_length_le (by omega)] at this; rw [HZ.out]; exact this)
                have HZL : Hid (∀ (i x : Nat), Z[i]? = some x → x < 2 ^ 128) := Lib.hid (by rw [HZ.out]; exact xorZ_lt l2 l3 H2.out.2.1 H3.out.2.1)
                obtain ⟨fa, HFA⟩ : ∃ fa, Hid (fa = gFold h 0 l2 ∧ fa < 2 ^ 128) := ⟨_, Lib.hid ⟨rfl, gFold_lt h HH.out.2 _ _ (by omega) H2.out.2.1⟩⟩
                obtain ⟨fb, HFB⟩ : ∃ fb, Hid (fb = gFold h 0 l3 ∧ fb < 2 ^ 128) := ⟨_, Lib.hid ⟨rfl, gFold_lt h HH.out.2 _ _ (by omega) H3.out.2.1⟩⟩
                obtain ⟨fz, HFZ⟩ : ∃ fz, Hid (fz = gFold h 0 Z) := ⟨_, Lib.hid rfl⟩
                have HFS : Hid (fz = fa ^^^ fb) := Lib.hid (by rw [HFZ.out, HFA.out.1, HFB.out.1, HZ.out]; exact gFold_sums h l2 l3 (by omega))
                have HF0 : Hid (x1 = gFold h x1 []) := Lib.hid (by unfold gFold; rfl)
                obtain ⟨V, HV⟩ : ∃ V, Hid (V = wr.heap.size) := ⟨_, Lib.hid rfl⟩
                obtain ⟨v8, HW8⟩ : ∃ v8, Hid (v8 = (wr.alloc (.cells #[.int .u64 0, .int .u64 0] 36)).setCells wr.heap.size 0 (es (0 / 2 ^ 64) (0 % 2 ^ 64))) := ⟨_, Lib.hid rfl⟩
                have hb8 : Below wr.heap.size wr v8 := by rw [HW8.out]; exact below_setCells (below_alloc _ _) (Nat.le_refl _) _ _
                have hbV : b < V := by rw [HV.out]; exact hk.out.ho.lt
                have K8 := Lib.hid ((hk.out.keep hb8).drew)
                have Y8 := Lib.hid (Xw.keep (Xw.keep hy.out hb8) (Below.refl _ _).drew)
                have U8 : Hid (Xw v8.drew V 0) := Lib.hid (Xw.keep (by rw [HW8.out, HV.out]; exact Ew.whole (Ew.new wr 0 0 _ rfl) _ _) (Below.refl _ _).drew)
                have O8 := Lib.hid (OwnE.xe ((OwnX.below HO.out hb8).drew) HZL.out)
                have A8 := Lib.hid (OwnX.apart HO.out hbB)
                clear hb8 ho hk hy
                go_wp2_with (refine wpList_stX rfl (.tmp 15) (.tmp 90) rfl wr.heap.size rfl 0 0 (by exact pe_0.symm) (by exact Ew.new wr 0 0 _ rfl) ?_; show wpList _ _ _ _ _ ((wr.alloc (.cells #[.int .u64 0, .int .u64 0] 36)).setCells wr.heap.size 0 (es (0 / 2 ^ 64) (0 % 2 ^ 64))); rw [← HW8.out, ← HV.out]; clear HW8)
                have HSD := Lib.hid (⟨ldP_x U8.out, ldP_x Y8.out⟩ : _ ∧ _)
                refine wp_region_held_drew (S := fun w' => ldP (.pointer (some ⟨V, 0, none⟩)) w' = .ok (.value (PE 0)) w' ∧ ldP (.pointer (some ⟨G, 0, none⟩)) w' = .ok (.value (PE x1)) w') (by kernel_rfl) HSD.out (fun hHeld => ?_)
                (try dsimp only at hHeld)
                refine wpAnyH_take (i := 0) (v := ?v0_22) rfl (by kernel_rfl) (by kernel_rfl) (by kernel_rfl) (fun _ _ _ h => h) (Or.inl ⟨by rfl, ?hy0_22⟩) hHeld ?_
                case hy0_22 => (intro w hSw; (try dsimp only at hSw); obtain ⟨hSw1, hSw2⟩ := hSw; (try simp only [List.getElem_toArray, List.getElem_cons_zero, List.getElem_cons_succ]); go_simp <;> with_reducible rfl)
                (try simp only [Act.put, List.getElem_toArray, List.getElem_cons_zero, List.getElem_cons_succ, List.setIfInBounds_toArray, List.set_cons_zero, List.set_cons_succ])
                refine wpAnyH_take (i := 1) (v := ?v1_23) rfl (by kernel_rfl) (by kernel_rfl) (by kernel_rfl) (fun _ _ _ h => h) (Or.inl ⟨by rfl, ?hy1_23⟩) hHeld ?_
                case hy1_23 => (intro w hSw; (try dsimp only at hSw); obtain ⟨hSw1, hSw2⟩ := hSw; (try simp only [List.getElem_toArray, List.getElem_cons_zero, List.getElem_cons_succ]); go_simp <;> with_reducible rfl)
                (try simp only [Act.put, List.getElem_toArray, List.getElem_cons_zero, List.getElem_cons_succ, List.setIfInBounds_toArray, List.set_cons_zero, List.set_cons_succ])
                refine wpAnyH_take (i := 2) (v := ?v2_24) rfl (by kernel_rfl) (by kernel_rfl) (by kernel_rfl) (fun _ _ _ h => h) (Or.inl ⟨by rfl, ?hy2_24⟩) hHeld ?_
                case hy2_24 => (intro w hSw; (try dsimp only at hSw); obtain ⟨hSw1, hSw2⟩ := hSw; (try simp only [List.getElem_toArray, List.getElem_cons_zero, List.getElem_cons_succ]); go_simp <;> with_reducible rfl)
                (try simp only [Act.put, List.getElem_toArray, List.getElem_cons_zero, List.getElem_cons_succ, List.setIfInBounds_toArray, List.set_cons_zero, List.set_cons_succ])
                refine wpAnyH_take (i := 4) (v := ?v4_25) rfl (by kernel_rfl) (by kernel_rfl) (by kernel_rfl) (fun _ _ _ h => h) (Or.inl ⟨by rfl, ?hy4_25⟩) hHeld ?_
                case hy4_25 => (intro w hSw; (try dsimp only at hSw); obtain ⟨hSw1, hSw2⟩ := hSw; (try simp only [List.getElem_toArray, List.getElem_cons_zero, List.getElem_cons_succ]); go_simp <;> with_reducible rfl)
                (try simp only [Act.put, List.getElem_toArray, List.getElem_cons_zero, List.getElem_cons_succ, List.setIfInBounds_toArray, List.set_cons_zero, List.set_cons_succ])
                refine wpAnyH_take (i := 5) (v := ?v5_26) rfl (by kernel_rfl) (by kernel_rfl) (by kernel_rfl) (fun _ _ _ h => h) (Or.inl ⟨by rfl, ?hy5_26⟩) hHeld ?_
                case hy5_26 => (intro w hSw; (try dsimp only at hSw); obtain ⟨hSw1, hSw2⟩ := hSw; (try simp only [List.getElem_toArray, List.getElem_cons_zero, List.getElem_cons_succ]); go_simp <;> with_reducible rfl)
                (try simp only [Act.put, List.getElem_toArray, List.getElem_cons_zero, List.getElem_cons_succ, List.setIfInBounds_toArray, List.set_cons_zero, List.set_cons_succ])
                refine wpAnyH_take (i := 6) (v := ?v6_27) rfl (by kernel_rfl) (by kernel_rfl) (by kernel_rfl) (fun _ _ _ h => h) (Or.inl ⟨by rfl, ?hy6_27⟩) hHeld ?_
                case hy6_27 => (intro w hSw; (try dsimp only at hSw); obtain ⟨hSw1, hSw2⟩ := hSw; (try simp only [List.getElem_toArray, List.getElem_cons_zero, List.getElem_cons_succ]); go_simp <;> with_reducible rfl)
                (try simp only [Act.put, List.getElem_toArray, List.getElem_cons_zero, List.getElem_cons_succ, List.setIfInBounds_toArray, List.set_cons_zero, List.set_cons_succ])
                refine wpAnyH_take (i := 8) (v := ?v8_28) rfl (by kernel_rfl) (by kernel_rfl) (by kernel_rfl) (fun _ _ _ h => h) (Or.inl ⟨by rfl, ?hy8_28⟩) hHeld ?_
                case hy8_28 => (intro w hSw; (try dsimp only at hSw); obtain ⟨hSw1, hSw2⟩ := hSw; (try simp only [List.getElem_toArray, List.getElem_cons_zero, List.getElem_cons_succ]); go_simp <;> with_reducible rfl)
                (try simp only [Act.put, List.getElem_toArray, List.getElem_cons_zero, List.getElem_cons_succ, List.setIfInBounds_toArray, List.set_cons_zero, List.set_cons_succ])
                refine wpAnyH_take (i := 9) (v := ?v9_29) rfl (by kernel_rfl) (by kernel_rfl) (by kernel_rfl) (fun _ _ _ h => h) (Or.inl ⟨by rfl, ?hy9_29⟩) hHeld ?_
                case hy9_29 => (intro w hSw; (try dsimp only at hSw); obtain ⟨hSw1, hSw2⟩ := hSw; (try simp only [List.getElem_toArray, List.getElem_cons_zero, List.getElem_cons_succ]); go_simp <;> with_reducible rfl)
                (try simp only [Act.put, List.getElem_toArray, List.getElem_cons_zero, List.getElem_cons_succ, List.setIfInBounds_toArray, List.set_cons_zero, List.set_cons_succ])
                refine wpAnyH_take (i := 10) (v := ?v10_30) rfl (by kernel_rfl) (by kernel_rfl) (by kernel_rfl) (fun _ _ _ h => h) (Or.inl ⟨by rfl, ?hy10_30⟩) hHeld ?_
                case hy10_30 => (intro w hSw; (try dsimp only at hSw); obtain ⟨hSw1, hSw2⟩ := hSw; (try simp only [List.getElem_toArray, List.getElem_cons_zero, List.getElem_cons_succ]); go_simp <;> with_reducible rfl)
                (try simp only [Act.put, List.getElem_toArray, List.getElem_cons_zero, List.getElem_cons_succ, List.setIfInBounds_toArray, List.set_cons_zero, List.set_cons_succ])
                refine wpAnyH_ready (rs := [3]) (by kernel_rfl) (by simp) ?_
                refine AllReadyH.cons rfl (fun K hK => ?_) AllReadyH.nil
                (try simp only [List.getElem_toArray, List.getElem_cons_zero, List.getElem_cons_succ])
                go_simp
                refine (fold_k K8.out 0 fz (some ⟨g1, 0, none⟩) q c1 Z (by omega) hn30 O8.out (fun g o _ e => A8.out g o e) HFZ.out).mono ?_
                rintro e v9 ⟨rfl, ⟨d9, k⟩, hb⟩
                have K9 := Lib.hid k
                have Y9 := Lib.hid (Xw.but Y8.out hb (by omega))
                have U9 := Lib.hid (Xw.but U8.out hb (by omega))
                clear k hb
                (try go_wp2_with fail)
                refine hK.out _ _ ⟨ldP_x U9.out, ldP_x Y9.out⟩ (fun hHeld => ?_)
                clear hK K
                (try simp only [Act.put, List.getElem_toArray, List.getElem_cons_zero, List.getElem_cons_succ, List.setIfInBounds_toArray, List.set_cons_zero, List.set_cons_succ])
                refine wpAnyH_ready (rs := [7]) (by kernel_rfl) (by simp) ?_
                refine AllReadyH.cons rfl (fun K hK => ?_) AllReadyH.nil
                (try simp only [List.getElem_toArray, List.getElem_cons_zero, List.getElem_cons_succ])
                go_simp
                refine (fold_k K9.out 0 fa A2 q c2 l2 (by omega) hn30 (K9.out.xe H2.out) (XE.apart H2.out K9.out.lo) HFA.out.1).mono ?_
                rintro e v10 ⟨rfl, ⟨d10, k⟩, hb⟩
                have K10 := Lib.hid k
                have Y10 := Lib.hid (Xw.but Y9.out hb (by omega))
                have U10 := Lib.hid (Xw.but U9.out hb (by omega))
                clear k hb
                (try go_wp2_with fail)
                refine hK.out _ _ ⟨ldP_x U10.out, ldP_x Y10.out⟩ (fun hHeld => ?_)
                clear hK K
                (try simp only [Act.put, List.getElem_toArray, List.getElem_cons_zero, List.getElem_cons_succ, List.setIfInBounds_toArray, List.set_cons_zero, List.set_cons_succ])
                refine wpAnyH_ready (rs := [11]) (by kernel_rfl) (by simp) ?_
                refine AllReadyH.cons rfl (fun K hK => ?_) AllReadyH.nil
                (try simp only [List.getElem_toArray, List.getElem_cons_zero, List.getElem_cons_succ])
                go_simp
                refine (fold_k K10.out 0 fb A3 q c3 l3 (by omega) hn30 (K10.out.xe H3.out) (XE.apart H3.out K10.out.lo) HFB.out.1).mono ?_
                rintro e v11 ⟨rfl, ⟨d11, k⟩, hb⟩
                have K11 := Lib.hid k
                have Y11 := Lib.hid (Xw.but Y10.out hb (by omega))
                have U11 := Lib.hid (Xw.but U10.out hb (by omega))
                clear k hb
                (try go_wp2_with fail)
                refine hK.out _ _ ⟨ldP_x U11.out, ldP_x Y11.out⟩ (fun hHeld => ?_)
                clear hK K
                (try simp only [Act.put, List.getElem_toArray, List.getElem_cons_zero, List.getElem_cons_succ, List.setIfInBounds_toArray, List.set_cons_zero, List.set_cons_succ])
                refine wpAnyH_ready (rs := [12]) (by kernel_rfl) (by simp) ?_
                refine AllReadyH.cons rfl (fun K hK => ?_) AllReadyH.nil
                (try simp only [List.getElem_toArray, List.getElem_cons_zero, List.getElem_cons_succ])
                go_simp
                refine hK.out _ _ ⟨ldP_x (Xw.keep U11.out (below_alloc _ _)), ldP_x (Xw.keep Y11.out (below_alloc _ _))⟩ (fun hHeld => ?_)
                clear hK K
                (try simp only [Act.put, List.getElem_toArray, List.getElem_cons_zero, List.getElem_cons_succ, List.setIfInBounds_toArray, List.set_cons_zero, List.set_cons_succ])
                refine wpAnyH_ready (rs := [13]) (by kernel_rfl) (by simp) ?_
                refine AllReadyH.cons rfl (fun K hK => ?_) AllReadyH.nil
                (try simp only [List.getElem_toArray, List.getElem_cons_zero, List.getElem_cons_succ])
                go_simp
                refine (sum2_k fa fb fz _ HFA.out.2 HFB.out.2 HFS.out).mono ?_
                rintro e v12 ⟨rfl, hb⟩
                have K12 := Lib.hid (K11.out.keep hb)
                have Y12 := Lib.hid (Xw.keep Y11.out hb)
                have U12 := Lib.hid (Xw.keep U11.out hb)
                clear hb
                (try go_wp2_with fail)
                refine hK.out _ _ ⟨ldP_x U12.out, ldP_x Y12.out⟩ (fun hHeld => ?_)
                clear hK K
                (try simp only [Act.put, List.getElem_toArray, List.getElem_cons_zero, List.getElem_cons_succ, List.setIfInBounds_toArray, List.set_cons_zero, List.set_cons_succ])
                refine wpAnyH_take (i := 14) (v := ?v14_31) rfl (by kernel_rfl) (by kernel_rfl) (by kernel_rfl) (fun _ _ _ h => h) (Or.inl ⟨by rfl, ?hy14_31⟩) hHeld ?_
                case hy14_31 => (intro w hSw; (try dsimp only at hSw); obtain ⟨hSw1, hSw2⟩ := hSw; (try simp only [List.getElem_toArray, List.getElem_cons_zero, List.getElem_cons_succ]); go_simp <;> with_reducible rfl)
                (try simp only [Act.put, List.getElem_toArray, List.getElem_cons_zero, List.getElem_cons_succ, List.setIfInBounds_toArray, List.set_cons_zero, List.set_cons_succ])
                refine wpAnyH_take (i := 15) (v := ?v15_32) rfl (by kernel_rfl) (by kernel_rfl) (by kernel_rfl) (fun _ _ _ h => h) (Or.inl ⟨by rfl, ?hy15_32⟩) hHeld ?_
                case hy15_32 => (intro w hSw; (try dsimp only at hSw); obtain ⟨hSw1, hSw2⟩ := hSw; (try simp only [List.getElem_toArray, List.getElem_cons_zero, List.getElem_cons_succ]); go_simp <;> with_reducible rfl)
                (try simp only [Act.put, List.getElem_toArray, List.getElem_cons_zero, List.getElem_cons_succ, List.setIfInBounds_toArray, List.set_cons_zero, List.set_cons_succ])
                refine wpAnyH_take (i := 16) (v := ?v16_33) rfl (by kernel_rfl) (by kernel_rfl) (by kernel_rfl) (fun _ _ _ h => h) (Or.inl ⟨by rfl, ?hy16_33⟩) hHeld ?_
                case hy16_33 => (intro w hSw; (try dsimp only at hSw); obtain ⟨hSw1, hSw2⟩ := hSw; (try simp only [List.getElem_toArray, List.getElem_cons_zero, List.getElem_cons_succ]); go_simp <;> with_reducible rfl)
                (try simp only [Act.put, List.getElem_toArray, List.getElem_cons_zero, List.getElem_cons_succ, List.setIfInBounds_toArray, List.set_cons_zero, List.set_cons_succ])
                refine wpAnyH_take (i := 17) (v := ?v17_34) rfl (by kernel_rfl) (by kernel_rfl) (by kernel_rfl) (fun _ _ _ h => h) (Or.inl ⟨by rfl, ?hy17_34⟩) hHeld ?_
                case hy17_34 => (intro w hSw; (try dsimp only at hSw); obtain ⟨hSw1, hSw2⟩ := hSw; (try simp only [List.getElem_toArray, List.getElem_cons_zero, List.getElem_cons_succ]); go_simp <;> with_reducible rfl)
                (try simp only [Act.put, List.getElem_toArray, List.getElem_cons_zero, List.getElem_cons_succ, List.setIfInBounds_toArray, List.set_cons_zero, List.set_cons_succ])
                refine wpAnyH_take (i := 19) (v := ?v19_35) rfl (by kernel_rfl) (by kernel_rfl) (by kernel_rfl) (fun _ _ _ h => h) (Or.inl ⟨by rfl, ?hy19_35⟩) hHeld ?_
                case hy19_35 => (intro w hSw; (try dsimp only at hSw); obtain ⟨hSw1, hSw2⟩ := hSw; (try simp only [List.getElem_toArray, List.getElem_cons_zero, List.getElem_cons_succ]); go_simp <;> with_reducible rfl)
                (try simp only [Act.put, List.getElem_toArray, List.getElem_cons_zero, List.getElem_cons_succ, List.setIfInBounds_toArray, List.set_cons_zero, List.set_cons_succ])
                refine wpAnyH_ready (rs := [18]) (by kernel_rfl) (by simp) ?_
                refine AllReadyH.cons rfl (fun K hK => ?_) AllReadyH.nil
                (try simp only [List.getElem_toArray, List.getElem_cons_zero, List.getElem_cons_succ])
                go_simp
                refine (fold_k K12.out x1 x1 none 0 0 [] HX.out (by omega) ⟨rfl, fun i x h => by simp at h, fun h => absurd h (by omega)⟩ (fun g o _ e => by cases e) HF0.out).mono ?_
                rintro e v13 ⟨rfl, ⟨d13, k⟩, hb⟩
                have K13 := Lib.hid k
                have Y13 := Lib.hid (Xw.but Y12.out hb (by omega))
                have U13 := Lib.hid (Xw.but U12.out hb (by omega))
                clear k hb
                (try go_wp2_with fail)
                refine hK.out _ _ ⟨ldP_x U13.out, ldP_x Y13.out⟩ (fun hHeld => ?_)
                clear hK K
                (try simp only [Act.put, List.getElem_toArray, List.getElem_cons_zero, List.getElem_cons_succ, List.setIfInBounds_toArray, List.set_cons_zero, List.set_cons_succ])
                refine wpAnyH_take (i := 20) (v := ?v20_36) rfl (by kernel_rfl) (by kernel_rfl) (by kernel_rfl) (fun _ _ _ h => h) (Or.inl ⟨by rfl, ?hy20_36⟩) hHeld ?_
                case hy20_36 => (intro w hSw; (try dsimp only at hSw); obtain ⟨hSw1, hSw2⟩ := hSw; (try simp only [List.getElem_toArray, List.getElem_cons_zero, List.getElem_cons_succ]); go_simp <;> with_reducible rfl)
                (try simp only [Act.put, List.getElem_toArray, List.getElem_cons_zero, List.getElem_cons_succ, List.setIfInBounds_toArray, List.set_cons_zero, List.set_cons_succ])
                refine wpAnyH_take (i := 21) (v := ?v21_37) rfl (by kernel_rfl) (by kernel_rfl) (by kernel_rfl) (fun _ _ _ h => h) (Or.inl ⟨by rfl, ?hy21_37⟩) hHeld ?_
                case hy21_37 => (intro w hSw; (try dsimp only at hSw); obtain ⟨hSw1, hSw2⟩ := hSw; (try simp only [List.getElem_toArray, List.getElem_cons_zero, List.getElem_cons_succ]); go_simp <;> with_reducible rfl)
                (try simp only [Act.put, List.getElem_toArray, List.getElem_cons_zero, List.getElem_cons_succ, List.setIfInBounds_toArray, List.set_cons_zero, List.set_cons_succ])
                refine wpAnyH_ready (rs := [22]) (by kernel_rfl) (by simp) ?_
                refine AllReadyH.cons rfl (fun K hK => ?_) AllReadyH.nil
                (try simp only [List.getElem_toArray, List.getElem_cons_zero, List.getElem_cons_succ])
                go_simp
                refine hK.out _ _ ⟨ldP_x U13.out, ldP_x Y13.out⟩ (fun _ => ?_)
                clear hK K
                (try simp only [Act.put, List.getElem_toArray, List.getElem_cons_zero, List.getElem_cons_succ, List.setIfInBounds_toArray, List.set_cons_zero, List.set_cons_succ])
                refine wpAnyH_done (by kernel_rfl) ?_ _
                go_wp2_with fail
                go_ret
                exact ⟨rfl, K13.out.bel⟩
      · have hg3 : ((n3 : Int) != (n2 : Int)) = true := by simp; omega
        go_wp2_with fail
        go_ret
        exact ⟨rfl, HB1.out⟩
    · have hg2 : decide ((n2 : Int) > 30) = true := decide_eq_true (by omega)
      go_wp2_with fail
      go_ret
      exact ⟨rfl, HB1.out⟩
  · have hn : ((n0 : Int) != 16) = true := by simp; omega
    go_wp2_with fail
    go_ret
    exact ⟨rfl, HB1.out⟩
end Go.Proofs.Ytilpdojliaiokaa
