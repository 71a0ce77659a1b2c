/- The walk of GhashSums: New, Blocks and Sum answer as the reference does. Conditions: the arguments are as they come in. -/
import Derived.Test.YtilpdojliaiokaaGhWalks
namespace Go.Proofs.Ytilpdojliaiokaa
open Go.RowKit
set_option linter.unusedVariables false
set_option linter.unusedSimpArgs false
theorem Ho.other {w : World} {b h : Nat} {d : Bool} (o : Ho w b h d) {p : Addr} (hp : p.block ≠ b) (v : Value) : Ho (w.setCell p v) b h d := by
  obtain ⟨h0, f, hc, hr⟩ := o
  exact ⟨h0, f, hc.other hp v, hr⟩
theorem K2.other {w v : World} {b h : Nat} {d : Bool} (k : K2 w b h d v) {p : Addr} (hp : p.block ≠ b) (hw : w.heap.size ≤ p.block) (x : Value) : K2 w b h d (v.setCell p x) := ⟨k.1.other hp x, k.2.1.setCell hw x, k.2.2⟩
theorem K2.mk {w v : World} {b h : Nat} {d : Bool} (h1 : Ho v b h d) (h2 : Below w.heap.size w v) (h3 : w.heap.size ≤ b) : K2 w b h d v := ⟨h1, h2, h3⟩
attribute [local irreducible] PE gMul gFold Ho bks longL bB sumG nB ldP stP bsP osP gNext K2 X2 hl

set_option maxRecDepth 100000 in
set_option maxHeartbeats 4000000 in
theorem GhashSums_walk (A0 : Option Addr) (n0 c0 : Nat) (l0 : List UInt8) (A1 : Option Addr) (n1 c1 : Nat) (l1 : List UInt8) (A2 : Option Addr) (n2 c2 : Nat) (l2 : List UInt8) (w : World) (h0 : RB w w.heap.size A0 n0 l0) (m0 : n0 ≤ c0 ∧ c0 ≤ maxLen) (h1 : RB w w.heap.size A1 n1 l1) (m1 : n1 ≤ c1 ∧ c1 ≤ maxLen) (h2 : RB w w.heap.size A2 n2 l2) (m2 : n2 ≤ c2 ∧ c2 ≤ maxLen) :
    Calls Try.prog 3 #[.slice A0 n0 c0, .slice A1 n1 c1, .slice A2 n2 c2] w fun e w' => e = .returned (.bool true) ∧ Below w.heap.size w w' := by
  unfold maxLen at m0 m1 m2
  have H0 := Lib.hid h0
  have H1 := Lib.hid h1
  have H2 := Lib.hid h2
  have e0 := h0.len
  have e1 := h1.len
  have e2 := h2.len
  clear h0 h1 h2
  go_enter Try.func3, Try.ntmps3
  go_wp2_with fail
  refine (alive_any _).mono ?_
  rintro e w1 ⟨rfl, hb1⟩
  have HB1 := Lib.hid hb1
  clear hb1
  by_cases h0' : n0 ≤ 100
  · have hg0 : decide ((n0 : Int) > 100) = false := decide_eq_false (by omega)
    by_cases h1' : n1 ≤ 300
    · have hg1 : decide ((n1 : Int) > 300) = false := decide_eq_false (by omega)
      by_cases h2' : n2 ≤ 300
      · have hg2 : decide ((n2 : Int) > 300) = false := decide_eq_false (by omega)
        go_wp2_with fail
        refine (copy_any A0 n0 c0 0 l0 _ (H0.out.step HB1.out) (by omega)).mono ?_
        rintro e v1 ⟨A5, c5, rfl, ho1, hb1⟩
        have HO1 := Lib.hid ho1
        have HBV := Lib.hid hb1
        have HW1 := Lib.hid (bel_next HB1.out hb1)
        clear ho1 hb1
        go_wp2_with fail
        by_cases h16 : n0 = 16
        · subst h16
          obtain ⟨h, HH⟩ : ∃ h, Hid (h = nB l0 ∧ h < 2 ^ 128) := ⟨_, Lib.hid ⟨rfl, nB_lt l0 e0⟩⟩
          obtain ⟨g5, rfl, hg5, hg5'⟩ := HO1.out.form (by omega)
          obtain ⟨y0, hy0⟩ : ∃ y, l0[0]? = some y := ⟨_, List.getElem?_eq_getElem (by omega)⟩
          refine (new_ok (some ⟨g5, 0, none⟩) c5 l0 _ HO1.out.cap.1 e0 HO1.out.rb).mono ?_
          rw [← HH.out.1]
          rintro e v2 ⟨b, rfl, hlb, hb2, hh2⟩
          have hwb : w.heap.size ≤ b := Nat.le_trans HW1.out.size hlb
          have K2' := Lib.hid (K2.mk hh2 (bel_next HW1.out hb2) hwb)
          have HO2 := Lib.hid (HO1.out.below hb2)
          have hc2 := HO2.out.cellAt hy0
          have hf2 := HO2.out.freeAt 0
          unfold bv at hc2
          have hy1 := byte_lt y0
          have HK3 : Hid (∀ X, K2 w b h false (v2.setCell ⟨g5, 0, none⟩ X)) := Lib.hid (fun X => K2'.out.other (p := ⟨g5, 0, none⟩) (by show g5 ≠ b; omega) (by show w.heap.size ≤ g5; have := HB1.out.size; omega) X)
          obtain ⟨m, HM⟩ : ∃ m, Hid (m = (n1 + 15) / 16 ∧ m ≤ 1000) := ⟨_, Lib.hid ⟨rfl, by omega⟩⟩
          clear hh2 hb2 HO1 HO2 HBV
          go_wp2_with fail
          refine (rblocks_any A1 n1 c1 l1 _ ((HK3.out _).rb H1.out) (by omega)).mono ?_
          rintro e v4 ⟨g4, d4, rfl, ho4, hb4⟩
          rw [← HM.out.1] at ho4 ⊢
          have K4 := Lib.hid ((HK3.out _).keep hb4)
          have HO4 := Lib.hid ho4
          clear ho4 hb4 K2' hc2 hf2 HK3
          go_wp2_with fail
          refine (elems_any (some ⟨g4, 0, none⟩) m d4 (bks l1) _ (by have := HM.out.2; omega) (OwnP.xp HO4.out (bks_lt l1))).mono ?_
          rintro e v5 ⟨g6, c6, rfl, ho5, hb5⟩
          have K5 := Lib.hid (K4.out.keep hb5)
          have X5 := Lib.hid (OwnE.xe ho5 (bks_lt l1))
          clear ho5 hb5 HO4 K4
          go_wp2_with fail
          refine (blocks_any A1 n1 c1 l1 _ (K5.out.rb H1.out) m1.1 (by omega)).mono ?_
          rintro e v6 ⟨B7, d7, rfl, ho6, hb6⟩
          rw [← HM.out.1] at ho6 ⊢
          have K6 := Lib.hid (K5.out.keep hb6)
          have X6 := Lib.hid ((X5.out.step hb6).lt hb6.size)
          have Z6 := Lib.hid (OwnE.xe ho6 (bks_lt l1))
          have hbV : Hid (v5.heap.size ≤ v6.heap.size) := Lib.hid hb6.size
          clear ho6 hb6 K5 X5
          have hmm := HM.out.2
          have hne : ((m : Int) != (m : Int)) = false := by simp
          go_wp2_with fail
          obtain ⟨vo, evo⟩ : ∃ vo : World, vo = v6 := ⟨_, rfl⟩
          rw [← evo] at K6 X6 Z6 ⊢
          clear evo hbV
          go_loopw [12] (fun i wr => ∃ q : Nat, q ≤ m ∧ i = .int .i64 q ∧ Hid (K2 w b h false wr) ∧ Hid (Below vo.heap.size vo wr)) (fun i _ => m - (intOf i).toNat)
          case atStart => exact ⟨0, by omega, rfl, K6, Lib.hid (Below.refl _ _)⟩
          case round =>
            obtain ⟨q, hq, rfl, hk, hb⟩ := hrel
            by_cases hlt : q < m
            · obtain ⟨ga, oa, ea, hga, hca⟩ := X6.out.2.2 (by omega)
              injection ea with ea
              injection ea with ea eo
              subst ea
              subst eo
              obtain ⟨gb, ob, rfl, hgb, hcb⟩ := Z6.out.2.2 (by omega)
              obtain ⟨x, hx⟩ : ∃ x, (bks l1)[q]? = some x := ⟨_, List.getElem?_eq_getElem (by have := X6.out.1; omega)⟩
              have q1 : ldP (.pointer (some ⟨g6, q * 2, none⟩)) wr.drew = .ok (.value (PE x)) wr.drew := ldP_m (fun j v hv => by
                have := hca q x hx j v hv
                rw [Nat.zero_add] at this
                exact (hb.out.cell (p := ⟨g6, q * 2 + j, none⟩) hga).trans this)
              have q2 : ldP (.pointer (some ⟨gb, ob + q * 2, none⟩)) wr.drew = .ok (.value (PE x)) wr.drew := ldP_m (fun j v hv => (hb.out.cell (p := ⟨gb, ob + q * 2 + j, none⟩) hgb).trans (hcb q x hx j v hv))
              have hqi : (q : Int) < (m : Int) := by omega
              clear hca hcb hx
              go_wp2_with fail
              refine wp_region_held_drew (S := fun w' => ldP (.pointer (some ⟨g6, q * 2, none⟩)) w' = .ok (.value (PE x)) w' ∧ ldP (.pointer (some ⟨gb, ob + q * 2, none⟩)) w' = .ok (.value (PE x)) w') (by kernel_rfl) ⟨q1, q2⟩ (fun hHeld => ?_)
              (try dsimp only at hHeld)
              refine wpAnyH_take (i := 0) (v := ?v0_1) rfl (by kernel_rfl) (by kernel_rfl) (by kernel_rfl) (fun _ _ _ h => h) (Or.inl ⟨by rfl, ?hy0_1⟩) hHeld ?_
              case hy0_1 => (intro w hSw; (try dsimp only at hSw); obtain ⟨hSw1, hSw2⟩ := hSw; (try simp only [List.getElem_toArray, List.getElem_cons_zero, List.getElem_cons_succ]); go_simp <;> with_reducible rfl)
              (try simp only [Act.put, List.getElem_toArray, List.getElem_cons_zero, List.getElem_cons_succ, List.setIfInBounds_toArray, List.set_cons_zero, List.set_cons_succ])
              refine wpAnyH_take (i := 1) (v := ?v1_2) rfl (by kernel_rfl) (by kernel_rfl) (by kernel_rfl) (fun _ _ _ h => h) (Or.inl ⟨by rfl, ?hy1_2⟩) hHeld ?_
              case hy1_2 => (intro w hSw; (try dsimp only at hSw); obtain ⟨hSw1, hSw2⟩ := hSw; (try simp only [List.getElem_toArray, List.getElem_cons_zero, List.getElem_cons_succ]); go_simp <;> with_reducible rfl)
              (try simp only [Act.put, List.getElem_toArray, List.getElem_cons_zero, List.getElem_cons_succ, List.setIfInBounds_toArray, List.set_cons_zero, List.set_cons_succ])
              refine wpAnyH_take (i := 2) (v := ?v2_3) rfl (by kernel_rfl) (by kernel_rfl) (by kernel_rfl) (fun _ _ _ h => h) (Or.inl ⟨by rfl, ?hy2_3⟩) hHeld ?_
              case hy2_3 => (intro w hSw; (try dsimp only at hSw); obtain ⟨hSw1, hSw2⟩ := hSw; (try simp only [List.getElem_toArray, List.getElem_cons_zero, List.getElem_cons_succ]); go_simp <;> with_reducible rfl)
              (try simp only [Act.put, List.getElem_toArray, List.getElem_cons_zero, List.getElem_cons_succ, List.setIfInBounds_toArray, List.set_cons_zero, List.set_cons_succ])
              refine wpAnyH_take (i := 3) (v := ?v3_4) rfl (by kernel_rfl) (by kernel_rfl) (by kernel_rfl) (fun _ _ _ h => h) (Or.inl ⟨by rfl, ?hy3_4⟩) hHeld ?_
              case hy3_4 => (intro w hSw; (try dsimp only at hSw); obtain ⟨hSw1, hSw2⟩ := hSw; (try simp only [List.getElem_toArray, List.getElem_cons_zero, List.getElem_cons_succ]); go_simp <;> with_reducible rfl)
              (try simp only [Act.put, List.getElem_toArray, List.getElem_cons_zero, List.getElem_cons_succ, List.setIfInBounds_toArray, List.set_cons_zero, List.set_cons_succ])
              refine wpAnyH_take (i := 4) (v := ?v4_5) rfl (by kernel_rfl) (by kernel_rfl) (by kernel_rfl) (fun _ _ _ h => h) (Or.inl ⟨by rfl, ?hy4_5⟩) hHeld ?_
              case hy4_5 => (intro w hSw; (try dsimp only at hSw); obtain ⟨hSw1, hSw2⟩ := hSw; (try simp only [List.getElem_toArray, List.getElem_cons_zero, List.getElem_cons_succ]); go_simp <;> with_reducible rfl)
              (try simp only [Act.put, List.getElem_toArray, List.getElem_cons_zero, List.getElem_cons_succ, List.setIfInBounds_toArray, List.set_cons_zero, List.set_cons_succ])
              refine wpAnyH_take (i := 5) (v := ?v5_6) rfl (by kernel_rfl) (by kernel_rfl) (by kernel_rfl) (fun _ _ _ h => h) (Or.inl ⟨by rfl, ?hy5_6⟩) hHeld ?_
              case hy5_6 => (intro w hSw; (try dsimp only at hSw); obtain ⟨hSw1, hSw2⟩ := hSw; (try simp only [List.getElem_toArray, List.getElem_cons_zero, List.getElem_cons_succ]); go_simp <;> with_reducible rfl)
              (try simp only [Act.put, List.getElem_toArray, List.getElem_cons_zero, List.getElem_cons_succ, List.setIfInBounds_toArray, List.set_cons_zero, List.set_cons_succ])
              refine wpAnyH_take (i := 6) (v := ?v6_7) rfl (by kernel_rfl) (by kernel_rfl) (by kernel_rfl) (fun _ _ _ h => h) (Or.inl ⟨by rfl, ?hy6_7⟩) hHeld ?_
              case hy6_7 => (intro w hSw; (try dsimp only at hSw); obtain ⟨hSw1, hSw2⟩ := hSw; (try simp only [List.getElem_toArray, List.getElem_cons_zero, List.getElem_cons_succ]); go_simp <;> with_reducible rfl)
              (try simp only [Act.put, List.getElem_toArray, List.getElem_cons_zero, List.getElem_cons_succ, List.setIfInBounds_toArray, List.set_cons_zero, List.set_cons_succ])
              refine wpAnyH_take (i := 7) (v := ?v7_8) rfl (by kernel_rfl) (by kernel_rfl) (by kernel_rfl) (fun _ _ _ h => h) (Or.inl ⟨by rfl, ?hy7_8⟩) hHeld ?_
              case hy7_8 => (intro w hSw; (try dsimp only at hSw); obtain ⟨hSw1, hSw2⟩ := hSw; (try simp only [List.getElem_toArray, List.getElem_cons_zero, List.getElem_cons_succ]); go_simp <;> with_reducible rfl)
              (try simp only [Act.put, List.getElem_toArray, List.getElem_cons_zero, List.getElem_cons_succ, List.setIfInBounds_toArray, List.set_cons_zero, List.set_cons_succ])
              refine wpAnyH_ready (rs := [8]) (by kernel_rfl) (by simp) ?_
              refine AllReadyH.cons rfl (fun K hK => ?_) AllReadyH.nil
              (try simp only [List.getElem_toArray, List.getElem_cons_zero, List.getElem_cons_succ])
              go_simp
              refine hK.out _ _ ⟨q1, q2⟩ (fun _ => ?_)
              clear hK K
              (try simp only [Act.put, List.getElem_toArray, List.getElem_cons_zero, List.getElem_cons_succ, List.setIfInBounds_toArray, List.set_cons_zero, List.set_cons_succ])
              refine wpAnyH_done (by kernel_rfl) ?_ _
              go_wp2_with fail
              go_roundw
              case rel => exact ⟨q + 1, by omega, by go_num, Lib.hid hk.out.drew, Lib.hid hb.out.drew⟩
              case measure => simp [intOf]; omega
            · have hqm : q = m := by omega
              subst hqm
              clear K6 X6 Z6 hb
              have hb8 : b < wr.heap.size := hk.out.ho.lt
              go_wp2_with fail
              refine (copy_any A1 n1 c1 0 l1 _ (hk.out.rb H1.out) (by omega)).mono ?_
              rintro e v8 ⟨A8, c8, rfl, ho8, hb8'⟩
              have K8 := Lib.hid (hk.out.keep hb8')
              have HO8 := Lib.hid ho8
              have hs8 := hb8'.size
              clear ho8 hb8' hk
              go_wp2_with fail
              refine (copy_any A2 n2 c2 0 l2 _ (K8.out.rb H2.out) (by omega)).mono ?_
              rintro e v9 ⟨A9, c9, rfl, ho9, hb9'⟩
              have K9 := Lib.hid (K8.out.keep hb9')
              have HO9 := Lib.hid ho9
              have HX9 := Lib.hid (HO8.out.below hb9')
              clear ho9 hb9' HO8 K8
              go_wp2_with fail
              refine (sum_gh b h false A8 A9 n1 c8 n2 c9 l1 l2 _ K9.out.ho HH.out.2 HX9.out.rb HO9.out.rb HX9.out.cap.1 HO9.out.cap.1 (by omega) (by omega) (OwnB.apart HO9.out (by omega))).mono ?_
              rintro e v10 ⟨A10, c10, rfl, ho10, hb10, hh10⟩
              have K10 := Lib.hid (K9.out.use hb10 hh10)
              have hb9 : b < v9.heap.size := K9.out.ho.lt
              have R8 := Lib.hid ((HX9.out.rb.but hb10 (Nat.le_refl _) (OwnB.apart HX9.out hb8)).more hb10.size)
              have R9 := Lib.hid ((HO9.out.rb.but hb10 (Nat.le_refl _) (OwnB.apart HO9.out (by omega))).more hb10.size)
              have R10 := Lib.hid ho10.rb
              clear ho10 hb10 hh10 K9 HX9 HO9
              go_wp2_with fail
              refine (rsum_any A0 A1 A2 c0 n1 c1 n2 c2 l0 l1 l2 _ (K10.out.rb H0.out) (K10.out.rb H1.out) (K10.out.rb H2.out) (by omega) (by omega)).mono ?_
              rw [← HH.out.1]
              rintro e v11 ⟨A11, c11, rfl, ho11, hb11⟩
              have K11 := Lib.hid (K10.out.keep hb11)
              have S8 := Lib.hid (R8.out.step hb11)
              have S9 := Lib.hid (R9.out.step hb11)
              have S10 := Lib.hid (R10.out.step hb11)
              have S11 := Lib.hid ho11.rb
              clear ho11 hb11 K10 R8 R9 R10
              go_wp2_with fail
              refine (al_same A10 A11 16 c10 16 c11 _ _ _ S10.out S11.out (by unfold maxLen; omega) (by unfold maxLen; omega) true (by simp)).mono ?_
              rintro e v12 ⟨rfl, hb12⟩
              have K12 := Lib.hid (K11.out.keep hb12)
              have T8 := Lib.hid (S8.out.step hb12)
              have T9 := Lib.hid (S9.out.step hb12)
              clear hb12 K11 S8 S9 S10 S11
              go_wp2_with fail
              refine (al_same A8 A1 n1 c8 n1 c1 l1 l1 _ T8.out (K12.out.rb H1.out) (by unfold maxLen; omega) (by unfold maxLen; omega) true (by simp)).mono ?_
              rintro e v13 ⟨rfl, hb13⟩
              have K13 := Lib.hid (K12.out.keep hb13)
              have V9 := Lib.hid (T9.out.step hb13)
              clear hb13 K12 T8 T9
              go_wp2_with fail
              refine (al_same A9 A2 n2 c9 n2 c2 l2 l2 _ V9.out (K13.out.rb H2.out) (by unfold maxLen; omega) (by unfold maxLen; omega) true (by simp)).mono ?_
              rintro e v14 ⟨rfl, hb14⟩
              have K14 := Lib.hid (K13.out.keep hb14)
              clear hb14 K13 V9
              go_wp2_with fail
              refine (made_lit 1 b h true rfl _ K14.out.ho).mono ?_
              rintro e v15 ⟨rfl, rfl⟩
              go_wp2_with fail
              go_ret
              exact ⟨rfl, K14.out.bel⟩
        · have hn : ((n0 : Int) != 16) = true := by simp; omega
          refine (new_bad A5 n0 c5 _ (by unfold maxLen; omega) h16).mono ?_
          rintro e v2 ⟨rfl, hb2⟩
          have HW2 := Lib.hid (bel_next HW1.out hb2)
          clear hb2
          go_wp2_with fail
          go_ret
          exact ⟨rfl, HW2.out⟩
      · have hg2 : decide ((n2 : Int) > 300) = true := decide_eq_true (by omega)
        go_wp2_with fail
        go_ret
        exact ⟨rfl, HB1.out⟩
    · have hg1 : decide ((n1 : Int) > 300) = true := decide_eq_true (by omega)
      go_wp2_with fail
      go_ret
      exact ⟨rfl, HB1.out⟩
  · have hg0 : decide ((n0 : Int) > 100) = true := decide_eq_true (by omega)
    go_wp2_with fail
    go_ret
    exact ⟨rfl, HB1.out⟩
end Go.Proofs.Ytilpdojliaiokaa
