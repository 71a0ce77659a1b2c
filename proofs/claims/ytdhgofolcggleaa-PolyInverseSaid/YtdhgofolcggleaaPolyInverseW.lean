/- PolyInverse's walk. Condition: the element is one. -/
import Derived.Test.YtdhgofolcggleaaPolyRun
namespace Go.Proofs.Ytdhgofolcggleaa
open Go.RowKit
set_option linter.unusedVariables false

theorem inv_next (a k : Nat) : gMul (gProd (gSq a) k) (gMul (gSqs a k) (gSqs a k)) = gProd (gSq a) (k + 1) := by
  rw [gProd, gSqs_one_more]; rfl
theorem inv_end (a : Nat) (ha : a < 2 ^ 128) (h0 : a ≠ 0) : gMul (gProd (gSq a) 127) a = gOne := by
  have h := gMul_inv a ha h0
  rw [gMul_comm a _ ha (gInv_lt a ha)] at h
  exact h
theorem inv_zero : gProd (gSq 0) 127 = 0 := by rw [gSq_zero]; exact gProd_zero 126
theorem gSqs_s (a k : Nat) : gSqs a (k + 1) = gMul (gSqs a k) (gSqs a k) := rfl
attribute [local irreducible] gMul gPow PE gProd gSqs gSq

set_option maxRecDepth 100000 in
set_option maxHeartbeats 4000000 in
theorem PolyInverse_walk (x0 : Nat) (w : World) (h0 : x0 < 2 ^ 128) :
    Calls Try.prog 7 #[PE x0] w fun e w' => e = .returned (.bool true) ∧ Below w.heap.size w w' := by
  have HLT := Lib.hid h0
  obtain ⟨G, HG⟩ : ∃ G, Hid (G = w.heap.size) := ⟨_, Lib.hid rfl⟩
  clear h0
  go_enter Try.func7, Try.ntmps7
  go_wp2_with (refine wpList_boxX rfl _ (.tmp 0) rfl x0 rfl ?_)
  refine (alive_any _).mono ?_
  rintro e w1 ⟨rfl, hb1⟩
  have HA1 : Hid (Xw w1 G x0) := Lib.hid (by rw [HG.out]; exact Xw.keep (Ew.new w _ _ _ rfl) hb1)
  have HB1 : Hid (Below w.heap.size w w1) := Lib.hid ((below_alloc w _).trans (hb1.mono (by simp)))
  have hGX : G < w1.heap.size := Ew.lt HA1.out
  clear hb1
  rw [← HG.out]
  go_wp2_with (first | (refine wpList_ldX rfl (.tmp 1) rfl G rfl x0 (by exact HA1.out) ?_) | (refine wpList_stX rfl (.tmp 3) (.tmp 8) rfl w1.heap.size rfl x0 0 rfl (by exact Ew.new w1 0 0 _ rfl) ?_; obtain ⟨W2, HW2⟩ : ∃ W2, Hid (W2 = (w1.alloc (.cells #[.int .u64 0, .int .u64 0] 24)).setCells w1.heap.size 0 (es (x0 / 2 ^ 64) (x0 % 2 ^ 64))) := ⟨_, Lib.hid rfl⟩; rw [← HW2.out]) | (go_at_call 22; refine (one_any _).mono ?_; rintro e w3 ⟨rfl, hb3⟩; have HB3 := Lib.hid hb3; clear hb3) | (refine wpList_stX rfl (.tmp 4) (.tmp 9) rfl w3.heap.size rfl gOne 0 rfl (by exact Ew.new w3 0 0 _ rfl) ?_; obtain ⟨W4, HW4⟩ : ∃ W4, Hid (W4 = (w3.alloc (.cells #[.int .u64 0, .int .u64 0] 24)).setCells w3.heap.size 0 (es (gOne / 2 ^ 64) (gOne % 2 ^ 64))) := ⟨_, Lib.hid rfl⟩; rw [← HW4.out]))
  try dsimp only [Act.put]
  have hwG : w.heap.size ≤ G := by rw [← HG.out]; exact Nat.le_refl _
  obtain ⟨X, HX⟩ : ∃ X, Hid (X = w1.heap.size) := ⟨_, Lib.hid rfl⟩
  obtain ⟨Y, HY⟩ : ∃ Y, Hid (Y = w3.heap.size) := ⟨_, Lib.hid rfl⟩
  have HA2 : Xw W2 G x0 := by rw [HW2.out]; exact Ew.setCells (Ew.alloc HA1.out _) (by omega) _ _
  have HX2 : Xw W2 X x0 := by rw [HW2.out, HX.out]; exact Ew.whole (Ew.new w1 0 0 _ rfl) _ _
  have HB2 : Below w.heap.size w W2 := by rw [HW2.out]; exact below_setCells (HB1.out.alloc HB1.out.size _) HB1.out.size _ _
  have HA3 := HA2.keep HB3.out
  have HX3 := HX2.keep HB3.out
  have HB3' := HB2.trans (HB3.out.mono HB2.size)
  have hXY : X < Y := by rw [HY.out]; exact Ew.lt HX3
  have hGY : G < X := by rw [HX.out]; exact hGX
  have HA4 : Hid (Xw W4 G x0) := Lib.hid (by rw [HW4.out]; exact Ew.setCells (Ew.alloc HA3 _) (by rw [HY.out] at hXY; omega) _ _)
  have HX4 : Hid (Xw W4 X x0) := Lib.hid (by rw [HW4.out]; exact Ew.setCells (Ew.alloc HX3 _) (by rw [HY.out] at hXY; omega) _ _)
  have HY4 : Hid (Xw W4 Y gOne) := Lib.hid (by rw [HW4.out, HY.out]; exact Ew.whole (Ew.new w3 0 0 _ rfl) _ _)
  have HB4 : Hid (Below w.heap.size w W4) := Lib.hid (by rw [HW4.out]; exact below_setCells (HB3'.alloc HB3'.size _) HB3'.size _ _)
  rw [← HX.out, ← HY.out]
  clear HA1 HB1 HA2 HX2 HB2 HA3 HX3 HB3' HB3 HW4 HW2 hGX HX HY
  go_loopw [5] (fun t wr => ∃ i x v : Nat, 1 ≤ i ∧ i ≤ 128 ∧ t = .int .i64 i ∧ Hid (x = gSqs x0 (i - 1) ∧ v = gProd (gSq x0) (i - 1) ∧ x < 2 ^ 128 ∧ v < 2 ^ 128) ∧ Hid (Xw wr G x0) ∧ Hid (Xw wr X x) ∧ Hid (Xw wr Y v) ∧ Hid (Below w.heap.size w wr)) (fun t _ => 128 - (intOf t).toNat)
  case atStart => exact ⟨1, x0, gOne, by omega, by omega, rfl, Lib.hid ⟨by unfold gSqs; rfl, by unfold gProd; rfl, HLT.out, gOne_lt⟩, HA4, HX4, HY4, HB4⟩
  case round =>
    obtain ⟨i, x, v, hi1, hi, rfl, hv, ha, hx, hy, hb⟩ := hrel
    clear HA4 HX4 HY4 HB4
    by_cases hlt : i < 128
    · obtain ⟨s, HS⟩ : ∃ s, Hid (s = gMul x x ∧ s < 2 ^ 128) := ⟨_, Lib.hid ⟨rfl, gMul_lt x x hv.out.2.2.1⟩⟩
      obtain ⟨p, HP⟩ : ∃ p, Hid (p = gMul v s ∧ p < 2 ^ 128) := ⟨_, Lib.hid ⟨rfl, gMul_lt v s hv.out.2.2.2⟩⟩
      have HMS : Hid (∀ u, Calls Try.prog 11 #[PE x, PE x] u (RetP s u)) := Lib.hid (fun u => by rw [HS.out.1]; exact times_pe x x u hv.out.2.2.1 hv.out.2.2.1)
      have HMP : Hid (∀ u, Calls Try.prog 11 #[PE v, PE s] u (RetP p u)) := Lib.hid (fun u => by rw [HP.out.1]; exact times_pe v s u hv.out.2.2.2 HS.out.2)
      have HVS : Hid (s = gSqs x0 (i + 1 - 1) ∧ p = gProd (gSq x0) (i + 1 - 1)) := Lib.hid (by
        obtain ⟨k, rfl⟩ : ∃ k, i = k + 1 := ⟨i - 1, by omega⟩
        have h1 := hv.out.1
        have h2 := hv.out.2.1
        rw [Nat.add_sub_cancel] at h1 h2 ⊢
        have e1 : s = gSqs x0 (k + 1) := by rw [HS.out.1, h1, gSqs_s]
        exact ⟨e1, by rw [HP.out.1, h2, HS.out.1, h1, inv_next]⟩)
      go_wp2_with (first | (refine wpList_ldX rfl (.tmp 3) rfl X rfl x (by exact hx.out) ?_) | (go_at_call 11; refine (HMS.out _).mono ?_; rintro e w1 ⟨rfl, hb1⟩; have ha1 := Lib.hid (ha.out.keep hb1); have hx1 := Lib.hid (hx.out.keep hb1); have hy1 := Lib.hid (hy.out.keep hb1); have hbb := Lib.hid (hb.out.trans (hb1.mono hb.out.size)); clear hb1 HMS ha hx hy hb) | (refine wpList_stX rfl (.tmp 3) (.tmp 16) rfl X rfl s x rfl (by exact hx1.out) ?_; obtain ⟨w2, HW2⟩ : ∃ w2, Hid (w2 = w1.setCells X 0 (es (s / 2 ^ 64) (s % 2 ^ 64))) := ⟨_, Lib.hid rfl⟩; have ha2 : Hid (Xw w2 G x0) := Lib.hid (by rw [HW2.out]; exact Ew.setCells ha1.out (by omega) _ _); have hx2 : Hid (Xw w2 X s) := Lib.hid (by rw [HW2.out]; exact Ew.whole hx1.out _ _); have hy2 : Hid (Xw w2 Y v) := Lib.hid (by rw [HW2.out]; exact Ew.setCells hy1.out (by omega) _ _); have hb2 : Hid (Below w.heap.size w w2) := Lib.hid (by rw [HW2.out]; exact below_setCells hbb.out (by omega) _ _); rw [← HW2.out]) | (refine wpList_ldX rfl (.tmp 4) rfl Y rfl v (by exact hy2.out) ?_) | (refine wpList_ldX rfl (.tmp 3) rfl X rfl s (by exact hx2.out) ?_) | (go_at_call 11; refine (HMP.out _).mono ?_; rintro e w3 ⟨rfl, hb1⟩; have ha3 := Lib.hid (ha2.out.keep hb1); have hx3 := Lib.hid (hx2.out.keep hb1); have hy3 := Lib.hid (hy2.out.keep hb1); have hb3 := Lib.hid (hb2.out.trans (hb1.mono hb2.out.size)); clear hb1 HMP) | (refine wpList_stX rfl (.tmp 4) (.tmp 19) rfl Y rfl p v rfl (by exact hy3.out) ?_))
      go_roundw
      case rel => exact ⟨i + 1, s, p, by omega, by omega, by go_num, Lib.hid ⟨HVS.out.1, HVS.out.2, HS.out.2, HP.out.2⟩, Lib.hid (Ew.setCells ha3.out (by omega) _ _), Lib.hid (Ew.setCells hx3.out (by omega) _ _), Lib.hid (Ew.whole hy3.out _ _), Lib.hid (below_setCells hb3.out (by omega) _ _)⟩
      case measure => simp [intOf]; omega
    · obtain rfl : i = 128 := by omega
      have e4 : ((128 : Nat) : Int) = 128 := rfl
      rw [e4]
      clear e4
      by_cases hz : x0 = 0
      · have HV0 : v = 0 := by rw [hv.out.2.1, hz]; exact inv_zero
        subst HV0
        go_wp2_with (first | (refine wpList_ldX rfl (.tmp 1) rfl G rfl x0 (by exact ha.out) ?_) | (refine wpList_ldX rfl (.tmp 4) rfl Y rfl 0 (by exact hy.out) ?_))
        all_goals (try (exfalso; simp_all; done))
        go_ret
        exact ⟨by simp, hb.out⟩
      · have HPO : Hid (∀ u, Calls Try.prog 11 #[PE v, PE x0] u (RetP gOne u)) := Lib.hid (fun u => by
          have h := times_pe v x0 u hv.out.2.2.2 HLT.out
          rw [hv.out.2.1, inv_end x0 HLT.out hz, ← hv.out.2.1] at h
          exact h)
        go_wp2_with (first | (refine wpList_ldX rfl (.tmp 1) rfl G rfl x0 (by exact ha.out) ?_) | (refine wpList_ldX rfl (.tmp 4) rfl Y rfl v (by exact hy.out) ?_) | (go_at_call 11; refine (HPO.out _).mono ?_; rintro e w3 ⟨rfl, hb3⟩; have hb3' := Lib.hid (hb.out.trans (hb3.mono hb.out.size)); clear hb3) | (go_at_call 22; refine (one_any _).mono ?_; rintro e w5 ⟨rfl, hb5⟩; have hb5' := Lib.hid (hb3'.out.trans (hb5.mono hb3'.out.size)); clear hb5))
        go_ret
        exact ⟨by simp, hb5'.out⟩
end Go.Proofs.Ytdhgofolcggleaa
