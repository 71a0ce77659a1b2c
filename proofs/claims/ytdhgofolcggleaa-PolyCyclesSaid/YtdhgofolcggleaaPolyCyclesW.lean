/- PolyCycles' walk. Conditions: the element is one; the number is a byte. -/
import Derived.Test.YtdhgofolcggleaaPolyRun
import Derived.Test.YtdhgofolcggleaaOpen
namespace Go.Proofs.Ytdhgofolcggleaa
open Go.RowKit
set_option linter.unusedVariables false

theorem sqs_s (a k : Nat) : gSqs a (k + 1) = gMul (gSqs a k) (gSqs a k) := rfl
theorem cyc_zero (a : Nat) (ha : a < 2 ^ 128) (n : Nat) : (gIter a n = 0) = (a = 0) := by
  apply propext
  constructor
  · intro h
    induction n with
    | zero => exact h
    | succ n ih =>
      apply ih
      have h1 : gNext (gIter a n) = 0 := h
      rw [← gMul_x _ (gIter_lt a ha n)] at h1
      rcases gMul_cancel _ _ (gIter_lt a ha n) (gE_lt 1) h1 with e | e
      · exact e
      · exact absurd e (by decide)
  · rintro rfl; exact gIter_zero n
theorem it_next (a k : Nat) : gIter a (k + 1) = gNext (gIter a k) := rfl
theorem lv_x2 : (.agg #[.int .u64 4611686018427387904, .int .u64 0] : Value) = PE (gE 1) := lv_x.symm
attribute [local irreducible] gMul gPow PE gSqs gIter gNext

set_option maxRecDepth 100000 in
set_option maxHeartbeats 4000000 in
theorem PolyCycles_walk (x0 : Nat) (x1 : Int) (w : World) (h0 : x0 < 2 ^ 128) (h1 : (Lit.int .u8 x1).wf = true) :
    Calls Try.prog 6 #[PE x0, .int .u8 x1] w fun e w' => e = .returned (.bool true) ∧ Below w.heap.size w w' := by
  have hr1 : 0 ≤ x1 ∧ x1 ≤ 255 := bounds_u8 h1
  obtain ⟨n, rfl⟩ : ∃ n : Nat, x1 = (n : Int) := ⟨x1.toNat, by omega⟩
  have hn : n ≤ 255 := by omega
  clear h1 hr1
  have HLT := Lib.hid h0
  obtain ⟨G, HG⟩ : ∃ G, Hid (G = w.heap.size) := ⟨_, Lib.hid rfl⟩
  clear h0
  go_enter Try.func6, Try.ntmps6
  go_wp2_with (refine wpList_boxX rfl _ (.tmp 0) rfl x0 rfl ?_)
  refine (alive_any _).mono ?_
  rintro e w1 ⟨rfl, hb1⟩
  have HA1 : Hid (Xw w1 G x0) := Lib.hid (by rw [HG.out]; exact Xw.keep (Ew.new w _ _ _ rfl) hb1)
  have HB1 : Hid (Below w.heap.size w w1) := Lib.hid ((below_alloc w _).trans (hb1.mono (by simp)))
  have hGX : G < w1.heap.size := Ew.lt HA1.out
  clear hb1
  rw [← HG.out]
  go_wp2_with (first | (refine wpList_ldX rfl (.tmp 2) rfl G rfl x0 (by exact HA1.out) ?_) | (refine wpList_stX rfl (.tmp 5) (.tmp 12) rfl w1.heap.size rfl x0 0 rfl (by exact Ew.new w1 0 0 _ rfl) ?_; obtain ⟨W2, HW2⟩ : ∃ W2, Hid (W2 = (w1.alloc (.cells #[.int .u64 0, .int .u64 0] 24)).setCells w1.heap.size 0 (es (x0 / 2 ^ 64) (x0 % 2 ^ 64))) := ⟨_, Lib.hid rfl⟩; rw [← HW2.out]))
  try dsimp only [Act.put]
  have hwG : w.heap.size ≤ G := by rw [← HG.out]; exact Nat.le_refl _
  obtain ⟨X, HX⟩ : ∃ X, Hid (X = w1.heap.size) := ⟨_, Lib.hid rfl⟩
  have hGY : G < X := by rw [HX.out]; exact hGX
  have HA2 : Hid (Xw W2 G x0) := Lib.hid (by rw [HW2.out]; exact Ew.setCells (Ew.alloc HA1.out _) (by omega) _ _)
  have HX2 : Hid (Xw W2 X x0) := Lib.hid (by rw [HW2.out, HX.out]; exact Ew.whole (Ew.new w1 0 0 _ rfl) _ _)
  have HB2 : Hid (Below w.heap.size w W2) := Lib.hid (by rw [HW2.out]; exact below_setCells (HB1.out.alloc HB1.out.size _) HB1.out.size _ _)
  rw [← HX.out]
  clear HA1 HB1 HW2 hGX HX
  go_loopw [6] (fun t wr => ∃ i x : Nat, i ≤ 128 ∧ t = .int .i64 i ∧ Hid (x = gSqs x0 i ∧ x < 2 ^ 128) ∧ Hid (Xw wr G x0) ∧ Hid (Xw wr X x) ∧ Hid (Below w.heap.size w wr)) (fun t _ => 128 - (intOf t).toNat)
  case atStart => exact ⟨0, x0, by omega, rfl, Lib.hid ⟨by unfold gSqs; rfl, HLT.out⟩, HA2, HX2, HB2⟩
  case round =>
    obtain ⟨i, x, hi, rfl, hv, ha, hx, hb⟩ := hrel
    clear HA2 HX2 HB2
    by_cases hlt : i < 128
    · obtain ⟨s, HS⟩ : ∃ s, Hid (s = gMul x x ∧ s < 2 ^ 128) := ⟨_, Lib.hid ⟨rfl, gMul_lt x x hv.out.2⟩⟩
      have HMS : Hid (∀ u, Calls Try.prog 11 #[PE x, PE x] u (RetP s u)) := Lib.hid (fun u => by rw [HS.out.1]; exact times_pe x x u hv.out.2 hv.out.2)
      have HVS : Hid (s = gSqs x0 (i + 1)) := Lib.hid (by rw [HS.out.1, hv.out.1, sqs_s])
      go_wp2_with (first | (refine wpList_ldX rfl (.tmp 5) rfl X rfl x (by exact hx.out) ?_) | (go_at_call 11; refine (HMS.out _).mono ?_; rintro e w1 ⟨rfl, hb1⟩; have ha1 := Lib.hid (ha.out.keep hb1); have hx1 := Lib.hid (hx.out.keep hb1); have hbb := Lib.hid (hb.out.trans (hb1.mono hb.out.size)); clear hb1 HMS ha hx hb) | (refine wpList_stX rfl (.tmp 5) (.tmp 19) rfl X rfl s x rfl (by exact hx1.out) ?_))
      go_roundw
      case rel => exact ⟨i + 1, s, by omega, by go_num, Lib.hid ⟨HVS.out, HS.out.2⟩, Lib.hid (Ew.setCells ha1.out (by omega) _ _), Lib.hid (Ew.whole hx1.out _ _), Lib.hid (below_setCells hbb.out (by omega) _ _)⟩
      case measure => simp [intOf]; omega
    · obtain rfl : i = 128 := by omega
      have e4 : ((128 : Nat) : Int) = 128 := rfl
      rw [e4]
      clear e4
      obtain rfl : x = x0 := by rw [hv.out.1]; exact cycle128 x0 HLT.out
      obtain ⟨wo, ewo⟩ : ∃ wo : World, wo = wr := ⟨_, rfl⟩
      subst ewo
      have hXW : X < wo.heap.size := Ew.lt hx.out
      go_wp2_with (first | (refine wpList_ldX rfl (.tmp 5) rfl X rfl x (by exact hx.out) ?_) | (refine wpList_stX rfl (.tmp 7) (.tmp 23) rfl wo.heap.size rfl x 0 rfl (by exact Ew.new wo 0 0 _ rfl) ?_; obtain ⟨W5, HW5⟩ : ∃ W5, Hid (W5 = (wo.alloc (.cells #[.int .u64 0, .int .u64 0] 24)).setCells wo.heap.size 0 (es (x / 2 ^ 64) (x % 2 ^ 64))) := ⟨_, Lib.hid rfl⟩; have ha5 : Hid (Xw W5 G x) := Lib.hid (by rw [HW5.out]; exact Ew.setCells (Ew.alloc ha.out _) (by omega) _ _); have hy5 : Hid (Xw W5 wo.heap.size x) := Lib.hid (by rw [HW5.out]; exact Ew.whole (Ew.new wo 0 0 _ rfl) _ _); have hb5 : Hid (Below w.heap.size w W5) := Lib.hid (by rw [HW5.out]; exact below_setCells (hb.out.alloc hb.out.size _) hb.out.size _ _); have hs5 : Hid (W5.heap.size = wo.heap.size + 1) := Lib.hid (by rw [HW5.out, size_setCells, World.size_alloc]); rw [← HW5.out]; clear HW5) | (refine wpList_stX rfl (.tmp 8) (.tmp 24) rfl W5.heap.size rfl x 0 rfl (by exact Ew.new W5 0 0 _ rfl) ?_; obtain ⟨W6, HW6⟩ : ∃ W6, Hid (W6 = (W5.alloc (.cells #[.int .u64 0, .int .u64 0] 24)).setCells W5.heap.size 0 (es (x / 2 ^ 64) (x % 2 ^ 64))) := ⟨_, Lib.hid rfl⟩; rw [← HW6.out]) | (refine wpList_ldX rfl (.tmp 2) rfl G rfl x (by first | exact ha.out | exact ha5.out) ?_))
      try dsimp only [Act.put]
      obtain ⟨Y, HY⟩ : ∃ Y, Hid (Y = wo.heap.size) := ⟨_, Lib.hid rfl⟩
      obtain ⟨Z, HZ⟩ : ∃ Z, Hid (Z = W5.heap.size) := ⟨_, Lib.hid rfl⟩
      have hXY : X < Y := by rw [HY.out]; exact hXW
      have hYZ : Y < Z := by rw [HZ.out, HY.out, hs5.out]; omega
      have ha6 : Hid (Xw W6 G x) := Lib.hid (by rw [HW6.out]; exact Ew.setCells (Ew.alloc ha5.out _) (by rw [← HZ.out]; omega) _ _)
      have hy6 : Hid (Xw W6 Y x) := Lib.hid (by rw [HW6.out, HY.out]; exact Ew.setCells (Ew.alloc hy5.out _) (by rw [← HZ.out, ← HY.out]; omega) _ _)
      have hz6 : Hid (Xw W6 Z x) := Lib.hid (by rw [HW6.out, HZ.out]; exact Ew.whole (Ew.new W5 0 0 _ rfl) _ _)
      have hb6 : Hid (Below w.heap.size w W6) := Lib.hid (by rw [HW6.out]; exact below_setCells (hb5.out.alloc hb5.out.size _) hb5.out.size _ _)
      rw [← HY.out, ← HZ.out]
      clear ha5 hy5 hb5 hs5 HW6 ha hx hb hXW HY HZ
      go_loopw [9] (fun t wr => ∃ i y : Nat, i ≤ n ∧ t = .int .u8 i ∧ Hid (y = gIter x i ∧ y < 2 ^ 128) ∧ Hid (Xw wr G x) ∧ Hid (Xw wr Y y) ∧ Hid (Xw wr Z y) ∧ Hid (Below w.heap.size w wr)) (fun t _ => n - (intOf t).toNat)
      case atStart => exact ⟨0, x, by omega, rfl, Lib.hid ⟨by unfold gIter; rfl, HLT.out⟩, ha6, hy6, hz6, hb6⟩
      case round =>
        obtain ⟨i, y, hi2, rfl, hv2, ha, hy, hz, hb⟩ := hrel
        clear ha6 hy6 hz6 hb6
        by_cases hlt2 : i < n
        · obtain ⟨s, HS⟩ : ∃ s, Hid (s = gNext y ∧ s < 2 ^ 128) := ⟨_, Lib.hid ⟨rfl, gNext_lt y hv2.out.2⟩⟩
          have HMN : Hid (∀ u, Calls Try.prog 13 #[PE y] u (RetP s u)) := Lib.hid (fun u => by rw [HS.out.1]; exact next_pe y u hv2.out.2)
          have HMT : Hid (∀ u, Calls Try.prog 11 #[PE y, .agg #[.int .u64 4611686018427387904, .int .u64 0]] u (RetP s u)) := Lib.hid (fun u => by rw [HS.out.1, lv_x2, ← gMul_x y hv2.out.2]; exact times_pe y _ u hv2.out.2 (gE_lt 1))
          have HVS : Hid (s = gIter x (i + 1)) := Lib.hid (by rw [HS.out.1, hv2.out.1, it_next])
          go_wp2_with (first | (refine wpList_ldX rfl (.tmp 7) rfl Y rfl y (by exact hy.out) ?_) | (go_at_call 13; refine (HMN.out _).mono ?_; rintro e w1 ⟨rfl, hb1⟩; have ha1 := Lib.hid (ha.out.keep hb1); have hy1 := Lib.hid (hy.out.keep hb1); have hz1 := Lib.hid (hz.out.keep hb1); have hbb := Lib.hid (hb.out.trans (hb1.mono hb.out.size)); clear hb1 HMN ha hy hz hb) | (refine wpList_stX rfl (.tmp 7) (.tmp 31) rfl Y rfl s y rfl (by exact hy1.out) ?_; obtain ⟨w2, HW2⟩ : ∃ w2, Hid (w2 = w1.setCells Y 0 (es (s / 2 ^ 64) (s % 2 ^ 64))) := ⟨_, Lib.hid rfl⟩; have ha2 : Hid (Xw w2 G x) := Lib.hid (by rw [HW2.out]; exact Ew.setCells ha1.out (by omega) _ _); have hy2 : Hid (Xw w2 Y s) := Lib.hid (by rw [HW2.out]; exact Ew.whole hy1.out _ _); have hz2 : Hid (Xw w2 Z y) := Lib.hid (by rw [HW2.out]; exact Ew.setCells hz1.out (by omega) _ _); have hb2 : Hid (Below w.heap.size w w2) := Lib.hid (by rw [HW2.out]; exact below_setCells hbb.out (by omega) _ _); rw [← HW2.out]) | (refine wpList_ldX rfl (.tmp 8) rfl Z rfl y (by exact hz2.out) ?_) | (go_at_call 11; refine (HMT.out _).mono ?_; rintro e w3 ⟨rfl, hb1⟩; have ha3 := Lib.hid (ha2.out.keep hb1); have hy3 := Lib.hid (hy2.out.keep hb1); have hz3 := Lib.hid (hz2.out.keep hb1); have hb3 := Lib.hid (hb2.out.trans (hb1.mono hb2.out.size)); clear hb1 HMT) | (refine wpList_stX rfl (.tmp 8) (.tmp 34) rfl Z rfl s y rfl (by exact hz3.out) ?_))
          go_roundw
          case rel => exact ⟨i + 1, s, by omega, by go_num, Lib.hid ⟨HVS.out, HS.out.2⟩, Lib.hid (Ew.setCells ha3.out (by omega) _ _), Lib.hid (Ew.setCells hy3.out (by omega) _ _), Lib.hid (Ew.whole hz3.out _ _), Lib.hid (below_setCells hb3.out (by omega) _ _)⟩
          case measure => simp [intOf]; omega
        · obtain rfl : i = n := by omega
          have hzz : (y = 0) = (x = 0) := by rw [hv2.out.1]; exact cyc_zero x HLT.out i
          go_wp2_with fail
          obtain ⟨bz, hbz1⟩ : ∃ bz : Bool, decide (x = 0) = bz := ⟨_, rfl⟩
          have hbz2 : decide (y = 0) = bz := by rw [← hbz1]; simp only [hzz]
          go_region_held3 (fun w' => ldP (.pointer (some ⟨G, 0, none⟩)) w' = .ok (.value (PE x)) w' ∧ ldP (.pointer (some ⟨Y, 0, none⟩)) w' = .ok (.value (PE y)) w' ∧ ldP (.pointer (some ⟨Z, 0, none⟩)) w' = .ok (.value (PE y)) w') (first | assumption | (exact ⟨ldP_x ha.out, ldP_x hy.out, ldP_x hz.out⟩)) (fail)
          all_goals (go_wp2_with fail; go_ret; exact ⟨by simp, (hb.out).drew⟩)
end Go.Proofs.Ytdhgofolcggleaa
