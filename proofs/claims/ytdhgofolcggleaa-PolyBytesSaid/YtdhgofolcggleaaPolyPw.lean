/- layer 4: Pow. Conditions: numbers of 128 bits; a word. -/
import Derived.Test.YtdhgofolcggleaaPolyTm
namespace Go.Proofs.Ytdhgofolcggleaa
open Go.RowKit
set_option linter.unusedVariables false

theorem res_xw {fn : Func} {p : Tmp} (hr : fn.results = #[.cell p 24]) (tmps : Array Value) (w : World) (b x : Nat) (ht : tmps.getD p undef = .pointer (some ⟨b, 0, none⟩)) (hc : Xw w b x) :
    (results fn tmps).run Try.prog w = .ok (PE x) w := res_ew hr tmps w b _ _ ht hc
attribute [local irreducible] gMul gPow PE

set_option maxRecDepth 100000 in
set_option maxHeartbeats 4000000 in
theorem pow_any (a n : Nat) (w : World) (ha : a < 2 ^ 128) (hn : n ≤ 18446744073709551615) :
    Calls Try.prog 20 #[PE a, .int .u64 (n : Int)] w (RetP (gPow a n) w) := by
  have HLT := Lib.hid ha
  obtain ⟨G, HG⟩ : ∃ G, Hid (G = w.heap.size) := ⟨_, Lib.hid rfl⟩
  clear ha
  go_enter Try.func20, Try.ntmps20
  go_wp2_with (first | (refine wpList_boxX rfl _ (.tmp 0) rfl a rfl ?_; obtain ⟨W0, HW0⟩ : ∃ W0, Hid (W0 = w.alloc (.cells (es (a / 2 ^ 64) (a % 2 ^ 64)).toArray 24)) := ⟨_, Lib.hid rfl⟩; have HS0 : Hid (W0.heap.size = G + 1) := Lib.hid (by rw [HW0.out, HG.out]; simp); have HA0 : Hid (Xw W0 G a) := Lib.hid (by rw [HW0.out]; exact Ew.new w _ _ _ HG.out); have HB0 : Hid (Below w.heap.size w W0) := Lib.hid (by rw [HW0.out]; exact below_alloc _ _); rw [← HW0.out]) | (go_at_call 22; refine (one_any _).mono ?_; rintro e w1 ⟨rfl, hb1⟩; rw [World.size_alloc, HS0.out] at hb1; have HA1 : Hid (Xw w1 G a) := Lib.hid (Ew.below (Ew.alloc HA0.out _) hb1 (by omega)); have HR1 : Hid (Xw w1 (G + 1) 0) := Lib.hid (Ew.below (Ew.new W0 0 0 (G + 1) HS0.out.symm) hb1 (by omega)); have hq1 : w.heap.size ≤ W0.heap.size := HB0.out.size; have hq2 : w.heap.size ≤ G + 1 + 1 := (by rw [← HG.out]; exact Nat.le_of_lt (Nat.lt_succ_of_lt (Nat.lt_succ_self G))); have HB1 : Hid (Below w.heap.size w w1) := Lib.hid ((HB0.out.alloc hq1 _).trans (hb1.mono hq2)); have h9 := hb1.size; rw [World.size_alloc, HS0.out] at h9; clear hq1 hq2 hb1) | (refine wpList_stX rfl (.tmp 5) (.tmp 6) rfl w1.heap.size rfl gOne 0 rfl (by exact Ew.new w1 0 0 _ rfl) ?_; obtain ⟨W2, HW2⟩ : ∃ W2, Hid (W2 = (w1.alloc (.cells #[.int .u64 0, .int .u64 0] 24)).setCells w1.heap.size 0 (es (gOne / 2 ^ 64) (gOne % 2 ^ 64))) := ⟨_, Lib.hid rfl⟩; rw [← HW2.out]))
  obtain ⟨O, HO⟩ : ∃ O, Hid (O = w1.heap.size) := ⟨_, Lib.hid rfl⟩
  have HA2 : Hid (Xw W2 G a) := Lib.hid (by rw [HW2.out]; exact Ew.setCells (Ew.alloc HA1.out _) (by omega) _ _)
  have HR2 : Hid (Xw W2 (G + 1) 0) := Lib.hid (by rw [HW2.out]; exact Ew.setCells (Ew.alloc HR1.out _) (by omega) _ _)
  have HO2 : Hid (Xw W2 O gOne) := Lib.hid (by rw [HW2.out, HO.out]; exact Ew.whole (Ew.new w1 0 0 _ rfl) _ _)
  have HB2 : Hid (Below w.heap.size w W2) := Lib.hid (by rw [HW2.out]; exact below_setCells (HB1.out.alloc (by rw [HG.out] at h9; omega) _) (by rw [HG.out] at h9; omega) _ _)
  have hGO : G + 1 < O := by rw [HO.out]; omega
  rw [← HO.out, HS0.out, ← HG.out]
  clear HW2 HW0 HS0 HA0 HB0 HA1 HR1 HB1 h9 HO
  dsimp only [Act.put]
  go_loopw [1] (fun t wr => ∃ x o n' : Nat, n' ≤ 18446744073709551615 ∧ t = .int .u64 n' ∧ Hid (x < 2 ^ 128 ∧ o < 2 ^ 128 ∧ gMul o (gPow x n') = gPow a n) ∧ Hid (Xw wr G x) ∧ Hid (Xw wr (G + 1) 0) ∧ Hid (Xw wr O o) ∧ Hid (Below w.heap.size w wr)) (fun t _ => (intOf t).toNat)
  case atStart => exact ⟨a, gOne, n, hn, rfl, Lib.hid ⟨HLT.out, gOne_lt, gMul_one' _ (gPow_lt a HLT.out n)⟩, HA2, HR2, HO2, HB2⟩
  case round =>
    obtain ⟨x, o, n', hn', rfl, hval, ha, hd, hc, hb⟩ := hrel
    clear HA2 HR2 HO2 HB2
    have hlx := Lib.hid hval.out.1
    have hlo := Lib.hid hval.out.2.1
    by_cases hlt : 0 < n'
    · have hsz : Hid (O < wr.heap.size) := Lib.hid (Ew.lt hc.out)
      have hne : ((n' : Int) != 0) = true := by simp; omega
      obtain ⟨s, HS⟩ : ∃ s, Hid (s = gMul x x) := ⟨_, Lib.hid rfl⟩
      obtain ⟨p, HP⟩ : ∃ p, Hid (p = gMul o x) := ⟨_, Lib.hid rfl⟩
      have HMS : Hid (∀ v, Calls Try.prog 11 #[PE x, PE x] v (RetP s v)) := Lib.hid (fun v => by rw [HS.out]; exact times_pe x x v hlx.out hlx.out)
      have HMP : Hid (∀ v, Calls Try.prog 11 #[PE o, PE x] v (RetP p v)) := Lib.hid (fun v => by rw [HP.out]; exact times_pe o x v hlo.out hlx.out)
      rcases Nat.mod_two_eq_zero_or_one n' with hm | hm
      · have hbit := pow_bit0 n' hn' hm
        go_wp2_with (first | (refine wpList_ldX rfl (.tmp 2) rfl G rfl x (by exact ha.out) ?_) | (go_at_call 11; refine (HMS.out _).mono ?_; rintro e w1 ⟨rfl, hb1⟩; have hx1 : Hid (Xw w1 G x) := Lib.hid (Ew.below ha.out hb1 (by have := hsz.out; omega)); have hd1 : Hid (Xw w1 (G + 1) 0) := Lib.hid (Ew.below hd.out hb1 (by have := hsz.out; omega)); have hc1 : Hid (Xw w1 O o) := Lib.hid (Ew.below hc.out hb1 (by have := hsz.out; omega)); have hbb := Lib.hid (hb.out.trans (hb1.mono (by have := hsz.out; rw [HG.out] at hGO; omega))); clear hb1 HMS) | (refine wpList_stX rfl (.tmp 2) (.tmp 19) rfl G rfl s x rfl (by exact hx1.out) ?_))
        go_roundw
        case rel => exact ⟨s, o, n' / 2, by omega, by go_num, Lib.hid ⟨by rw [HS.out]; exact gMul_lt x x hlx.out, hlo.out, by rw [HS.out, pow_even x o n' hlx.out hm]; exact hval.out.2.2⟩, Lib.hid (Ew.whole hx1.out _ _), Lib.hid (Ew.setCells hd1.out (by omega) _ _), Lib.hid (Ew.setCells hc1.out (by omega) _ _), Lib.hid (below_setCells hbb.out (by rw [HG.out]; omega) _ _)⟩
        case measure => simp [intOf]; omega
      · have hbit := pow_bit1 n' hn' hm
        go_wp2_with (first | (refine wpList_ldX rfl (.tmp 5) rfl O rfl o (by exact hc.out) ?_) | (refine wpList_ldX rfl (.tmp 2) rfl G rfl x (by exact ha.out) ?_) | (go_at_call 11; refine (HMP.out _).mono ?_; rintro e w1 ⟨rfl, hb1⟩; have hx1 : Hid (Xw w1 G x) := Lib.hid (Ew.below ha.out hb1 (by have := hsz.out; omega)); have hd1 : Hid (Xw w1 (G + 1) 0) := Lib.hid (Ew.below hd.out hb1 (by have := hsz.out; omega)); have hc1 : Hid (Xw w1 O o) := Lib.hid (Ew.below hc.out hb1 (by have := hsz.out; omega)); have hbb := Lib.hid (hb.out.trans (hb1.mono (by have := hsz.out; rw [HG.out] at hGO; omega))); clear hb1 HMP ha hc hd hb) | (refine wpList_stX rfl (.tmp 5) (.tmp 16) rfl O rfl p o rfl (by exact hc1.out) ?_; obtain ⟨w2, HW2⟩ : ∃ w2, Hid (w2 = w1.setCells O 0 (es (p / 2 ^ 64) (p % 2 ^ 64))) := ⟨_, Lib.hid rfl⟩; have hx2 : Hid (Xw w2 G x) := Lib.hid (by rw [HW2.out]; exact Ew.setCells hx1.out (by omega) _ _); have hd2 : Hid (Xw w2 (G + 1) 0) := Lib.hid (by rw [HW2.out]; exact Ew.setCells hd1.out (by omega) _ _); have hc2 : Hid (Xw w2 O p) := Lib.hid (by rw [HW2.out]; exact Ew.whole hc1.out _ _); have hb2 : Hid (Below w.heap.size w w2) := Lib.hid (by rw [HW2.out]; exact below_setCells hbb.out (by rw [HG.out] at hGO; omega) _ _); have hsz2 : Hid (O < w2.heap.size) := Lib.hid (Ew.lt hc2.out); rw [← HW2.out]) | (refine wpList_ldX rfl (.tmp 2) rfl G rfl x (by exact hx2.out) ?_) | (go_at_call 11; refine (HMS.out _).mono ?_; rintro e w3 ⟨rfl, hb1⟩; have hx3 : Hid (Xw w3 G x) := Lib.hid (Ew.below hx2.out hb1 (by have := hsz2.out; omega)); have hd3 : Hid (Xw w3 (G + 1) 0) := Lib.hid (Ew.below hd2.out hb1 (by have := hsz2.out; omega)); have hc3 : Hid (Xw w3 O p) := Lib.hid (Ew.below hc2.out hb1 (by have := hsz2.out; omega)); have hb3 := Lib.hid (hb2.out.trans (hb1.mono (by have := hsz2.out; rw [HG.out] at hGO; omega))); clear hb1) | (refine wpList_stX rfl (.tmp 2) (.tmp 19) rfl G rfl s x rfl (by exact hx3.out) ?_))
        go_roundw
        case rel => exact ⟨s, p, n' / 2, by omega, by go_num, Lib.hid ⟨by rw [HS.out]; exact gMul_lt x x hlx.out, by rw [HP.out]; exact gMul_lt o x hlo.out, by rw [HS.out, HP.out, pow_odd x o n' hlx.out hlo.out hm]; exact hval.out.2.2⟩, Lib.hid (Ew.whole hx3.out _ _), Lib.hid (Ew.setCells hd3.out (by omega) _ _), Lib.hid (Ew.setCells hc3.out (by omega) _ _), Lib.hid (below_setCells hb3.out (by rw [HG.out]; omega) _ _)⟩
        case measure => simp [intOf]; omega
    · obtain rfl : n' = 0 := by omega
      have HRO : Hid (gPow a n = o) := Lib.hid (by
        have h := hval.out.2.2
        rw [show gPow x 0 = gOne by unfold gPow; rfl, gMul_one o hlo.out] at h
        exact h.symm)
      have e4 : ((0 : Nat) : Int) = 0 := rfl
      rw [e4]
      clear e4
      go_wp2_with (first | (refine wpList_ldX rfl (.tmp 5) rfl O rfl o (by exact hc.out) ?_) | (refine wpList_stX rfl (.tmp 4) (.tmp 20) rfl (G + 1) rfl o 0 rfl (by exact hd.out) ?_))
      rw [HRO.out]
      refine bodyPost_ret (v := PE o) (res_xw rfl _ _ (G + 1) o rfl (Ew.whole hd.out _ _)) rfl ⟨rfl, ?_⟩
      exact below_setCells hb.out (by rw [HG.out]; omega) 0 _
end Go.Proofs.Ytdhgofolcggleaa
