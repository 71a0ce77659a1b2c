/- The reference of layer 4 (poly): products and powers of numbers' coefficients. No conditions. -/
import Derived.Test.YtdhgofolcggleaaRefPolyMul
import Derived.Test.YtdhgofolcggleaaGfSq
namespace Go.Proofs.Ytdhgofolcggleaa
open Go.RowKit
set_option linter.unusedVariables false

/-- A number's coefficients as a list. -/
def co (x : Nat) : List Bool := fl 128 (coF x)
theorem co_len (x : Nat) : (co x).length = 128 := fl_len _ _
theorem co_at (x p : Nat) (hp : p < 128) : (co x)[p]? = some (coF x p) := fl_at 128 _ p hp
theorem pmul_co (x y : Nat) (w : World) (hx : x < 2 ^ 128) (hy : y < 2 ^ 128) :
    Calls Try.prog 12 #[BV (co x), BV (co y)] w (RetT (co (gMul x y)) w) := by
  have h := pmul_any (coF x) (coF y) w
  rw [co_val x hx, co_val y hy] at h
  exact h
theorem coF_one (p : Nat) (hp : p < 128) : coF gOne p = (p == 0) := by
  unfold coF
  rw [show gOne = gE 0 from rfl, gBit_gE 0 p (by omega) hp]
  by_cases h : p = 0
  · rw [if_pos h, h]; rfl
  · rw [if_neg h, beq_eq_false_iff_ne.2 h]; rfl
theorem coF_zero (p : Nat) : coF 0 p = false := by unfold coF; rw [gBit_zero]; rfl
theorem zP_co : zP = co 0 := by
  apply List.ext_getElem?
  intro j
  by_cases hj : j < 128
  · rw [co_at 0 j hj, coF_zero]; unfold zP; rw [List.getElem?_replicate, if_pos hj]
  · rw [List.getElem?_eq_none (by rw [zP_len]; omega), List.getElem?_eq_none (by rw [co_len]; omega)]
theorem one_co : zP.set 0 true = co gOne := by
  apply List.ext_getElem?
  intro j
  rw [List.getElem?_set]
  by_cases hj : j < 128
  · rw [co_at _ j hj, coF_one j hj]
    by_cases h : 0 = j
    · subst h; rw [if_pos rfl, zP_len, if_pos (by omega)]; rfl
    · rw [if_neg h, beq_eq_false_iff_ne.2 (fun e => h e.symm)]; unfold zP; rw [List.getElem?_replicate, if_pos hj]
  · rw [if_neg (by omega), List.getElem?_eq_none (by rw [zP_len]; omega), List.getElem?_eq_none (by rw [co_len]; omega)]
theorem sz_co (x : Nat) : (Try.prog.info? 28).map (·.size) = some (co x).length := by rw [co_len]; exact sz_poly
theorem pow_even (x o n : Nat) (hx : x < 2 ^ 128) (hm : n % 2 = 0) : gMul o (gPow (gMul x x) (n / 2)) = gMul o (gPow x n) := by
  rw [gPow_half x hx n, hm]
  show _ = gMul o (gMul gOne (gPow (gMul x x) (n / 2)))
  rw [gMul_one' _ (gPow_lt _ (gMul_lt x x hx) _)]
theorem pow_odd (x o n : Nat) (hx : x < 2 ^ 128) (ho : o < 2 ^ 128) (hm : n % 2 = 1) : gMul (gMul o x) (gPow (gMul x x) (n / 2)) = gMul o (gPow x n) := by
  rw [gPow_half x hx n, hm, gPow_one x hx, gMul_assoc o x _ ho hx]
  rfl
attribute [local irreducible] co gMul gPow

set_option maxRecDepth 100000 in
set_option maxHeartbeats 4000000 in
theorem ppow_any (a n : Nat) (w : World) (ha : a < 2 ^ 128) (hn : n ≤ 18446744073709551615) :
    Calls Try.prog 21 #[BV (co a), .int .u64 (n : Int)] w (RetT (co (gPow a n)) w) := by
  obtain ⟨R, HR⟩ : ∃ R, Hid (R = co (gPow a n)) := ⟨_, Lib.hid rfl⟩
  rw [← HR.out]
  have HLT := Lib.hid ha
  have hz := zero_poly
  obtain ⟨G, HG⟩ : ∃ G, Hid (G = w.heap.size) := ⟨_, Lib.hid rfl⟩
  have HN : Hid (Br (V3 (co a) zP zP 28 w) (w.heap.size + 1 + 1) 0 zP) := Lib.hid (v3_2 _ _ _ _ w)
  have HC := Lib.hid ((v3_2 (co a) zP zP 28 w).whole zP rfl)
  have HA := Lib.hid ((v3_0 (co a) zP zP 28 w).setCells (b := w.heap.size + 1 + 1) (by omega) 0 (tvs zP))
  have HD := Lib.hid ((v3_1 (co a) zP zP 28 w).setCells (b := w.heap.size + 1 + 1) (by omega) 0 (tvs zP))
  have HB := Lib.hid (below_setCells (b := w.heap.size + 1 + 1) (v3_below (co a) zP zP 28 w) (by omega) 0 (tvs zP))
  obtain ⟨W0, HW0⟩ : ∃ W0, Hid (W0 = (V3 (co a) zP zP 28 w).setCells (w.heap.size + 1 + 1) 0 (tvs zP)) := ⟨_, Lib.hid rfl⟩
  rw [← HW0.out] at HC HA HD HB
  have hc0 := HC.out.cell (j := 0) (x := false) rfl
  have hf0 := HC.out.free (j := 0) (by rw [zP_len]; omega)
  rw [Nat.zero_add] at hc0 hf0
  unfold tv at hc0
  unfold V3 at HW0
  clear ha
  go_enter Try.func21, Try.ntmps21
  go_wp2_with (first | (refine wpList_boxT rfl _ (.tmp 0) rfl (co a) rfl ?_) | (refine wpList_built0 rfl _ rfl zP poly_built ?_) | (refine wpList_stT rfl _ (.tmp 5) (.tmp 6) rfl (w.heap.size + 1 + 1) 0 rfl zP zP rfl (by exact HN.out) rfl (by rw [zP_len]; exact sz_poly) ?_; rw [← HW0.out]))
  obtain ⟨W1, HW1⟩ : ∃ W1, Hid (W1 = W0.setCell ⟨w.heap.size + 1 + 1, 0, none⟩ (.bool true)) := ⟨_, Lib.hid rfl⟩
  have HC1 : Hid (Br W1 (G + 1 + 1) 0 (co gOne)) := Lib.hid (by
    have h := HC.out.set (k := 0) (by rw [zP_len]; omega) true
    rw [one_co, Nat.zero_add] at h
    rw [HW1.out, HG.out]; exact h)
  have HA1 : Hid (Br W1 G 0 (co a)) := Lib.hid (by rw [HW1.out, HG.out]; exact HA.out.setCell (by show w.heap.size + 1 + 1 ≠ w.heap.size; omega) _)
  have HD1 : Hid (Br W1 (G + 1) 0 zP) := Lib.hid (by rw [HW1.out, HG.out]; exact HD.out.setCell (by show w.heap.size + 1 + 1 ≠ w.heap.size + 1; omega) _)
  have HB1 : Hid (Below w.heap.size w W1) := Lib.hid (by rw [HW1.out]; exact HB.out.setCell (by show w.heap.size ≤ w.heap.size + 1 + 1; omega) _)
  rw [← HW1.out, ← HG.out]
  clear HW0 HN HC HD HA HB hc0 hf0 HW1
  go_loopw [1] (fun t wr => ∃ x o n' : Nat, n' ≤ 18446744073709551615 ∧ t = .int .u64 n' ∧ Hid (x < 2 ^ 128 ∧ o < 2 ^ 128 ∧ gMul o (gPow x n') = gPow a n) ∧ Hid (Br wr G 0 (co x)) ∧ Hid (Br wr (G + 1) 0 zP) ∧ Hid (Br wr (G + 1 + 1) 0 (co o)) ∧ Hid (Below w.heap.size w wr)) (fun t _ => (intOf t).toNat)
  case atStart => exact ⟨a, gOne, n, hn, rfl, Lib.hid ⟨HLT.out, gOne_lt, gMul_one' _ (gPow_lt a HLT.out n)⟩, HA1, HD1, HC1, HB1⟩
  case round =>
    obtain ⟨x, o, n', hn', rfl, hval, ha, hd, hc, hb⟩ := hrel
    clear HA1 HD1 HC1 HB1
    have hlx := Lib.hid hval.out.1
    have hlo := Lib.hid hval.out.2.1
    by_cases hlt : 0 < n'
    · have hsz : Hid (G + 1 + 1 < wr.heap.size) := Lib.hid (hc.out.lt (by rw [co_len]; omega))
      obtain ⟨s, HS⟩ : ∃ s, Hid (s = gMul x x) := ⟨_, Lib.hid rfl⟩
      obtain ⟨p, HP⟩ : ∃ p, Hid (p = gMul o x) := ⟨_, Lib.hid rfl⟩
      have HMS : Hid (∀ v, Calls Try.prog 12 #[BV (co x), BV (co x)] v (RetT (co s) v)) := Lib.hid (fun v => by rw [HS.out]; exact pmul_co x x v hlx.out hlx.out)
      have HMP : Hid (∀ v, Calls Try.prog 12 #[BV (co o), BV (co x)] v (RetT (co p) v)) := Lib.hid (fun v => by rw [HP.out]; exact pmul_co o x v hlo.out hlx.out)
      rcases Nat.mod_two_eq_zero_or_one n' with hm | hm
      · have hm2 : (n' : Int) % 2 = 0 := by omega
        go_wp2_with (first | (refine wpList_ldT rfl _ (.tmp 2) rfl G 0 128 _ rfl (co x) (by exact ha.out) up_poly (sz_co _) ?_) | (go_at_call 12; refine (HMS.out _).mono ?_; rintro e w1 ⟨rfl, hb1⟩; have hx1 := Lib.hid (ha.out.below hb1 (by have := hsz.out; omega)); have hd1 := Lib.hid (hd.out.below hb1 (by have := hsz.out; omega)); have hc1 := Lib.hid (hc.out.below hb1 (by have := hsz.out; omega)); have hbb := Lib.hid (hb.out.trans (hb1.mono (by have := hsz.out; rw [HG.out] at this; omega))); clear hb1) | (refine wpList_stT rfl _ (.tmp 2) (.tmp 18) rfl G 0 rfl (co s) (co x) rfl (by exact hx1.out) (by rw [co_len, co_len]) (sz_co _) ?_))
        go_roundw
        case rel => exact ⟨s, o, n' / 2, by omega, by go_num, Lib.hid ⟨by rw [HS.out]; exact gMul_lt x x hlx.out, hlo.out, by rw [HS.out, pow_even x o n' hlx.out hm]; exact hval.out.2.2⟩, Lib.hid (hx1.out.whole (co s) (by rw [co_len, co_len])), Lib.hid (hd1.out.setCells (by omega) _ _), Lib.hid (hc1.out.setCells (by omega) _ _), Lib.hid (below_setCells hbb.out (by rw [HG.out]; omega) _ _)⟩
        case measure => simp [intOf]; omega
      · have hm2 : (n' : Int) % 2 = 1 := by omega
        have h45 : (Try.prog.info? 28).map (·.size) = some (co p).length := sz_co p
        go_wp2_with (first | (refine wpList_ldT rfl _ (.tmp 5) rfl (G + 1 + 1) 0 128 _ rfl (co o) (by exact hc.out) up_poly (sz_co _) ?_) | (refine wpList_ldT rfl _ (.tmp 2) rfl G 0 128 _ rfl (co x) (by exact ha.out) up_poly (sz_co _) ?_) | (go_at_call 12; refine (HMP.out _).mono ?_; rintro e w1 ⟨rfl, hb1⟩; have hx1 := Lib.hid (ha.out.below hb1 (by have := hsz.out; omega)); have hd1 := Lib.hid (hd.out.below hb1 (by have := hsz.out; omega)); have hc1 := Lib.hid (hc.out.below hb1 (by have := hsz.out; omega)); have hbb := Lib.hid (hb.out.trans (hb1.mono (by have := hsz.out; rw [HG.out] at this; omega))); clear hb1 HMP ha hc hd hb) | (refine wpList_stT rfl _ (.tmp 5) (.tmp 15) rfl (G + 1 + 1) 0 rfl (co p) (co o) rfl (by exact hc1.out) (by rw [co_len, co_len]) (sz_co _) ?_; obtain ⟨w2, HW2⟩ : ∃ w2, Hid (w2 = w1.setCells (G + 1 + 1) 0 (tvs (co p))) := ⟨_, Lib.hid rfl⟩; have hx2 : Hid (Br w2 G 0 (co x)) := Lib.hid (by rw [HW2.out]; exact hx1.out.setCells (by omega) _ _); have hd2 : Hid (Br w2 (G + 1) 0 zP) := Lib.hid (by rw [HW2.out]; exact hd1.out.setCells (by omega) _ _); have hc2 : Hid (Br w2 (G + 1 + 1) 0 (co p)) := Lib.hid (by rw [HW2.out]; exact hc1.out.whole (co p) (by rw [co_len, co_len])); have hb2 : Hid (Below w.heap.size w w2) := Lib.hid (by rw [HW2.out]; exact below_setCells hbb.out (by rw [HG.out]; omega) _ _); have hsz2 : Hid (G + 1 + 1 < w2.heap.size) := Lib.hid (hc2.out.lt (by rw [co_len]; omega)); rw [← HW2.out]) | (refine wpList_ldT rfl _ (.tmp 2) rfl G 0 128 _ rfl (co x) (by exact hx2.out) up_poly (sz_co _) ?_) | (go_at_call 12; refine (HMS.out _).mono ?_; rintro e w3 ⟨rfl, hb1⟩; have hx3 := Lib.hid (hx2.out.below hb1 (by have := hsz2.out; omega)); have hd3 := Lib.hid (hd2.out.below hb1 (by have := hsz2.out; omega)); have hc3 := Lib.hid (hc2.out.below hb1 (by have := hsz2.out; omega)); have hb3 := Lib.hid (hb2.out.trans (hb1.mono (by have := hsz2.out; rw [HG.out] at this; omega))); clear hb1) | (refine wpList_stT rfl _ (.tmp 2) (.tmp 18) rfl G 0 rfl (co s) (co x) rfl (by exact hx3.out) (by rw [co_len, co_len]) (sz_co _) ?_))
        go_roundw
        case rel => exact ⟨s, p, n' / 2, by omega, by go_num, Lib.hid ⟨by rw [HS.out]; exact gMul_lt x x hlx.out, by rw [HP.out]; exact gMul_lt o x hlo.out, by rw [HS.out, HP.out, pow_odd x o n' hlx.out hlo.out hm]; exact hval.out.2.2⟩, Lib.hid (hx3.out.whole (co s) (by rw [co_len, co_len])), Lib.hid (hd3.out.setCells (by omega) _ _), Lib.hid (hc3.out.setCells (by omega) _ _), Lib.hid (below_setCells hb3.out (by rw [HG.out]; omega) _ _)⟩
        case measure => simp [intOf]; omega
    · obtain rfl : n' = 0 := by omega
      have HRO : Hid (R = co o) := Lib.hid (by
        have h := hval.out.2.2
        rw [show gPow x 0 = gOne by unfold gPow; rfl, gMul_one o hlo.out] at h
        rw [HR.out, h])
      have e4 : ((0 : Nat) : Int) = 0 := rfl
      rw [e4]
      clear e4
      go_wp2_with (first | (refine wpList_ldT rfl _ (.tmp 5) rfl (G + 1 + 1) 0 128 _ rfl (co o) (by exact hc.out) up_poly (sz_co _) ?_) | (refine wpList_stT rfl _ (.tmp 4) (.tmp 21) rfl (G + 1) 0 rfl (co o) zP rfl (by exact hd.out) (by rw [co_len, zP_len]) (sz_co _) ?_))
      rw [HRO.out]
      refine bodyPost_ret (v := BV (co o)) (res_cellT rfl _ _ (G + 1) 128 _ (co o) rfl (hd.out.whole (co o) (by rw [co_len, zP_len])) up_poly (sz_co _)) rfl ⟨rfl, ?_⟩
      exact below_setCells hb.out (by rw [HG.out]; omega) 0 (tvs (co o))
end Go.Proofs.Ytdhgofolcggleaa
