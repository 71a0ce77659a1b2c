/- aes's shift and unshift. No conditions. (Written by wip/tools/gen_shift.py.) -/
import Derived.Test.YtbpbpkmjkbndbaaAesSq
namespace Go.Proofs.Ytbpbpkmjkbndbaa
open Go.RowKit
set_option linter.unusedVariables false

/-- Where a byte comes from. -/
def fromP (m p : Nat) : Nat := 4 * ((p / 4 + m * (p % 4)) % 4) + p % 4
theorem zeros16_fill (P : Nat → Bool) (F : Nat → UInt8) (h : ∀ p, p < 16 → P p = false) : zeros16 = fillP P F := fillP_none P F h
/-- The bytes written behind n steps: those whose number among the steps is smaller. -/
def stepsP (S : Nat → Nat) (n : Nat) : Nat → Bool := fun p => decide (S p < n)
theorem steps_set (S : Nat → Nat) (F : Nat → UInt8) (n k : Nat) (hk : k < 16) (hS : S k = n) (hinj : ∀ p, p < 16 → S p = n → p = k) : (fillP (stepsP S n) F).set k (F k) = fillP (stepsP S (n + 1)) F := by
  refine fillP_set _ _ F k hk fun p hp => ?_
  unfold stepsP
  by_cases e : p = k
  · subst e
    rw [hS]; simp
  · have h1 : S p ≠ n := fun h => e (hinj p hp h)
    have : (p == k) = false := by rw [beq_eq_false_iff_ne]; exact e
    rw [this, Bool.or_false]
    by_cases h2 : S p < n
    · rw [decide_eq_true h2, decide_eq_true (by omega)]
    · rw [decide_eq_false h2, decide_eq_false (by omega)]

def shiftS (p : Nat) : Nat := p
theorem shiftS_inj (c r : Nat) (hc : c < 4) (hr : r < 4) : shiftS (4 * c + r) = 4 * c + r ∧ (∀ p, p < 16 → shiftS p = 4 * c + r → p = 4 * c + r) ∧ fromP 1 (4 * c + r) = 4 * ((c + r) % 4) + r := by
  rcases (show c = 0 ∨ c = 1 ∨ c = 2 ∨ c = 3 by omega) with rfl | rfl | rfl | rfl <;> rcases (show r = 0 ∨ r = 1 ∨ r = 2 ∨ r = 3 by omega) with rfl | rfl | rfl | rfl <;> decide
set_option maxRecDepth 100000 in
set_option maxHeartbeats 2000000 in
theorem shift_any (l : List UInt8) (w : World) (hl : l.length = 16) :
    Calls Try.prog 45 #[AV l] w (RetA (rowsL l 1) w) := by
  have HL := Lib.hid hl
  obtain ⟨R, HR⟩ : ∃ R, Hid (R = rowsL l 1) := ⟨_, Lib.hid rfl⟩
  rw [← HR.out]
  have HR16 : Hid (R.length = 16) := Lib.hid (by rw [HR.out]; simp [rowsL])
  obtain ⟨F, HF⟩ : ∃ F : Nat → UInt8, Hid (F = rowF l 1) := ⟨_, Lib.hid rfl⟩
  have HA := Lib.hid (w3_0 l zeros16 zeros16 49 w)
  have HB := Lib.hid (w3_1 l zeros16 zeros16 49 w)
  have HC0 := w3_2 l zeros16 zeros16 49 w
  have HW := Lib.hid (w3_below l zeros16 zeros16 49 w)
  rw [zeros16_fill (stepsP shiftS (4 * 0 + 0)) F (fun p hp => by simp [stepsP])] at HC0
  have HC := Lib.hid HC0
  rw [← zeros16_fill (stepsP shiftS (4 * 0 + 0)) F (fun p hp => by simp [stepsP])] at HC
  obtain ⟨G, HG⟩ : ∃ G, Hid (G = w.heap.size) := ⟨_, Lib.hid rfl⟩
  obtain ⟨W0, HW0⟩ : ∃ W0, Hid (W0 = W3 l zeros16 zeros16 49 w) := ⟨_, Lib.hid rfl⟩
  clear hl HC0
  go_enter Try.func45, Try.ntmps45
  go_wp2_with (first | (refine wpList_boxA rfl _ (.tmp 0) rfl l rfl ?_))
  show Code.wp _ _ _ _ (W3 l zeros16 zeros16 49 w)
  rw [← HW0.out] at HA HB HC HW ⊢
  rw [← HG.out] at HA HB HC ⊢
  rw [zeros16_fill (stepsP shiftS (4 * 0 + 0)) F (fun p hp => by simp [stepsP])] at HC
  go_loopw [6] (fun i wr => ∃ c : Nat, c ≤ 4 ∧ i = .int .i64 c ∧ Hid (Ar wr G 0 l) ∧ Hid (Ar wr (G + 1) 0 zeros16) ∧ Hid (Ar wr (G + 1 + 1) 0 (fillP (stepsP shiftS (4 * c + 0)) F)) ∧ Hid (Below w.heap.size w wr)) (fun i _ => 4 - (intOf i).toNat)
  case atStart => exact ⟨0, by omega, rfl, HA, Lib.hid HB.out, HC, HW⟩
  case round =>
    clear HA HB HC HW
    obtain ⟨c, hc, rfl, ha, hz, hm, hb⟩ := hrel
    by_cases hlt : c < 4
    · have hd : decide ((c : Int) < 4) = true := decide_eq_true (by omega)
      go_wp2_with fail
      go_loopw [9] (fun i ws => ∃ r : Nat, r ≤ 4 ∧ i = .int .i64 r ∧ Hid (Ar ws G 0 l) ∧ Hid (Ar ws (G + 1) 0 zeros16) ∧ Hid (Ar ws (G + 1 + 1) 0 (fillP (stepsP shiftS (4 * c + r)) F)) ∧ Hid (Below w.heap.size w ws)) (fun i _ => 4 - (intOf i).toNat)
      case atStart => exact ⟨0, by omega, rfl, ha, hz, hm, hb⟩
      case round =>
        clear ha hz hm hb
        obtain ⟨r, hr, rfl, ha, hz, hm, hb⟩ := hrel
        by_cases hlt2 : r < 4
        · obtain ⟨j, HJ, hj4⟩ : ∃ j : Nat, Hid (j = (c + r) % 4) ∧ j < 4 := ⟨_, Lib.hid rfl, Nat.mod_lt _ (by omega)⟩
          have h1 : IntKind.i64.wrap ((c : Int) + (r : Int)) = (c : Int) + (r : Int) := IntWalk.i64_in _ (by omega)
          have h3 : Int.tmod ((c : Int) + (r : Int)) 4 = (j : Int) := by
            rw [Int.tmod_eq_emod_of_nonneg (by omega), HJ.out]; omega
          have h4 : IntKind.i64.wrap (j : Int) = (j : Int) := IntWalk.i64_in _ (by omega)
          have h5 : (j : Int) < 4 := by omega
          have h6 : (0 : Int) ≤ (j : Int) := by omega
          have h7 : (0 : Int) ≤ (r : Int) := by omega
          have h8 : (r : Int) < 4 := by omega
          have h9 : (0 : Int) ≤ (c : Int) := by omega
          have h10 : (c : Int) < 4 := by omega
          obtain ⟨x, hx⟩ := getX l 16 (4 * j + r) HL.out (by omega)
          obtain ⟨y, hy⟩ := getX (fillP (stepsP shiftS (4 * c + r)) F) 16 (4 * c + r) (fillP_len _ _) (by omega)
          have cs := ha.out.cell hx
          have ct := hm.out.cell hy
          have ft := hm.out.free (j := 4 * c + r) (by rw [fillP_len]; omega)
          rw [Nat.zero_add, Nat.mul_comm 4] at cs ct ft
          have HX := Lib.hid hx
          clear hx hy
          unfold bv at cs ct
          go_wp2_with fail
          go_region_with (fail)
          all_goals
            go_wp2
            go_roundw
            case rel =>
              obtain ⟨s1, s2, s3⟩ := shiftS_inj c r hlt hlt2
              try rw [← HJ.out] at s1
              try rw [← HJ.out] at s2
              try rw [← HJ.out] at s3
              have hfx : F (4 * c + r) = x := by
                rw [HF.out]
                have := s3
                unfold fromP at this
                unfold rowF
                rw [this]; simp [List.getD, HX.out]
              have m1 := hm.out.set (k := 4 * c + r) (by rw [fillP_len]; omega) (F (4 * c + r))
              rw [steps_set shiftS F (4 * c + r) (4 * c + r) (by omega) s1 s2, hfx, show 0 + (4 * c + r) = c * 4 + r by omega] at m1
              exact ⟨r + 1, by omega, by go_num, Lib.hid (ha.out.setCell (by show G + 1 + 1 ≠ G; omega) _), Lib.hid (hz.out.setCell (by show G + 1 + 1 ≠ G + 1; omega) _), Lib.hid m1, Lib.hid (hb.out.setCell (p := ⟨G + 1 + 1, _, none⟩) (by rw [HG.out]; show w.heap.size ≤ w.heap.size + 1 + 1; omega) _).drew⟩
            case measure => simp [intOf]; omega
        · obtain rfl : r = 4 := by omega
          have e4 : ((4 : Nat) : Int) = 4 := rfl
          rw [e4]
          clear e4
          go_wp2_with fail
          go_roundw
          case rel => exact ⟨c + 1, by omega, by go_num, ha, hz, hm, hb⟩
          case measure => simp [intOf]; omega
    · obtain rfl : c = 4 := by omega
      have hal := hm.out
      rw [show fillP (stepsP shiftS (4 * 4 + 0)) F = R by
        rw [HR.out, HF.out]; exact fillP_all _ _ (fun p hp => by unfold stepsP shiftS; exact decide_eq_true (by omega))] at hal
      have HAL := Lib.hid hal
      clear hal
      go_wp2_with (first | (refine wpList_ldA rfl _ (.tmp 3) rfl (G + 1 + 1) 0 4 _ rfl R (by exact HAL.out) up_sq (by rw [HR16.out]; exact sz_sq) ?_) | (refine wpList_stA rfl _ (.tmp 2) (.tmp 26) rfl (G + 1) 0 rfl R zeros16 rfl (by exact hz.out) (by rw [HR16.out]; rfl) (by rw [HR16.out]; exact sz_sq) ?_))
      refine bodyPost_ret (v := AV R) (res_cell rfl _ _ (G + 1) 4 _ R rfl (hz.out.whole R (by rw [HR16.out]; rfl)) up_sq (by rw [HR16.out]; exact sz_sq)) rfl ⟨rfl, ?_⟩
      exact below_setCells hb.out (by rw [HG.out]; omega) 0 (bvs R)

def unshiftS (p : Nat) : Nat := 4 * ((p / 4 + 3 * (p % 4)) % 4) + p % 4
theorem unshiftS_inj (c r : Nat) (hc : c < 4) (hr : r < 4) : unshiftS (4 * ((c + r) % 4) + r) = 4 * c + r ∧ (∀ p, p < 16 → unshiftS p = 4 * c + r → p = 4 * ((c + r) % 4) + r) ∧ fromP 3 (4 * ((c + r) % 4) + r) = 4 * c + r := by
  rcases (show c = 0 ∨ c = 1 ∨ c = 2 ∨ c = 3 by omega) with rfl | rfl | rfl | rfl <;> rcases (show r = 0 ∨ r = 1 ∨ r = 2 ∨ r = 3 by omega) with rfl | rfl | rfl | rfl <;> decide
set_option maxRecDepth 100000 in
set_option maxHeartbeats 2000000 in
theorem unshift_any (l : List UInt8) (w : World) (hl : l.length = 16) :
    Calls Try.prog 50 #[AV l] w (RetA (rowsL l 3) w) := by
  have HL := Lib.hid hl
  obtain ⟨R, HR⟩ : ∃ R, Hid (R = rowsL l 3) := ⟨_, Lib.hid rfl⟩
  rw [← HR.out]
  have HR16 : Hid (R.length = 16) := Lib.hid (by rw [HR.out]; simp [rowsL])
  obtain ⟨F, HF⟩ : ∃ F : Nat → UInt8, Hid (F = rowF l 3) := ⟨_, Lib.hid rfl⟩
  have HA := Lib.hid (w3_0 l zeros16 zeros16 49 w)
  have HB := Lib.hid (w3_1 l zeros16 zeros16 49 w)
  have HC0 := w3_2 l zeros16 zeros16 49 w
  have HW := Lib.hid (w3_below l zeros16 zeros16 49 w)
  rw [zeros16_fill (stepsP unshiftS (4 * 0 + 0)) F (fun p hp => by simp [stepsP])] at HC0
  have HC := Lib.hid HC0
  rw [← zeros16_fill (stepsP unshiftS (4 * 0 + 0)) F (fun p hp => by simp [stepsP])] at HC
  obtain ⟨G, HG⟩ : ∃ G, Hid (G = w.heap.size) := ⟨_, Lib.hid rfl⟩
  obtain ⟨W0, HW0⟩ : ∃ W0, Hid (W0 = W3 l zeros16 zeros16 49 w) := ⟨_, Lib.hid rfl⟩
  clear hl HC0
  go_enter Try.func50, Try.ntmps50
  go_wp2_with (first | (refine wpList_boxA rfl _ (.tmp 0) rfl l rfl ?_))
  show Code.wp _ _ _ _ (W3 l zeros16 zeros16 49 w)
  rw [← HW0.out] at HA HB HC HW ⊢
  rw [← HG.out] at HA HB HC ⊢
  rw [zeros16_fill (stepsP unshiftS (4 * 0 + 0)) F (fun p hp => by simp [stepsP])] at HC
  go_loopw [6] (fun i wr => ∃ c : Nat, c ≤ 4 ∧ i = .int .i64 c ∧ Hid (Ar wr G 0 l) ∧ Hid (Ar wr (G + 1) 0 zeros16) ∧ Hid (Ar wr (G + 1 + 1) 0 (fillP (stepsP unshiftS (4 * c + 0)) F)) ∧ Hid (Below w.heap.size w wr)) (fun i _ => 4 - (intOf i).toNat)
  case atStart => exact ⟨0, by omega, rfl, HA, Lib.hid HB.out, HC, HW⟩
  case round =>
    clear HA HB HC HW
    obtain ⟨c, hc, rfl, ha, hz, hm, hb⟩ := hrel
    by_cases hlt : c < 4
    · have hd : decide ((c : Int) < 4) = true := decide_eq_true (by omega)
      go_wp2_with fail
      go_loopw [9] (fun i ws => ∃ r : Nat, r ≤ 4 ∧ i = .int .i64 r ∧ Hid (Ar ws G 0 l) ∧ Hid (Ar ws (G + 1) 0 zeros16) ∧ Hid (Ar ws (G + 1 + 1) 0 (fillP (stepsP unshiftS (4 * c + r)) F)) ∧ Hid (Below w.heap.size w ws)) (fun i _ => 4 - (intOf i).toNat)
      case atStart => exact ⟨0, by omega, rfl, ha, hz, hm, hb⟩
      case round =>
        clear ha hz hm hb
        obtain ⟨r, hr, rfl, ha, hz, hm, hb⟩ := hrel
        by_cases hlt2 : r < 4
        · obtain ⟨j, HJ, hj4⟩ : ∃ j : Nat, Hid (j = (c + r) % 4) ∧ j < 4 := ⟨_, Lib.hid rfl, Nat.mod_lt _ (by omega)⟩
          have h1 : IntKind.i64.wrap ((c : Int) + (r : Int)) = (c : Int) + (r : Int) := IntWalk.i64_in _ (by omega)
          have h3 : Int.tmod ((c : Int) + (r : Int)) 4 = (j : Int) := by
            rw [Int.tmod_eq_emod_of_nonneg (by omega), HJ.out]; omega
          have h4 : IntKind.i64.wrap (j : Int) = (j : Int) := IntWalk.i64_in _ (by omega)
          have h5 : (j : Int) < 4 := by omega
          have h6 : (0 : Int) ≤ (j : Int) := by omega
          have h7 : (0 : Int) ≤ (r : Int) := by omega
          have h8 : (r : Int) < 4 := by omega
          have h9 : (0 : Int) ≤ (c : Int) := by omega
          have h10 : (c : Int) < 4 := by omega
          obtain ⟨x, hx⟩ := getX l 16 (4 * c + r) HL.out (by omega)
          obtain ⟨y, hy⟩ := getX (fillP (stepsP unshiftS (4 * c + r)) F) 16 (4 * j + r) (fillP_len _ _) (by omega)
          have cs := ha.out.cell hx
          have ct := hm.out.cell hy
          have ft := hm.out.free (j := 4 * j + r) (by rw [fillP_len]; omega)
          rw [Nat.zero_add, Nat.mul_comm 4] at cs ct ft
          have HX := Lib.hid hx
          clear hx hy
          unfold bv at cs ct
          go_wp2_with fail
          go_region_with (fail)
          all_goals
            go_wp2
            go_roundw
            case rel =>
              obtain ⟨s1, s2, s3⟩ := unshiftS_inj c r hlt hlt2
              try rw [← HJ.out] at s1
              try rw [← HJ.out] at s2
              try rw [← HJ.out] at s3
              have hfx : F (4 * j + r) = x := by
                rw [HF.out]
                have := s3
                unfold fromP at this
                unfold rowF
                rw [this]; simp [List.getD, HX.out]
              have m1 := hm.out.set (k := 4 * j + r) (by rw [fillP_len]; omega) (F (4 * j + r))
              rw [steps_set unshiftS F (4 * c + r) (4 * j + r) (by omega) s1 s2, hfx, show 0 + (4 * j + r) = j * 4 + r by omega] at m1
              exact ⟨r + 1, by omega, by go_num, Lib.hid (ha.out.setCell (by show G + 1 + 1 ≠ G; omega) _), Lib.hid (hz.out.setCell (by show G + 1 + 1 ≠ G + 1; omega) _), Lib.hid m1, Lib.hid (hb.out.setCell (p := ⟨G + 1 + 1, _, none⟩) (by rw [HG.out]; show w.heap.size ≤ w.heap.size + 1 + 1; omega) _).drew⟩
            case measure => simp [intOf]; omega
        · obtain rfl : r = 4 := by omega
          have e4 : ((4 : Nat) : Int) = 4 := rfl
          rw [e4]
          clear e4
          go_wp2_with fail
          go_roundw
          case rel => exact ⟨c + 1, by omega, by go_num, ha, hz, hm, hb⟩
          case measure => simp [intOf]; omega
    · obtain rfl : c = 4 := by omega
      have hal := hm.out
      rw [show fillP (stepsP unshiftS (4 * 4 + 0)) F = R by
        rw [HR.out, HF.out]; exact fillP_all _ _ (fun p hp => by unfold stepsP unshiftS; exact decide_eq_true (by omega))] at hal
      have HAL := Lib.hid hal
      clear hal
      go_wp2_with (first | (refine wpList_ldA rfl _ (.tmp 3) rfl (G + 1 + 1) 0 4 _ rfl R (by exact HAL.out) up_sq (by rw [HR16.out]; exact sz_sq) ?_) | (refine wpList_stA rfl _ (.tmp 2) (.tmp 26) rfl (G + 1) 0 rfl R zeros16 rfl (by exact hz.out) (by rw [HR16.out]; rfl) (by rw [HR16.out]; exact sz_sq) ?_))
      refine bodyPost_ret (v := AV R) (res_cell rfl _ _ (G + 1) 4 _ R rfl (hz.out.whole R (by rw [HR16.out]; rfl)) up_sq (by rw [HR16.out]; exact sz_sq)) rfl ⟨rfl, ?_⟩
      exact below_setCells hb.out (by rw [HG.out]; omega) 0 (bvs R)

end Go.Proofs.Ytbpbpkmjkbndbaa
