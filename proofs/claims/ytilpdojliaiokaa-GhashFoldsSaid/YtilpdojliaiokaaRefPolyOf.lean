/- The reference of layer 4 (poly): coefficients of bytes. Condition: the bytes' cells are readable. -/
import Derived.Test.YtilpdojliaiokaaRefPoly
namespace Go.Proofs.Ytilpdojliaiokaa
open Go.RowKit
set_option linter.unusedVariables false

/-- Coefficient i of bytes. -/
def bitOf (l : List UInt8) (i : Nat) : Bool := decide ((l.getD (i / 8) 0).toNat / 2 ^ (7 - i % 8) % 2 = 1)
def bitsOf (l : List UInt8) : List Bool := (List.range 128).map (bitOf l)
theorem bitsOf_len (l : List UInt8) : (bitsOf l).length = 128 := by simp [bitsOf]
theorem bitsOf_at (l : List UInt8) (i : Nat) (hi : i < 128) : (bitsOf l)[i]? = some (bitOf l i) := by simp [bitsOf, hi]

theorem bit_walk (n s : Nat) : (((n : Int) / 2 ^ s).tmod 2 == 1) = decide (n / 2 ^ s % 2 = 1) := by
  have e : ((n : Int) / 2 ^ s) = ((n / 2 ^ s : Nat) : Int) := by simp
  rw [e]
  generalize n / 2 ^ s = m
  rw [Int.tmod_eq_emod_of_nonneg (by omega)]
  by_cases h : m % 2 = 1
  · rw [decide_eq_true h, beq_iff_eq]; omega
  · rw [decide_eq_false h, beq_eq_false_iff_ne]; omega
set_option maxRecDepth 100000 in
set_option maxHeartbeats 2000000 in
theorem pof_any (A : Option Addr) (c0 : Nat) (l : List UInt8) (w : World) (h : RB w w.heap.size A 16 l) :
    Calls Try.prog 17 #[.slice A 16 c0] w (RetT (bitsOf l) w) := by
  have hl := h.len
  obtain ⟨ga, oa, rfl, hga, hcell⟩ := h.2 (by omega)
  have HL := Lib.hid hl
  have HCELL := Lib.hid hcell
  obtain ⟨R, HR⟩ : ∃ R, Hid (R = bitsOf l) := ⟨_, Lib.hid rfl⟩
  rw [← HR.out]
  have HRL : Hid (R.length = zP.length) := Lib.hid (by rw [HR.out, bitsOf_len, zP_len])
  have hz := zero_poly
  have HA := Lib.hid (v2_0 zP zP 43 w)
  have HB := Lib.hid (v2_1 zP zP 43 w)
  have HW := Lib.hid (v2_below zP zP 43 w)
  obtain ⟨G, HG⟩ : ∃ G, Hid (G = w.heap.size) := ⟨_, Lib.hid rfl⟩
  have HN : Hid (Br ((w.alloc (.cells (tvs zP).toArray 43)).alloc (.cells (tvs zP).toArray 43)) (w.heap.size + 1) 0 zP) := Lib.hid (v2_1 zP zP _ w)
  clear hl hcell h
  go_enter Try.func17, Try.ntmps17
  go_wp2_with (first | (refine wpList_built0 rfl _ rfl zP poly_built ?_) | (refine wpList_stT rfl _ (.tmp 3) (.tmp 5) rfl (w.heap.size + 1) 0 rfl zP zP rfl (by exact HN.out) rfl (by rw [zP_len]; exact sz_poly) ?_))
  obtain ⟨W0, HW0⟩ : ∃ W0, Hid (W0 = (V2 zP zP 43 w).setCells (w.heap.size + 1) 0 (tvs zP)) := ⟨_, Lib.hid rfl⟩
  show Code.wp _ _ _ _ ((V2 zP zP 43 w).setCells (w.heap.size + 1) 0 (tvs zP))
  have HB0 : Hid (Below w.heap.size w W0) := Lib.hid (by rw [HW0.out]; exact below_setCells HW.out (by omega) _ _)
  have HA0 : Hid (Br W0 G 0 zP) := Lib.hid (by rw [HW0.out, HG.out]; exact HA.out.setCells (by omega) _ _)
  have HC0 : Hid (Br W0 (G + 1) 0 (upT R zP 0)) := Lib.hid (by rw [HW0.out, HG.out, upT_zero]; exact HB.out.whole zP rfl)
  rw [← HW0.out, ← HG.out]
  clear HA HB HW HN
  go_loopw [4] (fun i wr => ∃ k : Nat, k ≤ 128 ∧ i = .int .i64 k ∧ Hid (Br wr G 0 zP) ∧ Hid (Br wr (G + 1) 0 (upT R zP k)) ∧ Hid (Below w.heap.size w wr)) (fun i _ => 128 - (intOf i).toNat)
  case atStart => exact ⟨0, by omega, rfl, HA0, HC0, HB0⟩
  case round =>
    obtain ⟨k, hk, rfl, ha, hm, hb⟩ := hrel
    clear HA0 HC0 HB0
    by_cases hlt : k < 128
    · obtain ⟨q, HQ, hq⟩ : ∃ q : Nat, Hid (q = k / 8) ∧ q < 16 := ⟨_, Lib.hid rfl, by omega⟩
      obtain ⟨r, HRR, hr⟩ : ∃ r : Nat, Hid (r = k % 8) ∧ r < 8 := ⟨_, Lib.hid rfl, by omega⟩
      have t1 : Int.tdiv (k : Int) 8 = (q : Int) := by rw [Int.tdiv_eq_ediv_of_nonneg (by omega), HQ.out]; omega
      have t2 : Int.tmod (k : Int) 8 = (r : Int) := by rw [Int.tmod_eq_emod_of_nonneg (by omega), HRR.out]; omega
      have hql : q < l.length := by rw [HL.out]; exact hq
      obtain ⟨x, hx⟩ : ∃ x, l[q]? = some x := ⟨l[q], List.getElem?_eq_getElem hql⟩
      have cx : wr.cell? ⟨ga, oa + q, none⟩ = some (.int .u8 (x.toNat : Int)) := (hb.out.cell (p := ⟨ga, oa + q, none⟩) hga).trans (by
        have h1 := HCELL.out q hql
        have h2 := hx
        rw [List.getElem?_eq_getElem hql] at h2
        injection h2 with h2
        rw [h2] at h1
        exact h1)
      obtain ⟨y, hy⟩ := getT (upT R zP k) 128 k (by rw [upT_len R zP k HRL.out, zP_len]) hlt
      have cm := hm.out.cell hy
      have fm := hm.out.free (j := k) (by rw [upT_len R zP k HRL.out, zP_len]; exact hlt)
      rw [Nat.zero_add] at cm fm
      unfold tv at cm
      have hxl := x.toNat_lt
      have b1 : IntKind.i64.wrap (7 - (r : Int)) = 7 - (r : Int) := IntWalk.i64_in _ (by omega)
      obtain ⟨v, HV⟩ : ∃ v, Hid (v = bitOf l k) := ⟨_, Lib.hid rfl⟩
      have hv : (((x.toNat : Int) / 2 ^ (7 - r)).tmod 2 == 1) = v := by
        rw [bit_walk, HV.out]
        unfold bitOf
        rw [← HQ.out, ← HRR.out]
        simp [List.getD, hx]
      have HRK : Hid (R[k]? = some v) := Lib.hid (by rw [HR.out, bitsOf_at l k hlt, HV.out])
      clear hx hy
      go_wp2_with fail
      go_roundw
      case rel =>
        have h1 := hm.out.set (k := k) (by rw [upT_len R zP k HRL.out, zP_len]; exact hlt) v
        rw [upT_set R zP k _ HRL.out HRK.out, Nat.zero_add] at h1
        exact ⟨k + 1, by omega, by go_num, Lib.hid (ha.out.setCell (by show G + 1 ≠ G; omega) _), Lib.hid h1, Lib.hid (hb.out.setCell (by rw [HG.out]; show w.heap.size ≤ w.heap.size + 1; omega) _)⟩
      case measure => simp [intOf]; omega
    · obtain rfl : k = 128 := by omega
      have hal := hm.out
      have h128 := upT_all R zP HRL.out
      rw [zP_len] at h128
      rw [h128] at hal
      have HAL := Lib.hid hal
      have HR8 : Hid (R.length = 128) := Lib.hid (by rw [HRL.out]; exact zP_len)
      clear hal h128
      go_wp2_with (first | (refine wpList_ldT rfl _ (.tmp 3) rfl (G + 1) 0 128 _ rfl R (by exact HAL.out) up_poly (by rw [HR8.out]; exact sz_poly) ?_) | (refine wpList_stT rfl _ (.tmp 2) (.tmp 24) rfl G 0 rfl R zP rfl (by exact ha.out) (by rw [HR8.out]; exact zP_len) (by rw [HR8.out]; exact sz_poly) ?_))
      refine bodyPost_ret (v := BV R) (res_cellT rfl _ _ G 128 _ R rfl (ha.out.whole R (by rw [HR8.out]; exact zP_len.symm)) up_poly (by rw [HR8.out]; exact sz_poly)) rfl ⟨rfl, ?_⟩
      exact below_setCells hb.out (by rw [HG.out]; exact Nat.le_refl _) 0 (tvs R)
end Go.Proofs.Ytilpdojliaiokaa
