/- The reference of layer 4 (poly): bytes of coefficients. No conditions. -/
import Derived.Test.YtilpdojliaiokaaRefPolyOf
namespace Go.Proofs.Ytilpdojliaiokaa
open Go.RowKit
set_option linter.unusedVariables false

/-- The first t bits of a byte. -/
def topB (x : UInt8) (t : Nat) : UInt8 := UInt8.ofNat (x.toNat / 2 ^ (8 - t) * 2 ^ (8 - t))
theorem each_byteP {p : UInt8 → Prop} (h : ∀ n : Fin 256, p (UInt8.ofNat n.val)) (x : UInt8) : p x := by
  have e : UInt8.ofNat x.toNat = x := by simp
  have := h ⟨x.toNat, x.toNat_lt⟩
  rw [e] at this
  exact this
theorem top_zero (x : UInt8) : topB x 0 = 0 := by
  have h : ∀ n : Fin 256, topB (UInt8.ofNat n.val) 0 = 0 := by decide +kernel
  exact each_byteP (p := fun x => topB x 0 = 0) h x
theorem top_all (x : UInt8) : topB x 8 = x := by
  have h : ∀ n : Fin 256, topB (UInt8.ofNat n.val) 8 = UInt8.ofNat n.val := by decide +kernel
  exact each_byteP (p := fun x => topB x 8 = x) h x
theorem top_next (x : UInt8) (r : Nat) (hr : r < 8) :
    (x.toNat / 2 ^ (7 - r) % 2 = 1 → bits .or .u8 ((topB x r).toNat : Int) (2 ^ (7 - r) % 256) = ((topB x (r + 1)).toNat : Int)) ∧ (¬ x.toNat / 2 ^ (7 - r) % 2 = 1 → topB x (r + 1) = topB x r) := by
  have h : ∀ (r : Fin 8) (n : Fin 256), ((UInt8.ofNat n.val).toNat / 2 ^ (7 - r.val) % 2 = 1 → bits .or .u8 ((topB (UInt8.ofNat n.val) r.val).toNat : Int) (2 ^ (7 - r.val) % 256) = ((topB (UInt8.ofNat n.val) (r.val + 1)).toNat : Int)) ∧ (¬ (UInt8.ofNat n.val).toNat / 2 ^ (7 - r.val) % 2 = 1 → topB (UInt8.ofNat n.val) (r.val + 1) = topB (UInt8.ofNat n.val) r.val) := by decide +kernel
  exact each_byteP (p := fun x => (x.toNat / 2 ^ (7 - r) % 2 = 1 → bits .or .u8 ((topB x r).toNat : Int) (2 ^ (7 - r) % 256) = ((topB x (r + 1)).toNat : Int)) ∧ (¬ x.toNat / 2 ^ (7 - r) % 2 = 1 → topB x (r + 1) = topB x r)) (h ⟨r, hr⟩) x
/-- What the bytes hold behind k rounds. -/
def outK (l : List UInt8) (k : Nat) : List UInt8 := (List.range 16).map fun q => topB (l.getD q 0) (min 8 (k - 8 * q))
theorem outK_at (l : List UInt8) (k q : Nat) (hq : q < 16) : (outK l k)[q]? = some (topB (l.getD q 0) (min 8 (k - 8 * q))) := by simp [outK, hq]
theorem outK_ext (l : List UInt8) (k : Nat) (m : List UInt8) (hm : m.length = 16) (h : ∀ q, q < 16 → m[q]? = some (topB (l.getD q 0) (min 8 (k - 8 * q)))) : m = outK l k := by
  apply List.ext_getElem?
  intro q
  by_cases hq : q < 16
  · rw [h q hq, outK_at l k q hq]
  · rw [List.getElem?_eq_none (by omega), List.getElem?_eq_none (by simp [outK]; omega)]
theorem outK_zero (l : List UInt8) : outK l 0 = List.replicate 16 0 := by
  refine (outK_ext l 0 _ List.length_replicate fun q hq => ?_).symm
  rw [show min 8 (0 - 8 * q) = 0 by omega, top_zero, List.getElem?_replicate, if_pos hq]
theorem outK_all (l : List UInt8) (hl : l.length = 16) : outK l 128 = l := by
  refine (outK_ext l 128 _ hl fun q hq => ?_).symm
  rw [show min 8 (128 - 8 * q) = 8 by omega, top_all]
  simp [List.getD, hl, hq]
theorem outK_set (l : List UInt8) (k : Nat) (hk : k < 128) : (outK l k).set (k / 8) (topB (l.getD (k / 8) 0) (k % 8 + 1)) = outK l (k + 1) := by
  refine outK_ext l (k + 1) _ (by simp [outK]) fun q hq => ?_
  rw [List.getElem?_set]
  by_cases e : k / 8 = q
  · subst e
    rw [if_pos rfl, if_pos (by simp [outK]; omega), show min 8 (k + 1 - 8 * (k / 8)) = k % 8 + 1 by omega]
  · rw [if_neg e, outK_at l k q hq]
    congr 2; omega
theorem outK_skip (l : List UInt8) (k : Nat) (hk : k < 128) (h : topB (l.getD (k / 8) 0) (k % 8 + 1) = topB (l.getD (k / 8) 0) (k % 8)) : outK l (k + 1) = outK l k := by
  refine (outK_ext l (k + 1) _ (by simp [outK]) fun q hq => ?_).symm
  rw [outK_at l k q hq]
  by_cases e : k / 8 = q
  · subst e
    rw [show min 8 (k + 1 - 8 * (k / 8)) = k % 8 + 1 by omega, show min 8 (k - 8 * (k / 8)) = k % 8 by omega, h]
  · congr 2; omega
theorem outK_len (l : List UInt8) (k : Nat) : (outK l k).length = 16 := by simp [outK]

set_option maxRecDepth 100000 in
set_option maxHeartbeats 2000000 in
theorem pbytes_any (l : List UInt8) (w : World) (hl : l.length = 16) :
    Calls Try.prog 28 #[BV (bitsOf l)] w (RetB 16 l w) := by
  have HL := Lib.hid hl
  obtain ⟨P, HP⟩ : ∃ P, Hid (P = bitsOf l) := ⟨_, Lib.hid rfl⟩
  rw [← HP.out]
  have HPL : Hid (P.length = 128) := Lib.hid (by rw [HP.out]; exact bitsOf_len l)
  have HA := Lib.hid (Br.new w P 43)
  obtain ⟨G, HG⟩ : ∃ G, Hid (G = w.heap.size) := ⟨_, Lib.hid rfl⟩
  clear hl
  go_enter Try.func28, Try.ntmps28
  go_wp2_with (first | (refine wpList_boxT rfl _ (.tmp 0) rfl P rfl ?_) | (refine wpList_mk rfl _ _ rfl w.heap.size .i64 .i64 16 16 16 rfl rfl rfl rfl (by omega) (by simp) ?_; intro w1 hown hsz hb1; have HO := Lib.hid hown; have HB1 : Hid (Below w.heap.size w w1) := Lib.hid ((below_alloc w _).trans (hb1.mono (by simp))); have HA1 : Hid (Br w1 w.heap.size 0 P) := Lib.hid (HA.out.below hb1 (by simp)); clear hown hb1))
  have HO0 : Hid (OwnB w1 w.heap.size (some ⟨G + 1, 0, none⟩) 16 16 (outK l 0)) := Lib.hid (by
    have h := HO.out
    rw [World.size_alloc, ← HG.out] at h
    rw [outK_zero, ← HG.out]; exact h)
  rw [← HG.out] at HA1
  rw [← HG.out]
  clear HO HA hsz
  go_loopw [4] (fun i wr => ∃ k : Nat, k ≤ 128 ∧ i = .int .i64 k ∧ Hid (OwnB wr w.heap.size (some ⟨G + 1, 0, none⟩) 16 16 (outK l k)) ∧ Hid (Br wr G 0 P) ∧ Hid (Below w.heap.size w wr)) (fun i _ => 128 - (intOf i).toNat)
  case atStart => exact ⟨0, by omega, rfl, HO0, HA1, HB1⟩
  case round =>
    clear HO0 HA1 HB1
    obtain ⟨k, hk, rfl, ho, ha, hb⟩ := hrel
    by_cases hlt : k < 128
    · obtain ⟨q, HQ, hq⟩ : ∃ q : Nat, Hid (q = k / 8) ∧ q < 16 := ⟨_, Lib.hid rfl, by omega⟩
      obtain ⟨r, HRR, hr⟩ : ∃ r : Nat, Hid (r = k % 8) ∧ r < 8 := ⟨_, Lib.hid rfl, by omega⟩
      have t1 : Int.tdiv (k : Int) 8 = (q : Int) := by rw [Int.tdiv_eq_ediv_of_nonneg (by omega), HQ.out]; omega
      have t2 : Int.tmod (k : Int) 8 = (r : Int) := by rw [Int.tmod_eq_emod_of_nonneg (by omega), HRR.out]; omega
      have b1 : IntKind.i64.wrap (7 - (r : Int)) = 7 - (r : Int) := IntWalk.i64_in _ (by omega)
      obtain ⟨v, HV⟩ : ∃ v, Hid (v = bitOf l k) := ⟨_, Lib.hid rfl⟩
      have cv := ha.out.cell (j := k) (x := v) (by rw [HP.out, bitsOf_at l k hlt, HV.out])
      rw [Nat.zero_add] at cv
      unfold tv at cv
      obtain ⟨x, HX⟩ : ∃ x, Hid (x = l.getD q 0) := ⟨_, Lib.hid rfl⟩
      have hy : (outK l k)[q]? = some (topB x r) := by
        rw [outK_at l k q hq, HX.out, show min 8 (k - 8 * q) = r by rw [HQ.out, HRR.out]; omega]
      have cy := ho.out.cellAt hy
      have fy := ho.out.freeAt q
      have hbit : v = decide (x.toNat / 2 ^ (7 - r) % 2 = 1) := by
        rw [HV.out, HX.out]; unfold bitOf; rw [← HQ.out, ← HRR.out]
      obtain ⟨ht1, ht0⟩ := top_next x r hr
      have HY := Lib.hid hy
      clear hy
      rcases v with _ | _
      · have h0 : topB x (r + 1) = topB x r := ht0 (of_decide_eq_false hbit.symm)
        have HS : Hid (outK l (k + 1) = outK l k) := Lib.hid (outK_skip l k hlt (by rw [← HQ.out, ← HRR.out, ← HX.out]; exact h0))
        clear ht1 ht0 hbit h0
        go_wp2_with fail
        go_roundw
        case rel => exact ⟨k + 1, by omega, by go_num, Lib.hid (by rw [HS.out]; exact ho.out), ha, hb⟩
        case measure => simp [intOf]; omega
      · have h1 := ht1 (of_decide_eq_true hbit.symm)
        obtain ⟨z, HZ⟩ : ∃ z, Hid (z = topB x (r + 1)) := ⟨_, Lib.hid rfl⟩
        rw [← HZ.out] at h1
        have HS : Hid ((outK l k).set q z = outK l (k + 1)) := Lib.hid (by rw [HZ.out, HX.out, HQ.out, HRR.out]; exact outK_set l k hlt)
        clear ht1 ht0 hbit
        go_wp2_with fail
        go_roundw
        case rel =>
          have h2 := ho.out.stored q z _ rfl
          rw [HS.out] at h2
          exact ⟨k + 1, by omega, by go_num, Lib.hid h2, Lib.hid (ha.out.setCell (by show G + 1 ≠ G; omega) _), Lib.hid (hb.out.setCell (by rw [HG.out]; show w.heap.size ≤ w.heap.size + 1; omega) _)⟩
        case measure => simp [intOf]; omega
    · obtain rfl : k = 128 := by omega
      go_wp2_with fail
      go_ret
      have h := ho.out
      rw [outK_all l HL.out] at h
      exact ⟨_, _, rfl, h, hb.out⟩
end Go.Proofs.Ytilpdojliaiokaa
