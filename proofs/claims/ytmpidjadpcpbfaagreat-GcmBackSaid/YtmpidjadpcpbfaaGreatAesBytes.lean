/- aes's bytes and fill. No conditions. -/
import Derived.Test.YtmpidjadpcpbfaaGreatAesSqs
import Derived.Deep.RegionWith
namespace Go.Proofs.YtmpidjadpcpbfaaGreat
open Go.RowKit
set_option linter.unusedVariables false

theorem OwnB.setCells {base n c g : Nat} : ∀ (m : List UInt8) (w : World) (l : List UInt8) (o : Nat), OwnB w base (some ⟨g, 0, none⟩) n c l → o + m.length ≤ l.length → OwnB (w.setCells g o (bvs m)) base (some ⟨g, 0, none⟩) n c (layL l o m)
  | [], w, l, o, h, _ => by
    rw [show layL l o [] = l by simp [layL]]
    exact h
  | x :: r, w, l, o, h, hm => by
    have h1 := OwnB.setCells r _ _ (o + 1) (h.stored o x (bv x) rfl) (by simp at hm ⊢; omega)
    rw [show layL l o (x :: r) = layL (l.set o x) (o + 1) r by
      apply List.ext_getElem?
      intro j
      simp at hm
      rw [layL_at _ _ _ _ (by omega), layL_at _ _ _ _ (by simp; omega), List.getElem?_set]
      by_cases h0 : j = o
      · subst h0
        rw [if_pos ⟨Nat.le_refl _, by simp⟩, if_neg (by omega), if_pos rfl, if_pos (by omega), Nat.sub_self]; rfl
      · by_cases h2 : o + 1 ≤ j ∧ j < o + 1 + r.length
        · rw [if_pos (by simp; omega), if_pos h2, show j - o = (j - (o + 1)) + 1 by omega]; rfl
        · rw [if_neg (by simp; omega), if_neg h2, if_neg (by omega)]]
    exact h1
theorem word_slice (g : Nat) (W : World) : (Instr.sliceAt 64 (.pointer (some ⟨g, 0, none⟩)) none none none).run Tryz.prog W = .ok (.slice (some ⟨g, 0, none⟩) 4 4) W := by kernel_rfl

set_option maxRecDepth 100000 in
set_option maxHeartbeats 4000000 in
theorem sbytes_any (l : List UInt8) (w : World) (hl : l.length = 16) :
    Calls Tryz.prog 61 #[AV l] w (RetB 16 l w) := by
  have HL := Lib.hid hl
  have HA := Lib.hid (Ar.new w l 66)
  clear hl
  go_enter Tryz.func61, Tryz.ntmps61
  go_wp2_with (first | (refine wpList_boxA rfl _ (.tmp 0) rfl l rfl ?_) | (refine wpList_mk rfl _ _ rfl w.heap.size .i64 .i64 16 16 16 rfl rfl rfl rfl (by omega) (by simp) ?_; intro w1 hown hsz hb1; have HO := Lib.hid hown; have HB1 : Hid (Below w.heap.size w w1) := Lib.hid ((below_alloc w _).trans (hb1.mono (by simp))); have HA1 := Lib.hid (HA.out.below hb1 (by simp)); clear hown hb1) | (refine wpList_ldA rfl _ (.tmp 1) rfl w.heap.size 0 4 _ rfl l (by exact HA1.out) up_sq (by rw [HL.out]; exact sz_sq) ?_))
  obtain ⟨G, HG⟩ : ∃ G, Hid (G = w.heap.size + 1) := ⟨_, Lib.hid rfl⟩
  have HO0 : Hid (OwnB w1 w.heap.size (some ⟨G, 0, none⟩) 16 16 (wordsUpTo l zeros16 0)) := Lib.hid (by
    have h := HO.out
    rw [World.size_alloc, ← HG.out] at h
    rw [wup_zero]; exact h)
  rw [← HG.out]
  clear HO HA HA1 hsz
  go_loopw [8] (fun i wr => ∃ k : Nat, k ≤ 4 ∧ i = .int .i64 k ∧ Hid (OwnB wr w.heap.size (some ⟨G, 0, none⟩) 16 16 (wordsUpTo l zeros16 k)) ∧ Hid (Below w.heap.size w wr)) (fun i _ => 4 - (intOf i).toNat)
  case atStart => exact ⟨0, by omega, rfl, HO0, HB1⟩
  case round =>
    clear HO0 HB1
    obtain ⟨k, hk, rfl, ho, hb⟩ := hrel
    by_cases hlt : k < 4
    · have hidx := sidx l HL.out k hlt
      obtain ⟨b0, b1, b2, b3, hb4⟩ := list4 (cutL l (4 * k) 4) (by rw [cutL_len _ _ _ (by rw [HL.out]; omega)])
      rw [hb4] at hidx
      have hidx' : ∀ W : World, (Instr.index 66 (AV l) (.int .i64 (k : Int))).run Tryz.prog W = .ok (.agg #[.int .u8 (b0.toNat : Int), .int .u8 (b1.toNat : Int), .int .u8 (b2.toNat : Int), .int .u8 (b3.toNat : Int)]) W := hidx
      have HB4 := Lib.hid hb4
      have h1 : IntKind.i64.wrap (4 * (k : Int)) = 4 * (k : Int) := IntWalk.i64_in _ (by omega)
      have hcut : ∀ W : World, (Instr.slice 22 (.slice (some ⟨G, 0, none⟩) 16 16) (some (.int .i64 (4 * (k : Int)))) none none).run Tryz.prog W = .ok (.slice (some ⟨G, 4 * k, none⟩) (16 - 4 * k) (16 - 4 * k)) W := by
        intro W
        have h := cut_l (some ⟨G, 0, none⟩) 16 16 (4 * k) (by omega) W
        rw [show ((4 * k : Nat) : Int) = 4 * (k : Int) by omega] at h
        rw [h]
        unfold cutA
        rw [if_neg (by omega)]
        simp [Addr.add_mid]
      have hsl := word_slice wr.heap.size
      obtain ⟨WA, HWA⟩ : ∃ WA, Hid (WA = wr.alloc (.cells #[.int .u8 (b0.toNat : Int), .int .u8 (b1.toNat : Int), .int .u8 (b2.toNat : Int), .int .u8 (b3.toNat : Int)] 64)) := ⟨_, Lib.hid rfl⟩
      obtain ⟨W2, HW2⟩ : ∃ W2, Hid (W2 = WA.drew.setCells G (4 * k) (bvs [b0, b1, b2, b3])) := ⟨_, Lib.hid rfl⟩
      have hoA : OwnB WA.drew w.heap.size (some ⟨G, 0, none⟩) 16 16 (wordsUpTo l zeros16 k) := by
        rw [HWA.out]
        exact ho.out.below ((below_alloc wr _).drew)
      have hlen : (wordsUpTo l zeros16 k).length = 16 := wup_len l zeros16 k HL.out rfl (by omega)
      have hcp : (Builtin.copy_ #[22, 22] 3 #[.slice (some ⟨G, 4 * k, none⟩) (16 - 4 * k) (16 - 4 * k), .slice (some ⟨wr.heap.size, 0, none⟩) 4 4]).run Tryz.prog (wr.alloc (.cells #[.int .u8 (b0.toNat : Int), .int .u8 (b1.toNat : Int), .int .u8 (b2.toNat : Int), .int .u8 (b3.toNat : Int)] 64)).drew = .ok (.int .i64 4) W2 := by
        rw [HW2.out, ← HWA.out]
        have hs : Ar WA.drew wr.heap.size 0 [b0, b1, b2, b3] := by rw [HWA.out]; exact (Ar.new wr [b0, b1, b2, b3] _).drew
        refine run_copy_cells (P := Tryz.prog) WA.drew 22 22 3 5 G (4 * k) (16 - 4 * k) (16 - 4 * k) ⟨wr.heap.size, 0, none⟩ 4 4 (bvs [b0, b1, b2, b3]) Tryz.underlying22 (by kernel_rfl) (by show 4 = min 4 (16 - 4 * k); omega) (fun j v hv => by rw [Addr.add_mid]; exact hs.1 j v hv) (fun j hj => ?_) (fun j hj => ?_) (bvs_one _)
        · have hj4 : j < 4 := hj
          obtain ⟨y, hy⟩ := getX (wordsUpTo l zeros16 k) 16 (4 * k + j) hlen (by omega)
          rw [hoA.cellAt hy]; rfl
        · exact hoA.freeAt _
      have HL16 := Lib.hid hlen
      have HOA := Lib.hid hoA
      clear hidx hb4 hoA hlen
      go_wp2_with fail
      go_region_with (fail)
      all_goals
        go_wp2
        go_roundw
        case rel =>
          have h2 := OwnB.setCells [b0, b1, b2, b3] WA.drew _ (4 * k) HOA.out (by rw [HL16.out]; simp; omega)
          rw [← HB4.out, wup_lay l zeros16 k HL.out rfl hlt, HB4.out, ← HW2.out] at h2
          refine ⟨k + 1, by omega, by go_num, Lib.hid h2, Lib.hid ?_⟩
          rw [HW2.out, HWA.out]
          exact below_setCells ((hb.out.trans ((below_alloc wr _).mono hb.out.size)).drew) (by rw [HG.out]; omega) _ _
        case measure => simp [intOf]; omega
    · obtain rfl : k = 4 := by omega
      go_wp2
      go_ret
      have h := ho.out
      rw [wup_all l zeros16 HL.out rfl] at h
      exact ⟨_, _, rfl, h, hb.out⟩
theorem word_slice_at (g o : Nat) (W : World) : (Instr.sliceAt 64 (.pointer (some ⟨g, o, none⟩)) none none none).run Tryz.prog W = .ok (.slice (some ⟨g, o, none⟩) 4 4) W := by kernel_rfl

set_option maxRecDepth 100000 in
set_option maxHeartbeats 4000000 in
theorem fill_any (A : Option Addr) (c : Nat) (l : List UInt8) (w : World) (h : RB w w.heap.size A 16 l) (hc : 16 ≤ c) :
    Calls Tryz.prog 37 #[.slice A 16 c] w (RetA l w) := by
  have hl := h.len
  obtain ⟨ga, oa, rfl, hga, hcell⟩ := h.2 (by omega)
  have HL := Lib.hid hl
  have HCELL := Lib.hid hcell
  have HC16 := Lib.hid hc
  have HA := Lib.hid (Ar.new w zeros16 66)
  have HA2 := Lib.hid (w2_0 zeros16 zeros16 66 w)
  have HB2 := Lib.hid (w2_1 zeros16 zeros16 66 w)
  have HW := Lib.hid (w2_below zeros16 zeros16 66 w)
  obtain ⟨G, HG⟩ : ∃ G, Hid (G = w.heap.size) := ⟨_, Lib.hid rfl⟩
  obtain ⟨W0, HW0⟩ : ∃ W0, Hid (W0 = W2 zeros16 zeros16 66 w) := ⟨_, Lib.hid rfl⟩
  clear hl hcell hc h
  go_enter Tryz.func37, Tryz.ntmps37
  go_wp2_with fail
  show Code.wp _ _ _ _ (W2 zeros16 zeros16 66 w)
  rw [← HW0.out] at HA2 HB2 HW ⊢
  rw [← HG.out] at HA2 HB2 ⊢
  go_loopw [5] (fun i wr => ∃ k : Nat, k ≤ 4 ∧ i = .int .i64 k ∧ Hid (Ar wr G 0 zeros16) ∧ Hid (Ar wr (G + 1) 0 (wordsUpTo l zeros16 k)) ∧ Hid (Below w.heap.size w wr)) (fun i _ => 4 - (intOf i).toNat)
  case atStart => exact ⟨0, by omega, rfl, HA2, Lib.hid (by rw [wup_zero]; exact HB2.out), HW⟩
  case round =>
    clear HA HA2 HB2 HW
    obtain ⟨k, hk, rfl, hz, hm, hb⟩ := hrel
    by_cases hlt : k < 4
    · obtain ⟨b0, b1, b2, b3, hb4⟩ := list4 (cutL l (4 * k) 4) (by rw [cutL_len _ _ _ (by rw [HL.out]; omega)])
      have HB4 := Lib.hid hb4
      have h1 : IntKind.i64.wrap (4 * (k : Int)) = 4 * (k : Int) := IntWalk.i64_in _ (by omega)
      have hcut : ∀ W : World, (Instr.slice 22 (.slice (some ⟨ga, oa, none⟩) 16 c) (some (.int .i64 (4 * (k : Int)))) none none).run Tryz.prog W = .ok (.slice (some ⟨ga, oa + 4 * k, none⟩) (16 - 4 * k) (c - 4 * k)) W := by
        intro W
        have h := cut_l (some ⟨ga, oa, none⟩) 16 c (4 * k) (by omega) W
        rw [show ((4 * k : Nat) : Int) = 4 * (k : Int) by omega] at h
        rw [h]
        unfold cutA
        rw [if_neg (by have := HC16.out; omega)]
        simp [Addr.add_mid]
      have hsl := word_slice_at (G + 1) (k * 4)
      have hlen : (wordsUpTo l zeros16 k).length = 16 := wup_len l zeros16 k HL.out rfl (by omega)
      obtain ⟨W2, HW2⟩ : ∃ W2, Hid (W2 = wr.drew.setCells (G + 1) (k * 4) (bvs [b0, b1, b2, b3])) := ⟨_, Lib.hid rfl⟩
      have hcp : (Builtin.copy_ #[22, 22] 3 #[.slice (some ⟨G + 1, k * 4, none⟩) 4 4, .slice (some ⟨ga, oa + 4 * k, none⟩) (16 - 4 * k) (c - 4 * k)]).run Tryz.prog wr.drew = .ok (.int .i64 4) W2 := by
        rw [HW2.out]
        refine run_copy_cells (P := Tryz.prog) wr.drew 22 22 3 5 (G + 1) (k * 4) 4 4 ⟨ga, oa + 4 * k, none⟩ (16 - 4 * k) (c - 4 * k) (bvs [b0, b1, b2, b3]) Tryz.underlying22 (by kernel_rfl) (by show 4 = min (16 - 4 * k) 4; omega) (fun j v hv => ?_) (fun j hj => ?_) (fun j hj => ?_) (bvs_one _)
        · rw [bvs_at', ← hb4] at hv
          have hj : j < 4 := by
            rcases Nat.lt_or_ge j 4 with h | h
            · exact h
            · rw [List.getElem?_eq_none (by simp [cutL]; omega)] at hv; simp at hv
          rw [cutL_at _ _ _ _ hj] at hv
          have hlj : 4 * k + j < l.length := by rw [HL.out]; omega
          rw [List.getElem?_eq_getElem hlj] at hv
          injection hv with hv
          rw [← hv, Addr.add_mid, Nat.add_assoc, World.cell?_drew]
          have := HCELL.out (4 * k + j) hlj
          rw [← this]
          exact hb.out.cell (p := ⟨ga, oa + (4 * k + j), none⟩) hga
        · have hj4 : j < 4 := hj
          obtain ⟨y, hy⟩ := getX (wordsUpTo l zeros16 k) 16 (k * 4 + j) hlen (by omega)
          have := hm.out.drew.cell hy
          rw [Nat.zero_add] at this
          rw [this]; rfl
        · have hj4 : j < 4 := hj
          have := hm.out.drew.free (j := k * 4 + j) (by omega)
          rw [Nat.zero_add] at this
          exact this
      have HL16 := Lib.hid hlen
      clear hb4 hlen
      go_wp2_with fail
      go_region_with (fail)
      all_goals
        go_wp2
        go_roundw
        case rel =>
          have h2 := hm.out.drew.lay (4 * k) [b0, b1, b2, b3] (by rw [HL16.out]; simp; omega)
          rw [← HB4.out, wup_lay l zeros16 k HL.out rfl hlt, HB4.out, show 0 + 4 * k = k * 4 by omega, ← HW2.out] at h2
          refine ⟨k + 1, by omega, by go_num, Lib.hid ?_, Lib.hid h2, Lib.hid ?_⟩
          · rw [HW2.out]; exact hz.out.drew.setCells (by omega) _ _
          · rw [HW2.out]; exact below_setCells hb.out.drew (by rw [HG.out]; omega) _ _
        case measure => simp [intOf]; omega
    · obtain rfl : k = 4 := by omega
      have hal := hm.out
      rw [wup_all l zeros16 HL.out rfl] at hal
      have HAL := Lib.hid hal
      clear hal
      go_wp2_with (first | (refine wpList_ldA rfl _ (.tmp 3) rfl (G + 1) 0 4 _ rfl l (by exact HAL.out) up_sq (by rw [HL.out]; exact sz_sq) ?_) | (refine wpList_stA rfl _ (.tmp 2) (.tmp 17) rfl G 0 rfl l zeros16 rfl (by exact hz.out) (by rw [HL.out]; rfl) (by rw [HL.out]; exact sz_sq) ?_))
      refine bodyPost_ret (v := AV l) (res_cell rfl _ _ G 4 _ l rfl (hz.out.whole l (by rw [HL.out]; rfl)) up_sq (by rw [HL.out]; exact sz_sq)) rfl ⟨rfl, ?_⟩
      exact below_setCells hb.out (by rw [HG.out]; exact Nat.le_refl _) 0 (bvs l)
end Go.Proofs.YtmpidjadpcpbfaaGreat
