/- Layer 14's references Trim and Block. Conditions: the slices' cells are readable, lengths are at most a million. -/
import Derived.Test.YtfipdaekfdbaeaaGreatHvC
namespace Go.Proofs.YtfipdaekfdbaeaaGreat
open Go.RowKit
set_option linter.unusedVariables false
set_option linter.unusedSimpArgs false
theorem trimR_no {l : List UInt8} {z : Int} {left : Bool} (h : fitB z l.length = false) : trimR l z left = ([], 11) := by unfold trimR; rw [h]; rfl
theorem blockR_no {l : List UInt8} {z p : Int} (h : (fitB z l.length && decide (0 ≤ p ∧ p ≤ 255)) = false) : blockR l z p = ([], 11) := by unfold blockR; rw [h]; rfl
theorem rep_snoc (k : Nat) : List.replicate (k + 1) (0 : UInt8) = List.replicate k 0 ++ [0] := List.replicate_succ'
theorem by_of (k : Nat) (h : k ≤ 255) : bv (UInt8.ofNat k) = .int .u8 (k : Int) := by
  unfold bv
  rw [UInt8.toNat_ofNat']
  congr 1
  omega
attribute [local irreducible] foursL pairsL cutR trimL joinL blockL
set_option maxRecDepth 100000 in
set_option maxHeartbeats 4000000 in
theorem rtrim_any (A : Option Addr) (n c : Nat) (l : List UInt8) (z : Int) (left : Bool) (w : World) (h : RB w w.heap.size A n l) (hm : n ≤ 1000000) :
    Calls Tryz.prog 107 #[.slice A n c, .int .i64 z, .bool left] w (RetBE (trimR l z left).1.length (trimR l z left).1 (trimR l z left).2 w) := by
  have HL := Lib.hid h.len
  cases hv : fitB z n
  · have HE : Hid (trimR l z left = ([], 11)) := Lib.hid (trimR_no (by rw [HL.out]; exact hv))
    have HF := Lib.hid (rhfit_any A n c z w false hv)
    clear h hv
    go_enter Tryz.func107, Tryz.ntmps107
    go_wp2_with fail
    refine HF.out.mono ?_
    rintro e w1 ⟨rfl, rfl⟩
    go_wp2_with fail
    go_ret2
    rw [HE.out]
    exact ⟨none, 0, rfl, OwnB.nil_ _ _, Below.refl _ _⟩
  · obtain ⟨N, rfl, h2, h28, hn⟩ := fitB_nat hv
    have HF := Lib.hid (rhfit_any A n c N w true hv)
    have HE := Lib.hid (trim_ok l N left h2 h28 (by rw [HL.out]; exact hn))
    have HT := Lib.hid (trim_fours l N left (by rw [HL.out]; exact hn) h2)
    have hs : szN N ≤ N ∧ 2 * szN N = N + N % 2 ∧ 0 < szN N := by unfold szN; omega
    obtain ⟨M, hM⟩ : ∃ M, M = 2 * n := ⟨_, rfl⟩
    have HC := Lib.hid (rfours_any A n c l w h hm)
    rw [← hM] at HC
    have HM := Lib.hid (show M = 2 * n from hM)
    have HLE : Hid ((trimL l N left).length = n) := Lib.hid (by rw [trim_len]; exact HL.out)
    have HN := Lib.hid (show n = szN N from hn)
    have hMN : N ≤ M := by omega
    have hM0 : 0 < M := by omega
    have hM28 : M ≤ 28 := by have := szN_le N h28; omega
    by_cases hodd : N % 2 = 1
    · have HO := Lib.hid hodd
      clear hodd
      cases left
      · skip
        have hodd := HO.out
        have hmod : ((N : Int) % 2 == 1) = true := by rw [beq_iff_eq]; omega
        have hNM : N < M := by omega
        clear hs hM hn hv
        go_enter Tryz.func107, Tryz.ntmps107
        go_wp2_with fail
        refine HF.out.mono ?_
        rintro e w0 ⟨rfl, rfl⟩
        go_wp2_with fail
        refine HC.out.mono ?_
        rintro e w1 ⟨A1, c1, rfl, ho, hb⟩
        obtain ⟨g, rfl, hg1, hg2⟩ := ho.form hM0
        have hc1 : w1.cell? ⟨g, 0, none⟩ = some (.int .u8 ((gd (foursL l) 0).toNat : Int)) := ho.cellAt (gd_lt (by rw [ho.len]; omega))
        have hf1 : w1.frozen? ⟨g, 0, none⟩ = false := ho.freeAt 0
        have S1 := Lib.hid (ho.stored 0 0 (.int .u8 0) rfl)
        have B1 := Lib.hid (hb.setCell (p := ⟨g, 0, none⟩) hg1 (.int .u8 0))
        have HQ := Lib.hid (rhvbytes_any (some ⟨g, 0, none⟩) M n c1 _ _ S1.out.rb HM.out (by omega))
        clear ho hb
        go_wp2_with fail
        refine HQ.out.mono ?_
        rintro e w2 ⟨A2, c2, rfl, ho2, hb2⟩
        have K2 := Lib.hid (And.intro (ho2.base_le B1.out.size) (bel_next B1.out hb2))
        clear ho2 hb2 hc1 hf1
        go_wp2_with fail
        go_ret2
        rw [HE.out]
        simp only
        rw [HLE.out, HT.out, if_pos HO.out]
        exact ⟨A2, c2, rfl, K2.out.1, K2.out.2⟩
      · skip
        have hodd := HO.out
        have hmod : ((N : Int) % 2 == 1) = true := by rw [beq_iff_eq]; omega
        have hNM : N < M := by omega
        clear hs hM hn hv
        go_enter Tryz.func107, Tryz.ntmps107
        go_wp2_with fail
        refine HF.out.mono ?_
        rintro e w0 ⟨rfl, rfl⟩
        go_wp2_with fail
        refine HC.out.mono ?_
        rintro e w1 ⟨A1, c1, rfl, ho, hb⟩
        obtain ⟨g, rfl, hg1, hg2⟩ := ho.form hM0
        have hc1 : w1.cell? ⟨g, N, none⟩ = some (.int .u8 ((gd (foursL l) N).toNat : Int)) := ho.cellAt (gd_lt (by rw [ho.len]; omega))
        have hf1 : w1.frozen? ⟨g, N, none⟩ = false := ho.freeAt N
        have S1 := Lib.hid (ho.stored N 0 (.int .u8 0) rfl)
        have B1 := Lib.hid (hb.setCell (p := ⟨g, N, none⟩) hg1 (.int .u8 0))
        have HQ := Lib.hid (rhvbytes_any (some ⟨g, 0, none⟩) M n c1 _ _ S1.out.rb HM.out (by omega))
        clear ho hb
        go_wp2_with fail
        refine HQ.out.mono ?_
        rintro e w2 ⟨A2, c2, rfl, ho2, hb2⟩
        have K2 := Lib.hid (And.intro (ho2.base_le B1.out.size) (bel_next B1.out hb2))
        clear ho2 hb2 hc1 hf1
        go_wp2_with fail
        go_ret2
        rw [HE.out]
        simp only
        rw [HLE.out, HT.out, if_pos HO.out]
        exact ⟨A2, c2, rfl, K2.out.1, K2.out.2⟩
    · have HO := Lib.hid hodd
      have hmod : ((N : Int) % 2 == 1) = false := by rw [beq_eq_false_iff_ne]; omega
      clear hs hM hn hv
      go_enter Tryz.func107, Tryz.ntmps107
      go_wp2_with fail
      refine HF.out.mono ?_
      rintro e w0 ⟨rfl, rfl⟩
      go_wp2_with fail
      refine HC.out.mono ?_
      rintro e w1 ⟨A1, c1, rfl, ho, hb⟩
      have B1 := Lib.hid hb
      have HQ := Lib.hid (rhvbytes_any A1 M n c1 _ w1 ho.rb HM.out (by omega))
      clear ho hb
      go_wp2_with fail
      refine HQ.out.mono ?_
      rintro e w2 ⟨A2, c2, rfl, ho2, hb2⟩
      have K2 := Lib.hid (And.intro (ho2.base_le B1.out.size) (bel_next B1.out hb2))
      clear ho2 hb2
      go_wp2_with fail
      go_ret2
      rw [HE.out]
      simp only
      rw [HLE.out, HT.out, if_neg HO.out]
      exact ⟨A2, c2, rfl, K2.out.1, K2.out.2⟩
set_option maxRecDepth 100000 in
set_option maxHeartbeats 4000000 in
theorem rblock_any (A : Option Addr) (n c : Nat) (l : List UInt8) (z p : Int) (w : World) (h : RB w w.heap.size A n l) (hm : n ≤ 1000000) :
    Calls Tryz.prog 106 #[.slice A n c, .int .i64 z, .int .i64 p] w (RetBE (blockR l z p).1.length (blockR l z p).1 (blockR l z p).2 w) := by
  have HL := Lib.hid h.len
  cases hv : fitB z n
  · have HE : Hid (blockR l z p = ([], 11)) := Lib.hid (blockR_no (by rw [HL.out, hv]; rfl))
    have HF := Lib.hid (rhfit_any A n c z w false hv)
    clear h hv
    go_enter Tryz.func106, Tryz.ntmps106
    go_wp2_with fail
    refine HF.out.mono ?_
    rintro e w1 ⟨rfl, rfl⟩
    go_wp2_with fail
    go_ret2
    rw [HE.out]
    exact ⟨none, 0, rfl, OwnB.nil_ _ _, Below.refl _ _⟩
  have HF := Lib.hid (rhfit_any A n c z w true hv)
  by_cases p0 : p < 0
  · have HE : Hid (blockR l z p = ([], 11)) := Lib.hid (blockR_no (by rw [HL.out, hv, decide_eq_false (by omega)]; rfl))
    have d1 : decide (p < 0) = true := decide_eq_true p0
    clear h hv p0
    go_enter Tryz.func106, Tryz.ntmps106
    go_wp2_with fail
    refine HF.out.mono ?_
    rintro e w1 ⟨rfl, rfl⟩
    go_wp2_with fail
    go_ret2
    rw [HE.out]
    exact ⟨none, 0, rfl, OwnB.nil_ _ _, Below.refl _ _⟩
  have d1 : decide (p < 0) = false := decide_eq_false p0
  by_cases p1 : 255 < p
  · have HE : Hid (blockR l z p = ([], 11)) := Lib.hid (blockR_no (by rw [HL.out, hv, decide_eq_false (by omega)]; rfl))
    have d2 : decide (255 < p) = true := decide_eq_true p1
    clear h hv p0 p1
    go_enter Tryz.func106, Tryz.ntmps106
    go_wp2_with fail
    refine HF.out.mono ?_
    rintro e w1 ⟨rfl, rfl⟩
    go_wp2_with fail
    go_ret2
    rw [HE.out]
    exact ⟨none, 0, rfl, OwnB.nil_ _ _, Below.refl _ _⟩
  have d2 : decide (255 < p) = false := decide_eq_false p1
  obtain ⟨N, rfl, h2, h28, hn⟩ := fitB_nat hv
  obtain ⟨P, rfl⟩ : ∃ P : Nat, p = (P : Int) := ⟨p.toNat, by omega⟩
  have hP : P ≤ 255 := by omega
  have HE := Lib.hid (block_ok l N P h2 h28 (by rw [HL.out]; exact hn) hP)
  have hn14 : n ≤ 14 := by have := szN_le N h28; omega
  have HBL : Hid (l ++ List.replicate (14 - n) 0 ++ [UInt8.ofNat N, UInt8.ofNat P] = blockL l N P) := Lib.hid (by rw [← HL.out]; unfold blockL; rfl)
  have HB16 : Hid ((blockL l N P).length = 16) := Lib.hid (block_len l N P (by rw [HL.out]; exact hn14))
  have H := Lib.hid h
  clear hv p0 p1 hn h
  go_enter Tryz.func106, Tryz.ntmps106
  go_wp2_with fail
  refine HF.out.mono ?_
  rintro e w1 ⟨rfl, rfl⟩
  go_wp2_with (first
    | (at_builtin; refine wpList_app rfl (.tmp 21) (.tmp 22) rfl w.heap.size _ _ _ [] rfl (by exact OwnB.lit w _ [] #[] 0 rfl rfl (by unfold maxLen; omega) (Nat.le_refl _)) _ A n c l rfl (by exact H.out.step (below_alloc _ _)) (by omega) (by simp) ?_; intro A2 c2 w2 ho2 hg2 hb2; have K2 : Hid (Below w.heap.size w w2 ∧ OwnB w2 w.heap.size A2 n c2 l) := Lib.hid ⟨(below_alloc w _).trans hb2, by simpa using ho2⟩; clear ho2 hg2 hb2))
  go_loopw [8] (fun o wr => ∃ (k c3 : Nat) (A3 : Option Addr), n ≤ k ∧ k ≤ 14 ∧ o = .slice A3 k c3 ∧ Hid (Below w.heap.size w wr ∧ OwnB wr w.heap.size A3 k c3 (l ++ List.replicate (k - n) 0))) (fun o _ => match o with | .slice _ k _ => 14 - k | _ => 0)
  case atStart => exact ⟨n, c2, A2, Nat.le_refl _, hn14, by simp, Lib.hid ⟨K2.out.1, by rw [Nat.sub_self, List.replicate_zero, List.append_nil]; exact K2.out.2⟩⟩
  case round =>
    obtain ⟨k, c3, A3, hk, hk14, rfl, HK⟩ := hrel
    by_cases hlt : k < 14
    · go_wp2_with (first
        | (at_builtin; refine wpList_app rfl (.tmp 27) (.tmp 28) rfl w.heap.size A3 k c3 _ rfl (by exact HK.out.2.alloc _) _ _ 1 1 [0] rfl (by exact RB.new wr [0] _ _ rfl) (by omega) (by exact Nat.le_trans HK.out.1.size (below_alloc wr _).size) ?_; intro A4 c4 w4 ho4 hg4 hb4; have K4 : Hid (Below w.heap.size w w4 ∧ OwnB w4 w.heap.size A4 (k + 1) c4 (l ++ List.replicate (k + 1 - n) 0)) := Lib.hid ⟨(HK.out.1.trans ((below_alloc wr _).mono HK.out.1.size)).trans hb4, by rw [show k + 1 - n = (k - n) + 1 by omega, rep_snoc, ← List.append_assoc]; exact ho4⟩; clear ho4 hg4 hb4))
      go_roundw
      case rel => exact ⟨k + 1, c4, A4, by omega, by omega, rfl, K4⟩
      case measure => simp; omega
    · obtain rfl : k = 14 := by omega
      have hw1 : IntKind.u8.wrap (N : Int) = (N : Int) := by rw [IntKind.wrap_u8]; omega
      have hw2 : IntKind.u8.wrap (P : Int) = (P : Int) := by rw [IntKind.wrap_u8]; omega
      go_wp2_with (first
        | (at_builtin; refine wpList_app rfl (.tmp 30) (.tmp 35) rfl w.heap.size A3 14 c3 _ rfl (by exact HK.out.2.alloc _) _ _ 2 2 [UInt8.ofNat N, UInt8.ofNat P] rfl (by exact RB.new wr _ _ _ (by unfold bvs; rw [List.map_cons, List.map_cons, List.map_nil, by_of N (by omega), by_of P hP])) (by omega) (by exact Nat.le_trans HK.out.1.size (below_alloc wr _).size) ?_; intro A4 c4 w4 ho4 hg4 hb4; have K4 := Lib.hid (And.intro ((HK.out.1.trans ((below_alloc wr _).mono HK.out.1.size)).trans hb4) ho4); clear ho4 hg4 hb4))
      go_ret2
      rw [HE.out]
      simp only
      rw [HB16.out, ← HBL.out]
      exact ⟨A4, c4, rfl, K4.out.2, K4.out.1⟩
end Go.Proofs.YtfipdaekfdbaeaaGreat
