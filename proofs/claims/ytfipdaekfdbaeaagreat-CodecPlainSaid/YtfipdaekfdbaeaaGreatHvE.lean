/- Layer 14's reference Join. Conditions: the slices' cells are readable, lengths are at most a million. -/
import Derived.Test.YtfipdaekfdbaeaaGreatHvD
namespace Go.Proofs.YtfipdaekfdbaeaaGreat
open Go.RowKit
set_option linter.unusedVariables false
set_option linter.unusedSimpArgs false
theorem joinR_no {l r : List UInt8} {z : Int} (h : (fitB z l.length && fitB z r.length) = false) : joinR l r z = ([], 11) := by unfold joinR; rw [h]; rfl
theorem joinR_bad {l r : List UInt8} {n : Nat} (h2 : 2 ≤ n) (h28 : n ≤ 28) (hl : l.length = szN n) (hr : r.length = szN n) (hb : (badB l n true || badB r n false) = true) : joinR l r (n : Int) = ([], 10) := by
  unfold joinR
  rw [hl, hr, fitB_mk h2 h28, Int.toNat_natCast, hb]
  rfl
theorem joinR_ok {l r : List UInt8} {n : Nat} (h2 : 2 ≤ n) (h28 : n ≤ 28) (hl : l.length = szN n) (hr : r.length = szN n) (hb : (badB l n true || badB r n false) = false) : joinR l r (n : Int) = (joinL l r n, 0) := by
  unfold joinR
  rw [hl, hr, fitB_mk h2 h28, Int.toNat_natCast, hb]
  rfl
theorem bad_even {l : List UInt8} {n : Nat} {left : Bool} (h : ¬ n % 2 = 1) : badB l n left = false := by
  unfold badB maskB
  rw [if_pos (show n % 2 = 0 by omega)]
  exact b_all0 _
theorem bad_left {l : List UInt8} {n : Nat} (h : n % 2 = 1) (hl : l.length = szN n) : badB l n true = decide (gd (foursL l) n ≠ 0) := by
  unfold badB maskB edgeN
  rw [if_neg (show ¬ n % 2 = 0 by omega), fours_gd, if_neg (show ¬ n % 2 = 0 by omega)]
  simp only [if_true]
  rw [b_mod0, hl, show szN n - 1 = n / 2 by unfold szN; omega]
theorem bad_right {r : List UInt8} {n : Nat} (h : n % 2 = 1) : badB r n false = decide (gd (foursL r) 0 ≠ 0) := by
  unfold badB maskB edgeN
  rw [if_neg (show ¬ n % 2 = 0 by omega), fours_gd, if_pos (show 0 % 2 = 0 by omega)]
  simp only [Bool.false_eq_true, if_false]
  rw [b_div0]
theorem join_fours2 (l r : List UInt8) (n : Nat) (h2 : 2 ≤ n) (h28 : n ≤ 28) (hl : l.length = szN n) (hr : r.length = szN n) (hb : (badB l n true || badB r n false) = false) :
    joinL l r n = pairsL ((foursL l).take n ++ (foursL r).drop (n % 2)) := by
  rw [Bool.or_eq_false_iff] at hb
  refine join_fours l r n h2 h28 hl hr (fun h => ?_) (fun h => ?_)
  · have h1 := hb.1
    rw [bad_left h hl, fours_gd, if_neg (show ¬ n % 2 = 0 by omega), show n / 2 = szN n - 1 by unfold szN; omega] at h1
    exact Classical.byContradiction fun e => by rw [decide_eq_true e] at h1; cases h1
  · have h1 := hb.2
    rw [bad_right h, fours_gd, if_pos (show 0 % 2 = 0 by omega)] at h1
    exact Classical.byContradiction fun e => by rw [decide_eq_true e] at h1; cases h1
theorem cut_hh (g n c h : Nat) (h2 : h ≤ c) : ∀ W : World, (Instr.slice 25 (.slice (some ⟨g, 0, none⟩) n c) none (some (.int .i64 (h : Int))) (some (.int .i64 (h : Int)))).run Tryz.prog W = .ok (.slice (some ⟨g, 0, none⟩) h h) W := by
  intro W
  simp [Instr.slice, Instr.sliceBounds, Instr.sliceBound, asIntOf, go_sem, run_underlying Tryz.underlying25, h2, Addr.add]
theorem ne_lit {x : UInt8} (h : x ≠ 0) : ((x.toNat : Int) != 0) = true := by
  rw [bne_iff_ne]
  intro e
  exact h (UInt8.toNat_inj.1 (by simp; omega))
attribute [local irreducible] foursL pairsL cutR trimL joinL blockL joinR
set_option maxRecDepth 100000 in
set_option maxHeartbeats 4000000 in
theorem rhjoin_any (A B : Option Addr) (n c m d : Nat) (l r : List UInt8) (z : Int) (w : World) (h : RB w w.heap.size A n l) (k : RB w w.heap.size B m r) (hn : n ≤ 1000000) (hm : m ≤ 1000000) :
    Calls Tryz.prog 55 #[.slice A n c, .slice B m d, .int .i64 z] w (RetBE (joinR l r z).1.length (joinR l r z).1 (joinR l r z).2 w) := by
  have HL := Lib.hid h.len
  have HR := Lib.hid k.len
  cases hv : fitB z n
  · have HE : Hid (joinR l r z = ([], 11)) := Lib.hid (joinR_no (by rw [HL.out, hv]; rfl))
    have HF := Lib.hid (rhfit_any A n c z w false hv)
    clear h hv k
    go_enter Tryz.func55, Tryz.ntmps55
    go_wp2_with fail
    refine HF.out.mono ?_
    rintro e w1 ⟨rfl, rfl⟩
    go_wp2_with fail
    go_ret2
    rw [HE.out]
    exact ⟨none, 0, rfl, OwnB.nil_ _ _, Below.refl _ _⟩
  cases hu : fitB z m
  · have HE : Hid (joinR l r z = ([], 11)) := Lib.hid (joinR_no (by rw [HR.out, hu, Bool.and_false]))
    have HF := Lib.hid (rhfit_any A n c z w true hv)
    have HG := Lib.hid (rhfit_any B m d z w false hu)
    clear h hv k hu
    go_enter Tryz.func55, Tryz.ntmps55
    go_wp2_with fail
    refine HF.out.mono ?_
    rintro e w1 ⟨rfl, rfl⟩
    go_wp2_with fail
    refine HG.out.mono ?_
    rintro e w1 ⟨rfl, rfl⟩
    go_wp2_with fail
    go_ret2
    rw [HE.out]
    exact ⟨none, 0, rfl, OwnB.nil_ _ _, Below.refl _ _⟩
  have HF := Lib.hid (rhfit_any A n c z w true hv)
  have HG := Lib.hid (rhfit_any B m d z w true hu)
  obtain ⟨N, rfl, h2, h28, en⟩ := fitB_nat hv
  obtain rfl : n = m := by
    obtain ⟨N', e, _, _, em⟩ := fitB_nat hu
    have : N = N' := by omega
    subst this
    omega
  have hs : szN N ≤ N ∧ 2 * szN N = N + N % 2 ∧ 0 < szN N := by unfold szN; omega
  have hl : l.length = szN N := by rw [HL.out]; exact en
  have hr : r.length = szN N := by rw [HR.out]; exact en
  obtain ⟨M, hM⟩ : ∃ M, M = 2 * n := ⟨_, rfl⟩
  have HC := Lib.hid (rfours_any A n c l w h hn)
  have HD := Lib.hid (fun (v : World) (hb : Below w.heap.size w v) => rfours_any B n d r v (k.step hb) hn)
  rw [← hM] at HC HD
  have hM28 : M ≤ 28 := by have := szN_le N h28; omega
  have HJL : Hid ((joinL l r N).length = N) := Lib.hid (join_len l r N)
  have HFL : Hid ((foursL l).length = M ∧ (foursL r).length = M) := Lib.hid ⟨by rw [fours_len]; omega, by rw [fours_len]; omega⟩
  have hM0 : 0 < M := by omega
  by_cases hodd : N % 2 = 1
  · have hmod : ((N : Int) % 2 == 1) = true := by rw [beq_iff_eq]; omega
    have hNM : N < M := by omega
    have HMN1 : Hid (M = N + 1) := Lib.hid (by omega)
    by_cases hbl : gd (foursL l) N = 0
    · by_cases hbr : gd (foursL r) 0 = 0
      · have hb0 : (badB l N true || badB r N false) = false := by rw [bad_left hodd hl, bad_right hodd, decide_eq_false (not_not_intro hbl), decide_eq_false (not_not_intro hbr)]; rfl
        have HE := Lib.hid (joinR_ok h2 h28 hl hr hb0)
        have HJ := Lib.hid (join_fours2 l r N h2 h28 hl hr hb0)
        rw [hodd] at HJ
        have HBL := Lib.hid hbl
        have HBR := Lib.hid hbr
        clear hb0 hbl hbr hl hr hs hM en h k hv hu
        go_enter Tryz.func55, Tryz.ntmps55
        go_wp2_with fail
        refine HF.out.mono ?_
        rintro e w0 ⟨rfl, rfl⟩
        go_wp2_with fail
        refine HG.out.mono ?_
        rintro e w0 ⟨rfl, rfl⟩
        go_wp2_with fail
        refine HC.out.mono ?_
        rintro e w1 ⟨A3, c3, rfl, ho1, hb1⟩
        have K1 := Lib.hid (And.intro ho1 hb1)
        clear ho1 hb1
        go_wp2_with fail
        refine (HD.out _ K1.out.2).mono ?_
        rintro e w2 ⟨A4, c4, rfl, ho2, hb2⟩
        have K2 : Hid (OwnB w2 w.heap.size A3 M c3 (foursL l) ∧ OwnB w2 w.heap.size A4 M c4 (foursL r) ∧ Below w.heap.size w w2) := Lib.hid ⟨K1.out.1.below hb2, ho2.base_le K1.out.2.size, bel_next K1.out.2 hb2⟩
        clear ho2 hb2 K1
        obtain ⟨g3, rfl, _, _⟩ := K2.out.1.form hM0
        obtain ⟨g4, rfl, _, _⟩ := K2.out.2.1.form hM0
        have hc3 : w2.cell? ⟨g3, N, none⟩ = some (.int .u8 0) := by have := K2.out.1.cellAt (gd_lt (by rw [HFL.out.1]; exact hNM)); rw [HBL.out] at this; exact this
        have hc4 : w2.cell? ⟨g4, 0, none⟩ = some (.int .u8 0) := by have := K2.out.2.1.cellAt (gd_lt (by rw [HFL.out.2]; exact hM0)); rw [HBR.out] at this; exact this
        have R3 : Hid (RB w2 w2.heap.size (some ⟨g3, 0, none⟩) N ((foursL l).take N)) := Lib.hid (RB.front (j := N) K2.out.1.rb (by omega))
        have k1 := cut_hh g3 M c3 N (by have := K2.out.1.cap; omega)
        have hcc := K2.out.2.1.cap
        have R4' := Lib.hid (K2.out.2.1.rb.part (i := 1) (j := M) (c := c4) (by omega) (Nat.le_refl _) hcc.1)
        have k2 : ∀ W : World, (Instr.slice 25 (.slice (some ⟨g4, 0, none⟩) M c4) (some (.int .i64 1)) none none).run Tryz.prog W = .ok (.slice (cutA (some ⟨g4, 0, none⟩) c4 1) (M - 1) (c4 - 1)) W := cut_l _ M c4 1 (by omega)
        have e1 : M - 1 = N := by have := HMN1.out; omega
        rw [e1] at k2 R4'
        rw [List.take_of_length_le (by rw [HFL.out.2]; omega)] at R4'
        obtain ⟨CB, HCB⟩ : ∃ CB, Hid (CB = cutA (some ⟨g4, 0, none⟩) c4 1) := ⟨_, Lib.hid rfl⟩
        rw [← HCB.out] at k2 R4'
        obtain ⟨cc, hcc2⟩ : ∃ cc, cc = c4 - 1 := ⟨_, rfl⟩
        rw [← hcc2] at k2
        have R4 : Hid (RB w2 w2.heap.size CB N ((foursL r).drop 1)) := R4'
        clear hcc hcc2 e1 HCB R4'
        clear HL HR
        go_wp2_with (first
          | (at_builtin; refine wpList_appFull rfl (.tmp 43) (.tmp 44) rfl w.heap.size _ (some ⟨g3, 0, none⟩) N ((foursL l).take N) rfl (by exact R3.out) (by omega) CB N cc ((foursL r).drop 1) rfl (by exact R4.out) (by omega) (by omega) (by exact K2.out.2.2.size) ?_; intro A5 c5 w5 ho5 hb5; have K5 := Lib.hid (And.intro ho5 (bel_next K2.out.2.2 hb5)); clear ho5 hb5))
        refine (rhvbytes_any A5 (N + N) N c5 _ w5 K5.out.1.rb (by omega) (by omega)).mono ?_
        rintro e w6 ⟨A6, c6, rfl, ho6, hb6⟩
        have K6 := Lib.hid (And.intro (ho6.base_le K5.out.2.size) (bel_next K5.out.2 hb6))
        clear ho6 hb6
        go_wp2_with fail
        go_ret2
        rw [HE.out]
        simp only
        rw [HJL.out, HJ.out]
        exact ⟨A6, c6, rfl, K6.out.1, K6.out.2⟩
      · have hb0 : (badB l N true || badB r N false) = true := by rw [bad_left hodd hl, bad_right hodd, decide_eq_true hbr, Bool.or_true]
        have HE := Lib.hid (joinR_bad h2 h28 hl hr hb0)
        have HBL := Lib.hid hbl
        obtain ⟨y, hy⟩ : ∃ y, gd (foursL r) 0 = y := ⟨_, rfl⟩
        have hy0 : ((y.toNat : Int) != 0) = true := ne_lit (by rw [← hy]; exact hbr)
        have HY := Lib.hid hy
        clear hb0 hbl hbr hl hr hs hM en h k hv hu hy
        go_enter Tryz.func55, Tryz.ntmps55
        go_wp2_with fail
        refine HF.out.mono ?_
        rintro e w0 ⟨rfl, rfl⟩
        go_wp2_with fail
        refine HG.out.mono ?_
        rintro e w0 ⟨rfl, rfl⟩
        go_wp2_with fail
        refine HC.out.mono ?_
        rintro e w1 ⟨A3, c3, rfl, ho1, hb1⟩
        have K1 := Lib.hid (And.intro ho1 hb1)
        clear ho1 hb1
        go_wp2_with fail
        refine (HD.out _ K1.out.2).mono ?_
        rintro e w2 ⟨A4, c4, rfl, ho2, hb2⟩
        have K2 : Hid (OwnB w2 w.heap.size A3 M c3 (foursL l) ∧ OwnB w2 w.heap.size A4 M c4 (foursL r) ∧ Below w.heap.size w w2) := Lib.hid ⟨K1.out.1.below hb2, ho2.base_le K1.out.2.size, bel_next K1.out.2 hb2⟩
        clear ho2 hb2 K1
        obtain ⟨g3, rfl, _, _⟩ := K2.out.1.form hM0
        obtain ⟨g4, rfl, _, _⟩ := K2.out.2.1.form hM0
        have hc3 : w2.cell? ⟨g3, N, none⟩ = some (.int .u8 0) := by have := K2.out.1.cellAt (gd_lt (by rw [HFL.out.1]; exact hNM)); rw [HBL.out] at this; exact this
        have hc4 : w2.cell? ⟨g4, 0, none⟩ = some (.int .u8 (y.toNat : Int)) := by have := K2.out.2.1.cellAt (gd_lt (by rw [HFL.out.2]; exact hM0)); rw [HY.out] at this; exact this
        have HB := Lib.hid K2.out.2.2
        clear K2
        go_wp2_with fail
        go_ret2
        rw [HE.out]
        exact ⟨none, 0, rfl, OwnB.nil_ _ _, HB.out⟩
    · have hb0 : (badB l N true || badB r N false) = true := by rw [bad_left hodd hl, decide_eq_true hbl, Bool.true_or]
      have HE := Lib.hid (joinR_bad h2 h28 hl hr hb0)
      obtain ⟨y, hy⟩ : ∃ y, gd (foursL l) N = y := ⟨_, rfl⟩
      have hy0 : ((y.toNat : Int) != 0) = true := ne_lit (by rw [← hy]; exact hbl)
      have HY := Lib.hid hy
      clear hb0 hbl hl hr hs hM en h k hv hu hy
      go_enter Tryz.func55, Tryz.ntmps55
      go_wp2_with fail
      refine HF.out.mono ?_
      rintro e w0 ⟨rfl, rfl⟩
      go_wp2_with fail
      refine HG.out.mono ?_
      rintro e w0 ⟨rfl, rfl⟩
      go_wp2_with fail
      refine HC.out.mono ?_
      rintro e w1 ⟨A3, c3, rfl, ho1, hb1⟩
      have K1 := Lib.hid (And.intro ho1 hb1)
      clear ho1 hb1
      go_wp2_with fail
      refine (HD.out _ K1.out.2).mono ?_
      rintro e w2 ⟨A4, c4, rfl, ho2, hb2⟩
      have K2 : Hid (OwnB w2 w.heap.size A3 M c3 (foursL l) ∧ OwnB w2 w.heap.size A4 M c4 (foursL r) ∧ Below w.heap.size w w2) := Lib.hid ⟨K1.out.1.below hb2, ho2.base_le K1.out.2.size, bel_next K1.out.2 hb2⟩
      clear ho2 hb2 K1
      obtain ⟨g3, rfl, _, _⟩ := K2.out.1.form hM0
      obtain ⟨g4, rfl, _, _⟩ := K2.out.2.1.form hM0
      have hc3 : w2.cell? ⟨g3, N, none⟩ = some (.int .u8 (y.toNat : Int)) := by have := K2.out.1.cellAt (gd_lt (by rw [HFL.out.1]; exact hNM)); rw [HY.out] at this; exact this
      have HB := Lib.hid K2.out.2.2
      clear K2
      go_wp2_with fail
      go_ret2
      rw [HE.out]
      exact ⟨none, 0, rfl, OwnB.nil_ _ _, HB.out⟩
  · have hmod : ((N : Int) % 2 == 1) = false := by rw [beq_eq_false_iff_ne]; omega
    have hb0 : (badB l N true || badB r N false) = false := by rw [bad_even hodd, bad_even hodd]; rfl
    have HE := Lib.hid (joinR_ok h2 h28 hl hr hb0)
    have HJ := Lib.hid (join_fours2 l r N h2 h28 hl hr hb0)
    rw [show N % 2 = 0 by omega] at HJ
    obtain rfl : N = M := by omega
    have HMN : Hid (N = N) := Lib.hid rfl
    clear hb0 hl hr hs hM en h k hv hu
    go_enter Tryz.func55, Tryz.ntmps55
    go_wp2_with fail
    refine HF.out.mono ?_
    rintro e w0 ⟨rfl, rfl⟩
    go_wp2_with fail
    refine HG.out.mono ?_
    rintro e w0 ⟨rfl, rfl⟩
    go_wp2_with fail
    refine HC.out.mono ?_
    rintro e w1 ⟨A3, c3, rfl, ho1, hb1⟩
    have K1 := Lib.hid (And.intro ho1 hb1)
    clear ho1 hb1
    go_wp2_with fail
    refine (HD.out _ K1.out.2).mono ?_
    rintro e w2 ⟨A4, c4, rfl, ho2, hb2⟩
    have K2 : Hid (OwnB w2 w.heap.size A3 N c3 (foursL l) ∧ OwnB w2 w.heap.size A4 N c4 (foursL r) ∧ Below w.heap.size w w2) := Lib.hid ⟨K1.out.1.below hb2, ho2.base_le K1.out.2.size, bel_next K1.out.2 hb2⟩
    clear ho2 hb2 K1
    obtain ⟨g3, rfl, _, _⟩ := K2.out.1.form hM0
    obtain ⟨g4, rfl, _, _⟩ := K2.out.2.1.form hM0
    have R3 : Hid (RB w2 w2.heap.size (some ⟨g3, 0, none⟩) N ((foursL l).take N)) := Lib.hid (RB.front (j := N) K2.out.1.rb (by omega))
    have k1 := cut_hh g3 N c3 N (by have := K2.out.1.cap; omega)
    have R4 : Hid (RB w2 w2.heap.size (some ⟨g4, 0, none⟩) N ((foursL r).drop 0)) := Lib.hid (by rw [List.drop_zero]; exact K2.out.2.1.rb)
    clear HL HR
    go_wp2_with (first
      | (at_builtin; refine wpList_appFull rfl (.tmp 43) (.tmp 44) rfl w.heap.size _ (some ⟨g3, 0, none⟩) N ((foursL l).take N) rfl (by exact R3.out) (by omega) (some ⟨g4, 0, none⟩) N c4 ((foursL r).drop 0) rfl (by exact R4.out) (by omega) (by omega) (by exact K2.out.2.2.size) ?_; intro A5 c5 w5 ho5 hb5; have K5 := Lib.hid (And.intro ho5 (bel_next K2.out.2.2 hb5)); clear ho5 hb5))
    refine (rhvbytes_any A5 (N + N) N c5 _ w5 K5.out.1.rb (by omega) (by omega)).mono ?_
    rintro e w6 ⟨A6, c6, rfl, ho6, hb6⟩
    have K6 := Lib.hid (And.intro (ho6.base_le K5.out.2.size) (bel_next K5.out.2 hb6))
    clear ho6 hb6
    go_wp2_with fail
    go_ret2
    rw [HE.out]
    simp only
    rw [HJL.out, HJ.out]
    exact ⟨A6, c6, rfl, K6.out.1, K6.out.2⟩
end Go.Proofs.YtfipdaekfdbaeaaGreat
