/- Layer 14's reference Join. Conditions: the slices' cells are readable, lengths are at most a million. -/
import Derived.Test.YtkcchidklcnnnaaGreatHvL
import Derived.Test.YtkcchidklcnnnaaGreatClone
import Derived.Laws.CopyOwn
import Derived.Test.YtkcchidklcnnnaaGreatMapB
import Derived.Great.BuildSlice
namespace Go.Proofs.YtkcchidklcnnnaaGreat
open Go.RowKit
set_option linter.unusedVariables false
set_option linter.unusedSimpArgs false
theorem joinR_no {l r : List UInt8} {z : Int} (h : (fitB z l.length && fitB z r.length) = false) : joinR l r z = ([], 11) := by unfold joinR; rw [h]; rfl
theorem joinR_bad {l r : List UInt8} {n : Nat} (h2 : 2 ≤ n) (h28 : n ≤ 28) (hl : l.length = szN n) (hr : r.length = szN n) (hb : (badB l n true || badB r n false) = true) : joinR l r (n : Int) = ([], 10) := by
  unfold joinR
  rw [hl, hr, fitB_mk h2 h28, Int.toNat_natCast, hb]
  rfl
theorem joinR_ok {l r : List UInt8} {n : Nat} (h2 : 2 ≤ n) (h28 : n ≤ 28) (hl : l.length = szN n) (hr : r.length = szN n) (hb : (badB l n true || badB r n false) = false) : joinR l r (n : Int) = (joinL l r n, 0) := by
  unfold joinR
  rw [hl, hr, fitB_mk h2 h28, Int.toNat_natCast, hb]
  rfl
theorem bad_even {l : List UInt8} {n : Nat} {left : Bool} (h : ¬ n % 2 = 1) : badB l n left = false := by
  unfold badB maskB
  rw [if_pos (show n % 2 = 0 by omega)]
  exact b_all0 _
theorem bad_left {l : List UInt8} {n : Nat} (h : n % 2 = 1) (hl : l.length = szN n) : badB l n true = decide (gd (foursL l) n ≠ 0) := by
  unfold badB maskB edgeN
  rw [if_neg (show ¬ n % 2 = 0 by omega), fours_gd, if_neg (show ¬ n % 2 = 0 by omega)]
  simp only [if_true]
  rw [b_mod0, hl, show szN n - 1 = n / 2 by unfold szN; omega]
theorem bad_right {r : List UInt8} {n : Nat} (h : n % 2 = 1) : badB r n false = decide (gd (foursL r) 0 ≠ 0) := by
  unfold badB maskB edgeN
  rw [if_neg (show ¬ n % 2 = 0 by omega), fours_gd, if_pos (show 0 % 2 = 0 by omega)]
  simp only [Bool.false_eq_true, if_false]
  rw [b_div0]
theorem join_fours2 (l r : List UInt8) (n : Nat) (h2 : 2 ≤ n) (h28 : n ≤ 28) (hl : l.length = szN n) (hr : r.length = szN n) (hb : (badB l n true || badB r n false) = false) :
    joinL l r n = pairsL ((foursL l).take n ++ (foursL r).drop (n % 2)) := by
  rw [Bool.or_eq_false_iff] at hb
  refine join_fours l r n h2 h28 hl hr (fun h => ?_) (fun h => ?_)
  · have h1 := hb.1
    rw [bad_left h hl, fours_gd, if_neg (show ¬ n % 2 = 0 by omega), show n / 2 = szN n - 1 by unfold szN; omega] at h1
    exact Classical.byContradiction fun e => by rw [decide_eq_true e] at h1; cases h1
  · have h1 := hb.2
    rw [bad_right h, fours_gd, if_pos (show 0 % 2 = 0 by omega)] at h1
    exact Classical.byContradiction fun e => by rw [decide_eq_true e] at h1; cases h1
theorem cut_hh (g n c h : Nat) (h2 : h ≤ c) : ∀ W : World, (Instr.slice 40 (.slice (some ⟨g, 0, none⟩) n c) none (some (.int .i64 (h : Int))) (some (.int .i64 (h : Int)))).run Tryz.prog W = .ok (.slice (some ⟨g, 0, none⟩) h h) W := by
  intro W
  simp [Instr.slice, Instr.sliceBounds, Instr.sliceBound, asIntOf, go_sem, run_underlying Tryz.underlying40, h2, Addr.add]
theorem ne_lit {x : UInt8} (h : x ≠ 0) : ((x.toNat : Int) != 0) = true := by
  rw [bne_iff_ne]
  intro e
  exact h (UInt8.toNat_inj.1 (by simp; omega))
attribute [local irreducible] foursL pairsL cutR trimL joinL blockL joinR
set_option maxRecDepth 100000 in
set_option maxHeartbeats 4000000 in
theorem rhjoin_any (A B : Option Addr) (n c m d : Nat) (l r : List UInt8) (z : Int) (w : World) (h : RB w w.heap.size A n l) (k : RB w w.heap.size B m r) (hn : n ≤ 1000000) (hm : m ≤ 1000000) :
    Calls Tryz.prog 70 #[.slice A n c, .slice B m d, .int .i64 z] w (RetBE (joinR l r z).1.length (joinR l r z).1 (joinR l r z).2 w) := by
  have HL := Lib.hid h.len
  have HR := Lib.hid k.len
  cases hv : fitB z n
  · have HE : Hid (joinR l r z = ([], 11)) := Lib.hid (joinR_no (by rw [HL.out, hv]; rfl))
    have HF := Lib.hid (rhfit_any A n c z w false hv)
    clear h hv k
    go_enter Tryz.func70, Tryz.ntmps70
    go_wp2_with fail
    refine HF.out.mono ?_
    rintro e w1 ⟨rfl, rfl⟩
    go_wp2_with fail
    go_ret2
    rw [HE.out]
    exact ⟨none, 0, rfl, OwnB.nil_ _ _, Below.refl _ _⟩
  cases hu : fitB z m
  · have HE : Hid (joinR l r z = ([], 11)) := Lib.hid (joinR_no (by rw [HR.out, hu, Bool.and_false]))
    have HF := Lib.hid (rhfit_any A n c z w true hv)
    have HG := Lib.hid (rhfit_any B m d z w false hu)
    clear h hv k hu
    go_enter Tryz.func70, Tryz.ntmps70
    go_wp2_with fail
    refine HF.out.mono ?_
    rintro e w1 ⟨rfl, rfl⟩
    go_wp2_with fail
    refine HG.out.mono ?_
    rintro e w1 ⟨rfl, rfl⟩
    go_wp2_with fail
    go_ret2
    rw [HE.out]
    exact ⟨none, 0, rfl, OwnB.nil_ _ _, Below.refl _ _⟩
  have HF := Lib.hid (rhfit_any A n c z w true hv)
  have HG := Lib.hid (rhfit_any B m d z w true hu)
  obtain ⟨N, rfl, h2, h28, en⟩ := fitB_nat hv
  obtain rfl : n = m := by
    obtain ⟨N', e, _, _, em⟩ := fitB_nat hu
    have : N = N' := by omega
    subst this
    omega
  have hs : szN N ≤ N ∧ 2 * szN N = N + N % 2 ∧ 0 < szN N := by unfold szN; omega
  have hl : l.length = szN N := by rw [HL.out]; exact en
  have hr : r.length = szN N := by rw [HR.out]; exact en
  obtain ⟨M, hM⟩ : ∃ M, M = 2 * n := ⟨_, rfl⟩
  have HC := Lib.hid (rfours_any A n c l w h hn)
  have HD := Lib.hid (fun (v : World) (hb : Below w.heap.size w v) => rfours_any B n d r v (k.step hb) hn)
  rw [← hM] at HC HD
  have hM28 : M ≤ 28 := by have := szN_le N h28; omega
  have HJL : Hid ((joinL l r N).length = N) := Lib.hid (join_len l r N)
  have HFL : Hid ((foursL l).length = M ∧ (foursL r).length = M) := Lib.hid ⟨by rw [fours_len]; omega, by rw [fours_len]; omega⟩
  have hM0 : 0 < M := by omega
  by_cases hodd : N % 2 = 1
  · have hmod : ((N : Int) % 2 == 1) = true := by rw [beq_iff_eq]; omega
    have hNM : N < M := by omega
    have HMN1 : Hid (M = N + 1) := Lib.hid (by omega)
    by_cases hbl : gd (foursL l) N = 0
    · by_cases hbr : gd (foursL r) 0 = 0
      · have hb0 : (badB l N true || badB r N false) = false := by rw [bad_left hodd hl, bad_right hodd, decide_eq_false (not_not_intro hbl), decide_eq_false (not_not_intro hbr)]; rfl
        have HE := Lib.hid (joinR_ok h2 h28 hl hr hb0)
        have HJ := Lib.hid (join_fours2 l r N h2 h28 hl hr hb0)
        rw [hodd] at HJ
        have HBL := Lib.hid hbl
        have HBR := Lib.hid hbr
        clear hb0 hbl hbr hl hr hs hM en h k hv hu
        go_enter Tryz.func70, Tryz.ntmps70
        go_wp2_with fail
        refine HF.out.mono ?_
        rintro e w0 ⟨rfl, rfl⟩
        go_wp2_with fail
        refine HG.out.mono ?_
        rintro e w0 ⟨rfl, rfl⟩
        go_wp2_with fail
        refine HC.out.mono ?_
        rintro e w1 ⟨A3, c3, rfl, ho1, hb1⟩
        have K1 := Lib.hid (And.intro ho1 hb1)
        clear ho1 hb1
        go_wp2_with fail
        refine (HD.out _ K1.out.2).mono ?_
        rintro e w2 ⟨A4, c4, rfl, ho2, hb2⟩
        have K2 : Hid (OwnB w2 w.heap.size A3 M c3 (foursL l) ∧ OwnB w2 w.heap.size A4 M c4 (foursL r) ∧ Below w.heap.size w w2) := Lib.hid ⟨K1.out.1.below hb2, ho2.base_le K1.out.2.size, bel_next K1.out.2 hb2⟩
        clear ho2 hb2 K1
        obtain ⟨g3, rfl, _, _⟩ := K2.out.1.form hM0
        obtain ⟨g4, rfl, _, _⟩ := K2.out.2.1.form hM0
        have hc3 : w2.cell? ⟨g3, N, none⟩ = some (.int .u8 0) := by have := K2.out.1.cellAt (gd_lt (by rw [HFL.out.1]; exact hNM)); rw [HBL.out] at this; exact this
        have hc4 : w2.cell? ⟨g4, 0, none⟩ = some (.int .u8 0) := by have := K2.out.2.1.cellAt (gd_lt (by rw [HFL.out.2]; exact hM0)); rw [HBR.out] at this; exact this
        have R3 : Hid (RB w2 w2.heap.size (some ⟨g3, 0, none⟩) N ((foursL l).take N)) := Lib.hid (RB.front (j := N) K2.out.1.rb (by omega))
        have k1 := cut_hh g3 M c3 N (by have := K2.out.1.cap; omega)
        have hcc := K2.out.2.1.cap
        have R4' := Lib.hid (K2.out.2.1.rb.part (i := 1) (j := M) (c := c4) (by omega) (Nat.le_refl _) hcc.1)
        have k2 : ∀ W : World, (Instr.slice 40 (.slice (some ⟨g4, 0, none⟩) M c4) (some (.int .i64 1)) none none).run Tryz.prog W = .ok (.slice (cutA (some ⟨g4, 0, none⟩) c4 1) (M - 1) (c4 - 1)) W := cut_l _ M c4 1 (by omega)
        have e1 : M - 1 = N := by have := HMN1.out; omega
        rw [e1] at k2 R4'
        rw [List.take_of_length_le (by rw [HFL.out.2]; omega)] at R4'
        obtain ⟨CB, HCB⟩ : ∃ CB, Hid (CB = cutA (some ⟨g4, 0, none⟩) c4 1) := ⟨_, Lib.hid rfl⟩
        rw [← HCB.out] at k2 R4'
        obtain ⟨cc, hcc2⟩ : ∃ cc, cc = c4 - 1 := ⟨_, rfl⟩
        rw [← hcc2] at k2
        have R4 : Hid (RB w2 w2.heap.size CB N ((foursL r).drop 1)) := R4'
        clear hcc hcc2 e1 HCB R4'
        clear HL HR
        go_wp2_with (first
          | (at_builtin; refine wpList_appFull rfl (.tmp 43) (.tmp 44) rfl w.heap.size _ (some ⟨g3, 0, none⟩) N ((foursL l).take N) rfl (by exact R3.out) (by omega) CB N cc ((foursL r).drop 1) rfl (by exact R4.out) (by omega) (by omega) (by exact K2.out.2.2.size) ?_; intro A5 c5 w5 ho5 hb5; have K5 := Lib.hid (And.intro ho5 (bel_next K2.out.2.2 hb5)); clear ho5 hb5))
        refine (rhvbytes_any A5 (N + N) N c5 _ w5 K5.out.1.rb (by omega) (by omega)).mono ?_
        rintro e w6 ⟨A6, c6, rfl, ho6, hb6⟩
        have K6 := Lib.hid (And.intro (ho6.base_le K5.out.2.size) (bel_next K5.out.2 hb6))
        clear ho6 hb6
        go_wp2_with fail
        go_ret2
        rw [HE.out]
        simp only
        rw [HJL.out, HJ.out]
        exact ⟨A6, c6, rfl, K6.out.1, K6.out.2⟩
      · have hb0 : (badB l N true || badB r N false) = true := by rw [bad_left hodd hl, bad_right hodd, decide_eq_true hbr, Bool.or_true]
        have HE := Lib.hid (joinR_bad h2 h28 hl hr hb0)
        have HBL := Lib.hid hbl
        obtain ⟨y, hy⟩ : ∃ y, gd (foursL r) 0 = y := ⟨_, rfl⟩
        have hy0 : ((y.toNat : Int) != 0) = true := ne_lit (by rw [← hy]; exact hbr)
        have HY := Lib.hid hy
        clear hb0 hbl hbr hl hr hs hM en h k hv hu hy
        go_enter Tryz.func70, Tryz.ntmps70
        go_wp2_with fail
        refine HF.out.mono ?_
        rintro e w0 ⟨rfl, rfl⟩
        go_wp2_with fail
        refine HG.out.mono ?_
        rintro e w0 ⟨rfl, rfl⟩
        go_wp2_with fail
        refine HC.out.mono ?_
        rintro e w1 ⟨A3, c3, rfl, ho1, hb1⟩
        have K1 := Lib.hid (And.intro ho1 hb1)
        clear ho1 hb1
        go_wp2_with fail
        refine (HD.out _ K1.out.2).mono ?_
        rintro e w2 ⟨A4, c4, rfl, ho2, hb2⟩
        have K2 : Hid (OwnB w2 w.heap.size A3 M c3 (foursL l) ∧ OwnB w2 w.heap.size A4 M c4 (foursL r) ∧ Below w.heap.size w w2) := Lib.hid ⟨K1.out.1.below hb2, ho2.base_le K1.out.2.size, bel_next K1.out.2 hb2⟩
        clear ho2 hb2 K1
        obtain ⟨g3, rfl, _, _⟩ := K2.out.1.form hM0
        obtain ⟨g4, rfl, _, _⟩ := K2.out.2.1.form hM0
        have hc3 : w2.cell? ⟨g3, N, none⟩ = some (.int .u8 0) := by have := K2.out.1.cellAt (gd_lt (by rw [HFL.out.1]; exact hNM)); rw [HBL.out] at this; exact this
        have hc4 : w2.cell? ⟨g4, 0, none⟩ = some (.int .u8 (y.toNat : Int)) := by have := K2.out.2.1.cellAt (gd_lt (by rw [HFL.out.2]; exact hM0)); rw [HY.out] at this; exact this
        have HB := Lib.hid K2.out.2.2
        clear K2
        go_wp2_with fail
        go_ret2
        rw [HE.out]
        exact ⟨none, 0, rfl, OwnB.nil_ _ _, HB.out⟩
    · have hb0 : (badB l N true || badB r N false) = true := by rw [bad_left hodd hl, decide_eq_true hbl, Bool.true_or]
      have HE := Lib.hid (joinR_bad h2 h28 hl hr hb0)
      obtain ⟨y, hy⟩ : ∃ y, gd (foursL l) N = y := ⟨_, rfl⟩
      have hy0 : ((y.toNat : Int) != 0) = true := ne_lit (by rw [← hy]; exact hbl)
      have HY := Lib.hid hy
      clear hb0 hbl hl hr hs hM en h k hv hu hy
      go_enter Tryz.func70, Tryz.ntmps70
      go_wp2_with fail
      refine HF.out.mono ?_
      rintro e w0 ⟨rfl, rfl⟩
      go_wp2_with fail
      refine HG.out.mono ?_
      rintro e w0 ⟨rfl, rfl⟩
      go_wp2_with fail
      refine HC.out.mono ?_
      rintro e w1 ⟨A3, c3, rfl, ho1, hb1⟩
      have K1 := Lib.hid (And.intro ho1 hb1)
      clear ho1 hb1
      go_wp2_with fail
      refine (HD.out _ K1.out.2).mono ?_
      rintro e w2 ⟨A4, c4, rfl, ho2, hb2⟩
      have K2 : Hid (OwnB w2 w.heap.size A3 M c3 (foursL l) ∧ OwnB w2 w.heap.size A4 M c4 (foursL r) ∧ Below w.heap.size w w2) := Lib.hid ⟨K1.out.1.below hb2, ho2.base_le K1.out.2.size, bel_next K1.out.2 hb2⟩
      clear ho2 hb2 K1
      obtain ⟨g3, rfl, _, _⟩ := K2.out.1.form hM0
      obtain ⟨g4, rfl, _, _⟩ := K2.out.2.1.form hM0
      have hc3 : w2.cell? ⟨g3, N, none⟩ = some (.int .u8 (y.toNat : Int)) := by have := K2.out.1.cellAt (gd_lt (by rw [HFL.out.1]; exact hNM)); rw [HY.out] at this; exact this
      have HB := Lib.hid K2.out.2.2
      clear K2
      go_wp2_with fail
      go_ret2
      rw [HE.out]
      exact ⟨none, 0, rfl, OwnB.nil_ _ _, HB.out⟩
  · have hmod : ((N : Int) % 2 == 1) = false := by rw [beq_eq_false_iff_ne]; omega
    have hb0 : (badB l N true || badB r N false) = false := by rw [bad_even hodd, bad_even hodd]; rfl
    have HE := Lib.hid (joinR_ok h2 h28 hl hr hb0)
    have HJ := Lib.hid (join_fours2 l r N h2 h28 hl hr hb0)
    rw [show N % 2 = 0 by omega] at HJ
    obtain rfl : N = M := by omega
    have HMN : Hid (N = N) := Lib.hid rfl
    clear hb0 hl hr hs hM en h k hv hu
    go_enter Tryz.func70, Tryz.ntmps70
    go_wp2_with fail
    refine HF.out.mono ?_
    rintro e w0 ⟨rfl, rfl⟩
    go_wp2_with fail
    refine HG.out.mono ?_
    rintro e w0 ⟨rfl, rfl⟩
    go_wp2_with fail
    refine HC.out.mono ?_
    rintro e w1 ⟨A3, c3, rfl, ho1, hb1⟩
    have K1 := Lib.hid (And.intro ho1 hb1)
    clear ho1 hb1
    go_wp2_with fail
    refine (HD.out _ K1.out.2).mono ?_
    rintro e w2 ⟨A4, c4, rfl, ho2, hb2⟩
    have K2 : Hid (OwnB w2 w.heap.size A3 N c3 (foursL l) ∧ OwnB w2 w.heap.size A4 N c4 (foursL r) ∧ Below w.heap.size w w2) := Lib.hid ⟨K1.out.1.below hb2, ho2.base_le K1.out.2.size, bel_next K1.out.2 hb2⟩
    clear ho2 hb2 K1
    obtain ⟨g3, rfl, _, _⟩ := K2.out.1.form hM0
    obtain ⟨g4, rfl, _, _⟩ := K2.out.2.1.form hM0
    have R3 : Hid (RB w2 w2.heap.size (some ⟨g3, 0, none⟩) N ((foursL l).take N)) := Lib.hid (RB.front (j := N) K2.out.1.rb (by omega))
    have k1 := cut_hh g3 N c3 N (by have := K2.out.1.cap; omega)
    have R4 : Hid (RB w2 w2.heap.size (some ⟨g4, 0, none⟩) N ((foursL r).drop 0)) := Lib.hid (by rw [List.drop_zero]; exact K2.out.2.1.rb)
    clear HL HR
    go_wp2_with (first
      | (at_builtin; refine wpList_appFull rfl (.tmp 43) (.tmp 44) rfl w.heap.size _ (some ⟨g3, 0, none⟩) N ((foursL l).take N) rfl (by exact R3.out) (by omega) (some ⟨g4, 0, none⟩) N c4 ((foursL r).drop 0) rfl (by exact R4.out) (by omega) (by omega) (by exact K2.out.2.2.size) ?_; intro A5 c5 w5 ho5 hb5; have K5 := Lib.hid (And.intro ho5 (bel_next K2.out.2.2 hb5)); clear ho5 hb5))
    refine (rhvbytes_any A5 (N + N) N c5 _ w5 K5.out.1.rb (by omega) (by omega)).mono ?_
    rintro e w6 ⟨A6, c6, rfl, ho6, hb6⟩
    have K6 := Lib.hid (And.intro (ho6.base_le K5.out.2.size) (bel_next K5.out.2 hb6))
    clear ho6 hb6
    go_wp2_with fail
    go_ret2
    rw [HE.out]
    simp only
    rw [HJL.out, HJ.out]
    exact ⟨A6, c6, rfl, K6.out.1, K6.out.2⟩
end Go.Proofs.YtkcchidklcnnnaaGreat

/- Layer 14's place, trim, Trim, Cut, Block. Conditions: the slices' cells are readable, lengths are at most a million. -/
namespace Go.Proofs.YtkcchidklcnnnaaGreat
open Go.RowKit
set_option linter.unusedVariables false
set_option linter.unusedSimpArgs false
/-- copy of bytes to the beginning of a row of the call's own. -/
theorem wpList_cpB {w : World} {ops : Array Oper} {rest : List Oper} {o : Oper} {a : Act} {Q : Exit → Act → World → Prop} (hgd : o.guard = none) (d s : Operand)
    (ho : o.op = .call { callee := .builtin .copy, args := #[d, s], argTypes := #[40, 40] })
    (base g m c : Nat) (L : List UInt8) (hd : a.eval d = .slice (some ⟨g, 0, none⟩) m c) (hown : OwnB w base (some ⟨g, 0, none⟩) m c L)
    (B : Nat) (A : Option Addr) (n c' : Nat) (l : List UInt8) (hs : a.eval s = .slice A n c') (hr : RB w B A n l) (hnm : n ≤ m)
    (h : ∀ w', OwnB w' base (some ⟨g, 0, none⟩) m c (l ++ L.drop n) → Below base w w' → wpList Tryz.prog ops Q rest (a.put o.dst (.int .i64 (n : Int))) w') : wpList Tryz.prog ops Q (o :: rest) a w := by
  rcases hown.2 with ⟨hv, _⟩ | ⟨g', cap, cur, hv, hbg, hh, hnc, hcm, hsz, htk⟩
  · cases hv
  · injection hv with e1 e2 e3
    injection e1 with e1
    injection e1 with e1
    subst e1
    subst e3
    have hll := hr.len
    have hLL := hown.len
    have hcur : cur.toList.length = c := by rw [Array.length_toList, hsz, Nat.mul_one]
    rw [Nat.mul_one] at htk
    refine wpList_copy_splice hgd d s 40 40 ho 5 Tryz.underlying40 (by kernel_rfl) _ A m c n c' hd hs g 0 cur.toList 5 (by rw [Array.toArray_toList]; exact hh) (bvs l) (by rw [bvs_length, hll]; exact (Nat.min_eq_left hnm).symm) (fun h0 => ?_) (by rw [bvs_length, hll, hcur]; omega) (bvs_one l) base w (Below.refl _ _) hbg ?_
    · rw [bvs_length, hll] at h0
      obtain ⟨b, off, rfl, _, hcell⟩ := hr.2 h0
      refine ⟨rfl, _, rfl, fun j u hu => ?_⟩
      have hj : j < l.length := by
        have := (List.getElem?_eq_some_iff.1 hu).1
        rwa [bvs_length] at this
      rw [Addr.add_lit, hcell j hj, ← hu]
      simp [bvs, hj]
    · intro w' hg hb
      have e : goInt (bvs l).length = .int .i64 (n : Int) := by rw [bvs_length, hll]; rfl
      rw [e]
      refine h w' ⟨by rw [bvs_length, List.length_append, List.length_drop, hll, hLL]; omega, .inr ⟨g, c, _, rfl, hbg, hg.out, hnc, hcm, ?_, ?_⟩⟩ hb
      · rw [List.size_toArray, length_splice _ _ _ (by rw [bvs_length, hll, hcur]; omega), hcur, Nat.mul_one]
      · rw [Nat.mul_one]
        show List.take m (splice cur.toList 0 (bvs l)) = _
        unfold splice
        rw [List.take_zero, List.nil_append, Nat.zero_add, bvs_length, hll, bvs_append]
        rw [List.take_append, bvs_length, hll, List.take_of_length_le (by rw [bvs_length, hll]; exact hnm)]
        congr 1
        have : bvs (L.drop n) = (bvs L).drop n := by simp [bvs, List.map_drop]
        rw [this, ← htk, List.drop_take]
/-- A side: where its half lies; where the half begins in the text; where it has the byte that both halves contain; the bits that are its own. -/
def sdC (A : Option Addr) (n c a e : Nat) (m : UInt8) : List Value := [.slice A n c, .int .i64 (a : Int), .int .i64 (e : Int), .int .u8 (m.toNat : Int)]
theorem sd_ones (A : Option Addr) (n c a e : Nat) (m : UInt8) : ones (sdC A n c a e m) := by
  intro v hv
  simp only [sdC, List.mem_cons, List.not_mem_nil, or_false] at hv
  rcases hv with rfl | rfl | rfl | rfl <;> rfl
theorem rt_side : RT 170 [.slice none 0 0, .int .i64 0, .int .i64 0, .int .u8 0] := ⟨row_of (by kernel_rfl), by kernel_rfl⟩
attribute [local irreducible] foursL pairsL cutR trimL joinL blockL joinR

set_option maxRecDepth 100000 in
set_option maxHeartbeats 4000000 in
theorem hplace_any (A : Option Addr) (n c N : Nat) (left : Bool) (w : World) (h2 : 2 ≤ N) (h28 : N ≤ 28) (hn : n = szN N) :
    Calls Tryz.prog 118 #[.slice A n c, .int .i64 (N : Int), .bool left] w fun e w' => e = .returned (.agg (sdC A n c (if left then 0 else N - n) (edgeN n left) (maskB N left)).toArray) ∧ Below w.heap.size w w' := by
  have hs : szN N ≤ N ∧ 2 * szN N = N + N % 2 ∧ 0 < szN N := by unfold szN; omega
  obtain ⟨d, hd⟩ : ∃ d, d = N - n := ⟨_, rfl⟩
  have hsub : (N : Int) - (n : Int) = (d : Int) := by omega
  obtain ⟨f, hf⟩ : ∃ f, f = n - 1 := ⟨_, rfl⟩
  have hsub1 : (n : Int) - 1 = (f : Int) := by omega
  have hn14 : n ≤ 28 := by omega
  by_cases hodd : N % 2 = 0
  · cases left
    · skip
      have hmod : ((N : Int) % 2 == 0) = true := by rw [beq_iff_eq]; omega
      have HE : Hid (sdC A n c (if false = true then 0 else N - n) (edgeN n false) (maskB N false) = [.slice A n c, .int .i64 (d : Int), .int .i64 0, .int .u8 255]) := Lib.hid (by unfold sdC edgeN maskB; rw [← hd]; simp only [hodd, hf, if_true, if_false, Bool.false_eq_true]; rfl)
      rw [HE.out]
      clear hs hn hd hf hodd HE
      go_enter Tryz.func118, Tryz.ntmps118
      go_wp2_with (first
        | (with_reducible show wpList _ _ _ (⟨some 6, .alloc _, _, _, _, none⟩ :: _) _ _; refine wpList_newB rt_side rfl rfl ?_; intro w1 q6 hc1 hb1 hx1; have K1 := Lib.hid (And.intro hc1 (And.intro hb1 hx1)); clear hc1 hb1 hx1)
        | (with_reducible show wpList _ _ _ (⟨some 7, .alloc _, _, _, _, none⟩ :: _) _ _; refine wpList_newB rt_side rfl rfl ?_; intro w2 q7 hc1 hb1 hx1; have K2 := Lib.hid (And.intro hc1 (And.intro hb1 hx1)); clear hc1 hb1 hx1)
        | (refine wpList_stB rt_side rfl (.tmp 7) (.tmp 13) rfl q7 0 rfl _ (sdC A n c d 0 15) rfl (sd_ones _ _ _ _ _ _) rfl (by exact K2.out.1) (by decide) ?_; intro w3 hc1 ho1 hs1; have K3 : Hid (Blk 170 w3 q7 (sdC A n c d 0 15)) := Lib.hid hc1; have O3 : Hid (Oth [q7] w2 w3) := Lib.hid ho1; clear hc1 ho1 hs1)
        | (refine wpList_stC (ty := 5) (by kernel_rfl) rfl (.tmp 24) (.const (.int .u8 255)) rfl q7 3 rfl (.int .u8 255) rfl rfl _ (by exact K3.out) (by show _ < 4; decide) ?_; intro w4 hc1 ho1 hs1; have K4 : Hid (Blk 170 w4 q7 [.slice A n c, .int .i64 (d : Int), .int .i64 0, .int .u8 255]) := Lib.hid hc1; have O4 : Hid (Oth [q7] w2 w4) := Lib.hid (O3.out.trans ho1); clear hc1 ho1 hs1)
        | (refine wpList_ldB rt_side rfl (.tmp 7) rfl q7 0 rfl _ [.slice A n c, .int .i64 (d : Int), .int .i64 0, .int .u8 255] (by exact K4.out) rfl rfl ?_; have Q6 : Hid (Blk 170 w4 q6 [.slice none 0 0, .int .i64 0, .int .i64 0, .int .u8 0]) := Lib.hid ((K1.out.1.step K2.out.2.1).oth O4.out (by have := K1.out.1.lt; have := K2.out.2.2; simp; omega)))
        | (refine wpList_stB rt_side rfl (.tmp 6) (.tmp 25) rfl q6 0 rfl _ [.slice A n c, .int .i64 (d : Int), .int .i64 0, .int .u8 255] rfl (by intro v hv; simp only [List.mem_cons, List.not_mem_nil, or_false] at hv; rcases hv with rfl | rfl | rfl | rfl <;> rfl) rfl (by exact Q6.out) (by decide) ?_; intro w9 hc1 ho1 hs1))
      have B5 : Hid (Below w.heap.size w w9) := Lib.hid ((K1.out.2.1.trans ((K2.out.2.1.trans (O4.out.below (fun j hj => by rw [List.mem_singleton.1 hj]; exact K2.out.2.2) K2.out.2.1.size)).mono K1.out.2.1.size)).trans (ho1.below (fun j hj => by rw [List.mem_singleton.1 hj]; exact K1.out.2.2) (by have := K1.out.2.1.size; have := K2.out.2.1.size; have := O4.out.size; omega)))
      exact bodyPost_ret (v := .agg #[.slice A n c, .int .i64 (d : Int), .int .i64 0, .int .u8 255]) (res_rec rt_side rfl _ _ q6 [.slice A n c, .int .i64 (d : Int), .int .i64 0, .int .u8 255] rfl hc1 rfl) rfl ⟨rfl, B5.out⟩
    · skip
      have hmod : ((N : Int) % 2 == 0) = true := by rw [beq_iff_eq]; omega
      have HE : Hid (sdC A n c (if true = true then 0 else N - n) (edgeN n true) (maskB N true) = [.slice A n c, .int .i64 0, .int .i64 (f : Int), .int .u8 255]) := Lib.hid (by unfold sdC edgeN maskB; rw [← hd]; simp only [hodd, hf, if_true, if_false, Bool.false_eq_true]; rfl)
      rw [HE.out]
      clear hs hn hd hf hodd HE
      go_enter Tryz.func118, Tryz.ntmps118
      go_wp2_with (first
        | (with_reducible show wpList _ _ _ (⟨some 6, .alloc _, _, _, _, none⟩ :: _) _ _; refine wpList_newB rt_side rfl rfl ?_; intro w1 q6 hc1 hb1 hx1; have K1 := Lib.hid (And.intro hc1 (And.intro hb1 hx1)); clear hc1 hb1 hx1)
        | (with_reducible show wpList _ _ _ (⟨some 7, .alloc _, _, _, _, none⟩ :: _) _ _; refine wpList_newB rt_side rfl rfl ?_; intro w2 q7 hc1 hb1 hx1; have K2 := Lib.hid (And.intro hc1 (And.intro hb1 hx1)); clear hc1 hb1 hx1)
        | (refine wpList_stB rt_side rfl (.tmp 7) (.tmp 13) rfl q7 0 rfl _ (sdC A n c d 0 15) rfl (sd_ones _ _ _ _ _ _) rfl (by exact K2.out.1) (by decide) ?_; intro w3 hc1 ho1 hs1; have K3 : Hid (Blk 170 w3 q7 (sdC A n c d 0 15)) := Lib.hid hc1; have O3 : Hid (Oth [q7] w2 w3) := Lib.hid ho1; clear hc1 ho1 hs1)
        | (refine wpList_stC (ty := 3) (by kernel_rfl) rfl (.tmp 18) (.const (.int .i64 0)) rfl q7 1 rfl (.int .i64 0) rfl rfl _ (by exact K3.out) (by show _ < 4; decide) ?_; intro w4 hc1 ho1 hs1; have K4 : Hid (Blk 170 w4 q7 [.slice A n c, .int .i64 0, .int .i64 0, .int .u8 15]) := Lib.hid hc1; have O4 : Hid (Oth [q7] w2 w4) := Lib.hid (O3.out.trans ho1); clear hc1 ho1 hs1)
        | (refine wpList_stC (ty := 3) (by kernel_rfl) rfl (.tmp 19) (.tmp 17) rfl q7 2 rfl (.int .i64 (f : Int)) rfl rfl _ (by exact K4.out) (by show _ < 4; decide) ?_; intro w5 hc1 ho1 hs1; have K5 : Hid (Blk 170 w5 q7 [.slice A n c, .int .i64 0, .int .i64 (f : Int), .int .u8 15]) := Lib.hid hc1; have O5 : Hid (Oth [q7] w2 w5) := Lib.hid (O4.out.trans ho1); clear hc1 ho1 hs1)
        | (refine wpList_stC (ty := 5) (by kernel_rfl) rfl (.tmp 20) (.const (.int .u8 240)) rfl q7 3 rfl (.int .u8 240) rfl rfl _ (by exact K5.out) (by show _ < 4; decide) ?_; intro w6 hc1 ho1 hs1; have K6 : Hid (Blk 170 w6 q7 [.slice A n c, .int .i64 0, .int .i64 (f : Int), .int .u8 240]) := Lib.hid hc1; have O6 : Hid (Oth [q7] w2 w6) := Lib.hid (O5.out.trans ho1); clear hc1 ho1 hs1)
        | (refine wpList_stC (ty := 5) (by kernel_rfl) rfl (.tmp 24) (.const (.int .u8 255)) rfl q7 3 rfl (.int .u8 255) rfl rfl _ (by exact K6.out) (by show _ < 4; decide) ?_; intro w7 hc1 ho1 hs1; have K7 : Hid (Blk 170 w7 q7 [.slice A n c, .int .i64 0, .int .i64 (f : Int), .int .u8 255]) := Lib.hid hc1; have O7 : Hid (Oth [q7] w2 w7) := Lib.hid (O6.out.trans ho1); clear hc1 ho1 hs1)
        | (refine wpList_ldB rt_side rfl (.tmp 7) rfl q7 0 rfl _ [.slice A n c, .int .i64 0, .int .i64 (f : Int), .int .u8 255] (by exact K7.out) rfl rfl ?_; have Q6 : Hid (Blk 170 w7 q6 [.slice none 0 0, .int .i64 0, .int .i64 0, .int .u8 0]) := Lib.hid ((K1.out.1.step K2.out.2.1).oth O7.out (by have := K1.out.1.lt; have := K2.out.2.2; simp; omega)))
        | (refine wpList_stB rt_side rfl (.tmp 6) (.tmp 25) rfl q6 0 rfl _ [.slice A n c, .int .i64 0, .int .i64 (f : Int), .int .u8 255] rfl (by intro v hv; simp only [List.mem_cons, List.not_mem_nil, or_false] at hv; rcases hv with rfl | rfl | rfl | rfl <;> rfl) rfl (by exact Q6.out) (by decide) ?_; intro w9 hc1 ho1 hs1))
      have B5 : Hid (Below w.heap.size w w9) := Lib.hid ((K1.out.2.1.trans ((K2.out.2.1.trans (O7.out.below (fun j hj => by rw [List.mem_singleton.1 hj]; exact K2.out.2.2) K2.out.2.1.size)).mono K1.out.2.1.size)).trans (ho1.below (fun j hj => by rw [List.mem_singleton.1 hj]; exact K1.out.2.2) (by have := K1.out.2.1.size; have := K2.out.2.1.size; have := O7.out.size; omega)))
      exact bodyPost_ret (v := .agg #[.slice A n c, .int .i64 0, .int .i64 (f : Int), .int .u8 255]) (res_rec rt_side rfl _ _ q6 [.slice A n c, .int .i64 0, .int .i64 (f : Int), .int .u8 255] rfl hc1 rfl) rfl ⟨rfl, B5.out⟩
  · cases left
    · skip
      have hmod : ((N : Int) % 2 == 0) = false := by rw [beq_eq_false_iff_ne]; omega
      have HE : Hid (sdC A n c (if false = true then 0 else N - n) (edgeN n false) (maskB N false) = [.slice A n c, .int .i64 (d : Int), .int .i64 0, .int .u8 15]) := Lib.hid (by unfold sdC edgeN maskB; rw [← hd]; simp only [hodd, hf, if_true, if_false, Bool.false_eq_true]; rfl)
      rw [HE.out]
      clear hs hn hd hf hodd HE
      go_enter Tryz.func118, Tryz.ntmps118
      go_wp2_with (first
        | (with_reducible show wpList _ _ _ (⟨some 6, .alloc _, _, _, _, none⟩ :: _) _ _; refine wpList_newB rt_side rfl rfl ?_; intro w1 q6 hc1 hb1 hx1; have K1 := Lib.hid (And.intro hc1 (And.intro hb1 hx1)); clear hc1 hb1 hx1)
        | (with_reducible show wpList _ _ _ (⟨some 7, .alloc _, _, _, _, none⟩ :: _) _ _; refine wpList_newB rt_side rfl rfl ?_; intro w2 q7 hc1 hb1 hx1; have K2 := Lib.hid (And.intro hc1 (And.intro hb1 hx1)); clear hc1 hb1 hx1)
        | (refine wpList_stB rt_side rfl (.tmp 7) (.tmp 13) rfl q7 0 rfl _ (sdC A n c d 0 15) rfl (sd_ones _ _ _ _ _ _) rfl (by exact K2.out.1) (by decide) ?_; intro w3 hc1 ho1 hs1; have K3 : Hid (Blk 170 w3 q7 (sdC A n c d 0 15)) := Lib.hid hc1; have O3 : Hid (Oth [q7] w2 w3) := Lib.hid ho1; clear hc1 ho1 hs1)
        | (refine wpList_ldB rt_side rfl (.tmp 7) rfl q7 0 rfl _ [.slice A n c, .int .i64 (d : Int), .int .i64 0, .int .u8 15] (by exact K3.out) rfl rfl ?_; have Q6 : Hid (Blk 170 w3 q6 [.slice none 0 0, .int .i64 0, .int .i64 0, .int .u8 0]) := Lib.hid ((K1.out.1.step K2.out.2.1).oth O3.out (by have := K1.out.1.lt; have := K2.out.2.2; simp; omega)))
        | (refine wpList_stB rt_side rfl (.tmp 6) (.tmp 25) rfl q6 0 rfl _ [.slice A n c, .int .i64 (d : Int), .int .i64 0, .int .u8 15] rfl (by intro v hv; simp only [List.mem_cons, List.not_mem_nil, or_false] at hv; rcases hv with rfl | rfl | rfl | rfl <;> rfl) rfl (by exact Q6.out) (by decide) ?_; intro w9 hc1 ho1 hs1))
      have B5 : Hid (Below w.heap.size w w9) := Lib.hid ((K1.out.2.1.trans ((K2.out.2.1.trans (O3.out.below (fun j hj => by rw [List.mem_singleton.1 hj]; exact K2.out.2.2) K2.out.2.1.size)).mono K1.out.2.1.size)).trans (ho1.below (fun j hj => by rw [List.mem_singleton.1 hj]; exact K1.out.2.2) (by have := K1.out.2.1.size; have := K2.out.2.1.size; have := O3.out.size; omega)))
      exact bodyPost_ret (v := .agg #[.slice A n c, .int .i64 (d : Int), .int .i64 0, .int .u8 15]) (res_rec rt_side rfl _ _ q6 [.slice A n c, .int .i64 (d : Int), .int .i64 0, .int .u8 15] rfl hc1 rfl) rfl ⟨rfl, B5.out⟩
    · skip
      have hmod : ((N : Int) % 2 == 0) = false := by rw [beq_eq_false_iff_ne]; omega
      have HE : Hid (sdC A n c (if true = true then 0 else N - n) (edgeN n true) (maskB N true) = [.slice A n c, .int .i64 0, .int .i64 (f : Int), .int .u8 240]) := Lib.hid (by unfold sdC edgeN maskB; rw [← hd]; simp only [hodd, hf, if_true, if_false, Bool.false_eq_true]; rfl)
      rw [HE.out]
      clear hs hn hd hf hodd HE
      go_enter Tryz.func118, Tryz.ntmps118
      go_wp2_with (first
        | (with_reducible show wpList _ _ _ (⟨some 6, .alloc _, _, _, _, none⟩ :: _) _ _; refine wpList_newB rt_side rfl rfl ?_; intro w1 q6 hc1 hb1 hx1; have K1 := Lib.hid (And.intro hc1 (And.intro hb1 hx1)); clear hc1 hb1 hx1)
        | (with_reducible show wpList _ _ _ (⟨some 7, .alloc _, _, _, _, none⟩ :: _) _ _; refine wpList_newB rt_side rfl rfl ?_; intro w2 q7 hc1 hb1 hx1; have K2 := Lib.hid (And.intro hc1 (And.intro hb1 hx1)); clear hc1 hb1 hx1)
        | (refine wpList_stB rt_side rfl (.tmp 7) (.tmp 13) rfl q7 0 rfl _ (sdC A n c d 0 15) rfl (sd_ones _ _ _ _ _ _) rfl (by exact K2.out.1) (by decide) ?_; intro w3 hc1 ho1 hs1; have K3 : Hid (Blk 170 w3 q7 (sdC A n c d 0 15)) := Lib.hid hc1; have O3 : Hid (Oth [q7] w2 w3) := Lib.hid ho1; clear hc1 ho1 hs1)
        | (refine wpList_stC (ty := 3) (by kernel_rfl) rfl (.tmp 18) (.const (.int .i64 0)) rfl q7 1 rfl (.int .i64 0) rfl rfl _ (by exact K3.out) (by show _ < 4; decide) ?_; intro w4 hc1 ho1 hs1; have K4 : Hid (Blk 170 w4 q7 [.slice A n c, .int .i64 0, .int .i64 0, .int .u8 15]) := Lib.hid hc1; have O4 : Hid (Oth [q7] w2 w4) := Lib.hid (O3.out.trans ho1); clear hc1 ho1 hs1)
        | (refine wpList_stC (ty := 3) (by kernel_rfl) rfl (.tmp 19) (.tmp 17) rfl q7 2 rfl (.int .i64 (f : Int)) rfl rfl _ (by exact K4.out) (by show _ < 4; decide) ?_; intro w5 hc1 ho1 hs1; have K5 : Hid (Blk 170 w5 q7 [.slice A n c, .int .i64 0, .int .i64 (f : Int), .int .u8 15]) := Lib.hid hc1; have O5 : Hid (Oth [q7] w2 w5) := Lib.hid (O4.out.trans ho1); clear hc1 ho1 hs1)
        | (refine wpList_stC (ty := 5) (by kernel_rfl) rfl (.tmp 20) (.const (.int .u8 240)) rfl q7 3 rfl (.int .u8 240) rfl rfl _ (by exact K5.out) (by show _ < 4; decide) ?_; intro w6 hc1 ho1 hs1; have K6 : Hid (Blk 170 w6 q7 [.slice A n c, .int .i64 0, .int .i64 (f : Int), .int .u8 240]) := Lib.hid hc1; have O6 : Hid (Oth [q7] w2 w6) := Lib.hid (O5.out.trans ho1); clear hc1 ho1 hs1)
        | (refine wpList_ldB rt_side rfl (.tmp 7) rfl q7 0 rfl _ [.slice A n c, .int .i64 0, .int .i64 (f : Int), .int .u8 240] (by exact K6.out) rfl rfl ?_; have Q6 : Hid (Blk 170 w6 q6 [.slice none 0 0, .int .i64 0, .int .i64 0, .int .u8 0]) := Lib.hid ((K1.out.1.step K2.out.2.1).oth O6.out (by have := K1.out.1.lt; have := K2.out.2.2; simp; omega)))
        | (refine wpList_stB rt_side rfl (.tmp 6) (.tmp 25) rfl q6 0 rfl _ [.slice A n c, .int .i64 0, .int .i64 (f : Int), .int .u8 240] rfl (by intro v hv; simp only [List.mem_cons, List.not_mem_nil, or_false] at hv; rcases hv with rfl | rfl | rfl | rfl <;> rfl) rfl (by exact Q6.out) (by decide) ?_; intro w9 hc1 ho1 hs1))
      have B5 : Hid (Below w.heap.size w w9) := Lib.hid ((K1.out.2.1.trans ((K2.out.2.1.trans (O6.out.below (fun j hj => by rw [List.mem_singleton.1 hj]; exact K2.out.2.2) K2.out.2.1.size)).mono K1.out.2.1.size)).trans (ho1.below (fun j hj => by rw [List.mem_singleton.1 hj]; exact K1.out.2.2) (by have := K1.out.2.1.size; have := K2.out.2.1.size; have := O6.out.size; omega)))
      exact bodyPost_ret (v := .agg #[.slice A n c, .int .i64 0, .int .i64 (f : Int), .int .u8 240]) (res_rec rt_side rfl _ _ q6 [.slice A n c, .int .i64 0, .int .i64 (f : Int), .int .u8 240] rfl hc1 rfl) rfl ⟨rfl, B5.out⟩
end Go.Proofs.YtkcchidklcnnnaaGreat

/- Layer 14's trim, Trim, Cut, Block. Conditions: the slices' cells are readable, lengths are at most a million. -/
namespace Go.Proofs.YtkcchidklcnnnaaGreat
open Go.RowKit
set_option linter.unusedVariables false
set_option linter.unusedSimpArgs false
theorem hv_and (x y : UInt8) : bits .and .u8 (x.toNat : Int) (y.toNat : Int) = ((x &&& y).toNat : Int) := by
  rw [u8_and_nat _ _ x.toNat_lt y.toNat_lt, UInt8.toNat_and]
theorem trimL_set {l : List UInt8} {n N : Nat} {left : Bool} (h : l.length = n) : l.set (edgeN n left) (gd l (edgeN n left) &&& maskB N left) = trimL l N left := by unfold trimL; rw [h]
theorem cut_trim (l : List UInt8) : cutR l = ((trimR (l.take (szN l.length)) (l.length : Int) true).1, (trimR (l.drop (l.length - szN l.length)) (l.length : Int) false).1, (trimR (l.take (szN l.length)) (l.length : Int) true).2) := by
  have hs : szN l.length ≤ l.length := by unfold szN; omega
  by_cases h : 2 ≤ l.length ∧ l.length ≤ 28
  · rw [trim_ok _ _ _ h.1 h.2 (by rw [List.length_take]; omega), trim_ok _ _ _ h.1 h.2 (by rw [List.length_drop]; omega)]
    unfold cutR
    rw [if_pos h]
  · have hf : ∀ k, fitB (l.length : Int) k = false := fun k => decide_eq_false (fun e => h (by omega))
    rw [trimR_no (hf _), trimR_no (hf _)]
    unfold cutR
    rw [if_neg h]
theorem block_sets (l : List UInt8) (n N P : Nat) (h : l.length = n) (hn : n ≤ 14) : ((l ++ (List.replicate 16 (0 : UInt8)).drop n).set 14 (UInt8.ofNat N)).set 15 (UInt8.ofNat P) = blockL l N P := by
  refine gd_ext (by rw [block_len _ _ _ (by omega)]; simp; omega) fun i hi => ?_
  rw [List.length_set, List.length_set, List.length_append, List.length_drop, List.length_replicate] at hi
  rw [block_gd _ _ _ _ (by omega), gd_set, gd_set, gd_app, gd_drop, gd_rep]
  simp only [List.length_set, List.length_append, List.length_drop, List.length_replicate]
  by_cases h1 : i < l.length
  · rw [if_neg (show ¬ (i = 15 ∧ 15 < l.length + (16 - n)) by omega), if_neg (show ¬ (i = 14 ∧ 14 < l.length + (16 - n)) by omega), if_pos h1, if_pos h1]
  · rw [if_neg h1, if_neg h1]
    by_cases h2 : i < 14
    · rw [if_neg (show ¬ (i = 15 ∧ 15 < l.length + (16 - n)) by omega), if_neg (show ¬ (i = 14 ∧ 14 < l.length + (16 - n)) by omega), if_pos h2]
    · rw [if_neg h2]
      by_cases h3 : i = 14
      · rw [if_neg (show ¬ (i = 15 ∧ 15 < l.length + (16 - n)) by omega), if_pos (show i = 14 ∧ 14 < l.length + (16 - n) by omega), if_pos h3]
      · rw [if_pos (show i = 15 ∧ 15 < l.length + (16 - n) by omega), if_neg h3, if_pos (show i = 15 by omega)]
theorem by_ofI (k : Nat) (h : k ≤ 255) : Value.int .u8 (k : Int) = bv (UInt8.ofNat k) := (by_of k h).symm
attribute [local irreducible] foursL pairsL cutR trimL joinL blockL joinR trimR blockR maskB edgeN
set_option maxRecDepth 100000 in
set_option maxHeartbeats 2000000 in
theorem htrim_any (A : Option Addr) (n c a e : Nat) (m : UInt8) (l : List UInt8) (w : World) (h : RB w w.heap.size A n l) (he : e < n) (hn : n ≤ 1000000) :
    Calls Tryz.prog 130 #[.agg (sdC A n c a e m).toArray] w (RetB n (l.set e (gd l e &&& m)) w) := by
  have HL := Lib.hid h.len
  have HC := Lib.hid (fun (v : World) (hb : Below w.heap.size w v) => clone_any A n c v.heap.size l v (h.step hb) (Nat.le_refl _) (by omega))
  clear h
  go_enter Tryz.func130, Tryz.ntmps130
  go_wp2_with (first
    | (refine wpList_boxB rfl 170 (.tmp 0) rfl (sdC A n c a e m) rfl ?_; intro w1 q hc1 hb1 hx1; have K1 := Lib.hid (And.intro hc1 (And.intro hb1 hx1)); have c0 : w1.cell? ⟨q, 0, none⟩ = some (.slice A n c) := K1.out.1.cell 0; clear hc1 hb1 hx1))
  refine (HC.out _ K1.out.2.1).mono ?_
  rintro e2 w2 ⟨A2, c2, rfl, ho, hb⟩
  obtain ⟨g, rfl, hg1, hg2⟩ := ho.form (by omega)
  have K2 := Lib.hid (And.intro ho (And.intro hb (K1.out.1.step hb)))
  have c3 : w2.cell? ⟨q, 2, none⟩ = some (.int .i64 (e : Int)) := K2.out.2.2.cell 2
  have c4 : w2.cell? ⟨q, 3, none⟩ = some (.int .u8 (m.toNat : Int)) := K2.out.2.2.cell 3
  obtain ⟨x, HX⟩ : ∃ x, Hid (gd l e = x) := ⟨_, Lib.hid rfl⟩
  have c5 : w2.cell? ⟨g, e, none⟩ = some (.int .u8 (x.toNat : Int)) := by have := ho.cellAt (gd_lt (by rw [HL.out]; exact he)); rw [HX.out] at this; exact this
  have f5 : w2.frozen? ⟨g, e, none⟩ = false := ho.freeAt e
  have hand := hv_and x m
  obtain ⟨y, hy⟩ : ∃ y, x &&& m = y := ⟨_, rfl⟩
  have HY : Hid (gd l e &&& m = y) := Lib.hid (by rw [HX.out]; exact hy)
  rw [hy] at hand
  have S := Lib.hid (ho.stored e y (.int .u8 (y.toNat : Int)) rfl)
  have B := Lib.hid (hb.setCell (p := ⟨g, e, none⟩) hg1 (.int .u8 (y.toNat : Int)))
  clear ho hb c0 hy
  go_wp2
  go_region
  go_wp2
  go_ret
  rw [HY.out]
  exact ⟨_, _, rfl, (S.out.base_le K1.out.2.1.size).drew, (bel_next K1.out.2.1 B.out).drew⟩
set_option maxRecDepth 100000 in
set_option maxHeartbeats 2000000 in
theorem htrimT_any (A : Option Addr) (n c : Nat) (l : List UInt8) (z : Int) (left : Bool) (w : World) (h : RB w w.heap.size A n l) (hn : n ≤ 1000000) (hz : z ≤ 9223372036854775807) :
    Calls Tryz.prog 113 #[.slice A n c, .int .i64 z, .bool left] w (RetBE (trimR l z left).1.length (trimR l z left).1 (trimR l z left).2 w) := by
  have HL := Lib.hid h.len
  cases hv : fitB z n
  · have HE : Hid (trimR l z left = ([], 11)) := Lib.hid (trimR_no (by rw [HL.out]; exact hv))
    have HF := Lib.hid (hfit_1 w A n c z l h hz false (by rw [HL.out]; exact hv))
    clear h hv
    go_enter Tryz.func113, Tryz.ntmps113
    go_wp2_with fail
    refine HF.out.mono ?_
    rintro e w1 ⟨rfl, hb⟩
    have B := Lib.hid hb
    clear hb
    go_wp2_with fail
    go_ret2
    rw [HE.out]
    exact ⟨none, 0, rfl, OwnB.nil_ _ _, B.out⟩
  · obtain ⟨N, rfl, h2, h28, en⟩ := fitB_nat hv
    have HF := Lib.hid (hfit_1 w A n c N l h hz true (by rw [HL.out]; exact hv))
    have HE := Lib.hid (trim_ok l N left h2 h28 (by rw [HL.out]; exact en))
    have HT := Lib.hid (trimL_set (N := N) (left := left) HL.out)
    have HTL : Hid ((trimL l N left).length = n) := Lib.hid (by rw [trim_len]; exact HL.out)
    have HP := Lib.hid (fun v => hplace_any A n c N left v h2 h28 en)
    have he : edgeN n left < n := by unfold edgeN szN at *; split <;> omega
    obtain ⟨d, hd⟩ : ∃ d, (if left = true then 0 else N - n) = d := ⟨_, rfl⟩
    rw [hd] at HP
    obtain ⟨e0, he0⟩ : ∃ e0, edgeN n left = e0 := ⟨_, rfl⟩
    rw [he0] at HP HT he
    obtain ⟨m0, hm0⟩ : ∃ m0, maskB N left = m0 := ⟨_, rfl⟩
    rw [hm0] at HP HT
    have HQ := Lib.hid (fun (v : World) (hb : Below w.heap.size w v) => htrim_any A n c d e0 m0 l v (h.step hb) he hn)
    rw [HT.out] at HQ
    obtain ⟨S, HS⟩ : ∃ S, Hid (S = sdC A n c d e0 m0) := ⟨_, Lib.hid rfl⟩
    rw [← HS.out] at HP HQ
    obtain ⟨V, HV⟩ : ∃ V, Hid (V = Value.agg S.toArray) := ⟨_, Lib.hid rfl⟩
    rw [← HV.out] at HP HQ
    clear hv h hd he0 hm0 he en
    go_enter Tryz.func113, Tryz.ntmps113
    go_wp2_with fail
    refine HF.out.mono ?_
    rintro e w1 ⟨rfl, hb⟩
    have B := Lib.hid hb
    clear hb
    go_wp2_with fail
    refine (HP.out _).mono ?_
    rintro e w2 ⟨rfl, hb⟩
    have B2 := Lib.hid (bel_next B.out hb)
    clear hb
    go_wp2_with fail
    refine (HQ.out _ B2.out).mono ?_
    rintro e w3 ⟨A3, c3, rfl, ho, hb⟩
    have K3 := Lib.hid (And.intro (ho.base_le B2.out.size) (bel_next B2.out hb))
    clear ho hb
    go_wp2_with fail
    go_ret2
    rw [HE.out]
    simp only
    rw [HTL.out]
    exact ⟨A3, c3, rfl, K3.out.1, K3.out.2⟩
set_option maxRecDepth 100000 in
set_option maxHeartbeats 2000000 in
theorem hcut_any (A : Option Addr) (n c : Nat) (l : List UInt8) (w : World) (h : RB w w.heap.size A n l) (hc : n ≤ c) (hn : n ≤ 1000000) :
    Calls Tryz.prog 92 #[.slice A n c] w (RetBBE (cutR l).1 (cutR l).2.1 (cutR l).2.2 w) := by
  have HL := Lib.hid h.len
  obtain ⟨s, hs⟩ : ∃ s, szN n = s := ⟨_, rfl⟩
  have hsn : s ≤ n := by rw [← hs]; unfold szN; omega
  have HE := Lib.hid (cut_trim l)
  rw [HL.out, hs] at HE
  have HS := Lib.hid (fun v => hsize_any (n : Int) (by omega) v)
  rw [szI_nat, hs] at HS
  have k1 := cut_h A n c s (by omega)
  have k2 := cut_l A n c (n - s) (by omega)
  have R1 := Lib.hid (h.part (i := 0) (j := s) (c := c) (Nat.zero_le _) hsn hc)
  have R2 := Lib.hid (h.part (i := n - s) (j := n) (c := c) (by omega) (Nat.le_refl _) hc)
  rw [List.drop_zero, Nat.sub_zero] at R1
  rw [List.take_of_length_le (by rw [HL.out]; exact Nat.le_refl _)] at R2
  have e1 : n - (n - s) = s := by omega
  rw [e1] at R2 k2
  obtain ⟨d, hd⟩ : ∃ d, n - s = d := ⟨_, rfl⟩
  rw [hd] at R2 k2 HE
  have hsub : (n : Int) - (s : Int) = (d : Int) := by omega
  obtain ⟨CA, HCA⟩ : ∃ CA, Hid (CA = cutA A c 0) := ⟨_, Lib.hid rfl⟩
  obtain ⟨CB, HCB⟩ : ∃ CB, Hid (CB = cutA A c d) := ⟨_, Lib.hid rfl⟩
  rw [← HCA.out] at k1 R1
  rw [← HCB.out] at k2 R2
  have T1 := Lib.hid (htrimT_any CA s c (l.take s) (n : Int) true w R1.out (by omega) (by omega))
  have T2 := Lib.hid (fun (v : World) (hb : Below w.heap.size w v) => htrimT_any CB s (c - d) (l.drop d) (n : Int) false v (R2.out.step hb) (by omega) (by omega))
  obtain ⟨u, HU⟩ : ∃ u, Hid (u = trimR (l.take s) (n : Int) true) := ⟨_, Lib.hid rfl⟩
  obtain ⟨t, HT⟩ : ∃ t, Hid (t = trimR (l.drop d) (n : Int) false) := ⟨_, Lib.hid rfl⟩
  rw [← HU.out] at T1 HE
  rw [← HT.out] at T2 HE
  clear h hs hsn e1 hd
  go_enter Tryz.func92, Tryz.ntmps92
  go_wp2_with fail
  refine (HS.out _).mono ?_
  rintro e w1 ⟨rfl, rfl⟩
  go_wp2_with fail
  refine T1.out.mono ?_
  rintro e w1 ⟨A1, c1, rfl, ho, hb⟩
  have K1 := Lib.hid (And.intro ho hb)
  clear ho hb
  go_wp2_with fail
  refine (T2.out _ K1.out.2).mono ?_
  rintro e w2 ⟨A2, c2, rfl, ho, hb⟩
  have K2 := Lib.hid (And.intro (K1.out.1.below hb) (And.intro (ho.base_le K1.out.2.size) (bel_next K1.out.2 hb)))
  clear ho hb
  go_wp2_with fail
  go_ret3
  rw [HE.out]
  exact ⟨A1, _, c1, A2, _, c2, rfl, K2.out.1, K2.out.2.1, K2.out.2.2⟩
set_option maxRecDepth 100000 in
set_option maxHeartbeats 4000000 in
theorem hblock_any (A : Option Addr) (n c : Nat) (l : List UInt8) (z p : Int) (w : World) (h : RB w w.heap.size A n l) (hn : n ≤ 1000000) (hz : z ≤ 9223372036854775807) :
    Calls Tryz.prog 131 #[.slice A n c, .int .i64 z, .int .i64 p] w (RetBE (blockR l z p).1.length (blockR l z p).1 (blockR l z p).2 w) := by
  have HL := Lib.hid h.len
  cases hv : fitB z n
  · have HE : Hid (blockR l z p = ([], 11)) := Lib.hid (blockR_no (by rw [HL.out, hv]; rfl))
    have HF := Lib.hid (hfit_1 w A n c z l h hz false (by rw [HL.out]; exact hv))
    clear h hv
    go_enter Tryz.func131, Tryz.ntmps131
    go_wp2_with fail
    refine HF.out.mono ?_
    rintro e w1 ⟨rfl, hb⟩
    have B := Lib.hid hb
    clear hb
    go_wp2_with fail
    go_ret2
    rw [HE.out]
    exact ⟨none, 0, rfl, OwnB.nil_ _ _, B.out⟩
  have HF := Lib.hid (hfit_1 w A n c z l h hz true (by rw [HL.out]; exact hv))
  by_cases p0 : p < 0
  · have HE : Hid (blockR l z p = ([], 11)) := Lib.hid (blockR_no (by rw [HL.out, hv, decide_eq_false (by omega)]; rfl))
    have d1 : decide (p < 0) = true := decide_eq_true p0
    clear h hv p0
    go_enter Tryz.func131, Tryz.ntmps131
    go_wp2_with fail
    refine HF.out.mono ?_
    rintro e w1 ⟨rfl, hb⟩
    have B := Lib.hid hb
    clear hb
    go_wp2_with fail
    go_ret2
    rw [HE.out]
    exact ⟨none, 0, rfl, OwnB.nil_ _ _, B.out⟩
  have d1 : decide (p < 0) = false := decide_eq_false p0
  by_cases p1 : 255 < p
  · have HE : Hid (blockR l z p = ([], 11)) := Lib.hid (blockR_no (by rw [HL.out, hv, decide_eq_false (by omega)]; rfl))
    have d2 : decide (255 < p) = true := decide_eq_true p1
    clear h hv p0 p1
    go_enter Tryz.func131, Tryz.ntmps131
    go_wp2_with fail
    refine HF.out.mono ?_
    rintro e w1 ⟨rfl, hb⟩
    have B := Lib.hid hb
    clear hb
    go_wp2_with fail
    go_ret2
    rw [HE.out]
    exact ⟨none, 0, rfl, OwnB.nil_ _ _, B.out⟩
  have d2 : decide (255 < p) = false := decide_eq_false p1
  obtain ⟨N, rfl, h2, h28, en⟩ := fitB_nat hv
  obtain ⟨P, rfl⟩ : ∃ P : Nat, p = (P : Int) := ⟨p.toNat, by omega⟩
  have hP : P ≤ 255 := by omega
  have HE := Lib.hid (block_ok l N P h2 h28 (by rw [HL.out]; exact en) hP)
  have hn14 : n ≤ 14 := by have := szN_le N h28; omega
  have HBL := Lib.hid (block_sets l n N P HL.out hn14)
  have HB16 : Hid ((blockL l N P).length = 16) := Lib.hid (block_len l N P (by rw [HL.out]; exact hn14))
  have H := Lib.hid h
  have hw1 : IntKind.u8.wrap (N : Int) = (N : Int) := by rw [IntKind.wrap_u8]; omega
  have hw2 : IntKind.u8.wrap (P : Int) = (P : Int) := by rw [IntKind.wrap_u8]; omega
  clear hv p0 p1 en h
  go_enter Tryz.func131, Tryz.ntmps131
  go_wp2_with fail
  refine HF.out.mono ?_
  rintro e w1 ⟨rfl, hb⟩
  have B := Lib.hid hb
  clear hb
  go_wp2_with (first
    | (at_make; refine wpList_mk rfl _ _ rfl w1.heap.size .i64 .i64 _ _ 16 rfl rfl (by rfl) (by rfl) (by omega) (Nat.le_refl _) ?_; intro w2 ho hs2 hb; have K2 := Lib.hid (And.intro ho hb); clear ho hs2 hb)
    | (with_reducible show wpList _ _ _ (⟨_, .call { callee := .builtin .copy, args := _, argTypes := _ }, _, _, _, none⟩ :: _) _ _; refine wpList_cpB rfl (.tmp 23) (.tmp 24) rfl w1.heap.size w1.heap.size 16 16 (List.replicate 16 0) rfl (by exact K2.out.1) _ A n c l rfl (by exact (H.out.step B.out).step K2.out.2) (by omega) ?_; intro w3 ho hb; have K3 := Lib.hid (And.intro ho (Below.trans K2.out.2 hb)); have x1 : w3.cell? ⟨w1.heap.size, 14, none⟩ = some _ := K3.out.1.cellAt (gd_lt (by rw [K3.out.1.len]; decide)); have x2 : w3.cell? ⟨w1.heap.size, 15, none⟩ = some _ := K3.out.1.cellAt (gd_lt (by rw [K3.out.1.len]; decide)); have x3 : w3.frozen? ⟨w1.heap.size, 14, none⟩ = false := K3.out.1.freeAt 14; have x4 : w3.frozen? ⟨w1.heap.size, 15, none⟩ = false := K3.out.1.freeAt 15; clear ho hb))
  go_ret2
  rw [HE.out]
  simp only
  rw [HB16.out]
  exact ⟨some ⟨w1.heap.size, 0, none⟩, 16, rfl, by rw [← HBL.out]; exact ((K3.out.1.stored 14 (UInt8.ofNat N) _ (by_ofI N (by omega))).stored 15 (UInt8.ofNat P) _ (by_ofI P hP)).base_le B.out.size, (B.out.trans (K3.out.2.mono B.out.size)).setCell (p := ⟨w1.heap.size, 14, none⟩) B.out.size _ |>.setCell (p := ⟨w1.heap.size, 15, none⟩) B.out.size _⟩
end Go.Proofs.YtkcchidklcnnnaaGreat

/- Layer 14's lay and invalid. Conditions: the slices' cells are readable, lengths are at most a million. -/
namespace Go.Proofs.YtkcchidklcnnnaaGreat
open Go.RowKit
set_option linter.unusedVariables false
set_option linter.unusedSimpArgs false
theorem hv_or (x y : UInt8) : bits .or .u8 (x.toNat : Int) (y.toNat : Int) = ((x ||| y).toNat : Int) := by
  rw [u8_or_nat _ _ x.toNat_lt y.toNat_lt, UInt8.toNat_or]
/-- A text of which k bytes of a half were laid from place a on. -/
def layN (L l : List UInt8) (a : Nat) : Nat → List UInt8
  | 0 => L
  | k + 1 => (layN L l a k).set (a + k) (gd (layN L l a k) (a + k) ||| gd l k)
theorem lay_len (L l : List UInt8) (a : Nat) : ∀ k, (layN L l a k).length = L.length
  | 0 => rfl
  | k + 1 => by unfold layN; rw [List.length_set, lay_len L l a k]
theorem lay_gd (L l : List UInt8) (a : Nat) : ∀ k, a + k ≤ L.length → ∀ i, gd (layN L l a k) i = if a ≤ i ∧ i < a + k then gd L i ||| gd l (i - a) else gd L i
  | 0, _, i => by unfold layN; rw [if_neg (by omega)]
  | k + 1, h, i => by
    have ih := lay_gd L l a k (by omega)
    unfold layN
    rw [gd_set, lay_len, ih, ih]
    by_cases h1 : i = a + k
    · rw [if_pos (show i = a + k ∧ a + k < L.length by omega), if_neg (show ¬ (a ≤ a + k ∧ a + k < a + k) by omega), if_pos (show a ≤ i ∧ i < a + (k + 1) by omega), h1, show a + k - a = k by omega]
    · rw [if_neg (show ¬ (i = a + k ∧ a + k < L.length) by omega)]
      by_cases h2 : a ≤ i ∧ i < a + k
      · rw [if_pos h2, if_pos (show a ≤ i ∧ i < a + (k + 1) by omega)]
      · rw [if_neg h2, if_neg (show ¬ (a ≤ i ∧ i < a + (k + 1)) by omega)]
theorem lay_both (l r : List UInt8) (n : Nat) (hl : l.length = szN n) (hr : r.length = szN n) (h2 : 2 ≤ n) :
    layN (layN (List.replicate n 0) l 0 (szN n)) r (n - szN n) (szN n) = joinL l r n ∧ layN (layN (List.replicate n 0) r (n - szN n) (szN n)) l 0 (szN n) = joinL l r n := by
  have hs : szN n ≤ n ∧ 2 * szN n = n + n % 2 ∧ 0 < szN n := by unfold szN; omega
  have L1 : (List.replicate n (0 : UInt8)).length = n := by simp
  have key : ∀ i, i < n → gd (joinL l r n) i = gd l i ||| (if i < n - szN n then 0 else gd r (i - (n - szN n))) := fun i hi => by unfold joinL; rw [gd_map, if_pos hi]
  constructor
  · refine gd_ext (by rw [lay_len, lay_len, join_len, L1]) fun i hi => ?_
    rw [lay_len, lay_len, L1] at hi
    rw [lay_gd _ _ _ _ (by rw [lay_len, L1]; omega), lay_gd _ _ _ _ (by rw [L1]; omega), gd_rep, key i hi]
    by_cases h1 : i < szN n
    · rw [if_pos (show 0 ≤ i ∧ i < 0 + szN n by omega), Nat.sub_zero, UInt8.zero_or]
      by_cases h3 : i < n - szN n
      · rw [if_neg (show ¬ (n - szN n ≤ i ∧ i < n - szN n + szN n) by omega), if_pos h3, UInt8.or_zero]
      · rw [if_pos (show n - szN n ≤ i ∧ i < n - szN n + szN n by omega), if_neg h3]
    · rw [if_neg (show ¬ (0 ≤ i ∧ i < 0 + szN n) by omega), if_pos (show n - szN n ≤ i ∧ i < n - szN n + szN n by omega), if_neg (show ¬ i < n - szN n by omega), gd_ge (l := l) (by omega)]
  · refine gd_ext (by rw [lay_len, lay_len, join_len, L1]) fun i hi => ?_
    rw [lay_len, lay_len, L1] at hi
    rw [lay_gd _ _ _ _ (by rw [lay_len, L1]; omega), lay_gd _ _ _ _ (by rw [L1]; omega), gd_rep, key i hi]
    by_cases h1 : i < szN n
    · rw [if_pos (show 0 ≤ i ∧ i < 0 + szN n by omega), Nat.sub_zero]
      by_cases h3 : i < n - szN n
      · rw [if_neg (show ¬ (n - szN n ≤ i ∧ i < n - szN n + szN n) by omega), if_pos h3, UInt8.or_zero, UInt8.zero_or]
      · rw [if_pos (show n - szN n ≤ i ∧ i < n - szN n + szN n by omega), if_neg h3, UInt8.zero_or, UInt8.or_comm]
    · rw [if_neg (show ¬ (0 ≤ i ∧ i < 0 + szN n) by omega), if_pos (show n - szN n ≤ i ∧ i < n - szN n + szN n by omega), if_neg (show ¬ i < n - szN n by omega), gd_ge (l := l) (by omega)]
theorem hv_andn (x y : UInt8) : bits .andNot .u8 (x.toNat : Int) (y.toNat : Int) = ((x &&& ~~~y).toNat : Int) := by
  rw [u8_andNot_nat _ _ x.toNat_lt y.toNat_lt, UInt8.toNat_and, UInt8.toNat_not]
  rfl
attribute [local irreducible] foursL pairsL cutR trimL joinL blockL joinR trimR blockR maskB edgeN layN
set_option maxRecDepth 100000 in
set_option maxHeartbeats 2000000 in
theorem hlay_any (A : Option Addr) (n c a e : Nat) (m : UInt8) (l : List UInt8) (g M cap base : Nat) (L : List UInt8) (w : World) (h : RB w base A n l) (t : OwnB w base (some ⟨g, 0, none⟩) M cap L) (ham : a + n ≤ M) (hM : M ≤ 1000000) :
    Calls Tryz.prog 120 #[.agg (sdC A n c a e m).toArray, .slice (some ⟨g, 0, none⟩) M cap] w fun e w' => e = .returned (.tuple #[]) ∧ OwnB w' base (some ⟨g, 0, none⟩) M cap (layN L l a n) ∧ Oth [g] w w' := by
  have HL := Lib.hid h.len
  have H := Lib.hid h
  have T := Lib.hid t
  have HG : Hid (g < w.heap.size ∧ base ≤ g) := Lib.hid (by have := t.spot _ rfl; exact ⟨this.2.2, this.2.1⟩)
  have HLL := Lib.hid t.len
  clear h t
  go_enter Tryz.func120, Tryz.ntmps120
  go_wp2_with (first
    | (refine wpList_boxB rfl 170 (.tmp 0) rfl (sdC A n c a e m) rfl ?_; intro w1 q hc1 hb1 hx1; have K1 := Lib.hid (And.intro hc1 (And.intro hb1 hx1)); have c0 : w1.cell? ⟨q, 0, none⟩ = some (.slice A n c) := K1.out.1.cell 0; clear hc1 hb1 hx1))
  go_loopw [4, 9] (fun _ i wr => ∃ k : Nat, k ≤ n ∧ i = .int .i64 (k : Int) ∧ Hid (OwnB wr base (some ⟨g, 0, none⟩) M cap (layN L l a k) ∧ Oth [g] w1 wr)) (fun _ i _ => n - (intOf i).toNat)
  case atStart => exact ⟨0, Nat.zero_le _, rfl, Lib.hid ⟨by unfold layN; exact T.out.below K1.out.2.1, Oth.refl _ _⟩⟩
  case round =>
    obtain ⟨k, hk, rfl, HK⟩ := hrel
    have HQ : Hid (q ∉ [g]) := Lib.hid (by have := K1.out.2.2; have := HG.out.1; simp; omega)
    by_cases hlt : k < n
    · have hq1 : wr.cell? ⟨q, 1, none⟩ = some (.int .i64 (a : Int)) := (K1.out.1.oth HK.out.2 HQ.out).cell 1
      have hR : RB wr base A n l := (H.out.keep fun p hp => K1.out.2.1.cell (by have := HG.out; omega)).below (HK.out.2.below (fun j hj => by rw [List.mem_singleton.1 hj]; exact HG.out.2) (by have := HG.out; have := K1.out.2.1.size; omega))
      obtain ⟨b, o, rfl, hb, x, hx, hcl⟩ := hR.at_ hlt
      obtain ⟨p, hp⟩ : ∃ p, p = a + k := ⟨_, rfl⟩
      have hidx : (a : Int) + (k : Int) = (p : Int) := by omega
      have hpM : p < M := by omega
      obtain ⟨y, HY⟩ : ∃ y, Hid (gd (layN L l a k) p = y) := ⟨_, Lib.hid rfl⟩
      have c5 : wr.cell? ⟨g, p, none⟩ = some (.int .u8 (y.toNat : Int)) := by have := HK.out.1.cellAt (gd_lt (i := p) (by rw [lay_len, HLL.out]; exact hpM)); rw [HY.out] at this; exact this
      have f5 : wr.frozen? ⟨g, p, none⟩ = false := HK.out.1.freeAt p
      have hor := hv_or y x
      obtain ⟨z, hz⟩ : ∃ z, y ||| x = z := ⟨_, rfl⟩
      have HZ : Hid (layN L l a (k + 1) = (layN L l a k).set p z) := Lib.hid (by rw [← hz, ← HY.out, ← gd_some hx, hp]; rw [layN])
      rw [hz] at hor
      have S := Lib.hid (HK.out.1.stored p z (.int .u8 (z.toNat : Int)) rfl)
      have SO := Lib.hid (HK.out.2.set (x := g) (by simp) p (.int .u8 (z.toNat : Int)))
      clear hR hx hz
      have HP := Lib.hid hp
      clear hp ham
      go_wp2_with fail
      go_roundw
      case rel => exact ⟨k + 1, by omega, by go_num, Lib.hid ⟨by rw [HZ.out]; exact S.out, SO.out⟩⟩
      case measure => simp [intOf]; omega
    · obtain rfl : k = n := by omega
      go_wp2_with fail
      exact ⟨rfl, _, results_none rfl _ _ _, rfl, HK.out.1, (Oth.of_below K1.out.2.1).trans HK.out.2⟩
set_option maxRecDepth 100000 in
set_option maxHeartbeats 2000000 in
theorem hinv1_any (A : Option Addr) (n c a e : Nat) (m : UInt8) (l : List UInt8) (w : World) (h : RB w w.heap.size A n l) (he : e < n) (v : Bool) (hv : decide (gd l e &&& ~~~m ≠ 0) = v) :
    Calls Tryz.prog 136 #[.agg (sdC A n c a e m).toArray] w fun e w' => e = .returned (.bool v) ∧ Below w.heap.size w w' := by
  obtain ⟨b, o, rfl, hb, x, hx, hcl⟩ := h.at_ he
  have hg := gd_some hx
  rw [hg] at hv
  have han := hv_andn x m
  obtain ⟨y, hy⟩ : ∃ y, x &&& ~~~m = y := ⟨_, rfl⟩
  rw [hy] at han hv
  have hne : ((y.toNat : Int) != 0) = v := by
    rw [← hv, Bool.eq_iff_iff, bne_iff_ne, decide_eq_true_eq]
    constructor
    · intro h1 h2; subst h2; exact h1 rfl
    · intro h1 h2; exact h1 (UInt8.toNat_inj.1 (by simp; omega))
  have HC := Lib.hid hcl
  have HB := Lib.hid hb
  clear h hx hg hy hv hcl hb
  go_enter Tryz.func136, Tryz.ntmps136
  go_wp2_with (first
    | (refine wpList_boxB rfl 170 (.tmp 0) rfl (sdC (some ⟨b, o, none⟩) n c a e m) rfl ?_; intro w1 q hc1 hb1 hx1; have K1 := Lib.hid (And.intro hc1 (And.intro hb1 hx1)); have c0 : w1.cell? ⟨q, 0, none⟩ = some (.slice (some ⟨b, o, none⟩) n c) := K1.out.1.cell 0; have c2 : w1.cell? ⟨q, 2, none⟩ = some (.int .i64 (e : Int)) := K1.out.1.cell 2; have c3 : w1.cell? ⟨q, 3, none⟩ = some (.int .u8 (m.toNat : Int)) := K1.out.1.cell 3; have c4 : w1.cell? ⟨b, o + e, none⟩ = some (.int .u8 (x.toNat : Int)) := (hb1.cell (p := ⟨b, o + e, none⟩) HB.out).trans HC.out; clear hc1 hb1 hx1))
  go_quiet (fail)
  go_wp2
  go_ret
  exact ⟨rfl, below_drewN K1.out.2.1 _⟩
set_option maxRecDepth 100000 in
set_option maxHeartbeats 4000000 in
theorem hindexs_any (x : Nat) (s1 s2 : List Value) (l1 : s1.length = 4) (l2 : s2.length = 4) (w : World) (hx : Blk 170 w x (s1 ++ s2)) (b1 b2 : Bool)
    (H1 : ∀ v, Below w.heap.size w v → Calls Tryz.prog 136 #[.agg s1.toArray] v (fun e w' => e = .returned (.bool b1) ∧ Below v.heap.size v w'))
    (H2 : ∀ v, Below w.heap.size w v → Calls Tryz.prog 136 #[.agg s2.toArray] v (fun e w' => e = .returned (.bool b2) ∧ Below v.heap.size v w')) :
    Calls Tryz.prog 145 #[.slice (some ⟨x, 0, none⟩) 2 2, .func (.func 136) #[] #[]] w fun e w' => ∃ z : Int, e = .returned (.int .i64 z) ∧ Below w.heap.size w w' ∧ decide (0 ≤ z) = (b1 || b2) := by
  have HX := Lib.hid hx
  have HH1 := Lib.hid H1
  have HH2 := Lib.hid H2
  have HT1 : Hid (((s1 ++ s2).drop 0).take 4 = s1) := Lib.hid (by rw [List.drop_zero, List.take_append_of_le_length (by omega), List.take_of_length_le (by omega)])
  have HT2 : Hid (((s1 ++ s2).drop 4).take 4 = s2) := Lib.hid (by rw [← l1, List.drop_left, List.take_of_length_le (by omega)])
  have HL := Lib.hid (And.intro l1 l2)
  clear hx H1 H2 l1 l2
  go_enter Tryz.func145, Tryz.ntmps145
  go_wp2_with fail
  go_loopw [8] (fun i wr => ∃ k : Nat, k ≤ 2 ∧ i = .int .i64 (k : Int) ∧ Hid (Below w.heap.size w wr ∧ (1 ≤ k → b1 = false) ∧ (2 ≤ k → b2 = false))) (fun i _ => 2 - (intOf i).toNat)
  case atStart => exact ⟨0, by omega, rfl, Lib.hid ⟨Below.refl _ _, fun h => absurd h (by omega), fun h => absurd h (by omega)⟩⟩
  case round =>
    obtain ⟨k, hk, rfl, HK⟩ := hrel
    rcases (by omega : k = 0 ∨ k = 1 ∨ k = 2) with rfl | rfl | rfl
    · cases b1
      · go_wp2_with (first
          | (refine wpList_ldB rt_side rfl (.tmp 14) rfl x 0 rfl (s1 ++ s2) s1 (by exact HX.out.step HK.out.1) HT1.out HL.out.1 ?_))
        refine (HH1.out _ HK.out.1).mono ?_
        rintro e w1 ⟨rfl, hb⟩
        have B1 := Lib.hid (bel_next HK.out.1 hb)
        clear hb
        go_wp2_with fail
        go_roundw
        case rel => exact ⟨1, by omega, rfl, Lib.hid ⟨B1.out, by intros; first | rfl | trivial, fun h => absurd h (by omega)⟩⟩
        case measure => simp [intOf]
      · go_wp2_with (first
          | (refine wpList_ldB rt_side rfl (.tmp 14) rfl x 0 rfl (s1 ++ s2) s1 (by exact HX.out.step HK.out.1) HT1.out HL.out.1 ?_))
        refine (HH1.out _ HK.out.1).mono ?_
        rintro e w1 ⟨rfl, hb⟩
        have B1 := Lib.hid (bel_next HK.out.1 hb)
        clear hb
        go_wp2_with fail
        go_ret
        exact ⟨_, rfl, B1.out, by simp⟩
    · have HF := Lib.hid (HK.out.2.1 (Nat.le_refl _))
      cases b2
      · go_wp2_with (first
          | (refine wpList_ldB rt_side rfl (.tmp 14) rfl x 4 rfl (s1 ++ s2) s2 (by exact HX.out.step HK.out.1) HT2.out HL.out.2 ?_))
        refine (HH2.out _ HK.out.1).mono ?_
        rintro e w1 ⟨rfl, hb⟩
        have B1 := Lib.hid (bel_next HK.out.1 hb)
        clear hb
        go_wp2_with fail
        go_roundw
        case rel => exact ⟨2, by omega, rfl, Lib.hid ⟨B1.out, fun _ => HF.out, by intros; first | rfl | trivial⟩⟩
        case measure => simp [intOf]
      · go_wp2_with (first
          | (refine wpList_ldB rt_side rfl (.tmp 14) rfl x 4 rfl (s1 ++ s2) s2 (by exact HX.out.step HK.out.1) HT2.out HL.out.2 ?_))
        refine (HH2.out _ HK.out.1).mono ?_
        rintro e w1 ⟨rfl, hb⟩
        have B1 := Lib.hid (bel_next HK.out.1 hb)
        clear hb
        go_wp2_with fail
        go_ret
        exact ⟨_, rfl, B1.out, by simp⟩
    · have HF := Lib.hid (And.intro (HK.out.2.1 (by omega)) (HK.out.2.2 (by omega)))
      go_wp2_with fail
      go_ret
      exact ⟨_, rfl, HK.out.1, by rw [HF.out.1, HF.out.2]; rfl⟩
set_option maxRecDepth 100000 in
set_option maxHeartbeats 2000000 in
theorem hinvalid_any (x : Nat) (s1 s2 : List Value) (l1 : s1.length = 4) (l2 : s2.length = 4) (w : World) (hx : Blk 170 w x (s1 ++ s2)) (b1 b2 v : Bool) (hv : (b1 || b2) = v)
    (H1 : ∀ v, Below w.heap.size w v → Calls Tryz.prog 136 #[.agg s1.toArray] v (fun e w' => e = .returned (.bool b1) ∧ Below v.heap.size v w'))
    (H2 : ∀ v, Below w.heap.size w v → Calls Tryz.prog 136 #[.agg s2.toArray] v (fun e w' => e = .returned (.bool b2) ∧ Below v.heap.size v w')) :
    Calls Tryz.prog 119 #[.slice (some ⟨x, 0, none⟩) 2 2] w fun e w' => e = .returned (.bool v) ∧ Below w.heap.size w w' := by
  have HC : Hid (Calls Tryz.prog 135 #[.slice (some ⟨x, 0, none⟩) 2 2, .func (.func 136) #[] #[]] w fun e w' => e = .returned (.bool v) ∧ Below w.heap.size w w') := Lib.hid (by
    have HI := Lib.hid (hindexs_any x s1 s2 l1 l2 w hx b1 b2 H1 H2)
    have HV := Lib.hid hv
    clear hx H1 H2 hv
    go_enter Tryz.func135, Tryz.ntmps135
    go_wp2_with fail
    refine HI.out.mono ?_
    rintro e w1 ⟨z, rfl, hb, hz⟩
    rw [HV.out] at hz
    have B := Lib.hid hb
    clear hb
    go_wp2_with fail
    go_ret
    exact ⟨rfl, B.out⟩)
  clear hx H1 H2 hv
  go_enter Tryz.func119, Tryz.ntmps119
  go_wp2_with fail
  refine HC.out.mono ?_
  rintro e w1 ⟨rfl, hb⟩
  have B := Lib.hid hb
  clear hb
  go_wp2_with fail
  go_ret
  exact ⟨rfl, B.out⟩
end Go.Proofs.YtkcchidklcnnnaaGreat

/- Layer 14's Join. Conditions: the slices' cells are readable, lengths are at most a million. -/
namespace Go.Proofs.YtkcchidklcnnnaaGreat
open Go.RowKit
set_option linter.unusedVariables false
set_option linter.unusedSimpArgs false
/-- Two sides as a slice. -/
theorem wpList_sides {w : World} {ops : Array Oper} {rest : List Oper} {o : Oper} {a : Act} {Q : Exit → Act → World → Prop} (hgd : o.guard = none) (x y : Operand) (hop : o.op = .buildSlice 183 2 #[(0, x), (1, y)]) (s1 s2 : List Value) (l1 : s1.length = 4) (l2 : s2.length = 4) (V1 V2 : Value) (hx : a.eval x = V1) (hy : a.eval y = V2) (h1 : V1 = .agg s1.toArray) (h2 : V2 = .agg s2.toArray)
    (hK : ∀ w' q, Blk 170 w' q (s1 ++ s2) → Below w.heap.size w w' → wpList Tryz.prog ops Q rest (a.put o.dst (.slice (some ⟨q, 0, none⟩) 2 2)) w') : wpList Tryz.prog ops Q (o :: rest) a w := by
  obtain ⟨i0, hi0, hz1⟩ : ∃ i, Tryz.prog.info? 170 = some i ∧ i.size = 4 := by
    have h2 := rt_side.info
    rcases hi : Tryz.prog.info? 170 with _ | i
    · rw [hi] at h2; cases h2
    · rw [hi] at h2
      simp only [Option.map_some, Option.some.injEq, Prod.mk.injEq] at h2
      exact ⟨i, rfl, h2.2⟩
  obtain ⟨z, hz0, hz2⟩ : ∃ z, i0.zero = some z ∧ z.cells.size = 4 := by
    have h2 := rt_side.info
    rw [hi0] at h2
    simp only [Option.map_some, Option.some.injEq, Prod.mk.injEq] at h2
    exact ⟨_, h2.1, rfl⟩
  refine wpList_buildSlice hgd 183 170 2 _ hop (s1 ++ s2).toArray i0 z Tryz.underlying183 hi0 hz0 (by rw [hz1]; omega) (by rw [hz1]; omega) ?_ (hK _ _ (Blk.new _ _ _ _ rfl) (below_alloc _ _))
  have e : (#[((0 : Nat), x), (1, y)].map fun (i, x) => (i, a.eval x)).toList = (([V1, V2]).zipIdx 0).map fun x => (x.2, x.1) := by
    rw [← hx, ← hy]
    simp [List.zipIdx]
  rw [e, hz1]
  have f := Great.fill_whole (s := 4) (by omega) [V1, V2] ((Array.range (2 * 4)).map (z.cells[· % z.cells.size]!)) (fun v hv => by
    simp only [List.mem_cons, List.not_mem_nil, or_false] at hv
    rcases hv with rfl | rfl
    · rw [h1]; show s1.toArray.size = 4; simpa using l1
    · rw [h2]; show s2.toArray.size = 4; simpa using l2) (by simp)
  rw [f, h1, h2]
  simp [Value.cells]
theorem mp_type : Tryz.prog.underlying 172 = some (.map 4 170) := by kernel_rfl
theorem bl_type : Tryz.prog.underlying 4 = some .bool := by kernel_rfl
theorem fn_true (V1 V2 : Value) (es : Array MapEntry) (h : es = #[{ key := .bool true, val := V1, born := 0 }, { key := .bool false, val := V2, born := 1 }]) : Instr.findNow .bool (.bool true) es.toList 0 = some (some (0, V1)) := by subst h; rfl
theorem fn_false (V1 V2 : Value) (es : Array MapEntry) (h : es = #[{ key := .bool true, val := V1, born := 0 }, { key := .bool false, val := V2, born := 1 }]) : Instr.findNow .bool (.bool false) es.toList 0 = some (some (1, V2)) := by subst h; rfl
/-- The text behind some sides, in the order in which they were laid. -/
def sdL (Z l r : List UInt8) (d s : Nat) (seen : List Nat) : List UInt8 := seen.foldl (fun T b => if b = 0 then layN T l 0 s else layN T r d s) Z
theorem st_push0 (Z l r : List UInt8) (d s : Nat) (seen : Array Nat) : sdL Z l r d s (seen.push 0).toList = layN (sdL Z l r d s seen.toList) l 0 s := by unfold sdL; rw [Array.toList_push, List.foldl_append]; rfl
theorem st_push1 (Z l r : List UInt8) (d s : Nat) (seen : Array Nat) : sdL Z l r d s (seen.push 1).toList = layN (sdL Z l r d s seen.toList) r d s := by unfold sdL; rw [Array.toList_push, List.foldl_append]; rfl
/-- Which sides were laid. -/
def Seen (seen : Array Nat) : Prop := seen = #[] ∨ seen = #[0] ∨ seen = #[1] ∨ seen = #[0, 1] ∨ seen = #[1, 0]
theorem Seen.push0 {seen : Array Nat} (h : Seen seen) (hc : seen.contains 0 = false) : Seen (seen.push 0) ∧ seen.size < 2 := by
  rcases h with rfl | rfl | rfl | rfl | rfl
  · exact ⟨.inr (.inl rfl), by decide⟩
  · exact absurd hc (by simp)
  · exact ⟨.inr (.inr (.inr (.inr rfl))), by decide⟩
  · exact absurd hc (by simp)
  · exact absurd hc (by simp)
theorem Seen.push1 {seen : Array Nat} (h : Seen seen) (hc : seen.contains 1 = false) : Seen (seen.push 1) ∧ seen.size < 2 := by
  rcases h with rfl | rfl | rfl | rfl | rfl
  · exact ⟨.inr (.inr (.inl rfl)), by decide⟩
  · exact ⟨.inr (.inr (.inr (.inl rfl))), by decide⟩
  · exact absurd hc (by simp)
  · exact absurd hc (by simp)
  · exact absurd hc (by simp)
theorem Seen.all {seen : Array Nat} (h : Seen seen) (h0 : seen.contains 0 = true) (h1 : seen.contains 1 = true) (l r : List UInt8) (n : Nat) (hl : l.length = szN n) (hr : r.length = szN n) (h2 : 2 ≤ n) : sdL (List.replicate n 0) l r (n - szN n) (szN n) seen.toList = joinL l r n := by
  rcases h with rfl | rfl | rfl | rfl | rfl
  · exact absurd h0 (by simp)
  · exact absurd h1 (by simp)
  · exact absurd h0 (by simp)
  · exact (lay_both l r n hl hr h2).1
  · exact (lay_both l r n hl hr h2).2
/-- What the loop of Join keeps: the iterator, the map, the text. -/
structure LS (w0 : World) (bm r g N : Nat) (es : Array MapEntry) (Z l q : List UInt8) (d s : Nat) (w : World) (seen : Array Nat) : Prop where
  it : w.heap[r]? = some (.mapIter (some bm) 2 seen 2)
  mp : w.heap[bm]? = some (.map es 2)
  tx : OwnB w w0.heap.size (some ⟨g, 0, none⟩) N N (sdL Z l q d s seen.toList)
  bel : Below w0.heap.size w0 w
  hs : Seen seen
theorem tx_ne {w : World} {base g n c r : Nat} {l : List UInt8} {o : Obj} (t : OwnB w base (some ⟨g, 0, none⟩) n c l) (hr : w.heap[r]? = some o) (hno : ∀ cs T fr, o ≠ .cells cs T fr) : g ≠ r := fun e => by
  subst e
  rcases t.2 with ⟨hv, _⟩ | ⟨g', cap, cur, hv, _, hh, _⟩
  · cases hv
  · injection hv with hv
    injection hv with hv
    injection hv with e1
    subst e1
    rw [hr] at hh
    injection hh with hh
    exact hno _ _ _ hh
theorem LS.size {w0 w : World} {bm r g N d s : Nat} {es : Array MapEntry} {Z l q : List UInt8} {seen : Array Nat} (k : LS w0 bm r g N es Z l q d s w seen) : w.iterSeen r = seen := iter_at k.it
section
variable {w0 w w2 w4 w5 : World} {bm it g N d s : Nat} {es : Array MapEntry} {Z l q : List UInt8} {seen : Array Nat} {b : Nat}
theorem LS.g_it (k : LS w0 bm it g N es Z l q d s w seen) : g ≠ it := tx_ne k.tx k.it (fun _ _ _ e => by cases e)
theorem LS.g_bm (k : LS w0 bm it g N es Z l q d s w seen) : g ≠ bm := tx_ne k.tx k.mp (fun _ _ _ e => by cases e)
theorem LS.it_bm (k : LS w0 bm it g N es Z l q d s w seen) : bm ≠ it := fun e => by have := k.it; rw [← e, k.mp] at this; cases this
theorem LS.mid (k : LS w0 bm it g N es Z l q d s w seen) (ho2 : Oth [it] w w2) (hb4 : Below w2.heap.size w2 w4) (hit : w0.heap.size ≤ it) : Below w0.heap.size w0 w4 ∧ OwnB w4 w0.heap.size (some ⟨g, 0, none⟩) N N (sdL Z l q d s seen.toList) :=
  ⟨bel_next (k.bel.trans (ho2.below (fun j hj => by rw [List.mem_singleton.1 hj]; exact hit) k.bel.size)) hb4,
   (k.tx.oth ho2 (fun g' o e hm => by injection e with e; injection e with e1; exact k.g_it (e1.trans (List.mem_singleton.1 hm)))).below hb4⟩
theorem LS.next (k : LS w0 bm it g N es Z l q d s w seen) (hr2 : w2.heap[it]? = some (.mapIter (some bm) 2 (seen.push b) 2)) (ho2 : Oth [it] w w2) (hb4 : Below w2.heap.size w2 w4) (hit : w0.heap.size ≤ it) (hg : w0.heap.size ≤ g)
    (ho5 : OwnB w5 w0.heap.size (some ⟨g, 0, none⟩) N N (sdL Z l q d s (seen.push b).toList)) (hoth : Oth [g] w4 w5) (hs : Seen (seen.push b)) : LS w0 bm it g N es Z l q d s w5 (seen.push b) := by
  have h2 : w2.heap[bm]? = some (.map es 2) := (ho2.block bm (Array.getElem?_eq_some_iff.1 k.mp).1 (by simpa using k.it_bm)).trans k.mp
  have i4 := (hb4.block it (Array.getElem?_eq_some_iff.1 hr2).1).trans hr2
  have m4 := (hb4.block bm (Array.getElem?_eq_some_iff.1 h2).1).trans h2
  have hm := (k.mid ho2 hb4 hit).1
  exact ⟨(hoth.block it (Array.getElem?_eq_some_iff.1 i4).1 (by simpa using k.g_it.symm)).trans i4, (hoth.block bm (Array.getElem?_eq_some_iff.1 m4).1 (by simpa using k.g_bm.symm)).trans m4, ho5,
    hm.trans (hoth.below (fun j hj => by rw [List.mem_singleton.1 hj]; exact hg) hm.size), hs⟩
end
theorem puts_four {S : List Value} (h : S.length = 4) (a b c d : Value) : putsL [a, b, c, d] 0 S = S := by
  match S, h with
  | [x, y, z, t], _ => rfl
attribute [local irreducible] foursL pairsL cutR trimL joinL blockL joinR trimR blockR maskB edgeN layN sdL
set_option maxRecDepth 100000 in
set_option maxHeartbeats 8000000 in
theorem hjoin_any (A B : Option Addr) (n c m d : Nat) (l r : List UInt8) (z : Int) (w : World) (h : RB w w.heap.size A n l) (k : RB w w.heap.size B m r) (hn : n ≤ 1000000) (hm : m ≤ 1000000) (hz : z ≤ 9223372036854775807) :
    Calls Tryz.prog 96 #[.slice A n c, .slice B m d, .int .i64 z] w (RetBE (joinR l r z).1.length (joinR l r z).1 (joinR l r z).2 w) := by
  have HL := Lib.hid h.len
  have HR := Lib.hid k.len
  cases hv : (fitB z n && fitB z m)
  · have HE : Hid (joinR l r z = ([], 11)) := Lib.hid (joinR_no (by rw [HL.out, HR.out]; exact hv))
    have HF := Lib.hid (hfit_2 w A B n m c d z l r h k hz false (by rw [HL.out, HR.out]; exact hv))
    clear h k hv
    go_enter Tryz.func96, Tryz.ntmps96
    go_wp2_with fail
    refine HF.out.mono ?_
    rintro e w1 ⟨rfl, hb⟩
    have B1 := Lib.hid hb
    clear hb
    go_wp2_with fail
    go_ret2
    rw [HE.out]
    exact ⟨none, 0, rfl, OwnB.nil_ _ _, B1.out⟩
  have HF := Lib.hid (hfit_2 w A B n m c d z l r h k hz true (by rw [HL.out, HR.out]; exact hv))
  rw [Bool.and_eq_true] at hv
  obtain ⟨N, rfl, h2, h28, en⟩ := fitB_nat hv.1
  obtain rfl : n = m := by
    obtain ⟨N', e, _, _, em⟩ := fitB_nat hv.2
    have : N = N' := by omega
    subst this
    omega
  have hl : l.length = szN N := by rw [HL.out]; exact en
  have hr : r.length = szN N := by rw [HR.out]; exact en
  have hs : szN N ≤ N ∧ 2 * szN N = N + N % 2 ∧ 0 < szN N := by unfold szN; omega
  have HP1 := Lib.hid (fun v => hplace_any A n c N true v h2 h28 en)
  have HP2 := Lib.hid (fun v => hplace_any B n d N false v h2 h28 en)
  simp only [Bool.false_eq_true, if_false, if_true] at HP1 HP2
  have he1 : edgeN n true < n := by unfold edgeN; simp only [if_true]; omega
  have he2 : edgeN n false < n := by unfold edgeN; simp only [Bool.false_eq_true, if_false]; omega
  obtain ⟨b1, hb1⟩ : ∃ b1, badB l N true = b1 := ⟨_, rfl⟩
  obtain ⟨b2, hb2⟩ : ∃ b2, badB r N false = b2 := ⟨_, rfl⟩
  have hB1 : decide (gd l (edgeN n true) &&& ~~~ maskB N true ≠ 0) = b1 := by rw [← hb1]; unfold badB; rw [HL.out]
  have hB2 : decide (gd r (edgeN n false) &&& ~~~ maskB N false ≠ 0) = b2 := by rw [← hb2]; unfold badB; rw [HR.out]
  obtain ⟨v, hvv⟩ : ∃ v, (b1 || b2) = v := ⟨_, rfl⟩
  have HBAD : Hid ((badB l N true || badB r N false) = v) := Lib.hid (by rw [hb1, hb2]; exact hvv)
  obtain ⟨e1, he1'⟩ : ∃ e1, edgeN n true = e1 := ⟨_, rfl⟩
  obtain ⟨e2, he2'⟩ : ∃ e2, edgeN n false = e2 := ⟨_, rfl⟩
  obtain ⟨m1, hm1'⟩ : ∃ m1, maskB N true = m1 := ⟨_, rfl⟩
  obtain ⟨m2, hm2'⟩ : ∃ m2, maskB N false = m2 := ⟨_, rfl⟩
  rw [he1', hm1'] at HP1 hB1
  rw [he1'] at he1
  rw [he2', hm2'] at HP2 hB2
  rw [he2'] at he2
  obtain ⟨a2, ha2⟩ : ∃ a2, N - n = a2 := ⟨_, rfl⟩
  rw [ha2] at HP2
  have HI1 := Lib.hid (fun (u : World) (hb : Below w.heap.size w u) => hinv1_any A n c 0 e1 m1 l u (h.step hb) he1 b1 hB1)
  have HI2 := Lib.hid (fun (u : World) (hb : Below w.heap.size w u) => hinv1_any B n d a2 e2 m2 r u (k.step hb) he2 b2 hB2)
  have HA : Hid (a2 + n ≤ N ∧ N ≤ 28 ∧ a2 = N - szN N ∧ n = szN N) := Lib.hid (by omega)
  have HY1 := Lib.hid (fun (u : World) (g : Nat) (L : List UInt8) (hb : Below w.heap.size w u) (t : OwnB u w.heap.size (some ⟨g, 0, none⟩) N N L) => hlay_any A n c 0 e1 m1 l g N N w.heap.size L u (h.below hb) t (by have := HA.out; omega) (by omega))
  have HY2 := Lib.hid (fun (u : World) (g : Nat) (L : List UInt8) (hb : Below w.heap.size w u) (t : OwnB u w.heap.size (some ⟨g, 0, none⟩) N N L) => hlay_any B n d a2 e2 m2 r g N N w.heap.size L u (k.below hb) t (by have := HA.out; omega) (by omega))
  obtain ⟨S1, HS1⟩ : ∃ S, Hid (S = sdC A n c 0 e1 m1) := ⟨_, Lib.hid rfl⟩
  obtain ⟨S2, HS2⟩ : ∃ S, Hid (S = sdC B n d a2 e2 m2) := ⟨_, Lib.hid rfl⟩
  rw [← HS1.out] at HP1 HI1 HY1
  rw [← HS2.out] at HP2 HI2 HY2
  have L1 : Hid (S1.length = 4) := Lib.hid (by rw [HS1.out]; rfl)
  have L2 : Hid (S2.length = 4) := Lib.hid (by rw [HS2.out]; rfl)
  have ON1 : Hid (ones S1) := Lib.hid (by rw [HS1.out]; exact sd_ones _ _ _ _ _ _)
  have ON2 : Hid (ones S2) := Lib.hid (by rw [HS2.out]; exact sd_ones _ _ _ _ _ _)
  obtain ⟨V1, HV1⟩ : ∃ V, Hid (V = Value.agg S1.toArray) := ⟨_, Lib.hid rfl⟩
  obtain ⟨V2, HV2⟩ : ∃ V, Hid (V = Value.agg S2.toArray) := ⟨_, Lib.hid rfl⟩
  rw [← HV1.out] at HP1 HI1
  rw [← HV2.out] at HP2 HI2
  have HJL : Hid ((joinL l r N).length = N) := Lib.hid (join_len l r N)
  have HLR := Lib.hid (And.intro hl (And.intro hr (And.intro h2 h28)))
  have HVV := Lib.hid hvv
  have hmm := @run_makeMap Tryz.prog
  obtain ⟨es, HES⟩ : ∃ es : Array MapEntry, Hid (es = #[{ key := .bool true, val := V1, born := 0 }, { key := .bool false, val := V2, born := 1 }]) := ⟨_, Lib.hid rfl⟩
  have HN28 : N ≤ 28 := h28
  clear h k hv en hl hr hs he1 he2 hb1 hb2 hB1 hB2 he1' he2' hm1' hm2' ha2 h2 h28 hvv
  go_enter Tryz.func96, Tryz.ntmps96
  go_wp2_with fail
  refine HF.out.mono ?_
  rintro e w1 ⟨rfl, hb⟩
  have B1 := Lib.hid hb
  clear hb
  go_wp2_with fail
  refine (HP1.out _).mono ?_
  rintro e w2 ⟨rfl, hb⟩
  have B2 : Hid (Below w.heap.size w w2 ∧ w2.heap[w1.heap.size]? = some (.map #[] 0)) := Lib.hid ⟨B1.out.trans (((below_alloc w1 _).trans (hb.mono (by simp))).mono B1.out.size), (hb.block w1.heap.size (by simp)).trans (heap_alloc_new w1 _)⟩
  have HBM : Hid (w.heap.size ≤ w1.heap.size) := Lib.hid B1.out.size
  obtain ⟨bm, hbm⟩ : ∃ bm, bm = w1.heap.size := ⟨_, rfl⟩
  rw [← hbm] at B2 HBM
  rw [← hbm]
  clear hb B1 hbm
  go_wp2_with (first
    | (with_reducible show wpList _ _ _ (⟨_, .insert _ _ _ _, _, _, _, none⟩ :: _) _ _; refine wpList_insB mp_type bl_type rfl (.tmp 18) (.const (.bool true)) (.tmp 21) rfl bm rfl true rfl V1 rfl #[] 0 (by exact B2.out.2) rfl ?_; intro w3 hm3 ho3 hs3; have K3a : Below w.heap.size w w3 := B2.out.1.trans (ho3.below (fun j hj => by rw [List.mem_singleton.1 hj]; exact HBM.out) B2.out.1.size); have K3 : Hid (Below w.heap.size w w3 ∧ w3.heap[bm]? = some (.map #[{ key := .bool true, val := V1, born := 0 }] 1)) := Lib.hid ⟨K3a, by simpa using hm3⟩; clear K3a; clear hm3 ho3 hs3))
  refine (HP2.out _).mono ?_
  rintro e w4 ⟨rfl, hb⟩
  have K4 : Hid (Below w.heap.size w w4 ∧ w4.heap[bm]? = some (.map #[{ key := .bool true, val := V1, born := 0 }] 1)) := Lib.hid ⟨bel_next K3.out.1 hb, (hb.block bm (Array.getElem?_eq_some_iff.1 K3.out.2).1).trans K3.out.2⟩
  clear hb K3 B2
  go_wp2_with (first
    | (with_reducible show wpList _ _ _ (⟨_, .insert _ _ _ _, _, _, _, none⟩ :: _) _ _; refine wpList_insB mp_type bl_type rfl (.tmp 18) (.const (.bool false)) (.tmp 24) rfl bm rfl false rfl V2 rfl _ 1 (by exact K4.out.2) rfl ?_; intro w5 hm3 ho3 hs3; have K5 : Hid (Below w.heap.size w w5 ∧ w5.heap[bm]? = some (.map es 2)) := Lib.hid ⟨K4.out.1.trans (ho3.below (fun j hj => by rw [List.mem_singleton.1 hj]; exact HBM.out) K4.out.1.size), by rw [HES.out]; simpa using hm3⟩; have q1 := run_lkB (w := w5) mp_type bl_type bm true V1 0 es 2 K5.out.2 (fn_true _ _ es HES.out); have q2 := run_lkB (w := w5) mp_type bl_type bm false V2 1 es 2 K5.out.2 (fn_false _ _ es HES.out); clear hm3 ho3 hs3 K4)
    | (refine wpList_sides rfl (.tmp 27) (.tmp 29) rfl S1 S2 L1.out L2.out V1 V2 rfl rfl HV1.out HV2.out ?_; intro w6 x hx6 hb6; have K6 : Hid (Below w.heap.size w w6 ∧ w6.heap[bm]? = some (.map es 2) ∧ Blk 170 w6 x (S1 ++ S2)) := Lib.hid ⟨bel_next K5.out.1 hb6, (hb6.block bm (Array.getElem?_eq_some_iff.1 K5.out.2).1).trans K5.out.2, hx6⟩; clear hx6 hb6 q1 q2))
  have HIN := Lib.hid (hinvalid_any x S1 S2 L1.out L2.out w6 K6.out.2.2 b1 b2 v HVV.out (fun u hb => by rw [← HV1.out]; exact HI1.out u (bel_next K6.out.1 hb)) (fun u hb => by rw [← HV2.out]; exact HI2.out u (bel_next K6.out.1 hb)))
  clear K5
  refine HIN.out.mono ?_
  rintro e w7 ⟨rfl, hb⟩
  have K7 : Hid (Below w.heap.size w w7 ∧ w7.heap[bm]? = some (.map es 2)) := Lib.hid ⟨bel_next K6.out.1 hb, (hb.block bm (Array.getElem?_eq_some_iff.1 K6.out.2.1).1).trans K6.out.2.1⟩
  clear hb K6 HIN
  cases v
  · have HE := Lib.hid (joinR_ok HLR.out.2.2.1 HLR.out.2.2.2 HLR.out.1 HLR.out.2.1 HBAD.out)
    go_wp2_with (first
      | (at_make; refine wpList_mk rfl _ _ rfl w.heap.size .i64 .i64 _ _ N rfl rfl rfl rfl (by omega) (by exact K7.out.1.size) ?_; intro w8 ho8 hs8 hb8; obtain ⟨g, hg⟩ : ∃ g, g = w7.heap.size := ⟨_, rfl⟩; rw [← hg] at ho8; rw [← hg]; have K8 : Hid (Below w.heap.size w w8 ∧ w8.heap[bm]? = some (.map es 2) ∧ OwnB w8 w.heap.size (some ⟨g, 0, none⟩) N N (List.replicate N 0)) := Lib.hid ⟨bel_next K7.out.1 hb8, (hb8.block bm (Array.getElem?_eq_some_iff.1 K7.out.2).1).trans K7.out.2, ho8⟩; have hrg := run_range_map (P := Tryz.prog) w8 _ _ _ bm es 2 mp_type K8.out.2.1; clear ho8 hs8 hb8 hg))
    obtain ⟨it, hit⟩ : ∃ it, it = w8.heap.size := ⟨_, rfl⟩
    rw [← hit]
    have HIT : Hid (w.heap.size ≤ it) := Lib.hid (by rw [hit]; exact K8.out.1.size)
    have HGB : Hid (w.heap.size ≤ g) := Lib.hid (K8.out.2.2.spot _ rfl).2.1
    have K9 : Hid (LS w bm it g N es (List.replicate N 0) l r a2 n (w8.alloc (.mapIter (some bm) 2 #[] 2)) #[]) := Lib.hid ⟨by rw [hit]; exact heap_alloc_new w8 _, ((below_alloc w8 _).block bm (Array.getElem?_eq_some_iff.1 K8.out.2.1).1).trans K8.out.2.1, by unfold sdL; exact K8.out.2.2.alloc _, bel_next K8.out.1 (below_alloc w8 _), .inl rfl⟩
    clear hrg hit K8 K7
    go_loopw [11] (fun _ wr => ∃ seen : Array Nat, Hid (LS w bm it g N es (List.replicate N 0) l r a2 n wr seen)) (fun _ wr => 2 - (wr.iterSeen it).size)
    case atStart => exact ⟨#[], K9⟩
    case round =>
      obtain ⟨seen, HK⟩ := hrel
      clear K9
      rcases nx_step wr it bm seen es 2 HK.out.it HK.out.mp (by rw [HES.out]; simp) (by rw [HES.out]; simp) with ⟨hall, hnx⟩ | ⟨e, he, hc, w2, hnx, hr2, ho2, hs2, hen⟩
      · have HJ : Hid (sdL (List.replicate N 0) l r a2 n seen.toList = joinL l r N) := Lib.hid (by
          have h0 := hall { key := .bool true, val := V1, born := 0 } (by rw [HES.out]; simp)
          have h1 := hall { key := .bool false, val := V2, born := 1 } (by rw [HES.out]; simp)
          have := HK.out.hs.all h0 h1 l r N HLR.out.1 HLR.out.2.1 HLR.out.2.2.1
          rw [HA.out.2.2.1, HA.out.2.2.2]
          exact this)
        clear hall
        go_wp2_with fail
        go_ret2
        rw [HE.out]
        simp only
        rw [HJL.out]
        exact ⟨some ⟨g, 0, none⟩, N, rfl, by rw [← HJ.out]; exact HK.out.tx, HK.out.bel⟩
      · have he2 : e = { key := .bool true, val := V1, born := 0 } ∨ e = { key := .bool false, val := V2, born := 1 } := by rw [HES.out] at he; simpa using he
        clear he
        rcases he2 with rfl | rfl
        · skip
          have hc' := hc
          obtain ⟨HSN, hsz⟩ := HK.out.hs.push0 hc'
          have HSN' := Lib.hid HSN
          have HSZ : Hid (seen.size < 2) := Lib.hid hsz
          have O2 : Hid (w2.heap[it]? = some (.mapIter (some bm) 2 (seen.push 0) 2) ∧ Oth [it] wr w2) := Lib.hid ⟨hr2, ho2⟩
          have hen2 : (Instr.entry (.pointer (some ⟨it, 0, none⟩))).run Tryz.prog w2 = .ok (.tuple #[.bool true, V1]) w2 := hen
          have hnx2 : ∀ ty, (Instr.next (.pointer (some ⟨it, 0, none⟩)) false ty).run Tryz.prog wr = .ok (.tuple #[.bool true, .bool true, V1]) w2 := hnx
          clear hc hc' HSN hsz hr2 ho2 hs2 hen hnx
          go_wp2_with (first
            | (with_reducible show wpList _ _ _ (⟨some 11, .alloc _, _, _, _, none⟩ :: _) _ _; refine wpList_newB rt_side rfl rfl ?_; intro w3 q hc1 hb1 hx1; have K3 := Lib.hid (And.intro hc1 (And.intro hb1 hx1)); clear hc1 hb1 hx1)
            | (refine wpList_stB rt_side rfl (.tmp 11) (.tmp 39) rfl q 0 rfl _ S1 (by exact HV1.out) ON1.out L1.out (by exact K3.out.1) (by decide) ?_; intro w4 hc1 ho1 hs1; rw [puts_four L1.out] at hc1; have K4 : Hid (Blk 170 w4 q S1 ∧ Below w2.heap.size w2 w4) := Lib.hid ⟨hc1, K3.out.2.1.trans (ho1.below (fun j hj => by rw [List.mem_singleton.1 hj]; exact K3.out.2.2) K3.out.2.1.size)⟩; clear hc1 ho1 hs1)
            | (refine wpList_ldB rt_side rfl (.tmp 11) rfl q 0 rfl _ S1 (by exact K4.out.1) (by rw [List.drop_zero]; exact List.take_of_length_le (by rw [L1.out]; decide)) L1.out ?_))
          have HM := Lib.hid (HK.out.mid O2.out.2 K4.out.2 HIT.out)
          refine (HY1.out _ g _ (by exact HM.out.1) (by exact HM.out.2)).mono ?_
          rintro e w5 ⟨rfl, ho5, hoth5⟩
          have HN := Lib.hid (HK.out.next O2.out.1 O2.out.2 K4.out.2 HIT.out HGB.out (by rw [st_push0]; exact ho5) hoth5 HSN'.out)
          clear ho5 hoth5
          go_wp2_with fail
          go_roundw
          case rel => exact ⟨seen.push 0, HN⟩
          case measure => rw [HN.out.size, HK.out.size, Array.size_push]; have := HSZ.out; omega
        · skip
          have hc' := hc
          obtain ⟨HSN, hsz⟩ := HK.out.hs.push1 hc'
          have HSN' := Lib.hid HSN
          have HSZ : Hid (seen.size < 2) := Lib.hid hsz
          have O2 : Hid (w2.heap[it]? = some (.mapIter (some bm) 2 (seen.push 1) 2) ∧ Oth [it] wr w2) := Lib.hid ⟨hr2, ho2⟩
          have hen2 : (Instr.entry (.pointer (some ⟨it, 0, none⟩))).run Tryz.prog w2 = .ok (.tuple #[.bool false, V2]) w2 := hen
          have hnx2 : ∀ ty, (Instr.next (.pointer (some ⟨it, 0, none⟩)) false ty).run Tryz.prog wr = .ok (.tuple #[.bool true, .bool false, V2]) w2 := hnx
          clear hc hc' HSN hsz hr2 ho2 hs2 hen hnx
          go_wp2_with (first
            | (with_reducible show wpList _ _ _ (⟨some 11, .alloc _, _, _, _, none⟩ :: _) _ _; refine wpList_newB rt_side rfl rfl ?_; intro w3 q hc1 hb1 hx1; have K3 := Lib.hid (And.intro hc1 (And.intro hb1 hx1)); clear hc1 hb1 hx1)
            | (refine wpList_stB rt_side rfl (.tmp 11) (.tmp 39) rfl q 0 rfl _ S2 (by exact HV2.out) ON2.out L2.out (by exact K3.out.1) (by decide) ?_; intro w4 hc1 ho1 hs1; rw [puts_four L2.out] at hc1; have K4 : Hid (Blk 170 w4 q S2 ∧ Below w2.heap.size w2 w4) := Lib.hid ⟨hc1, K3.out.2.1.trans (ho1.below (fun j hj => by rw [List.mem_singleton.1 hj]; exact K3.out.2.2) K3.out.2.1.size)⟩; clear hc1 ho1 hs1)
            | (refine wpList_ldB rt_side rfl (.tmp 11) rfl q 0 rfl _ S2 (by exact K4.out.1) (by rw [List.drop_zero]; exact List.take_of_length_le (by rw [L2.out]; decide)) L2.out ?_))
          have HM := Lib.hid (HK.out.mid O2.out.2 K4.out.2 HIT.out)
          refine (HY2.out _ g _ (by exact HM.out.1) (by exact HM.out.2)).mono ?_
          rintro e w5 ⟨rfl, ho5, hoth5⟩
          have HN := Lib.hid (HK.out.next O2.out.1 O2.out.2 K4.out.2 HIT.out HGB.out (by rw [st_push1]; exact ho5) hoth5 HSN'.out)
          clear ho5 hoth5
          go_wp2_with fail
          go_roundw
          case rel => exact ⟨seen.push 1, HN⟩
          case measure => rw [HN.out.size, HK.out.size, Array.size_push]; have := HSZ.out; omega
  · have HE := Lib.hid (joinR_bad HLR.out.2.2.1 HLR.out.2.2.2 HLR.out.1 HLR.out.2.1 HBAD.out)
    go_wp2_with fail
    go_ret2
    rw [HE.out]
    exact ⟨none, 0, rfl, OwnB.nil_ _ _, K7.out.1⟩
end Go.Proofs.YtkcchidklcnnnaaGreat

