/- Layer 14's reference Join. Conditions: the slices' cells are readable, lengths are at most a million. -/
import Derived.Test.YtgmedeldjlmlmaaHvD
namespace Go.Proofs.Ytgmedeldjlmlmaa
open Go.RowKit
set_option linter.unusedVariables false
set_option linter.unusedSimpArgs false
theorem joinR_no {l r : List UInt8} {z : Int} (h : (fitB z l.length && fitB z r.length) = false) : joinR l r z = ([], 11) := by unfold joinR; rw [h]; rfl
theorem joinR_bad {l r : List UInt8} {n : Nat} (h2 : 2 ≤ n) (h28 : n ≤ 28) (hl : l.length = szN n) (hr : r.length = szN n) (hb : (badB l n true || badB r n false) = true) : joinR l r (n : Int) = ([], 10) := by
  unfold joinR
  rw [hl, hr, fitB_mk h2 h28, Int.toNat_natCast, hb]
  rfl
theorem joinR_ok {l r : List UInt8} {n : Nat} (h2 : 2 ≤ n) (h28 : n ≤ 28) (hl : l.length = szN n) (hr : r.length = szN n) (hb : (badB l n true || badB r n false) = false) : joinR l r (n : Int) = (joinL l r n, 0) := by
  unfold joinR
  rw [hl, hr, fitB_mk h2 h28, Int.toNat_natCast, hb]
  rfl
theorem bad_even {l : List UInt8} {n : Nat} {left : Bool} (h : ¬ n % 2 = 1) : badB l n left = false := by
  unfold badB maskB
  rw [if_pos (show n % 2 = 0 by omega)]
  exact b_all0 _
theorem bad_left {l : List UInt8} {n : Nat} (h : n % 2 = 1) (hl : l.length = szN n) : badB l n true = decide (gd (foursL l) n ≠ 0) := by
  unfold badB maskB edgeN
  rw [if_neg (show ¬ n % 2 = 0 by omega), fours_gd, if_neg (show ¬ n % 2 = 0 by omega)]
  simp only [if_true]
  rw [b_mod0, hl, show szN n - 1 = n / 2 by unfold szN; omega]
theorem bad_right {r : List UInt8} {n : Nat} (h : n % 2 = 1) : badB r n false = decide (gd (foursL r) 0 ≠ 0) := by
  unfold badB maskB edgeN
  rw [if_neg (show ¬ n % 2 = 0 by omega), fours_gd, if_pos (show 0 % 2 = 0 by omega)]
  simp only [Bool.false_eq_true, if_false]
  rw [b_div0]
theorem join_fours2 (l r : List UInt8) (n : Nat) (h2 : 2 ≤ n) (h28 : n ≤ 28) (hl : l.length = szN n) (hr : r.length = szN n) (hb : (badB l n true || badB r n false) = false) :
    joinL l r n = pairsL ((foursL l).take n ++ (foursL r).drop (n % 2)) := by
  rw [Bool.or_eq_false_iff] at hb
  refine join_fours l r n h2 h28 hl hr (fun h => ?_) (fun h => ?_)
  · have h1 := hb.1
    rw [bad_left h hl, fours_gd, if_neg (show ¬ n % 2 = 0 by omega), show n / 2 = szN n - 1 by unfold szN; omega] at h1
    exact Classical.byContradiction fun e => by rw [decide_eq_true e] at h1; cases h1
  · have h1 := hb.2
    rw [bad_right h, fours_gd, if_pos (show 0 % 2 = 0 by omega)] at h1
    exact Classical.byContradiction fun e => by rw [decide_eq_true e] at h1; cases h1
theorem cut_hh (g n c h : Nat) (h2 : h ≤ c) : ∀ W : World, (Instr.slice 22 (.slice (some ⟨g, 0, none⟩) n c) none (some (.int .i64 (h : Int))) (some (.int .i64 (h : Int)))).run Try.prog W = .ok (.slice (some ⟨g, 0, none⟩) h h) W := by
  intro W
  simp [Instr.slice, Instr.sliceBounds, Instr.sliceBound, asIntOf, go_sem, run_underlying Try.underlying22, h2, Addr.add]
theorem ne_lit {x : UInt8} (h : x ≠ 0) : ((x.toNat : Int) != 0) = true := by
  rw [bne_iff_ne]
  intro e
  exact h (UInt8.toNat_inj.1 (by simp; omega))
attribute [local irreducible] foursL pairsL cutR trimL joinL blockL joinR
end Go.Proofs.Ytgmedeldjlmlmaa
