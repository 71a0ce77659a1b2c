/- MixApart's walk: unlike numbers have unlike ends and unlike folds; what is left is below its bound. -/
import Derived.Test.YtcihincfemiioaaMixV
import Derived.OpenShut
namespace Go.Proofs.Ytcihincfemiioaa
open Go.RowKit
set_option linter.unusedVariables false
set_option linter.unusedSimpArgs false

theorem beq_nat (a b : Nat) (p : Bool) (h : (a = b) ↔ p = true) : ((a : Int) == (b : Int)) = p := by
  cases p
  · rw [beq_eq_false_iff_ne]
    intro e
    have := h.1 (Int.ofNat.inj e)
    cases this
  · rw [beq_iff_eq, h.2 rfl]
theorem belowF_lt (n : Nat) (m : Int) (h : ¬ m < 1) : 0 ≤ belowF n m ∧ belowF n m < m := by
  unfold belowF
  rw [if_neg h]
  exact ⟨Int.emod_nonneg _ (by omega), Int.emod_lt_of_pos _ (by omega)⟩
theorem u64_nat {x : Int} (h : (Lit.int .u64 x).wf = true) : ∃ k : Nat, x = (k : Int) ∧ k < 18446744073709551616 := by
  have b1 := bounds_u64 h
  exact ⟨x.toNat, by omega, by omega⟩
theorem len_max {n c : Nat} (h : n ≤ c ∧ c ≤ maxLen) : n ≤ 9223372036854775807 := by unfold maxLen at h; omega
attribute [local irreducible] foldF size8 partF partsF endF mixF stepF belowF
set_option maxRecDepth 100000 in
set_option maxHeartbeats 2000000 in
theorem MixApart_walk (x0 : Int) (x1 : Int) (A2 : Option Addr) (n2 c2 : Nat) (l2 : List UInt8) (x3 : Int) (w : World) (h0 : (Lit.int .u64 x0).wf = true) (h1 : (Lit.int .u64 x1).wf = true) (h2 : RB w w.heap.size A2 n2 l2) (m2 : n2 ≤ c2 ∧ c2 ≤ maxLen) (h3 : (Lit.int .i64 x3).wf = true) :
    Calls Try.prog 4 #[.int .u64 x0, .int .u64 x1, .slice A2 n2 c2, .int .i64 x3] w fun e w' => e = .returned (.bool true) ∧ Below w.heap.size w w' := by
  obtain ⟨a, rfl, ha⟩ := u64_nat h0
  obtain ⟨b, rfl, hb⟩ := u64_nat h1
  have r3 := bounds_i64 h3
  have hm := len_max m2
  have hm2 : n2 ≤ maxLen := Nat.le_trans m2.1 m2.2
  by_cases hl : 300 < n2
  · go_enter Try.func4, Try.ntmps4
    go_wp2_with fail
    refine (alive_any _).mono ?_
    rintro e w1 ⟨rfl, hb1⟩
    go_wp2_with fail
    go_ret
    exact ⟨rfl, hb1⟩
  · obtain ⟨r, hr⟩ : ∃ r : Bool, decide (a = b) = r := ⟨_, rfl⟩
    have e0 : ((a : Int) == (b : Int)) = r := beq_nat a b r (by rw [← hr]; simp)
    have e1 : ((endF a : Int) == (endF b : Int)) = r := beq_nat _ _ r (by rw [← hr, decide_eq_true_iff]; exact ⟨end_inj ha hb, fun h => by rw [h]⟩)
    have e2 : ((foldF a l2 : Int) == (foldF b l2 : Int)) = r := beq_nat _ _ r (by rw [← hr, decide_eq_true_iff]; exact ⟨fold_inj ha hb, fun h => by rw [h]⟩)
    have EA := Lib.hid (fun W => end_any a W ha)
    have EB := Lib.hid (fun W => end_any b W hb)
    have FA := Lib.hid (fun W hW => fold_any a A2 n2 c2 w.heap.size l2 W ha hW hm2)
    have FB := Lib.hid (fun W hW => fold_any b A2 n2 c2 w.heap.size l2 W hb hW hm2)
    have BL := Lib.hid (fun W => below_any a x3 W ha r3.2)
    have hy := belowF_lt a x3
    have hz : x3 < 1 → belowF a x3 = 0 := fun h => by unfold belowF; rw [if_pos h]
    generalize endF a = U at e1 EA
    generalize endF b = V at e1 EB
    generalize foldF a l2 = P at e2 FA
    generalize foldF b l2 = Q at e2 FB
    generalize belowF a x3 = y at BL hy hz
    have HR := Lib.hid h2
    clear h2 m2 h0 h1 h3 hr
    have go : ∀ (t : Bool), decide (x3 < 1) = t → (t = true → y = 0) → (t = false → 0 ≤ y ∧ y < x3) → Calls Try.prog 4 #[.int .u64 (a : Int), .int .u64 (b : Int), .slice A2 n2 c2, .int .i64 x3] w fun e w' => e = .returned (.bool true) ∧ Below w.heap.size w w' := by
      intro t ht hy1 hy2
      clear hy hz
      rcases t with _ | _ <;> rcases r with _ | _
      all_goals (
        first
        | (obtain ⟨k1, k2⟩ := hy2 rfl; have k3 := of_decide_eq_false ht)
        | (have k1 := hy1 rfl; subst k1; have k3 := of_decide_eq_true ht)
        clear hy1 hy2 ht
        go_enter Try.func4, Try.ntmps4
        go_wp2_with fail
        refine (alive_any _).mono ?_
        rintro e w1 ⟨rfl, hb1⟩
        go_wp2_with fail
        refine (EA.out _).mono ?_
        rintro e w2 ⟨rfl, rfl⟩
        go_wp2_with fail
        refine (EB.out _).mono ?_
        rintro e w2 ⟨rfl, rfl⟩
        go_wp2_with fail
        refine (FA.out _ (by exact HR.out.below hb1)).mono ?_
        rintro e w2 ⟨rfl, rfl⟩
        go_wp2_with fail
        refine (FB.out _ (by exact HR.out.below hb1)).mono ?_
        rintro e w2 ⟨rfl, rfl⟩
        go_wp2_with fail
        refine (BL.out _).mono ?_
        rintro e w2 ⟨rfl, rfl⟩
        go_wp2_with fail
        go_ret
        exact ⟨rfl, hb1⟩)
    exact go _ rfl (fun h => hz (of_decide_eq_true h)) (fun h => hy (of_decide_eq_false h))
end Go.Proofs.Ytcihincfemiioaa
