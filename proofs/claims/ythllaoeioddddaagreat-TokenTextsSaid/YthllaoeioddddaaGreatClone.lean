/- slices.Clone of bytes gives the same bytes in new memory. Condition: the slice's cells are readable. -/
import Derived.Test.YthllaoeioddddaaGreatBytes
namespace Go.Proofs.YthllaoeioddddaaGreat
open Go.RowKit
set_option linter.unusedVariables false

/-- A slice against nil. -/
theorem slice_nil_in (A : Option Addr) (n c d : Nat) (W : World) : (Op.equalIn (d + 1) 23 (.slice A n c) (.slice none 0 0)).run Tryz.prog W = .ok A.isNone W := by
  cases A <;> simp [Op.equalIn, run_underlying Tryz.underlying23]
theorem slice_nil_eq (A : Option Addr) (n c : Nat) (W : World) : (Op.equal 23 (.slice A n c) (.slice none 0 0)).run Tryz.prog W = .ok A.isNone W := slice_nil_in A n c 9999 W
theorem slice_nil (A : Option Addr) (n c : Nat) (W : World) : (binOp .eql 23 (.slice A n c) (.slice none 0 0)).run Tryz.prog W = .ok (.bool A.isNone) W := by
  simp [binOp, slice_nil_eq A n c]

set_option maxRecDepth 100000 in
set_option maxHeartbeats 1000000 in
theorem clone_any (A : Option Addr) (n c B : Nat) (l : List UInt8) (w : World) (h : RB w B A n l) (hB : B ≤ w.heap.size) (hn : n ≤ 140737488355328) :
    Calls Tryz.prog 56 #[.slice A n c] w (RetB n l w) := by
  rcases A with _ | ad
  · obtain rfl : n = 0 := by
      rcases Nat.eq_zero_or_pos n with h0 | h0
      · exact h0
      · obtain ⟨b, o, e, _⟩ := h.2 h0
        exact absurd e (by simp)
    have hl : l = [] := List.eq_nil_of_length_eq_zero h.len
    subst hl
    have hnil : ∀ W : World, (binOp .eql 23 (.slice none 0 c) (.slice none 0 0)).run Tryz.prog W = .ok (.bool true) W := fun W => slice_nil none 0 c W
    go_enter Tryz.func56, Tryz.ntmps56
    go_wp2
    go_ret
    exact ⟨none, 0, rfl, OwnB.nil_ _ _, Below.refl _ _⟩
  · have hnil : ∀ W : World, (binOp .eql 23 (.slice (some ad) n c) (.slice none 0 0)).run Tryz.prog W = .ok (.bool false) W := fun W => slice_nil (some ad) n c W
    have hr2 : RB (w.alloc (.cells #[] 5)) B (some ad) n l := h.alloc hB _
    go_enter Tryz.func56, Tryz.ntmps56
    go_wp2_with (at_builtin; refine wpList_app rfl (.tmp 5) (.tmp 6) rfl w.heap.size (some ⟨w.heap.size, 0, none⟩) 0 0 [] rfl (by exact OwnB.lit w _ [] _ 0 rfl rfl (by unfold maxLen; omega) (Nat.le_refl _)) B (some ad) n c l rfl (by exact hr2) (by omega) (by simp) ?_; intro A2 c2 w2 hown2 _ hb2)
    go_ret
    exact ⟨_, _, rfl, by simpa using hown2, (below_alloc _ _).trans hb2⟩
end Go.Proofs.YthllaoeioddddaaGreat
