/- Layer 22: the fold that is often shown. No condition. -/
import Derived.Test.YtcihincfemiioaaMixR
namespace Go.Proofs.Ytcihincfemiioaa
open Go.RowKit
set_option linter.unusedVariables false
set_option linter.unusedSimpArgs false

theorem show1 : foldF 14695981039346656037 [97] = 12638187200555641996 := by decide +kernel
theorem show2 : endF 0 = 0 := by decide +kernel
theorem show3 : ((endF 1 : Int) != 1) = true := by decide +kernel
theorem show4 : ((mixF 1 [[2]] : Int) != (mixF 1 [[], [2]] : Int)) = true := by decide +kernel
theorem fold_lit1 (A : Option Addr) (c : Nat) (w : World) (h : RB w w.heap.size A 1 [97]) :
    Calls Try.prog 10 #[.int .u64 14695981039346656037, .slice A 1 c] w fun e w' => e = .returned (.int .u64 12638187200555641996) ∧ w = w' := by
  have := fold_any 14695981039346656037 A 1 c _ [97] w (by decide) h (by decide)
  rw [show1] at this
  exact this
theorem fold_lit2 (w : World) :
    Calls Try.prog 10 #[.int .u64 7, .slice none 0 0] w fun e w' => e = .returned (.int .u64 7) ∧ w = w' :=
  fold_any 7 none 0 0 0 [] w (by decide) RB.nil_ (by decide)
theorem end_lit0 (w : World) : Calls Try.prog 12 #[.int .u64 0] w fun e w' => e = .returned (.int .u64 0) ∧ w = w' := by
  have := end_any 0 w (by decide)
  rw [show2] at this
  exact this
theorem end_lit1 (w : World) : Calls Try.prog 12 #[.int .u64 1] w fun e w' => e = .returned (.int .u64 (endF 1 : Int)) ∧ w = w' := end_any 1 w (by decide)
theorem below_lit1 (w : World) : Calls Try.prog 16 #[.int .u64 17, .int .i64 5] w fun e w' => e = .returned (.int .i64 2) ∧ w = w' := below_any 17 5 w (by decide) (by decide)
theorem below_lit2 (w : World) : Calls Try.prog 16 #[.int .u64 17, .int .i64 0] w fun e w' => e = .returned (.int .i64 0) ∧ w = w' := below_any 17 0 w (by decide) (by decide)
theorem mix_lit1 (A : Option Addr) (c : Nat) (w : World) (h : RR w w.heap.size A 1 [[2]]) :
    Calls Try.prog 14 #[.int .u64 1, .slice A 1 c] w fun e w' => e = .returned (.int .u64 (mixF 1 [[2]] : Int)) ∧ Below w.heap.size w w' :=
  mix_any 1 A 1 c _ w (by decide) h (by decide) (by decide)
theorem mix_lit2 (A : Option Addr) (c : Nat) (w : World) (h : RR w w.heap.size A 2 [[], [2]]) :
    Calls Try.prog 14 #[.int .u64 1, .slice A 2 c] w fun e w' => e = .returned (.int .u64 (mixF 1 [[], [2]] : Int)) ∧ Below w.heap.size w w' :=
  mix_any 1 A 2 c _ w (by decide) h (by decide) (by decide)
attribute [local irreducible] foldF size8 partF partsF endF mixF stepF
set_option maxRecDepth 100000 in
set_option maxHeartbeats 1000000 in
theorem alive_any (w : World) : Calls Try.prog 7 #[] w fun e w' => e = .returned (.bool true) ∧ Below w.heap.size w w' := by
  have q3 := show3
  have q4 := show4
  obtain ⟨a, HA⟩ : ∃ a, Hid (a = endF 1) := ⟨_, Lib.hid rfl⟩
  obtain ⟨b, HB⟩ : ∃ b, Hid (b = mixF 1 [[2]]) := ⟨_, Lib.hid rfl⟩
  obtain ⟨c, HC⟩ : ∃ c, Hid (c = mixF 1 [[], [2]]) := ⟨_, Lib.hid rfl⟩
  rw [← HA.out] at q3
  rw [← HB.out, ← HC.out] at q4
  have E1 := Lib.hid end_lit1
  have M1 := Lib.hid mix_lit1
  have M2 := Lib.hid mix_lit2
  rw [← HA.out] at E1
  rw [← HB.out] at M1
  rw [← HC.out] at M2
  clear HA HB HC
  go_enter Try.func7, Try.ntmps7
  go_wp2_with fail
  refine (fold_lit1 _ _ _ (by exact RB.lit w [97] _ 1 _ rfl rfl rfl)).mono ?_
  rintro e w1 ⟨rfl, hw1⟩
  have hb1 : Below w.heap.size w w1 := by rw [← hw1]; exact below_alloc _ _
  clear hw1
  go_wp2_with fail
  refine (fold_lit2 _).mono ?_
  rintro e w2 ⟨rfl, rfl⟩
  go_wp2_with fail
  refine (end_lit0 _).mono ?_
  rintro e w2 ⟨rfl, rfl⟩
  go_wp2_with fail
  refine (E1.out _).mono ?_
  rintro e w2 ⟨rfl, rfl⟩
  go_wp2_with fail
  refine (below_lit1 _).mono ?_
  rintro e w2 ⟨rfl, rfl⟩
  go_wp2_with fail
  refine (below_lit2 _).mono ?_
  rintro e w2 ⟨rfl, rfl⟩
  go_wp2_with fail
  refine (M1.out _ _ _ (by exact RR.lit _ [(some ⟨w1.heap.size, 0, none⟩, 1, [2])] _ _ 1 _ rfl rfl (by simp) (by
    intro r hr
    simp only [List.mem_cons, List.not_mem_nil, or_false] at hr
    subst hr
    exact RB.lit w1 [2] _ 1 _ rfl rfl rfl))).mono ?_
  rintro e w2 ⟨rfl, hb2⟩
  have hb3 : Below w.heap.size w w2 := bel_next hb1 (bel_next (bel_next (below_alloc _ _) (below_alloc _ _)) hb2)
  clear hb2
  go_wp2_with fail
  refine (M2.out _ _ _ (by exact RR.lit _ [(none, 0, []), (some ⟨w2.heap.size, 0, none⟩, 1, [2])] _ _ 2 _ rfl rfl (by simp) (by
    intro r hr
    simp only [List.mem_cons, List.not_mem_nil, or_false] at hr
    rcases hr with rfl | rfl
    · exact RB.nil_
    · exact RB.lit w2 [2] _ 1 _ rfl rfl rfl))).mono ?_
  rintro e w3 ⟨rfl, hb4⟩
  go_wp2_with fail
  go_ret
  exact ⟨rfl, bel_next hb3 (bel_next (bel_next (below_alloc _ _) (below_alloc _ _)) hb4)⟩
end Go.Proofs.Ytcihincfemiioaa
