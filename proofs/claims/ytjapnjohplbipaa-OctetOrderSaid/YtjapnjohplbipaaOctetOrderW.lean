/- OctetOrder's walk: of equally long bytes the numbers are in the bytes' order, and a nought ahead changes no number. Condition: the slices' cells are readable. -/
import Derived.Test.YtjapnjohplbipaaEqual
namespace Go.Proofs.Ytjapnjohplbipaa
open Go.RowKit
set_option linter.unusedVariables false

theorem numL_cons (x : UInt8) (l : List UInt8) : numL (x :: l) = x.toNat * 256 ^ l.length + numL l := by
  have h : ∀ (l : List UInt8) (a : Nat), l.foldl (fun n b => n * 256 + b.toNat) a = a * 256 ^ l.length + numL l := by
    intro l
    induction l with
    | nil => intro a; simp [numL]
    | cons y l ih =>
      intro a
      have e : numL (y :: l) = y.toNat * 256 ^ l.length + numL l := by
        show l.foldl _ (0 * 256 + y.toNat) = _
        rw [ih]
        simp
      rw [List.foldl_cons, ih, e, List.length_cons, Nat.pow_succ, Nat.add_mul]
      have : a * 256 * 256 ^ l.length = a * (256 ^ l.length * 256) := by rw [Nat.mul_assoc, Nat.mul_comm 256]
      omega
  show l.foldl _ (0 * 256 + x.toNat) = _
  rw [h]
  simp
theorem less_num : ∀ (a b : List UInt8), a.length = b.length → Op.bytesLess a b = decide (numL a < numL b)
  | [], [], _ => by simp [Op.bytesLess]
  | x :: a, y :: b, h => by
    have hl : a.length = b.length := by simpa using h
    have h1 := numL_lt _ a rfl
    have h2 := numL_lt _ b rfl
    rw [hl] at h1
    rw [Op.bytesLess, less_num a b hl, numL_cons, numL_cons, hl]
    rw [Bool.eq_iff_iff]
    simp only [Bool.or_eq_true, Bool.and_eq_true, decide_eq_true_eq, beq_iff_eq]
    rw [UInt8.lt_iff_toNat_lt, ← UInt8.toNat_inj]
    generalize 256 ^ b.length = P at *
    generalize numL a = p at *
    generalize numL b = q at *
    constructor
    · rintro (hlt | ⟨heq, hlt⟩)
      · have := Nat.mul_le_mul_right P (Nat.succ_le_of_lt hlt)
        rw [Nat.succ_mul] at this
        omega
      · rw [heq]; omega
    · intro hh
      rcases Nat.lt_trichotomy x.toNat y.toNat with h3 | h3 | h3
      · exact .inl h3
      · rw [h3] at hh; exact .inr ⟨h3, by omega⟩
      · have := Nat.mul_le_mul_right P (Nat.succ_le_of_lt h3)
        rw [Nat.succ_mul] at this
        omega

theorem join2 (A : Option Addr) (n c : Nat) (l : List UInt8) (w : World) (h : RR w w.heap.size A 2 [[0], l]) (hm : n ≤ 7) (hl : l.length = n) :
    Calls Try.prog 23 #[.slice A 2 c] w (RetB (1 + n) (0 :: l) w) := by
  have := join_any A 2 c [[0], l] w h (by unfold maxLen; omega) (by simp [totL]; omega)
  simpa [totL, hl] using this
theorem num_zero (A : Option Addr) (n c : Nat) (l : List UInt8) (w : World) (h : RB w w.heap.size A (1 + n) (0 :: l)) (hn : n ≤ 7) :
    Calls Try.prog 11 #[.slice A (1 + n) c] w fun e w' => e = .returned (.tuple #[.int .u64 (numL l : Int), .int .i64 0]) ∧ w = w' := by
  have := num_few A (1 + n) c _ (0 :: l) w h (by omega)
  have e : numL (0 :: l) = numL l := by rw [numL_cons]; simp
  rw [e] at this
  exact this

set_option maxHeartbeats 1000000 in
theorem OctetOrder_walk (A0 : Option Addr) (n0 c0 : Nat) (l0 : List UInt8) (A1 : Option Addr) (n1 c1 : Nat) (l1 : List UInt8) (w : World) (h0 : RB w w.heap.size A0 n0 l0) (m0 : n0 ≤ c0 ∧ c0 ≤ maxLen) (h1 : RB w w.heap.size A1 n1 l1) (m1 : n1 ≤ c1 ∧ c1 ≤ maxLen) :
    Calls Try.prog 7 #[.slice A0 n0 c0, .slice A1 n1 c1] w fun e w' => e = .returned (.bool true) ∧ Below w.heap.size w w' := by
  have b0 : n0 ≤ 9223372036854775807 := by have := m0; unfold maxLen at this; omega
  have b1 : n1 ≤ 9223372036854775807 := by have := m1; unfold maxLen at this; omega
  clear m0 m1
  by_cases hlong : 7 < n0
  · go_enter Try.func7, Try.ntmps7
    go_wp2_with (go_at_call 8; refine (alive_any _).mono ?_; rintro e w1 ⟨rfl, hb1⟩)
    go_ret
    exact ⟨rfl, hb1⟩
  · by_cases hne : n1 = n0
    · subst hne
      have hneq : ((n1 : Int) != (n1 : Int)) = false := by simp
      go_enter Try.func7, Try.ntmps7
      go_wp2_with fail
      refine (alive_any _).mono ?_
      rintro e w1 ⟨rfl, hb1⟩
      have h01 := h0.step hb1
      have h11 := h1.step hb1
      go_wp2_with fail
      refine (num_few _ _ _ _ l0 _ (by exact h01) (by omega)).mono ?_
      rintro e w2 ⟨rfl, rfl⟩
      go_wp2_with fail
      refine (num_few _ _ _ _ l1 _ (by exact h11) (by omega)).mono ?_
      rintro e w2 ⟨rfl, rfl⟩
      go_wp2_with fail
      refine (join2 _ n1 _ l0 _ (by exact RR.lit _ [(some ⟨w1.heap.size, 0, none⟩, 1, [0]), (A0, c0, l0)] _ _ 2 _ (by simp [h0.len]) rfl (by simp) (by
        intro r hr
        simp only [List.mem_cons, List.not_mem_nil, or_false] at hr
        rcases hr with rfl | rfl
        · exact RB.lit w1 [0] _ 1 _ rfl rfl rfl
        · have := h01.step (below_alloc w1 (.cells #[Value.int .u8 0] 5))
          rw [show l0.length = n1 from h0.len]
          exact this)) (by omega) h0.len).mono ?_
      rintro e w2 ⟨A2, c2, rfl, hj, hb2⟩
      have hb2' : Below w1.heap.size w1 w2 := bel_next (bel_next (below_alloc w1 _) (below_alloc _ _)) hb2
      have h02 := h01.step hb2'
      have h12 := h11.step hb2'
      go_wp2_with fail
      refine (num_zero _ _ _ l0 _ (by exact hj.rb) (by omega)).mono ?_
      rintro e w3 ⟨rfl, rfl⟩
      have hs0 := run_str h02 c0
      have hs1 := run_str h12 c1
      have hless : Op.bytesLess (strL l0).toList (strL l1).toList = decide (numL l0 < numL l1) := by
        rw [Lib.toList_data, Lib.toList_data]
        exact less_num l0 l1 (by rw [h0.len, h1.len])
      go_wp2_with fail
      go_ret
      exact ⟨rfl, bel_next hb1 hb2'⟩
    · have hneq : ((n1 : Int) != (n0 : Int)) = true := by rw [bne_iff_ne]; omega
      go_enter Try.func7, Try.ntmps7
      go_wp2_with (go_at_call 8; refine (alive_any _).mono ?_; rintro e w1 ⟨rfl, hb1⟩)
      go_ret
      exact ⟨rfl, hb1⟩
end Go.Proofs.Ytjapnjohplbipaa
