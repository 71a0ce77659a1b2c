/- octet.Put and the reference's Put give a number's bytes in new memory, and refuse sizes and numbers that do not fit. -/
import Derived.Test.YtmpidjadpcpbfaaGreatXor
namespace Go.Proofs.YtmpidjadpcpbfaaGreat
open Go.RowKit
set_option linter.unusedVariables false

/-- The last size bytes of n, the first the most significant. -/
def putL (n : Nat) : Nat → List UInt8
  | 0 => []
  | k + 1 => putL (n / 256) k ++ [UInt8.ofNat n]
theorem putL_len (n k : Nat) : (putL n k).length = k := by
  induction k generalizing n with
  | zero => rfl
  | succ k ih => simp [putL, ih]
/-- n shifted by k bytes. -/
def downL (n : Nat) : Nat → Nat | 0 => n | k + 1 => downL n k / 256
theorem downL_succ (n k : Nat) : downL n (k + 1) = downL n k / 256 := rfl
theorem downL_le (n k : Nat) : downL n k ≤ n := by induction k with | zero => exact Nat.le_refl _ | succ k ih => rw [downL_succ]; omega
theorem downL_comm (n k : Nat) : downL (n / 256) k = downL n (k + 1) := by induction k with | zero => rfl | succ k ih => rw [downL_succ, ih, ← downL_succ]
/-- What Put's loop has written when j bytes are still to go (of size). -/
def putAt (n size j : Nat) : List UInt8 := List.replicate j 0 ++ (putL n size).drop j
theorem putL_get (n k j : Nat) (h : j < k) : (putL n k)[j]? = some (UInt8.ofNat (downL n (k - 1 - j))) := by
  induction k generalizing n with
  | zero => omega
  | succ k ih =>
    unfold putL
    by_cases hj : j < k
    · rw [List.getElem?_append_left (by rw [putL_len]; exact hj), ih _ hj, downL_comm]
      congr 3
      omega
    · obtain rfl : j = k := by omega
      rw [List.getElem?_append_right (by rw [putL_len]; exact Nat.le_refl _), putL_len]
      simp [downL]
theorem putAt_next (n size j : Nat) (h : j < size) : (putAt n size (j + 1)).set j (UInt8.ofNat (downL n (size - 1 - j))) = putAt n size j := by
  unfold putAt
  have hg := putL_get n size j h
  have hlt : j < (putL n size).length := by rw [putL_len]; exact h
  have hd : (putL n size).drop j = UInt8.ofNat (downL n (size - 1 - j)) :: (putL n size).drop (j + 1) := by
    rw [List.getElem?_eq_getElem hlt] at hg
    rw [List.drop_eq_getElem_cons hlt, Option.some.inj hg]
  rw [hd, List.replicate_succ', List.append_assoc, List.set_append_right _ _ (by simp)]
  simp
theorem putAt_get (n size j : Nat) : (putAt n size (j + 1))[j]? = some 0 := by
  unfold putAt
  rw [List.getElem?_append_left (by simp), List.getElem?_replicate, if_pos (by omega)]
theorem putAt_zero (n size : Nat) : putAt n size 0 = putL n size := by simp [putAt]
theorem putAt_full (n size : Nat) : putAt n size size = List.replicate size 0 := by
  unfold putAt
  rw [List.drop_of_length_le (by rw [putL_len]; exact Nat.le_refl _), List.append_nil]

set_option maxHeartbeats 400000 in
theorem put_bad (n : Nat) (s : Int) (w : World) (hs : s < 0 ∨ 8 < s) :
    Calls Tryz.prog 71 #[.int .u64 (n : Int), .int .i64 s] w fun e w' => e = .returned (.tuple #[.slice none 0 0, .int .i64 11]) ∧ w = w' := by
  rcases hs with hs | hs
  · go_enter Tryz.func71, Tryz.ntmps71
    go_wp2
    go_ret2
    exact ⟨rfl, rfl⟩
  · have h0 : ¬ s < 0 := by omega
    go_enter Tryz.func71, Tryz.ntmps71
    go_wp2
    go_ret2
    exact ⟨rfl, rfl⟩

theorem convert_u8 (n : Nat) : ((UInt8.ofNat n).toNat : Int) = (n : Int) % 256 := by simp

/-- What a call of Put gives: the bytes, or a refusal where the number needs more. -/
def PutPost (n s : Nat) (w : World) (e : Ending) (w' : World) : Prop :=
  (downL n s = 0 ∧ RetBE s (putL n s) 0 w e w') ∨ (downL n s ≠ 0 ∧ e = .returned (.tuple #[.slice none 0 0, .int .i64 11]) ∧ Below w.heap.size w w')

set_option maxHeartbeats 1000000 in
theorem put_ok (n s : Nat) (w : World) (hn : n ≤ 18446744073709551615) (hs : s ≤ 8) :
    Calls Tryz.prog 71 #[.int .u64 (n : Int), .int .i64 (s : Int)] w (PutPost n s w) := by
  have h0 : ¬ (s : Int) < 0 := by omega
  have h8 : ¬ 8 < (s : Int) := by omega
  go_enter Tryz.func71, Tryz.ntmps71
  go_wp2_with (first
    | (at_make; refine wpList_mk rfl _ _ rfl w.heap.size .i64 .i64 _ _ s rfl rfl rfl rfl (by omega) (Nat.le_refl _) ?_; intro w1 hown1 hs1 hb1))
  go_loopw [0, 7] (fun v i wr => ∃ j : Nat, j ≤ s ∧ i = .int .i64 ((j : Int) - 1) ∧ v = .int .u64 (downL n (s - j) : Int) ∧ OwnB wr w.heap.size (some ⟨w.heap.size, 0, none⟩) s s (putAt n s j) ∧ Below w.heap.size w wr) (fun _ i _ => (intOf i + 1).toNat)
  case atStart => exact ⟨s, Nat.le_refl _, rfl, by simp [downL], by rw [putAt_full]; exact hown1, hb1⟩
  case round =>
    obtain ⟨j, hj, rfl, rfl, hown, hbel⟩ := hrel
    have hdl := downL_le n (s - j)
    rcases j with _ | j
    · rw [show ((0 : Nat) : Int) - 1 = -1 from rfl, Nat.sub_zero]
      rw [putAt_zero] at hown
      by_cases hz : downL n s = 0
      · have hz1 : ((downL n s : Int) != 0) = false := by simp [hz]
        go_wp2
        go_ret2
        exact .inl ⟨hz, _, _, rfl, hown, hbel⟩
      · have hz1 : ((downL n s : Int) != 0) = true := by simp; omega
        go_wp2
        go_ret2
        exact .inr ⟨hz, rfl, hbel⟩
    · have e : ((j + 1 : Nat) : Int) - 1 = (j : Int) := by omega
      rw [e]
      clear e
      have hc0 := hown.cellAt (putAt_get n s j)
      have hf0 := hown.freeAt j
      obtain ⟨m, HM⟩ : ∃ m, Hid (m = downL n (s - (j + 1))) := ⟨_, Lib.hid rfl⟩
      rw [← HM.out] at hdl ⊢
      go_wp2
      go_roundw
      case rel =>
        refine ⟨j, by omega, rfl, ?_, ?_, hbel.setCell (Nat.le_refl _) _⟩
        · rw [show s - j = (s - (j + 1)) + 1 from by omega, downL_succ, ← HM.out]
          go_num
        · rw [← putAt_next n s j (by omega)]
          exact hown.stored j _ _ (by unfold bv; rw [convert_u8, show s - 1 - j = s - (j + 1) from by omega, ← HM.out])
      case measure => simp [intOf]

end Go.Proofs.YtmpidjadpcpbfaaGreat
