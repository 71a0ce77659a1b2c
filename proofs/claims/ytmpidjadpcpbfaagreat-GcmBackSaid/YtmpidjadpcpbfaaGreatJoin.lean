/- octet.Join and the reference's Join give the bytes of all parts in new memory; Long tells whether rows are more bytes than so many. Condition: the rows' cells are readable, and fewer than 2^46 bytes together. -/
import Derived.Test.YtmpidjadpcpbfaaGreatXor
import Derived.Test.YtmpidjadpcpbfaaGreatRR
import Derived.Test.YtmpidjadpcpbfaaGreatUseLong
namespace Go.Proofs.YtmpidjadpcpbfaaGreat
open Go.RowKit
set_option linter.unusedVariables false

set_option maxHeartbeats 1000000 in
theorem join_any (A : Option Addr) (n c : Nat) (ps : List (List UInt8)) (w : World) (h : RR w w.heap.size A n ps) (hn : n ≤ maxLen) (hm : totL ps ≤ 70368744177664) :
    Calls Tryz.prog 24 #[.slice A n c] w (RetB (totL ps) ps.flatten w) := by
  unfold maxLen at hn
  go_enter Tryz.func24, Tryz.ntmps24
  go_wp2
  go_loop [3, 5, 11] (fun v _ i => ∃ k : Nat, k ≤ n ∧ i = .int .i64 k ∧ v = .int .i64 (totL (ps.take k) : Int)) (fun _ _ i => n - (intOf i).toNat)
  case atStart => exact ⟨0, Nat.zero_le _, rfl, rfl⟩
  case round =>
    obtain ⟨k, hk, rfl, rfl⟩ := hrel
    have htk := totL_take ps k
    by_cases hlt : k < n
    · obtain ⟨b, o, rfl, hb, p, hp, Ai, ci, hc, hr⟩ := h.at_ hlt
      have htk1 := totL_take ps (k + 1)
      have hts := totL_step hp
      have hle : totL (ps.take k) + p.length ≤ 70368744177664 := by omega
      have HT := Lib.hid hts
      clear hp hts htk1
      go_wp2
      go_round
      case rel => exact ⟨k + 1, by omega, by go_num, by rw [HT.out]; go_num⟩
      case measure => simp [intOf]; omega
    · obtain rfl : k = n := by omega
      have hall : totL (ps.take k) = totL ps := by rw [List.take_of_length_le (by have := h.len; omega)]
      rw [hall]
      clear hall
      go_wp2_with (first
        | (at_make; refine wpList_mk0 rfl _ _ rfl w.heap.size .i64 .i64 _ (totL ps) rfl rfl rfl (by omega) (Nat.le_refl _) ?_; intro w1 hown1 hb1))
      go_loopw [6, 8, 24] (fun v _ i wr => ∃ (j c1 : Nat) (A1 : Option Addr), j ≤ k ∧ i = .int .i64 j ∧ v = .slice A1 (totL (ps.take j)) c1 ∧ OwnB wr w.heap.size A1 (totL (ps.take j)) c1 (ps.take j).flatten ∧ Below w.heap.size w wr) (fun _ _ i _ => k - (intOf i).toNat)
      case atStart => exact ⟨0, _, _, Nat.zero_le _, rfl, rfl, hown1, hb1⟩
      case round =>
        obtain ⟨j, c1, A1, hj, rfl, rfl, hown, hbel⟩ := hrel
        have hwr := hbel.size
        have htk := totL_take ps j
        by_cases hlt : j < k
        · obtain ⟨b, o, rfl, hb, p, hp, Ai, ci, hc, hr⟩ := (h.below hbel).at_ hlt
          have htk1 := totL_take ps (j + 1)
          have hts := totL_step hp
          have hle : totL (ps.take j) + p.length ≤ 70368744177664 := by omega
          have HT := Lib.hid hts
          have HF := Lib.hid (flat_step hp)
          clear hp hts htk1
          go_wp2_with (first
            | (at_builtin; refine wpList_app rfl (.tmp 28) (.tmp 29) rfl w.heap.size _ _ _ _ rfl hown w.heap.size Ai p.length ci p rfl hr (by omega) hwr ?_; intro A2 c2 w2 hown2 _ hb2))
          go_roundw
          case rel => exact ⟨j + 1, c2, A2, by omega, by go_num, by rw [HT.out], by rw [HT.out, HF.out]; exact hown2, hbel.trans hb2⟩
          case measure => simp [intOf]; omega
        · obtain rfl : j = k := by omega
          rw [List.take_of_length_le (by have := h.len; omega)] at hown
          go_wp2
          go_ret
          have hfin : RetB (totL ps) ps.flatten w (.returned (.slice A1 (totL (ps.take j)) c1)) wr := by
            rw [List.take_of_length_le (by have := h.len; omega)]
            exact ⟨A1, c1, rfl, hown, hbel⟩
          exact hfin

end Go.Proofs.YtmpidjadpcpbfaaGreat
