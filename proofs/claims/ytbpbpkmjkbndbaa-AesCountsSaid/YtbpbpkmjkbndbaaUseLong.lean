/- What the references share on rows of bytes: Long tells whether they are more than so many. Condition: the rows' cells are readable. -/
import Derived.Test.YtbpbpkmjkbndbaaRR
namespace Go.Proofs.Ytbpbpkmjkbndbaa
open Go.RowKit
set_option linter.unusedVariables false

/-- Are there more rows than so many, or more bytes? -/
def longB (ps : List (List UInt8)) (m : Nat) : Bool := decide (m < ps.length ∨ m < totL ps)
set_option maxHeartbeats 1000000 in
theorem long_any (A : Option Addr) (n c m : Nat) (ps : List (List UInt8)) (w : World) (h : RR w w.heap.size A n ps) (hn : n ≤ maxLen) (hm : m ≤ 1000000000) (hp0 : ∀ p ∈ ps, p.length ≤ maxLen) :
    Calls Try.prog 21 #[.slice A n c, .int .i64 (m : Int)] w fun e w' => e = .returned (.bool (longB ps m)) ∧ w = w' := by
  unfold maxLen at hn
  by_cases hbig : m < n
  · go_enter Try.func21, Try.ntmps21
    go_wp2
    go_ret
    exact ⟨ret1b (by unfold longB; rw [decide_eq_true]; left; rw [h.len]; exact hbig), rfl⟩
  · go_enter Try.func21, Try.ntmps21
    go_wp2
    go_loop [5, 6] (fun v i => ∃ k : Nat, k ≤ n ∧ i = .int .i64 k ∧ v = .int .i64 (totL (ps.take k) : Int) ∧ totL (ps.take k) ≤ m) (fun _ i => n - (intOf i).toNat)
    case atStart => exact ⟨0, Nat.zero_le _, rfl, rfl, Nat.zero_le _⟩
    case round =>
      obtain ⟨k, hk, rfl, rfl, htm⟩ := hrel
      by_cases hlt : k < n
      · obtain ⟨b, o, rfl, hb, p, hp, Ai, ci, hc, hr⟩ := h.at_ hlt
        have htk1 := totL_take ps (k + 1)
        have hts := totL_step hp
        have hpl := hp0 p (List.mem_of_getElem? hp)
        unfold maxLen at hpl
        have HT := Lib.hid hts
        have HK := Lib.hid htk1
        clear hp hts htk1
        by_cases h1 : m < p.length
        · go_wp2
          go_ret
          exact ⟨ret1b (by unfold longB; rw [decide_eq_true]; right; have := HT.out; have := HK.out; omega), rfl⟩
        · by_cases h2 : m < totL (ps.take k) + p.length
          · go_wp2
            go_ret
            exact ⟨ret1b (by unfold longB; rw [decide_eq_true]; right; have := HT.out; have := HK.out; omega), rfl⟩
          · go_wp2
            go_round
            case rel => exact ⟨k + 1, by omega, by go_num, by rw [HT.out]; go_num, by rw [HT.out]; omega⟩
            case measure => simp [intOf]; omega
      · obtain rfl : k = n := by omega
        go_wp2
        go_ret
        exact ⟨ret1b (by
          unfold longB
          rw [decide_eq_false]
          rw [List.take_of_length_le (by have := h.len; omega)] at htm
          have := h.len
          omega), rfl⟩
end Go.Proofs.Ytbpbpkmjkbndbaa
