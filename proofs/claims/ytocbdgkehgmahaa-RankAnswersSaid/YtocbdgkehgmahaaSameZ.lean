/- SameInts: the references' comparison of rows of ints. Condition: the cells are readable. -/
import Derived.Test.YtocbdgkehgmahaaGrd
namespace Go.Proofs.Ytocbdgkehgmahaa
open Go.RowKit
set_option linter.unusedVariables false
set_option linter.unusedSimpArgs false
theorem take_snocZ {l : List Int} {k : Nat} {x : Int} (h : l[k]? = some x) : l.take (k + 1) = l.take k ++ [x] := by rw [List.take_add_one, h]; rfl
set_option maxHeartbeats 400000 in
/-- The references' comparison: the same ints, whatever the memory. -/
theorem same_ints (A A' : Option Addr) (n c n' c' B B' : Nat) (l l' : List Int) (w : World) (h : ZL w B A n l) (h' : ZL w B' A' n' l') (hm : n ≤ maxLen) (hm' : n' ≤ maxLen) :
    Calls Try.prog 14 #[.slice A n c, .slice A' n' c'] w fun e w' => e = .returned (.bool (l == l')) ∧ ∃ q, w' = w.drewN q := by
  unfold maxLen at hm hm'
  by_cases hne : n = n'
  · subst hne
    go_enter Try.func14, Try.ntmps14
    go_wp2
    go_loopw [5] (fun i wr => ∃ k q : Nat, k ≤ n ∧ i = .int .i64 k ∧ wr = w.drewN q ∧ Hid (l.take k = l'.take k)) (fun i _ => n - (intOf i).toNat)
    case atStart => exact ⟨0, 0, Nat.zero_le _, rfl, rfl, rfl⟩
    case round =>
      obtain ⟨k, q, hk, rfl, rfl, he⟩ := hrel
      by_cases hlt : k < n
      · obtain ⟨b, o, rfl, hb, x, hx, _, hc⟩ := h.at_ hlt
        obtain ⟨b', o', rfl, hb', x', hx', _, hc'⟩ := h'.at_ hlt
        have HX := Lib.hid hx
        have HX' := Lib.hid hx'
        clear hx hx'
        by_cases hxx : x = x'
        · subst hxx
          go_wp2
          go_quiet (fail)
          go_wp2
          go_roundw
          case rel => exact ⟨k + 1, _, by omega, by go_num, rfl, Lib.hid (by rw [take_snocZ HX.out, take_snocZ HX'.out, he.out])⟩
          case measure => simp [intOf]; omega
        · have hb1 : (x != x') = true := by
            rw [bne_iff_ne]; exact hxx
          go_wp2
          go_quiet (fail)
          go_wp2
          go_ret
          exact ⟨ret1b (by
            symm
            rw [Bool.eq_false_iff]
            intro e
            have e' := eq_of_beq e
            have p := HX.out
            rw [e', HX'.out] at p
            exact hxx (Option.some.inj p).symm), q + nq, World.drewN_drewN _ _ _⟩
      · go_wp2
        go_ret
        exact ⟨ret1b (by
          have e : l = l' := by
            have := he.out
            rwa [List.take_of_length_le (by have := h.len; omega), List.take_of_length_le (by have := h'.len; omega)] at this
          rw [e]
          simp), _, rfl⟩
  · have hne2 : ((n : Int) != (n' : Int)) = true := by rw [bne_iff_ne]; omega
    go_enter Try.func14, Try.ntmps14
    go_wp2
    go_ret
    exact ⟨ret1b (by symm; rw [Bool.eq_false_iff]; intro e; exact hne (by rw [← h.len, ← h'.len, eq_of_beq e])), 0, rfl⟩
theorem al_ints (A A' : Option Addr) (n c n' c' : Nat) (l l' : List Int) (w : World) (h : ZL w w.heap.size A n l) (h' : ZL w w.heap.size A' n' l') (hm : n ≤ maxLen) (hm' : n' ≤ maxLen) (v : Bool) (hv : (l == l') = v) :
    Calls Try.prog 14 #[.slice A n c, .slice A' n' c'] w fun e w' => e = .returned (.bool v) ∧ Below w.heap.size w w' :=
  (same_ints A A' n c n' c' _ _ l l' w h h' hm hm').mono fun e w' ⟨he, q, hq⟩ => by
    subst hv
    subst hq
    exact ⟨he, below_drewN (Below.refl _ _) _⟩
end Go.Proofs.Ytocbdgkehgmahaa
