/- What the references share on bytes: SameBytes compares them, CopyBytes copies them. Condition: the slices' cells are readable. -/
import Derived.Test.YthllaoeioddddaaGreatBytes
namespace Go.Proofs.YthllaoeioddddaaGreat
open Go.RowKit
set_option linter.unusedVariables false

set_option maxHeartbeats 400000 in
theorem copy_any (A : Option Addr) (n c B : Nat) (l : List UInt8) (w : World) (h : RB w w.heap.size A n l) (hm : n ≤ 140737488355328) :
    Calls Tryz.prog 14 #[.slice A n c] w (RetB n l w) := by
  go_enter Tryz.func14, Tryz.ntmps14
  go_wp2_with (first
    | (at_builtin; refine wpList_app rfl (.tmp 3) (.tmp 4) rfl w.heap.size _ _ _ [] rfl (OwnB.lit w _ [] #[] 0 rfl rfl (by unfold maxLen; omega) (Nat.le_refl _)) w.heap.size A n c l rfl (h.alloc (Nat.le_refl _) _) (by omega) (by simp) ?_; intro A1 c1 w1 hown1 _ hb1))
  go_ret
  exact ⟨A1, c1, rfl, by simpa using hown1, ((Below.refl _ _).alloc (Nat.le_refl _) _).trans hb1⟩

set_option maxHeartbeats 400000 in
/-- The references' comparison: the same bytes, whatever the memory. -/
theorem same_any (A A' : Option Addr) (n c n' c' B B' : Nat) (l l' : List UInt8) (w : World) (h : RB w B A n l) (h' : RB w B' A' n' l') (hm : n ≤ maxLen) (hm' : n' ≤ maxLen) :
    Calls Tryz.prog 17 #[.slice A n c, .slice A' n' c'] w fun e w' => e = .returned (.bool (l == l')) ∧ ∃ q, w' = w.drewN q := by
  unfold maxLen at hm hm'
  by_cases hne : n = n'
  · subst hne
    go_enter Tryz.func17, Tryz.ntmps17
    go_wp2
    go_loopw [5] (fun i wr => ∃ k q : Nat, k ≤ n ∧ i = .int .i64 k ∧ wr = w.drewN q ∧ Hid (l.take k = l'.take k)) (fun i _ => n - (intOf i).toNat)
    case atStart => exact ⟨0, 0, Nat.zero_le _, rfl, rfl, rfl⟩
    case round =>
      obtain ⟨k, q, hk, rfl, rfl, he⟩ := hrel
      by_cases hlt : k < n
      · obtain ⟨b, o, rfl, hb, x, hx, hc⟩ := h.at_ hlt
        obtain ⟨b', o', rfl, hb', x', hx', hc'⟩ := h'.at_ hlt
        have HX := Lib.hid hx
        have HX' := Lib.hid hx'
        clear hx hx'
        by_cases hxx : x = x'
        · subst hxx
          go_wp2
          go_quiet (fail)
          go_wp2
          go_roundw
          case rel => exact ⟨k + 1, _, by omega, by go_num, rfl, Lib.hid (by rw [take_snoc HX.out, take_snoc HX'.out, he.out])⟩
          case measure => simp [intOf]; omega
        · have hb1 : ((x.toNat : Int) != (x'.toNat : Int)) = true := by
            rw [bne_iff_ne]; intro e; exact hxx (UInt8.toNat_inj.1 (by omega))
          go_wp2
          go_quiet (fail)
          go_wp2
          go_ret
          exact ⟨ret1b (by
            symm
            rw [Bool.eq_false_iff]
            intro e
            have e' := eq_of_beq e
            have p := HX.out
            rw [e', HX'.out] at p
            exact hxx (Option.some.inj p).symm), q + nq, World.drewN_drewN _ _ _⟩
      · go_wp2
        go_ret
        exact ⟨ret1b (by
          have e : l = l' := by
            have := he.out
            rwa [List.take_of_length_le (by have := h.len; omega), List.take_of_length_le (by have := h'.len; omega)] at this
          rw [e]
          simp), _, rfl⟩
  · have hne2 : ((n : Int) != (n' : Int)) = true := by rw [bne_iff_ne]; omega
    go_enter Tryz.func17, Tryz.ntmps17
    go_wp2
    go_ret
    exact ⟨ret1b (by symm; rw [Bool.eq_false_iff]; intro e; exact hne (by rw [← h.len, ← h'.len, eq_of_beq e])), 0, rfl⟩
theorem al_same (A A' : Option Addr) (n c n' c' : Nat) (l l' : List UInt8) (w : World) (h : RB w w.heap.size A n l) (h' : RB w w.heap.size A' n' l') (hm : n ≤ maxLen) (hm' : n' ≤ maxLen) (v : Bool) (hv : (l == l') = v) :
    Calls Tryz.prog 17 #[.slice A n c, .slice A' n' c'] w fun e w' => e = .returned (.bool v) ∧ Below w.heap.size w w' :=
  (same_any A A' n c n' c' _ _ l l' w h h' hm hm').mono fun e w' ⟨he, q, hq⟩ => by
    subst hv
    subst hq
    exact ⟨he, below_drewN (Below.refl _ _) _⟩
end Go.Proofs.YthllaoeioddddaaGreat
