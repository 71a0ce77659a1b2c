/- OctetAnswers' walk: Xor, Equal, Num and Hex answer as the references do. Condition: the slices' cells are readable. -/
import Derived.Test.YtjapnjohplbipaaEqual
namespace Go.Proofs.Ytjapnjohplbipaa
open Go.RowKit
set_option linter.unusedVariables false

theorem num_both (n : Nat) (l : List UInt8) (hn : n ≤ 3000) : ∃ v code : Int,
    Hid (∀ (A : Option Addr) (c : Nat) (W : World), RB W W.heap.size A n l → Calls Try.prog 11 #[.slice A n c] W fun e w' => e = .returned (.tuple #[.int .u64 v, .int .i64 code]) ∧ W = w') ∧
    Hid (∀ (A : Option Addr) (c : Nat) (W : World), RB W W.heap.size A n l → Calls Try.prog 12 #[.slice A n c] W fun e w' => e = .returned (.tuple #[.int .u64 v, .int .i64 code]) ∧ W = w') := by
  by_cases h : n ≤ 8
  · exact ⟨_, _, Lib.hid (fun A c W hr => num_few A n c _ l W hr h), Lib.hid (fun A c W hr => rnum_few A n c _ l W hr h)⟩
  · exact ⟨_, _, Lib.hid (fun A c W hr => num_many A n c W (by omega) (by unfold maxLen; omega)), Lib.hid (fun A c W hr => rnum_many A n c W (by omega) (by unfold maxLen; omega))⟩

set_option maxHeartbeats 1000000 in
theorem answers_long (A0 : Option Addr) (n0 c0 : Nat) (A1 : Option Addr) (n1 c1 : Nat) (w : World) (b0 : n0 ≤ 9223372036854775807) (b1 : n1 ≤ 9223372036854775807) (hl : 3000 < n0 ∨ 3000 < n1) :
    Calls Try.prog 3 #[.slice A0 n0 c0, .slice A1 n1 c1] w fun e w' => e = .returned (.bool true) ∧ Below w.heap.size w w' := by
  by_cases h : 3000 < n0
  · go_enter Try.func3, Try.ntmps3
    go_wp2_with (go_at_call 8; refine (alive_any _).mono ?_; rintro e w1 ⟨rfl, hb1⟩)
    go_ret
    exact ⟨rfl, hb1⟩
  · have h' : 3000 < n1 := by omega
    clear hl
    go_enter Try.func3, Try.ntmps3
    go_wp2_with (go_at_call 8; refine (alive_any _).mono ?_; rintro e w1 ⟨rfl, hb1⟩)
    go_ret
    exact ⟨rfl, hb1⟩

/-- Xor and the reference's Xor, whatever the lengths: the same bytes and the same error's number. -/
theorem xor_both (A A' : Option Addr) (n n' : Nat) (l l' : List UInt8) (hn : n ≤ 3000) (hn' : n' ≤ 3000) : ∃ (m : Nat) (r : List UInt8) (code : Int), m ≤ 3000 ∧
    Hid (∀ (c c' : Nat) (W : World), RB W W.heap.size A n l → RB W W.heap.size A' n' l' → Calls Try.prog 9 #[.slice A n c, .slice A' n' c'] W (RetBE m r code W)) ∧
    Hid (∀ (c c' : Nat) (W : World), RB W W.heap.size A n l → RB W W.heap.size A' n' l' → Calls Try.prog 10 #[.slice A n c, .slice A' n' c'] W (RetBE m r code W)) := by
  by_cases h : n = n'
  · subst h
    exact ⟨n, xorL l l', 0, hn, Lib.hid (fun c c' W hr hr' => xor_same A A' n c c' 0 0 l l' W hr hr' (by omega)), Lib.hid (fun c c' W hr hr' => rxor_same A A' n c c' 0 0 l l' W hr hr' (by omega))⟩
  · refine ⟨0, [], 11, by omega, Lib.hid (fun c c' W hr hr' => (xor_other A A' n c n' c' W h (by unfold maxLen; omega) (by unfold maxLen; omega)).mono ?_), Lib.hid (fun c c' W hr hr' => (rxor_other A A' n c n' c' W h (by unfold maxLen; omega) (by unfold maxLen; omega)).mono ?_)⟩ <;>
    · rintro e w' ⟨rfl, rfl⟩
      exact ⟨none, 0, rfl, OwnB.nil_ _ _, Below.refl _ _⟩

set_option maxHeartbeats 2000000 in
theorem answers_in (A0 : Option Addr) (n0 c0 : Nat) (l0 : List UInt8) (A1 : Option Addr) (n1 c1 : Nat) (l1 : List UInt8) (w : World) (h0 : RB w w.heap.size A0 n0 l0) (h1 : RB w w.heap.size A1 n1 l1) (hn0 : n0 ≤ 3000) (hn1 : n1 ≤ 3000) :
    Calls Try.prog 3 #[.slice A0 n0 c0, .slice A1 n1 c1] w fun e w' => e = .returned (.bool true) ∧ Below w.heap.size w w' := by
  obtain ⟨nv, ncode, hnum, hrnum⟩ := num_both n0 l0 hn0
  obtain ⟨xm, xr, xcode, hxm, hxor, hrxor⟩ := xor_both A0 A1 n0 n1 l0 l1 hn0 hn1
  obtain ⟨v, hv⟩ : ∃ v, Hid ((l0 == l1) = v) := ⟨_, Lib.hid rfl⟩
  go_enter Try.func3, Try.ntmps3
  go_wp2_with fail
  refine (alive_any _).mono ?_
  rintro e w1 ⟨rfl, HB1⟩
  go_wp2_with fail
  refine (hxor.out _ _ _ (by exact h0.step HB1) (by exact h1.step HB1)).mono ?_
  rintro e w2 ⟨A2, c2, rfl, hx, hb2⟩
  have HB2 := bel_next HB1 hb2
  have hX := hx.rb
  clear hb2 HB1 hx
  go_wp2_with fail
  refine (hrxor.out _ _ _ (by exact h0.step HB2) (by exact h1.step HB2)).mono ?_
  rintro e w3 ⟨A3, c3, rfl, hx, hb3⟩
  have HB3 := bel_next HB2 hb3
  have hX3 := hX.step hb3
  have hY := hx.rb
  clear hb3 HB2 hx hX
  go_wp2_with fail
  refine (hnum.out _ _ _ (by exact h0.step HB3)).mono ?_
  rintro e w4 ⟨rfl, rfl⟩
  go_wp2_with fail
  refine (hrnum.out _ _ _ (by exact h0.step HB3)).mono ?_
  rintro e w4 ⟨rfl, rfl⟩
  go_wp2_with fail
  refine (al_same _ _ _ _ _ _ xr xr _ (by exact hX3) (by exact hY) (by unfold maxLen; omega) (by unfold maxLen; omega) true (by simp)).mono ?_
  rintro e w4 ⟨rfl, hb4⟩
  have HB4 := bel_next HB3 hb4
  clear hb4 HB3 hX3 hY
  go_wp2_with fail
  refine (al_equal _ _ _ _ _ _ l0 l1 _ (by exact h0.step HB4) (by exact h1.step HB4) v hv.out).mono ?_
  rintro e w5 ⟨rfl, rfl⟩
  go_wp2_with fail
  refine (al_same _ _ _ _ _ _ l0 l1 _ (by exact h0.step HB4) (by exact h1.step HB4) (by unfold maxLen; omega) (by unfold maxLen; omega) v hv.out).mono ?_
  rintro e w5 ⟨rfl, hb5⟩
  have HB5 := bel_next HB4 hb5
  clear hb5 HB4
  go_wp2_with fail
  refine (copy_any _ _ _ 0 l0 _ (by exact h0.step HB5) (by omega)).mono ?_
  rintro e w6 ⟨A6, c6, rfl, hc, hb6⟩
  have HB6 := bel_next HB5 hb6
  have hC := hc.rb
  clear hb6 HB5 hc
  go_wp2_with fail
  refine (al_equal _ _ _ _ _ _ l0 l0 _ (by exact h0.step HB6) (by exact hC) true (by simp)).mono ?_
  rintro e w7 ⟨rfl, rfl⟩
  clear hC
  go_wp2_with fail
  refine (hex_any _ _ _ l0 _ (by exact h0.step HB6) (by omega)).mono ?_
  rintro e w7 ⟨rfl, hb7⟩
  have HB7 := bel_next HB6 hb7
  clear hb7 HB6
  go_wp2_with fail
  refine (rhex_any _ _ _ l0 _ (by exact h0.step HB7) (by omega)).mono ?_
  rintro e w8 ⟨rfl, hb8⟩
  have HB8 := bel_next HB7 hb8
  clear hb8 HB7
  go_wp2_with fail
  go_ret
  exact ⟨rfl, HB8⟩

theorem OctetAnswers_walk (A0 : Option Addr) (n0 c0 : Nat) (l0 : List UInt8) (A1 : Option Addr) (n1 c1 : Nat) (l1 : List UInt8) (w : World) (h0 : RB w w.heap.size A0 n0 l0) (m0 : n0 ≤ c0 ∧ c0 ≤ maxLen) (h1 : RB w w.heap.size A1 n1 l1) (m1 : n1 ≤ c1 ∧ c1 ≤ maxLen) :
    Calls Try.prog 3 #[.slice A0 n0 c0, .slice A1 n1 c1] w fun e w' => e = .returned (.bool true) ∧ Below w.heap.size w w' := by
  have b0 : n0 ≤ 9223372036854775807 := by have := m0; unfold maxLen at this; omega
  have b1 : n1 ≤ 9223372036854775807 := by have := m1; unfold maxLen at this; omega
  by_cases hl : 3000 < n0 ∨ 3000 < n1
  · exact answers_long A0 n0 c0 A1 n1 c1 w b0 b1 hl
  · exact answers_in A0 n0 c0 l0 A1 n1 c1 l1 w h0 h1 (by omega) (by omega)
end Go.Proofs.Ytjapnjohplbipaa
