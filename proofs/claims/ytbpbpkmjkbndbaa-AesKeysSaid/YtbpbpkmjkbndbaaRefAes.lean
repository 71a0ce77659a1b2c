/- The references of layer 3 (aes) that work on one block: at, subs, add, rows, columns, back, Table, each as a plain function of lists. Conditions: the slices' cells are readable, of the lengths that each theorem says. -/
import Derived.Test.YtbpbpkmjkbndbaaAesFn
import Derived.Test.YtbpbpkmjkbndbaaRefField
import Derived.Test.YtbpbpkmjkbndbaaCells
import Derived.Deep.RegionWith
namespace Go.Proofs.Ytbpbpkmjkbndbaa
open Go.RowKit
set_option linter.unusedVariables false

set_option maxRecDepth 100000 in
set_option maxHeartbeats 1000000 in
theorem at_any (r c : Nat) (w : World) (hr : r < 4) (hc : c ≤ 1000) :
    Calls Try.prog 49 #[.int .i64 (r : Int), .int .i64 (c : Int)] w fun e w' => e = .returned (.int .i64 ((4 * (c % 4) + r : Nat) : Int)) ∧ w = w' := by
  go_enter Try.func49, Try.ntmps49
  go_wp2
  go_ret
  exact ⟨ret1i (by omega), rfl⟩
/-- at where the second argument stands as a sum. -/
theorem at_of (r p : Nat) (C Z : Int) (c : Nat) (w : World) (hr : r < 4) (hc : c ≤ 1000) (hC : (c : Int) = C) (hZ : ((4 * (c % 4) + r : Nat) : Int) = Z) :
    Calls Try.prog 49 #[.int .i64 (r : Int), .int .i64 C] w fun e w' => e = .returned (.int .i64 Z) ∧ w = w' := by
  subst hC; subst hZ; exact at_any r c w hr hc

theorem subsL_snoc (t b : List UInt8) (x : UInt8) : subsL t (b ++ [x]) = subsL t b ++ [t.getD x.toNat 0] := by simp [subsL]
set_option maxRecDepth 100000 in
set_option maxHeartbeats 1000000 in
theorem subs_any (A T : Option Addr) (n c ct : Nat) (l t : List UInt8) (w : World) (h : RB w w.heap.size A n l) (ht : RB w w.heap.size T 256 t) (hn : n ≤ 70368744177664) :
    Calls Try.prog 28 #[.slice A n c, .slice T 256 ct] w (RetB n (subsL t l) w) := by
  go_enter Try.func28, Try.ntmps28
  go_wp2
  go_loopw [5, 6] (fun v i wr => ∃ (k c1 : Nat) (A1 : Option Addr), k ≤ n ∧ i = .int .i64 k ∧ v = .slice A1 k c1 ∧ Hid (OwnB wr w.heap.size A1 k c1 (subsL t (l.take k))) ∧ Hid (Below w.heap.size w wr)) (fun _ i _ => n - (intOf i).toNat)
  case atStart => exact ⟨0, 0, _, Nat.zero_le _, rfl, rfl, Lib.hid (OwnB.lit w _ [] #[] 0 rfl rfl (by unfold maxLen; omega) (Nat.le_refl _)), Lib.hid ((Below.refl _ _).alloc (Nat.le_refl _) _)⟩
  case round =>
    obtain ⟨k, c1, A1, hk, rfl, rfl, hown, hbel⟩ := hrel
    have hsz := hbel.out.size
    by_cases hlt : k < n
    · obtain ⟨b, o, rfl, hb, x, hx, hc⟩ := (h.below hbel.out).at_ hlt
      have hxl := x.toNat_lt
      have hxi := byte_lt x
      obtain ⟨b2, o2, rfl, hb2, y, hy, hc2⟩ := (ht.below hbel.out).at_ (show x.toNat < 256 by omega)
      have HX := Lib.hid hx
      have HY := Lib.hid hy
      have hr1 := RB.new wr [y] #[.int .u8 (y.toNat : Int)] 5 rfl
      have ho1 := hown.out.alloc (.cells #[.int .u8 (y.toNat : Int)] 5)
      clear hx hy
      go_wp2_with (at_builtin; refine wpList_app rfl (.tmp 14) (.tmp 22) rfl w.heap.size _ _ _ _ rfl (by exact ho1) (wr.heap.size + 1) (some ⟨wr.heap.size, 0, none⟩) 1 1 [y] rfl (by exact hr1) (by omega) (by simp; omega) ?_; intro A2 c2 w2 hown2 _ hb3)
      go_roundw
      case rel =>
        refine ⟨k + 1, c2, A2, by omega, by go_num, rfl, Lib.hid ?_, Lib.hid ((hbel.out.alloc hsz _).trans hb3)⟩
        rw [take_snoc HX.out, subsL_snoc, show t.getD x.toNat 0 = y by simp [List.getD, HY.out]]
        exact hown2
      case measure => simp [intOf]; omega
    · obtain rfl : k = n := by omega
      have hl : l.take k = l := List.take_of_length_le (by have := h.len; omega)
      have HL := Lib.hid hl
      clear hl
      go_wp2
      go_ret
      exact ⟨A1, c1, rfl, by rw [← HL.out]; exact hown.out, hbel.out⟩

set_option maxRecDepth 100000 in
set_option maxHeartbeats 1000000 in
theorem radd_any (A A' : Option Addr) (n c c' : Nat) (l l' : List UInt8) (w : World) (h : RB w w.heap.size A n l) (h' : RB w w.heap.size A' n l') (hn : n ≤ 70368744177664) :
    Calls Try.prog 30 #[.slice A n c, .slice A' n c'] w (RetB n (xorL l l') w) := by
  go_enter Try.func30, Try.ntmps30
  go_wp2
  go_loopw [5, 6] (fun v i wr => ∃ (k c1 : Nat) (A1 : Option Addr), k ≤ n ∧ i = .int .i64 k ∧ v = .slice A1 k c1 ∧ OwnB wr w.heap.size A1 k c1 (xorL (l.take k) (l'.take k)) ∧ Below w.heap.size w wr) (fun _ i _ => n - (intOf i).toNat)
  case atStart => exact ⟨0, 0, _, Nat.zero_le _, rfl, rfl, OwnB.lit w _ [] #[] 0 rfl rfl (by unfold maxLen; omega) (Nat.le_refl _), (Below.refl _ _).alloc (Nat.le_refl _) _⟩
  case round =>
    obtain ⟨k, c1, A1, hk, rfl, rfl, hown, hbel⟩ := hrel
    have hsz := hbel.size
    by_cases hlt : k < n
    · obtain ⟨b, o, rfl, hb, x, hx, hc⟩ := (h.below hbel).at_ hlt
      obtain ⟨b2, o2, rfl, hb2, y, hy, hc2⟩ := (h'.below hbel).at_ hlt
      have HX := Lib.hid hx
      have HY := Lib.hid hy
      have hxy := xor_byte x y
      obtain ⟨z, HZ⟩ : ∃ z, Hid (z = x ^^^ y) := ⟨_, Lib.hid rfl⟩
      rw [← HZ.out] at hxy
      clear hx hy
      go_wp2
      go_region_law (refine step_app rfl (.tmp 14) (.tmp 24) rfl w.heap.size _ _ _ _ rfl (hown.alloc _).drew (wr.heap.size + 1) (some ⟨wr.heap.size, 0, none⟩) 1 1 [z] rfl (RB.new wr [z] _ _ (by rfl)).drew (by omega) (by simp; omega) ?_; intro A2 c2 w2 hown2 _ hb3)
      all_goals
        go_wp2
        go_roundw
        case rel =>
          refine ⟨k + 1, c2, A2, by omega, by go_num, rfl, ?_, (hbel.alloc hsz _).drew.trans hb3⟩
          rw [take_snoc HX.out, take_snoc HY.out, xorL_snoc _ _ _ _ (by rw [List.length_take, List.length_take, h.len, h'.len]), ← HZ.out]
          exact hown2
        case measure => simp [intOf]; omega
    · obtain rfl : k = n := by omega
      go_wp2
      go_ret
      exact ⟨A1, c1, rfl, by rw [List.take_of_length_le (by have := h.len; omega), List.take_of_length_le (by have := h'.len; omega)] at hown; exact hown, hbel⟩
end Go.Proofs.Ytbpbpkmjkbndbaa
