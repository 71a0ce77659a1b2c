/- octet.Hex and the reference's Hex give two digits a byte. Condition: the slice's cells are readable. -/
import Derived.Test.YtjapnjohplbipaaBytes
namespace Go.Proofs.Ytjapnjohplbipaa
open Go.RowKit
set_option linter.unusedVariables false

/-- The digit of a value below sixteen. -/
def digL (k : Nat) : UInt8 := if k < 10 then UInt8.ofNat (48 + k) else UInt8.ofNat (87 + k)
/-- The two digits of a byte. -/
def hex2 (x : UInt8) : List UInt8 := [digL (x.toNat / 16), digL (x.toNat % 16)]
/-- The digits of bytes. -/
def hexL (l : List UInt8) : List UInt8 := l.flatMap hex2
theorem hexL_snoc (l : List UInt8) (x : UInt8) : hexL (l ++ [x]) = hexL l ++ hex2 x := by simp [hexL]
theorem hexL_len (l : List UInt8) : (hexL l).length = 2 * l.length := by
  induction l with
  | nil => rfl
  | cons x l ih => simp only [hexL, List.flatMap_cons, List.length_append, hex2, List.length_cons, List.length_nil] at ih ⊢; omega

theorem dig_index (k : Nat) (hk : k < 16) (i : Int) (hi : i = (k : Int)) : ∀ W : World, (Instr.index 9 (.string ⟨#[48, 49, 50, 51, 52, 53, 54, 55, 56, 57, 97, 98, 99, 100, 101, 102]⟩) (.int .u8 i)).run Try.prog W = .ok (.int .u8 ((digL k).toNat : Int)) W := by
  intro W
  subst hi
  have h : k = 0 ∨ k = 1 ∨ k = 2 ∨ k = 3 ∨ k = 4 ∨ k = 5 ∨ k = 6 ∨ k = 7 ∨ k = 8 ∨ k = 9 ∨ k = 10 ∨ k = 11 ∨ k = 12 ∨ k = 13 ∨ k = 14 ∨ k = 15 := by omega
  rcases h with rfl | rfl | rfl | rfl | rfl | rfl | rfl | rfl | rfl | rfl | rfl | rfl | rfl | rfl | rfl | rfl <;> (show Sem.run _ _ _ = _; kernel_rfl)

set_option maxHeartbeats 1000000 in
theorem hex_any (A : Option Addr) (n c : Nat) (l : List UInt8) (w : World) (h : RB w w.heap.size A n l) (hm : n ≤ 70368744177664) :
    Calls Try.prog 16 #[.slice A n c] w fun e w' => e = .returned (.string (strL (hexL l))) ∧ Below w.heap.size w w' := by
  go_enter Try.func16, Try.ntmps16
  go_wp2_with (first
    | (at_make; refine wpList_mk0 rfl _ _ rfl w.heap.size .i64 .i64 _ (2 * n) rfl rfl (by omega) (by omega) (Nat.le_refl _) ?_; intro w1 hown1 hb1))
  go_loopw [3, 5, 12] (fun v _ i wr => ∃ (k c1 : Nat) (A1 : Option Addr), k ≤ n ∧ i = .int .i64 k ∧ v = .slice A1 (2 * k) c1 ∧ OwnB wr w.heap.size A1 (2 * k) c1 (hexL (l.take k)) ∧ Below w.heap.size w wr) (fun _ _ i _ => n - (intOf i).toNat)
  case atStart => exact ⟨0, 2 * n, _, Nat.zero_le _, rfl, rfl, hown1, hb1⟩
  case round =>
    obtain ⟨k, c1, A1, hk, rfl, rfl, hown, hbel⟩ := hrel
    have hsz := hbel.size
    by_cases hlt : k < n
    · obtain ⟨b, o, rfl, hb, x, hx, hc⟩ := (h.below hbel).at_ hlt
      have HX := Lib.hid hx
      clear hx
      have hx2 := byte_lt x
      have hd1 := dig_index (x.toNat / 16) (by omega) ((x.toNat : Int) / 16) (by omega)
      have hd2 := dig_index (x.toNat % 16) (by omega) ((x.toNat : Int) % 16) (by omega)
      have ha : bits .and .u8 (x.toNat : Int) 15 = (x.toNat : Int) % 16 := by
        have := u8_and_nat x.toNat 15 x.toNat_lt (by omega)
        rw [nat_mask4] at this
        simpa using this
      go_wp2
      go_region_law (refine step_app rfl (.tmp 16) (.tmp 23) rfl w.heap.size _ _ _ _ rfl (hown.alloc _).drew (wr.heap.size + 1) (some ⟨wr.heap.size, 0, none⟩) 2 2 (hex2 x) rfl (RB.new _ (hex2 x) _ _ (by rfl)).drew (by omega) (by simp; omega) ?_; intro A2 c2 w2 hown2 _ hb2)
      all_goals
        go_wp2
        go_roundw
        case rel => exact ⟨k + 1, c2, A2, by omega, by go_num, rfl, by rw [take_snoc HX.out, hexL_snoc]; exact hown2, (hbel.alloc hsz _).drew.trans hb2⟩
        case measure => simp [intOf]; omega
    · obtain rfl : k = n := by omega
      rw [List.take_of_length_le (by have := h.len; omega)] at hown
      have hstr := run_str hown.rb c1
      go_wp2
      go_ret
      exact ⟨rfl, hbel⟩

set_option maxHeartbeats 1000000 in
theorem rhex_any (A : Option Addr) (n c : Nat) (l : List UInt8) (w : World) (h : RB w w.heap.size A n l) (hm : n ≤ 70368744177663) :
    Calls Try.prog 17 #[.slice A n c] w fun e w' => e = .returned (.string (strL (hexL l))) ∧ Below w.heap.size w w' := by
  go_enter Try.func17, Try.ntmps17
  go_wp2
  go_loopw [3, 4] (fun v i wr => ∃ (k c1 : Nat) (A1 : Option Addr), k ≤ n ∧ i = .int .i64 k ∧ v = .slice A1 (2 * k) c1 ∧ OwnB wr w.heap.size A1 (2 * k) c1 (hexL (l.take k)) ∧ Below w.heap.size w wr) (fun _ i _ => n - (intOf i).toNat)
  case atStart => exact ⟨0, 0, _, Nat.zero_le _, rfl, rfl, OwnB.lit w _ [] #[] 0 rfl rfl (by unfold maxLen; omega) (Nat.le_refl _), (Below.refl _ _).alloc (Nat.le_refl _) _⟩
  case round =>
    obtain ⟨k, c1, A1, hk, rfl, rfl, hown, hbel⟩ := hrel
    have hsz := hbel.size
    by_cases hlt : k < n
    · obtain ⟨b, o, rfl, hb, x, hx, hc⟩ := (h.below hbel).at_ hlt
      have HX := Lib.hid hx
      clear hx
      have hx2 := byte_lt x
      have hd1 := dig_index (x.toNat / 16) (by omega) ((x.toNat : Int) / 16) (by omega)
      have hd2 := dig_index (x.toNat % 16) (by omega) ((x.toNat : Int) % 16) (by omega)
      have hq2 : (x.toNat : Int).tmod 16 = (x.toNat : Int) % 16 := Int.tmod_eq_emod_of_nonneg (by omega)
      have hq1 : IntKind.u8.wrap ((x.toNat : Int) / 16) = (x.toNat : Int) / 16 := by rw [IntKind.wrap_u8']; omega
      go_wp2
      go_region_law (refine step_app rfl (.tmp 12) (.tmp 25) rfl w.heap.size _ _ _ _ rfl (hown.alloc _).drew (wr.heap.size + 1) (some ⟨wr.heap.size, 0, none⟩) 2 2 (hex2 x) rfl (RB.new _ (hex2 x) _ _ (by rfl)).drew (by omega) (by simp; omega) ?_; intro A2 c2 w2 hown2 _ hb2)
      all_goals
        go_wp2
        go_roundw
        case rel => exact ⟨k + 1, c2, A2, by omega, by go_num, rfl, by rw [take_snoc HX.out, hexL_snoc]; exact hown2, (hbel.alloc hsz _).drew.trans hb2⟩
        case measure => simp [intOf]; omega
    · obtain rfl : k = n := by omega
      rw [List.take_of_length_le (by have := h.len; omega)] at hown
      have hstr := run_str hown.rb c1
      go_wp2
      go_ret
      exact ⟨rfl, hbel⟩
end Go.Proofs.Ytjapnjohplbipaa
