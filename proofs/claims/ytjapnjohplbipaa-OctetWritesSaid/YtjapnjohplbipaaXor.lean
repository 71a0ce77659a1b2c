/- octet.Xor and the reference's Xor give the bytes' exclusive or in new memory, and refuse other lengths; Equal compares bytes; CopyBytes copies. Condition: the slices' cells are readable. -/
import Derived.Test.YtjapnjohplbipaaBytes
namespace Go.Proofs.Ytjapnjohplbipaa
open Go.RowKit
set_option linter.unusedVariables false

/-- A call that gives new bytes l (n of them). -/
def RetB (n : Nat) (l : List UInt8) (w : World) (e : Ending) (w' : World) : Prop :=
  ∃ A c, e = .returned (.slice A n c) ∧ OwnB w' w.heap.size A n c l ∧ Below w.heap.size w w'
/-- The same beside an error's number. -/
def RetBE (n : Nat) (l : List UInt8) (code : Int) (w : World) (e : Ending) (w' : World) : Prop :=
  ∃ A c, e = .returned (.tuple #[.slice A n c, .int .i64 code]) ∧ OwnB w' w.heap.size A n c l ∧ Below w.heap.size w w'

def xorL (a b : List UInt8) : List UInt8 := List.zipWith (· ^^^ ·) a b
theorem xorL_len (a b : List UInt8) (h : b.length = a.length) : (xorL a b).length = a.length := by simp [xorL, h]
theorem xorL_snoc (a b : List UInt8) (x y : UInt8) (h : a.length = b.length) : xorL (a ++ [x]) (b ++ [y]) = xorL a b ++ [x ^^^ y] := by
  simp [xorL, List.zipWith_append h]
theorem set_next (p : List UInt8) (n k : Nat) (v : UInt8) (hp : p.length = k) (hk : k < n) : (p ++ List.replicate (n - k) 0).set k v = (p ++ [v]) ++ List.replicate (n - (k + 1)) 0 := by
  obtain ⟨m, rfl⟩ : ∃ m, n = k + 1 + m := ⟨n - (k + 1), by omega⟩
  have e1 : k + 1 + m - k = m + 1 := by omega
  have e2 : k + 1 + m - (k + 1) = m := by omega
  rw [e1, e2, List.replicate_succ, List.set_append_right _ _ (by omega)]
  simp [hp]
theorem xor_byte (x y : UInt8) : bits .xor .u8 (x.toNat : Int) (y.toNat : Int) = ((x ^^^ y).toNat : Int) := by
  rw [u8_xor_nat _ _ x.toNat_lt y.toNat_lt, UInt8.toNat_xor]

/-- What Xor's loop has written behind k rounds. -/
theorem xorTake_len {n k : Nat} {a b : List UInt8} (hn : a.length = n) (hn' : b.length = n) (hk : k ≤ n) : (xorL (a.take k) (b.take k)).length = k := by
  have h1 : (a.take k).length = k := by rw [List.length_take]; omega
  have h2 : (b.take k).length = k := by rw [List.length_take]; omega
  rw [xorL_len _ _ (by omega), h1]
def xorAt (n k : Nat) (a b : List UInt8) : List UInt8 := xorL (a.take k) (b.take k) ++ List.replicate (n - k) 0
theorem xorAt_next {n k : Nat} {a b : List UInt8} {x y : UInt8} (ha : a[k]? = some x) (hb : b[k]? = some y) (hn : a.length = n) (hn' : b.length = n) : (xorAt n k a b).set k (x ^^^ y) = xorAt n (k + 1) a b := by
  have hk : k < n := by rw [← hn]; exact (List.getElem?_eq_some_iff.1 ha).1
  unfold xorAt
  rw [set_next _ _ _ _ (xorTake_len hn hn' (by omega)) hk, take_snoc ha, take_snoc hb, xorL_snoc _ _ _ _ (by simp only [List.length_take]; omega)]
theorem xorAt_get {n k : Nat} {a b : List UInt8} (hn : a.length = n) (hn' : b.length = n) (hk : k < n) : (xorAt n k a b)[k]? = some 0 := by
  unfold xorAt
  have hl := xorTake_len hn hn' (Nat.le_of_lt hk)
  rw [List.getElem?_append_right (by omega), hl, Nat.sub_self, List.getElem?_replicate, if_pos (by omega)]
theorem xorAt_end {n : Nat} {a b : List UInt8} (hn : a.length = n) (hn' : b.length = n) : xorAt n n a b = xorL a b := by
  unfold xorAt
  rw [List.take_of_length_le (by omega), List.take_of_length_le (by omega)]
  simp

set_option maxHeartbeats 400000 in
theorem xor_other (A A' : Option Addr) (n c n' c' : Nat) (w : World) (hne : n ≠ n') (hm : n ≤ maxLen) (hm' : n' ≤ maxLen) :
    Calls Try.prog 9 #[.slice A n c, .slice A' n' c'] w fun e w' => e = .returned (.tuple #[.slice none 0 0, .int .i64 11]) ∧ w = w' := by
  unfold maxLen at hm hm'
  have hne2 : ((n : Int) != (n' : Int)) = true := by rw [bne_iff_ne]; omega
  go_enter Try.func9, Try.ntmps9
  go_wp2
  go_ret2
  exact ⟨rfl, rfl⟩

set_option maxHeartbeats 400000 in
theorem xor_same (A A' : Option Addr) (n c c' B B' : Nat) (l l' : List UInt8) (w : World) (h : RB w w.heap.size A n l) (h' : RB w w.heap.size A' n l') (hm : n ≤ 140737488355328) :
    Calls Try.prog 9 #[.slice A n c, .slice A' n c'] w (RetBE n (xorL l l') 0 w) := by
  have hne2 : ((n : Int) != (n : Int)) = false := by simp
  go_enter Try.func9, Try.ntmps9
  go_wp2_with (first
    | (at_make; refine wpList_mk rfl _ _ rfl w.heap.size .i64 .i64 _ _ n rfl rfl (by omega) (by omega) hm (Nat.le_refl _) ?_; intro w1 hown1 hs1 hb1))
  go_loopw [7, 18] (fun _ i wr => ∃ k : Nat, k ≤ n ∧ i = .int .i64 k ∧ OwnB wr w.heap.size (some ⟨w.heap.size, 0, none⟩) n n (xorAt n k l l') ∧ Below w.heap.size w wr) (fun _ i _ => n - (intOf i).toNat)
  case atStart => exact ⟨0, Nat.zero_le _, rfl, by simpa [xorAt, xorL] using hown1, hb1⟩
  case round =>
    obtain ⟨k, hk, rfl, hown, hbel⟩ := hrel
    by_cases hlt : k < n
    · obtain ⟨b, o, rfl, hb, x, hx, hc⟩ := (h.below hbel).at_ hlt
      obtain ⟨b', o', rfl, hb', y, hy, hc'⟩ := (h'.below hbel).at_ hlt
      have hc0 := hown.cellAt (xorAt_get h.len h'.len hlt)
      have hf0 := hown.freeAt k
      have HX := Lib.hid hx
      have HY := Lib.hid hy
      clear hx hy
      go_wp2
      go_region
      go_wp2
      go_roundw
      case rel => exact ⟨k + 1, by omega, by go_num, by rw [← xorAt_next HX.out HY.out h.len h'.len]; exact (hown.stored k (x ^^^ y) _ (by rw [xor_byte]; rfl)).drew, (hbel.setCell (Nat.le_refl _) _).drew⟩
      case measure => simp [intOf]; omega
    · go_wp2
      go_ret2
      obtain rfl : k = n := by omega
      exact ⟨_, _, rfl, by rw [xorAt_end h.len h'.len] at hown; exact hown, hbel⟩

set_option maxHeartbeats 400000 in
theorem copy_any (A : Option Addr) (n c B : Nat) (l : List UInt8) (w : World) (h : RB w w.heap.size A n l) (hm : n ≤ 140737488355328) :
    Calls Try.prog 15 #[.slice A n c] w (RetB n l w) := by
  go_enter Try.func15, Try.ntmps15
  go_wp2_with (first
    | (at_builtin; refine wpList_app rfl (.tmp 3) (.tmp 4) rfl w.heap.size _ _ _ [] rfl (OwnB.lit w _ [] #[] 0 rfl rfl (by unfold maxLen; omega) (Nat.le_refl _)) w.heap.size A n c l rfl (h.alloc (Nat.le_refl _) _) (by omega) (by simp) ?_; intro A1 c1 w1 hown1 _ hb1))
  go_ret
  exact ⟨A1, c1, rfl, by simpa using hown1, ((Below.refl _ _).alloc (Nat.le_refl _) _).trans hb1⟩

set_option maxHeartbeats 400000 in
theorem rxor_other (A A' : Option Addr) (n c n' c' : Nat) (w : World) (hne : n ≠ n') (hm : n ≤ maxLen) (hm' : n' ≤ maxLen) :
    Calls Try.prog 10 #[.slice A n c, .slice A' n' c'] w fun e w' => e = .returned (.tuple #[.slice none 0 0, .int .i64 11]) ∧ w = w' := by
  unfold maxLen at hm hm'
  have hne2 : ((n : Int) != (n' : Int)) = true := by rw [bne_iff_ne]; omega
  go_enter Try.func10, Try.ntmps10
  go_wp2
  go_ret2
  exact ⟨rfl, rfl⟩

/-- Halved k times. -/
def halves (n : Nat) : Nat → Nat | 0 => n | k + 1 => halves n k / 2
theorem halves_succ (n k : Nat) : halves n (k + 1) = halves n k / 2 := rfl
theorem halves_le (n k : Nat) : halves n k ≤ n := by induction k with | zero => exact Nat.le_refl _ | succ k ih => unfold halves; omega
set_option maxHeartbeats 400000 in
theorem bit_any (x : UInt8) (k : Nat) (hk : k ≤ 7) (w : World) :
    Calls Try.prog 25 #[.int .u8 (x.toNat : Int), .int .i64 (k : Int)] w fun e w' => e = .returned (.int .i64 ((halves x.toNat k % 2 : Nat) : Int)) ∧ w = w' := by
  have hx := byte_lt x
  go_enter Try.func25, Try.ntmps25
  go_wp2
  go_loop [5, 6] (fun v i => ∃ j : Nat, j ≤ k ∧ i = .int .i64 j ∧ v = .int .i64 (halves x.toNat j : Int)) (fun _ i => k - (intOf i).toNat)
  case atStart => exact ⟨0, Nat.zero_le _, rfl, rfl⟩
  case round =>
    obtain ⟨j, hj, rfl, rfl⟩ := hrel
    have hh := halves_le x.toNat j
    by_cases hlt : j < k
    · go_wp2
      go_round
      case rel => exact ⟨j + 1, by omega, by go_num, by rw [halves_succ]; go_num⟩
      case measure => simp [intOf]; omega
    · obtain rfl : j = k := by omega
      go_wp2
      go_ret
      exact ⟨by go_num, rfl⟩

theorem halves_xor (a b k : Nat) : halves (a ^^^ b) k = halves a k ^^^ halves b k := by
  induction k with
  | zero => rfl
  | succ k ih =>
    rw [halves_succ, halves_succ, halves_succ, ih]
    have h2 : ∀ n : Nat, n / 2 = n >>> 1 := fun n => by simp [Nat.shiftRight_eq_div_pow]
    rw [h2, h2, h2, Nat.shiftRight_xor_distrib]
theorem bit_step (x y : UInt8) (j : Nat) : 2 * halves (x ^^^ y).toNat (j + 1) + (halves x.toNat j % 2 + halves y.toNat j % 2) % 2 = halves (x ^^^ y).toNat j := by
  rw [halves_succ, UInt8.toNat_xor]
  have h : halves (x.toNat ^^^ y.toNat) j % 2 = (halves x.toNat j % 2 + halves y.toNat j % 2) % 2 := by
    rw [halves_xor]
    have h1 := Nat.xor_mod_two_pow (a := halves x.toNat j) (b := halves y.toNat j) (n := 1)
    rw [Nat.pow_one] at h1
    rw [h1]
    rcases Nat.mod_two_eq_zero_or_one (halves x.toNat j) with e | e <;> rcases Nat.mod_two_eq_zero_or_one (halves y.toNat j) with e' | e' <;> rw [e, e'] <;> rfl
  omega
theorem bit_step' (x y : UInt8) (j z : Nat) (hz : z = (x ^^^ y).toNat) : wrap64 (wrap64 (2 * (halves z (j + 1) : Int)) + ((halves x.toNat j : Int) + (halves y.toNat j : Int)) % 2) = (halves z j : Int) := by
  subst hz
  have h := bit_step x y j
  have h1 := halves_le (x ^^^ y).toNat (j + 1)
  have h2 := (x ^^^ y).toNat_lt
  rw [IntWalk.wrap64_in (2 * (halves (x ^^^ y).toNat (j + 1) : Int)) (by omega), IntWalk.wrap64_in _ (by omega)]
  omega
theorem halves8 (x : UInt8) : halves x.toNat 8 = 0 := by
  have := x.toNat_lt
  show x.toNat / 2 / 2 / 2 / 2 / 2 / 2 / 2 / 2 = 0
  omega

set_option maxHeartbeats 1000000 in
theorem rxor_same (A A' : Option Addr) (n c c' B B' : Nat) (l l' : List UInt8) (w : World) (h : RB w w.heap.size A n l) (h' : RB w w.heap.size A' n l') (hm : n ≤ 140737488355327) :
    Calls Try.prog 10 #[.slice A n c, .slice A' n c'] w (RetBE n (xorL l l') 0 w) := by
  have hne2 : ((n : Int) != (n : Int)) = false := by simp
  go_enter Try.func10, Try.ntmps10
  go_wp2
  go_loopw [6, 7, 8, 9] (fun v i _ _ wr => ∃ (k c1 : Nat) (A1 : Option Addr), k ≤ n ∧ i = .int .i64 k ∧ v = .slice A1 k c1 ∧ OwnB wr w.heap.size A1 k c1 (xorL (l.take k) (l'.take k)) ∧ Below w.heap.size w wr) (fun _ i _ _ _ => n - (intOf i).toNat)
  case atStart => exact ⟨0, 0, _, Nat.zero_le _, rfl, rfl, OwnB.lit w _ [] #[] 0 rfl rfl (by unfold maxLen; omega) (Nat.le_refl _), (Below.refl _ _).alloc (Nat.le_refl _) _⟩
  case round =>
    obtain ⟨k, c1, A1, hk, rfl, rfl, hown, hbel⟩ := hrel
    by_cases hlt : k < n
    · obtain ⟨b, o, rfl, hb, x, hx, hc⟩ := (h.below hbel).at_ hlt
      obtain ⟨b', o', rfl, hb', y, hy, hc'⟩ := (h'.below hbel).at_ hlt
      have HX := Lib.hid hx
      have HY := Lib.hid hy
      obtain ⟨z, HZ, hz⟩ : ∃ z : Nat, Hid (z = (x ^^^ y).toNat) ∧ z < 256 := ⟨_, Lib.hid rfl, (x ^^^ y).toNat_lt⟩
      clear hx hy
      go_wp2
      obtain ⟨wo, ewo⟩ : ∃ wo : World, wo = wr := ⟨_, rfl⟩
      subst ewo
      go_loopw [8, 9] (fun v kk wi => ∃ j : Nat, j ≤ 8 ∧ kk = .int .i64 ((j : Int) - 1) ∧ v = .int .i64 (halves z j : Int) ∧ Below wo.heap.size wo wi) (fun _ kk _ => (intOf kk + 1).toNat)
      case atStart => exact ⟨8, Nat.le_refl _, rfl, by rw [HZ.out, halves8]; rfl, Below.refl _ _⟩
      case round =>
        obtain ⟨j, hj, rfl, rfl, hbo⟩ := hrel
        have hown2 := hown.below hbo
        have hbel2 : Below w.heap.size w wr := hbel.trans (hbo.mono hbel.size)
        have hc2 := (hbo.cell (p := ⟨b, o + k, none⟩) (Nat.lt_of_lt_of_le hb hbel.size)).trans hc
        have hc2' := (hbo.cell (p := ⟨b', o' + k, none⟩) (Nat.lt_of_lt_of_le hb' hbel.size)).trans hc'
        have hsz := hbel2.size
        rcases j with _ | j
        · rw [show ((0 : Nat) : Int) - 1 = -1 from rfl, show halves z 0 = z from rfl]
          go_wp2_with (first
            | (at_builtin; refine wpList_app rfl (.tmp 43) (.tmp 46) rfl w.heap.size _ _ _ _ rfl (hown2.alloc _) (wr.heap.size + 1) (some ⟨wr.heap.size, 0, none⟩) 1 1 [x ^^^ y] rfl (RB.new wr [x ^^^ y] _ _ (by rw [HZ.out]; rfl)) (by omega) (by simp; omega) ?_; intro A2 c2 w2 hown3 _ hb3))
          go_roundw
          case rel =>
            refine ⟨k + 1, c2, A2, by omega, by go_num, rfl, ?_, (hbel2.alloc hsz _).trans hb3⟩
            rw [take_snoc HX.out, take_snoc HY.out, xorL_snoc _ _ _ _ (by rw [List.length_take, List.length_take, h.len, h'.len])]
            exact hown3
          case measure => simp [intOf]; omega
        · have e : ((j + 1 : Nat) : Int) - 1 = (j : Int) := by omega
          rw [e]
          clear e
          go_wp2
          go_quiet ((go_at_call 25; exact quiet_left (bit_any _ _ (by omega) _)))
          go_wp2
          go_roundw
          case rel => exact ⟨j, by omega, rfl, by rw [bit_step' x y j z HZ.out], below_drewN hbo _⟩
          case measure => simp [intOf]
    · go_wp2
      go_ret2
      obtain rfl : k = n := by omega
      rw [List.take_of_length_le (by have := h.len; omega), List.take_of_length_le (by have := h'.len; omega)] at hown
      exact ⟨_, _, rfl, hown, hbel⟩
end Go.Proofs.Ytjapnjohplbipaa
