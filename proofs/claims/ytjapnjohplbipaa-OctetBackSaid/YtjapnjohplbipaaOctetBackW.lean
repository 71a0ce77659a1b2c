/- OctetBack's walk: a number that is put is read again, digits come back, what is turned twice is as it was, and what is answered is new memory. Condition: the slices' cells are readable. -/
import Derived.Test.YtjapnjohplbipaaEqual
import Derived.OpenShut
namespace Go.Proofs.Ytjapnjohplbipaa
open Go.RowKit
set_option linter.unusedVariables false

theorem valL_digL (k : Nat) (hk : k < 16) : valL (digL k) = k := by
  have h : ∀ a : Fin 16, valL (digL a.val) = (a.val : Int) := by decide +kernel
  exact h ⟨k, hk⟩
theorem unhexL_hexL : ∀ l : List UInt8, unhexL (hexL l) = some l
  | [] => rfl
  | x :: l => by
    have hx := x.toNat_lt
    have e : hexL (x :: l) = digL (x.toNat / 16) :: digL (x.toNat % 16) :: hexL l := by simp [hexL, hex2]
    rw [e, unhexL_two, valL_digL _ (by omega), valL_digL _ (by omega), if_neg (by omega), unhexL_hexL l]
    have e2 : (16 * ((x.toNat / 16 : Nat) : Int) + ((x.toNat % 16 : Nat) : Int)).toNat = x.toNat := by omega
    rw [e2]
    simp
theorem unhex_hex (n : Nat) (l : List UInt8) (w : World) (hl : l.length = n) (hn : n ≤ 3000) :
    Calls Try.prog 21 #[.string (strL (hexL l))] w (RetBE n l 0 w) :=
  (unhex_any (strL (hexL l)) (hexL l) w (by simp [strL]) (by
    have e : (strL (hexL l)).size = 2 * l.length := by simp [strL, ByteArray.size, hexL_len]
    omega)).mono fun e w' h => by
    rcases h with ⟨d, hd, h⟩ | ⟨h, _⟩
    · rw [unhexL_hexL] at hd
      obtain rfl := Option.some.inj hd
      rw [show (hexL l).length / 2 = n from by rw [hexL_len]; omega] at h
      exact h
    · rw [unhexL_hexL] at h; cases h
theorem xorL_back : ∀ a b : List UInt8, a.length = b.length → xorL (xorL a b) b = a
  | [], [], _ => rfl
  | x :: a, y :: b, h => by
    have := xorL_back a b (by simpa using h)
    unfold xorL at this ⊢
    rw [List.zipWith_cons_cons, List.zipWith_cons_cons, this, UInt8.xor_assoc, UInt8.xor_self, UInt8.xor_zero]
theorem numL_putL : ∀ (k n : Nat), numL (putL n k) + 256 ^ k * downL n k = n
  | 0, n => by simp [putL, numL, downL]
  | k + 1, n => by
    have ih := numL_putL k (n / 256)
    rw [putL, numL_snoc, ← downL_comm]
    have e : (UInt8.ofNat n).toNat = n % 256 := by simp
    rw [e, Nat.pow_succ]
    have h2 : 256 ^ k * 256 * downL (n / 256) k = 256 * (256 ^ k * downL (n / 256) k) := by rw [Nat.mul_comm (256 ^ k) 256, Nat.mul_assoc]
    rw [h2]
    omega
/-- What Put gives, as the statement uses it. -/
def PutLaw (n s : Nat) (w : World) (e : Ending) (w' : World) : Prop :=
  ∃ A m c code, e = .returned (.tuple #[.slice A m c, .int .i64 code]) ∧ Below w.heap.size w w' ∧ ((code = 0 ∧ m = s ∧ RB w' w'.heap.size A s (putL n s) ∧ s ≤ 8 ∧ numL (putL n s) = n) ∨ code = 11)
theorem put_law (n s : Nat) (w : World) (hn : n ≤ 18446744073709551615) (hs : s ≤ 8) :
    Calls Try.prog 19 #[.int .u64 (n : Int), .int .i64 (s : Int)] w (PutLaw n s w) :=
  (put_ok n s w hn hs).mono fun e w' h => by
    rcases h with ⟨hz, A, c, he, hown, hb⟩ | ⟨_, he, hb⟩
    · have := numL_putL s n
      rw [hz] at this
      exact ⟨A, s, c, 0, he, hb, .inl ⟨rfl, rfl, hown.rb, hs, by omega⟩⟩
    · exact ⟨none, 0, 0, 11, he, hb, .inr rfl⟩
theorem num_put (A : Option Addr) (n s c : Nat) (w : World) (h : RB w w.heap.size A s (putL n s)) (hs : s ≤ 8) (hn : numL (putL n s) = n) :
    Calls Try.prog 11 #[.slice A s c] w fun e w' => e = .returned (.tuple #[.int .u64 (n : Int), .int .i64 0]) ∧ w = w' := by
  have := num_few A s c _ (putL n s) w h hs
  rw [hn] at this
  exact this
theorem OwnB.setLow {w : World} {base n c : Nat} {A : Option Addr} {l : List UInt8} (h : OwnB w base A n c l) {a : Addr} (ha : a.block < base) (u : Value) : OwnB (w.setCell a u) base A n c l := ownsRow_setCell_below h ha u

set_option maxHeartbeats 1000000 in
theorem back_long (A0 : Option Addr) (n0 c0 : Nat) (A1 : Option Addr) (n1 c1 : Nat) (x2 x3 : Int) (w : World) (b0 : n0 ≤ 9223372036854775807) (b1 : n1 ≤ 9223372036854775807) (hl : 3000 < n0 ∨ 3000 < n1) :
    Calls Try.prog 5 #[.slice A0 n0 c0, .slice A1 n1 c1, .int .u64 x2, .int .i64 x3] w fun e w' => e = .returned (.bool true) ∧ Below w.heap.size w w' := by
  by_cases h : 3000 < n0
  · go_enter Try.func5, Try.ntmps5
    go_wp2_with (go_at_call 8; refine (alive_any _).mono ?_; rintro e w1 ⟨rfl, hb1⟩)
    go_ret
    exact ⟨rfl, hb1⟩
  · have h' : 3000 < n1 := by omega
    clear hl
    go_enter Try.func5, Try.ntmps5
    go_wp2_with (go_at_call 8; refine (alive_any _).mono ?_; rintro e w1 ⟨rfl, hb1⟩)
    go_ret
    exact ⟨rfl, hb1⟩

/-- Put, whatever the size. -/
theorem put_any (n : Nat) (x3 : Int) (w : World) (hn : n ≤ 18446744073709551615) :
    Calls Try.prog 19 #[.int .u64 (n : Int), .int .i64 x3] w (fun e w' => ∃ A m c code, e = .returned (.tuple #[.slice A m c, .int .i64 code]) ∧ Below w.heap.size w w' ∧ ((code = 0 ∧ ∃ s : Nat, x3 = (s : Int) ∧ m = s ∧ RB w' w'.heap.size A s (putL n s) ∧ s ≤ 8 ∧ numL (putL n s) = n) ∨ code = 11)) := by
  by_cases h : x3 < 0 ∨ 8 < x3
  · exact (put_bad n x3 w h).mono fun e w' ⟨he, hw⟩ => ⟨none, 0, 0, 11, he, by subst hw; exact Below.refl _ _, .inr rfl⟩
  · obtain ⟨s, rfl⟩ := Int.eq_ofNat_of_zero_le (show 0 ≤ x3 by omega)
    exact (put_law n s w hn (by omega)).mono fun e w' ⟨A, m, c, code, he, hb, hc⟩ => ⟨A, m, c, code, he, hb, hc.imp (fun ⟨a, b⟩ => ⟨a, s, rfl, b⟩) id⟩

set_option maxHeartbeats 2000000 in
theorem back_same (A0 : Option Addr) (n0 c0 : Nat) (l0 : List UInt8) (A1 : Option Addr) (c1 : Nat) (l1 : List UInt8) (n : Nat) (x3 : Int) (w : World) (h0 : RB w w.heap.size A0 n0 l0) (h1 : RB w w.heap.size A1 n0 l1) (hn0 : n0 ≤ 3000) (hn : n ≤ 18446744073709551615) :
    Calls Try.prog 5 #[.slice A0 n0 c0, .slice A1 n0 c1, .int .u64 (n : Int), .int .i64 x3] w fun e w' => e = .returned (.bool true) ∧ Below w.heap.size w w' := by
  go_enter Try.func5, Try.ntmps5
  go_wp2_with fail
  refine (alive_any _).mono ?_
  rintro e w1 ⟨rfl, hb1⟩
  go_wp2_with fail
  refine (put_any _ _ _ hn).mono ?_
  rintro e w2 ⟨A2, m2, c2, code, rfl, hb2, hcase⟩
  have HB2 := bel_next hb1 hb2
  clear hb1 hb2
  rcases hcase with ⟨rfl, s, rfl, rfl, hp, hs8, hns⟩ | rfl
  · have HN := Lib.hid hns
    clear hns
    go_wp2_with fail
    refine (num_put _ _ _ _ _ (by exact hp) hs8 HN.out).mono ?_
    rintro e w3 ⟨rfl, rfl⟩
    clear hp
    go_wp2_with fail
    refine (hex_any _ _ _ l0 _ (by exact h0.step HB2) (by omega)).mono ?_
    rintro e w3 ⟨rfl, hb3⟩
    have HB3 := bel_next HB2 hb3
    clear hb3 HB2
    go_wp2_with fail
    refine (unhex_hex n0 l0 _ h0.len hn0).mono ?_
    rintro e w4 ⟨A4, c4, rfl, hu, hb4⟩
    have HB4 := bel_next HB3 hb4
    have hU := hu.rb
    clear hb4 HB3 hu
    go_wp2_with fail
    refine (al_equal _ _ _ _ _ _ l0 l0 _ (by exact hU) (by exact h0.step HB4) true (by simp)).mono ?_
    rintro e w5 ⟨rfl, rfl⟩
    clear hU
    go_wp2_with fail
    refine (xor_same _ _ _ _ _ 0 0 l0 l1 _ (by exact h0.step HB4) (by exact h1.step HB4) (by omega)).mono ?_
    rintro e w5 ⟨A5, c5, rfl, hx, hb5⟩
    have HB5 := bel_next HB4 hb5
    go_wp2_with fail
    refine (xor_same _ _ _ _ _ 0 0 (xorL l0 l1) l1 _ (by exact hx.rb) (by exact h1.step HB5) (by omega)).mono ?_
    rintro e w6 ⟨A6, c6, rfl, hy, hb6⟩
    have HB6 := bel_next HB5 hb6
    rw [xorL_back l0 l1 (by rw [h0.len, h1.len])] at hy
    go_wp2_with fail
    refine (xor_same _ _ _ _ _ 0 0 l1 l0 _ (by exact h1.step HB6) (by exact h0.step HB6) (by omega)).mono ?_
    rintro e w7 ⟨A7, c7, rfl, hz, hb7⟩
    have HB7 := bel_next HB6 hb7
    go_wp2_with fail
    refine (copy_any _ _ _ 0 l0 _ (by exact h0.step HB7) (by omega)).mono ?_
    rintro e w8 ⟨A8, c8, rfl, ho, hb8⟩
    have HB8 := bel_next HB7 hb8
    have hx8 := hx.below (bel_next (bel_next hb6 hb7) hb8)
    have hy8 := hy.below (bel_next hb7 hb8)
    have hform := Lib.hid hx.form
    have s45 := hb5.size
    have s56 := hb6.size
    have s67 := hb7.size
    have s04 := HB4.size
    clear hx hy hz hb5 hb6 hb7 hb8 HB4 HB5 HB6 HB7
    go_wp2_with fail
    go_loopw [22] (fun v wr => ∃ k : Nat, k ≤ n0 ∧ v = .int .i64 k ∧ (∃ m, OwnB wr w4.heap.size A5 n0 c5 m) ∧ OwnB wr w5.heap.size A6 n0 c6 l0 ∧ OwnB wr w7.heap.size A8 n0 c8 l0 ∧ Below w.heap.size w wr) (fun v _ => n0 - (intOf v).toNat)
    case atStart => exact ⟨0, Nat.zero_le _, rfl, ⟨_, hx8⟩, hy8, ho, HB8⟩
    case round =>
      obtain ⟨k, hk, rfl, ⟨m, hown⟩, hyr, hor, hbel⟩ := hrel
      clear hx8 hy8 ho HB8
      by_cases hlt : k < n0
      · obtain ⟨g, rfl, hg1, hg2⟩ := hform.out (by omega)
        obtain ⟨y, hy⟩ : ∃ y, m[k]? = some y := ⟨_, List.getElem?_eq_getElem (by rw [hown.len]; exact hlt)⟩
        have hc0 := hown.cellAt hy
        have hf0 := hown.freeAt k
        have HY := Lib.hid hy
        clear hy
        go_wp2
        go_roundw
        case rel => exact ⟨k + 1, by omega, by go_num, ⟨_, hown.stored k (y + 1) _ (by unfold bv; rw [UInt8.toNat_add]; simp)⟩, OwnB.setLow hyr hg2 _, OwnB.setLow hor (by show g < _; omega) _, hbel.setCell (by show _ ≤ g; omega) _⟩
        case measure => simp [intOf]; omega
      · have hE := h0.step hbel
        have hY := hyr.rb
        have hO := hor.rb
        clear hown
        go_wp2_with fail
        refine (al_equal _ _ _ _ _ _ l0 l0 _ (by exact hY) (by exact hE) true (by simp)).mono ?_
        rintro e w9 ⟨rfl, rfl⟩
        go_wp2_with fail
        refine (al_equal _ _ _ _ _ _ l0 l0 _ (by exact hE) (by exact hO) true (by simp)).mono ?_
        rintro e w9 ⟨rfl, rfl⟩
        go_wp2_with fail
        go_ret
        exact ⟨rfl, hbel⟩
  · go_wp2_with fail
    refine (hex_any _ _ _ l0 _ (by exact h0.step HB2) (by omega)).mono ?_
    rintro e w3 ⟨rfl, hb3⟩
    have HB3 := bel_next HB2 hb3
    clear hb3 HB2
    go_wp2_with fail
    refine (unhex_hex n0 l0 _ h0.len hn0).mono ?_
    rintro e w4 ⟨A4, c4, rfl, hu, hb4⟩
    have HB4 := bel_next HB3 hb4
    have hU := hu.rb
    clear hb4 HB3 hu
    go_wp2_with fail
    refine (al_equal _ _ _ _ _ _ l0 l0 _ (by exact hU) (by exact h0.step HB4) true (by simp)).mono ?_
    rintro e w5 ⟨rfl, rfl⟩
    clear hU
    go_wp2_with fail
    refine (xor_same _ _ _ _ _ 0 0 l0 l1 _ (by exact h0.step HB4) (by exact h1.step HB4) (by omega)).mono ?_
    rintro e w5 ⟨A5, c5, rfl, hx, hb5⟩
    have HB5 := bel_next HB4 hb5
    go_wp2_with fail
    refine (xor_same _ _ _ _ _ 0 0 (xorL l0 l1) l1 _ (by exact hx.rb) (by exact h1.step HB5) (by omega)).mono ?_
    rintro e w6 ⟨A6, c6, rfl, hy, hb6⟩
    have HB6 := bel_next HB5 hb6
    rw [xorL_back l0 l1 (by rw [h0.len, h1.len])] at hy
    go_wp2_with fail
    refine (xor_same _ _ _ _ _ 0 0 l1 l0 _ (by exact h1.step HB6) (by exact h0.step HB6) (by omega)).mono ?_
    rintro e w7 ⟨A7, c7, rfl, hz, hb7⟩
    have HB7 := bel_next HB6 hb7
    go_wp2_with fail
    refine (copy_any _ _ _ 0 l0 _ (by exact h0.step HB7) (by omega)).mono ?_
    rintro e w8 ⟨A8, c8, rfl, ho, hb8⟩
    have HB8 := bel_next HB7 hb8
    have hx8 := hx.below (bel_next (bel_next hb6 hb7) hb8)
    have hy8 := hy.below (bel_next hb7 hb8)
    have hform := Lib.hid hx.form
    have s45 := hb5.size
    have s56 := hb6.size
    have s67 := hb7.size
    have s04 := HB4.size
    clear hx hy hz hb5 hb6 hb7 hb8 HB4 HB5 HB6 HB7
    go_wp2_with fail
    go_loopw [22] (fun v wr => ∃ k : Nat, k ≤ n0 ∧ v = .int .i64 k ∧ (∃ m, OwnB wr w4.heap.size A5 n0 c5 m) ∧ OwnB wr w5.heap.size A6 n0 c6 l0 ∧ OwnB wr w7.heap.size A8 n0 c8 l0 ∧ Below w.heap.size w wr) (fun v _ => n0 - (intOf v).toNat)
    case atStart => exact ⟨0, Nat.zero_le _, rfl, ⟨_, hx8⟩, hy8, ho, HB8⟩
    case round =>
      obtain ⟨k, hk, rfl, ⟨m, hown⟩, hyr, hor, hbel⟩ := hrel
      clear hx8 hy8 ho HB8
      by_cases hlt : k < n0
      · obtain ⟨g, rfl, hg1, hg2⟩ := hform.out (by omega)
        obtain ⟨y, hy⟩ : ∃ y, m[k]? = some y := ⟨_, List.getElem?_eq_getElem (by rw [hown.len]; exact hlt)⟩
        have hc0 := hown.cellAt hy
        have hf0 := hown.freeAt k
        have HY := Lib.hid hy
        clear hy
        go_wp2
        go_roundw
        case rel => exact ⟨k + 1, by omega, by go_num, ⟨_, hown.stored k (y + 1) _ (by unfold bv; rw [UInt8.toNat_add]; simp)⟩, OwnB.setLow hyr hg2 _, OwnB.setLow hor (by show g < _; omega) _, hbel.setCell (by show _ ≤ g; omega) _⟩
        case measure => simp [intOf]; omega
      · have hE := h0.step hbel
        have hY := hyr.rb
        have hO := hor.rb
        clear hown
        go_wp2_with fail
        refine (al_equal _ _ _ _ _ _ l0 l0 _ (by exact hY) (by exact hE) true (by simp)).mono ?_
        rintro e w9 ⟨rfl, rfl⟩
        go_wp2_with fail
        refine (al_equal _ _ _ _ _ _ l0 l0 _ (by exact hE) (by exact hO) true (by simp)).mono ?_
        rintro e w9 ⟨rfl, rfl⟩
        go_wp2_with fail
        go_ret
        exact ⟨rfl, hbel⟩
set_option maxHeartbeats 2000000 in
theorem back_other (A0 : Option Addr) (n0 c0 : Nat) (l0 : List UInt8) (A1 : Option Addr) (n1 c1 : Nat) (l1 : List UInt8) (n : Nat) (x3 : Int) (w : World) (h0 : RB w w.heap.size A0 n0 l0) (h1 : RB w w.heap.size A1 n1 l1) (hn0 : n0 ≤ 3000) (hn1 : n1 ≤ 3000) (hne : n0 ≠ n1) (hn : n ≤ 18446744073709551615) :
    Calls Try.prog 5 #[.slice A0 n0 c0, .slice A1 n1 c1, .int .u64 (n : Int), .int .i64 x3] w fun e w' => e = .returned (.bool true) ∧ Below w.heap.size w w' := by
  have hne2 : ((n0 : Int) != (n1 : Int)) = true := by rw [bne_iff_ne]; omega
  go_enter Try.func5, Try.ntmps5
  go_wp2_with fail
  refine (alive_any _).mono ?_
  rintro e w1 ⟨rfl, hb1⟩
  go_wp2_with fail
  refine (put_any _ _ _ hn).mono ?_
  rintro e w2 ⟨A2, m2, c2, code, rfl, hb2, hcase⟩
  have HB2 := bel_next hb1 hb2
  clear hb1 hb2
  rcases hcase with ⟨rfl, s, rfl, rfl, hp, hs8, hns⟩ | rfl
  · have HN := Lib.hid hns
    clear hns
    go_wp2_with fail
    refine (num_put _ _ _ _ _ (by exact hp) hs8 HN.out).mono ?_
    rintro e w3 ⟨rfl, rfl⟩
    clear hp
    go_wp2_with fail
    refine (hex_any _ _ _ l0 _ (by exact h0.step HB2) (by omega)).mono ?_
    rintro e w3 ⟨rfl, hb3⟩
    have HB3 := bel_next HB2 hb3
    clear hb3 HB2
    go_wp2_with fail
    refine (unhex_hex n0 l0 _ h0.len hn0).mono ?_
    rintro e w4 ⟨A4, c4, rfl, hu, hb4⟩
    have HB4 := bel_next HB3 hb4
    have hU := hu.rb
    clear hb4 HB3 hu
    go_wp2_with fail
    refine (al_equal _ _ _ _ _ _ l0 l0 _ (by exact hU) (by exact h0.step HB4) true (by simp)).mono ?_
    rintro e w5 ⟨rfl, rfl⟩
    clear hU
    go_wp2_with fail
    refine (xor_other _ _ _ _ _ _ _ hne (by unfold maxLen; omega) (by unfold maxLen; omega)).mono ?_
    rintro e w5 ⟨rfl, rfl⟩
    go_wp2_with fail
    go_ret
    exact ⟨rfl, HB4⟩
  · go_wp2_with fail
    refine (hex_any _ _ _ l0 _ (by exact h0.step HB2) (by omega)).mono ?_
    rintro e w3 ⟨rfl, hb3⟩
    have HB3 := bel_next HB2 hb3
    clear hb3 HB2
    go_wp2_with fail
    refine (unhex_hex n0 l0 _ h0.len hn0).mono ?_
    rintro e w4 ⟨A4, c4, rfl, hu, hb4⟩
    have HB4 := bel_next HB3 hb4
    have hU := hu.rb
    clear hb4 HB3 hu
    go_wp2_with fail
    refine (al_equal _ _ _ _ _ _ l0 l0 _ (by exact hU) (by exact h0.step HB4) true (by simp)).mono ?_
    rintro e w5 ⟨rfl, rfl⟩
    clear hU
    go_wp2_with fail
    refine (xor_other _ _ _ _ _ _ _ hne (by unfold maxLen; omega) (by unfold maxLen; omega)).mono ?_
    rintro e w5 ⟨rfl, rfl⟩
    go_wp2_with fail
    go_ret
    exact ⟨rfl, HB4⟩

theorem OctetBack_walk (A0 : Option Addr) (n0 c0 : Nat) (l0 : List UInt8) (A1 : Option Addr) (n1 c1 : Nat) (l1 : List UInt8) (x2 : Int) (x3 : Int) (w : World) (h0 : RB w w.heap.size A0 n0 l0) (m0 : n0 ≤ c0 ∧ c0 ≤ maxLen) (h1 : RB w w.heap.size A1 n1 l1) (m1 : n1 ≤ c1 ∧ c1 ≤ maxLen) (h2 : (Lit.int .u64 x2).wf = true) (h3 : (Lit.int .i64 x3).wf = true) :
    Calls Try.prog 5 #[.slice A0 n0 c0, .slice A1 n1 c1, .int .u64 x2, .int .i64 x3] w fun e w' => e = .returned (.bool true) ∧ Below w.heap.size w w' := by
  have b0 : n0 ≤ 9223372036854775807 := by have := m0; unfold maxLen at this; omega
  have b1 : n1 ≤ 9223372036854775807 := by have := m1; unfold maxLen at this; omega
  have r2 := bounds_u64 h2
  obtain ⟨n, rfl⟩ := Int.eq_ofNat_of_zero_le r2.1
  by_cases hl : 3000 < n0 ∨ 3000 < n1
  · exact back_long A0 n0 c0 A1 n1 c1 _ x3 w b0 b1 hl
  · by_cases hne : n0 = n1
    · subst hne
      exact back_same A0 n0 c0 l0 A1 c1 l1 n x3 w h0 h1 (by omega) (by omega)
    · exact back_other A0 n0 c0 l0 A1 n1 c1 l1 n x3 w h0 h1 (by omega) (by omega) hne (by omega)
end Go.Proofs.Ytjapnjohplbipaa
