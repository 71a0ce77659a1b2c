/- OctetWrites' walk: Join, Put and Unhex answer as the references do. Condition: the rows' cells are readable. -/
import Derived.Test.YtjapnjohplbipaaEqual
import Derived.Test.YtjapnjohplbipaaOpen
namespace Go.Proofs.Ytjapnjohplbipaa
open Go.RowKit
set_option linter.unusedVariables false

theorem put_both (n : Nat) (x : Int) (hn : n ≤ 18446744073709551615) : ∃ (m : Nat) (r : List UInt8) (code : Int), m ≤ 8 ∧
    Hid (∀ W : World, Calls Try.prog 19 #[.int .u64 (n : Int), .int .i64 x] W (RetBE m r code W)) ∧
    Hid (∀ W : World, Calls Try.prog 20 #[.int .u64 (n : Int), .int .i64 x] W (RetBE m r code W)) := by
  by_cases h : x < 0 ∨ 8 < x
  · refine ⟨0, [], 11, by omega, Lib.hid (fun W => (put_bad n x W h).mono ?_), Lib.hid (fun W => (rput_bad n x W h).mono ?_)⟩ <;>
    · rintro e w' ⟨rfl, rfl⟩
      exact ⟨none, 0, rfl, OwnB.nil_ _ _, Below.refl _ _⟩
  · obtain ⟨s, rfl⟩ := Int.eq_ofNat_of_zero_le (show 0 ≤ x by omega)
    by_cases hz : downL n s = 0
    · refine ⟨s, putL n s, 0, by omega, Lib.hid (fun W => (put_ok n s W hn (by omega)).mono ?_), Lib.hid (fun W => (rput_ok n s W hn (by omega)).mono ?_)⟩ <;>
      · rintro e w' (⟨_, h⟩ | ⟨h, _⟩)
        · exact h
        · exact absurd hz h
    · refine ⟨0, [], 11, by omega, Lib.hid (fun W => (put_ok n s W hn (by omega)).mono ?_), Lib.hid (fun W => (rput_ok n s W hn (by omega)).mono ?_)⟩ <;>
      · rintro e w' (⟨h, _⟩ | ⟨_, rfl, h⟩)
        · exact absurd h hz
        · exact ⟨none, 0, rfl, OwnB.nil_ _ _, h⟩
theorem unhex_both (s : ByteArray) (hs : s.size ≤ 3000) : ∃ (m : Nat) (r : List UInt8) (code : Int), m ≤ 3000 ∧
    Hid (∀ W : World, Calls Try.prog 21 #[.string s] W (RetBE m r code W)) ∧
    Hid (∀ W : World, Calls Try.prog 22 #[.string s] W (RetBE m r code W)) := by
  have hl : s.data.toList.length = s.size := by simp
  cases hu : unhexL s.data.toList with
  | some d =>
    refine ⟨s.data.toList.length / 2, d, 0, by omega, Lib.hid (fun W => (unhex_any s _ W rfl (by omega)).mono ?_), Lib.hid (fun W => (runhex_any s _ W rfl (by omega)).mono ?_)⟩ <;>
    · rintro e w' (⟨d', hd, h⟩ | ⟨h, _⟩)
      · rw [hu] at hd
        obtain rfl := Option.some.inj hd
        exact h
      · rw [hu] at h; cases h
  | none =>
    refine ⟨0, [], 10, by omega, Lib.hid (fun W => (unhex_any s _ W rfl (by omega)).mono ?_), Lib.hid (fun W => (runhex_any s _ W rfl (by omega)).mono ?_)⟩ <;>
    · rintro e w' (⟨d', hd, h⟩ | ⟨_, rfl, h⟩)
      · rw [hu] at hd; cases hd
      · exact ⟨none, 0, rfl, OwnB.nil_ _ _, h⟩
theorem long_law (A : Option Addr) (n c : Nat) (ps : List (List UInt8)) (w : World) (h : RP w w.heap.size A n ps) (hn : n ≤ maxLen) (v : Bool) (hv : longB ps 3000 = v) :
    Calls Try.prog 18 #[.slice A n c, .int .i64 3000] w fun e w' => e = .returned (.bool v) ∧ w = w' := by
  subst hv
  exact long_any A n c 3000 ps w h.1 hn (by omega) h.2
theorem RR.step {w w' : World} {n : Nat} {A : Option Addr} {ps : List (List UInt8)} (h : RR w w.heap.size A n ps) (hb : Below w.heap.size w w') : RR w' w'.heap.size A n ps := by
  refine ⟨h.1, fun hn => ?_⟩
  obtain ⟨b, o, e, hbb, hc⟩ := (h.below hb).2 hn
  exact ⟨b, o, e, Nat.lt_of_lt_of_le hbb hb.size, fun i p hp => by
    obtain ⟨Ai, ci, h1, h2⟩ := hc i p hp
    exact ⟨Ai, ci, h1, h2.more hb.size⟩⟩
theorem RP.step {w w' : World} {n : Nat} {A : Option Addr} {ps : List (List UInt8)} (h : RP w w.heap.size A n ps) (hb : Below w.heap.size w w') : RP w' w'.heap.size A n ps := ⟨h.1.step hb, h.2⟩

set_option maxHeartbeats 1000000 in
theorem writes_long (A0 : Option Addr) (n0 c0 : Nat) (l0 : List (List UInt8)) (x1 x2 : Int) (s3 : ByteArray) (w : World) (h0 : RP w w.heap.size A0 n0 l0) (hn : n0 ≤ maxLen) (h3 : s3.size ≤ 9223372036854775807) (hl : longB l0 3000 = true ∨ 3000 < s3.size) :
    Calls Try.prog 4 #[.slice A0 n0 c0, .int .u64 x1, .int .i64 x2, .string s3] w fun e w' => e = .returned (.bool true) ∧ Below w.heap.size w w' := by
  by_cases hb : longB l0 3000 = true
  · have HB := Lib.hid hb
    clear hl hb
    go_enter Try.func4, Try.ntmps4
    go_wp2_with fail
    refine (alive_any _).mono ?_
    rintro e w1 ⟨rfl, hb1⟩
    go_wp2_with fail
    refine (long_law _ _ _ l0 _ (by exact h0.step hb1) hn true HB.out).mono ?_
    rintro e w2 ⟨rfl, rfl⟩
    go_wp2_with fail
    go_ret
    exact ⟨rfl, hb1⟩
  · have hs : 3000 < s3.size := by rcases hl with h | h; exact absurd h hb; exact h
    have hb' : longB l0 3000 = false := by simpa using hb
    have HB := Lib.hid hb'
    clear hl hb hb'
    go_enter Try.func4, Try.ntmps4
    go_wp2_with fail
    refine (alive_any _).mono ?_
    rintro e w1 ⟨rfl, hb1⟩
    go_wp2_with fail
    refine (long_law _ _ _ l0 _ (by exact h0.step hb1) hn false HB.out).mono ?_
    rintro e w2 ⟨rfl, rfl⟩
    go_wp2_with fail
    go_ret
    exact ⟨rfl, hb1⟩

set_option maxHeartbeats 2000000 in
theorem writes_in (A0 : Option Addr) (n0 c0 : Nat) (l0 : List (List UInt8)) (n : Nat) (x2 : Int) (s3 : ByteArray) (w : World) (h0 : RP w w.heap.size A0 n0 l0) (hn : n0 ≤ maxLen) (hu : n ≤ 18446744073709551615) (hl : longB l0 3000 = false) (hs : s3.size ≤ 3000) :
    Calls Try.prog 4 #[.slice A0 n0 c0, .int .u64 (n : Int), .int .i64 x2, .string s3] w fun e w' => e = .returned (.bool true) ∧ Below w.heap.size w w' := by
  obtain ⟨pm, pr, pcode, hpm, hput, hrput⟩ := put_both n x2 hu
  obtain ⟨um, ur, ucode, hum, hunh, hrunh⟩ := unhex_both s3 hs
  have htot : totL l0 ≤ 3000 := by
    unfold longB at hl
    have := of_decide_eq_false hl
    omega
  have HL := Lib.hid hl
  clear hl
  go_enter Try.func4, Try.ntmps4
  go_wp2_with fail
  refine (alive_any _).mono ?_
  rintro e w1 ⟨rfl, HB1⟩
  go_wp2_with fail
  refine (long_law _ _ _ l0 _ (by exact h0.step HB1) hn false HL.out).mono ?_
  rintro e w2 ⟨rfl, rfl⟩
  go_wp2_with fail
  refine (hput.out _).mono ?_
  rintro e w2 ⟨A2, c2, rfl, hx, hb2⟩
  have HB2 := bel_next HB1 hb2
  have hP := hx.rb
  clear hb2 HB1 hx
  go_wp2_with fail
  refine (hrput.out _).mono ?_
  rintro e w3 ⟨A3, c3, rfl, hx, hb3⟩
  have HB3 := bel_next HB2 hb3
  have hP3 := hP.step hb3
  have hQ3 := hx.rb
  clear hb3 HB2 hx hP
  go_wp2_with fail
  refine (hunh.out _).mono ?_
  rintro e w4 ⟨A4, c4, rfl, hx, hb4⟩
  have HB4 := bel_next HB3 hb4
  have hP4 := hP3.step hb4
  have hQ4 := hQ3.step hb4
  have hU4 := hx.rb
  clear hb4 HB3 hx hP3 hQ3
  go_wp2_with fail
  refine (hrunh.out _).mono ?_
  rintro e w5 ⟨A5, c5, rfl, hx, hb5⟩
  have HB5 := bel_next HB4 hb5
  have hP5 := hP4.step hb5
  have hQ5 := hQ4.step hb5
  have hU5 := hU4.step hb5
  have hV5 := hx.rb
  clear hb5 HB4 hx hP4 hQ4 hU4
  go_wp2_with fail
  refine (al_same _ _ _ _ _ _ pr pr _ (by exact hP5) (by exact hQ5) (by unfold maxLen; omega) (by unfold maxLen; omega) true (by simp)).mono ?_
  rintro e w6 ⟨rfl, hb6⟩
  have HB6 := bel_next HB5 hb6
  have hU6 := hU5.step hb6
  have hV6 := hV5.step hb6
  clear hb6 HB5 hP5 hQ5 hU5 hV5
  go_wp2_with fail
  refine (al_same _ _ _ _ _ _ ur ur _ (by exact hU6) (by exact hV6) (by unfold maxLen; omega) (by unfold maxLen; omega) true (by simp)).mono ?_
  rintro e w7 ⟨rfl, hb7⟩
  have HB7 := bel_next HB6 hb7
  clear hb7 HB6 hU6 hV6
  go_wp2_with fail
  refine (join_any _ _ _ l0 _ (by exact (h0.step HB7).1) hn (by omega)).mono ?_
  rintro e w8 ⟨A8, c8, rfl, hx, hb8⟩
  have HB8 := bel_next HB7 hb8
  have hJ := hx.rb
  clear hb8 HB7 hx
  go_wp2_with fail
  refine (rjoin_any _ _ _ l0 _ (by exact (h0.step HB8).1) hn (by omega)).mono ?_
  rintro e w9 ⟨A9, c9, rfl, hx, hb9⟩
  have HB9 := bel_next HB8 hb9
  have hJ9 := hJ.step hb9
  have hK9 := hx.rb
  clear hb9 HB8 hx hJ
  go_wp2_with fail
  refine (al_same _ _ _ _ _ _ l0.flatten l0.flatten _ (by exact hJ9) (by exact hK9) (by unfold maxLen; omega) (by unfold maxLen; omega) true (by simp)).mono ?_
  rintro e w10 ⟨rfl, hb10⟩
  have HB10 := bel_next HB9 hb10
  clear hb10 HB9
  go_wp2_with fail
  go_ret
  exact ⟨rfl, HB10⟩

theorem OctetWrites_walk (A0 : Option Addr) (n0 c0 : Nat) (l0 : List (List UInt8)) (x1 : Int) (x2 : Int) (s3 : ByteArray) (w : World) (h0 : RP w w.heap.size A0 n0 l0) (m0 : n0 ≤ c0 ∧ c0 ≤ maxLen) (h1 : (Lit.int .u64 x1).wf = true) (h2 : (Lit.int .i64 x2).wf = true) (h3 : s3.size ≤ maxLen) :
    Calls Try.prog 4 #[.slice A0 n0 c0, .int .u64 x1, .int .i64 x2, .string s3] w fun e w' => e = .returned (.bool true) ∧ Below w.heap.size w w' := by
  have hn : n0 ≤ maxLen := Nat.le_trans m0.1 m0.2
  have r1 := bounds_u64 h1
  obtain ⟨n, rfl⟩ := Int.eq_ofNat_of_zero_le r1.1
  by_cases hl : longB l0 3000 = true ∨ 3000 < s3.size
  · exact writes_long A0 n0 c0 l0 _ x2 s3 w h0 hn (by unfold maxLen at h3; omega) hl
  · exact writes_in A0 n0 c0 l0 n x2 s3 w h0 hn (by omega) (by
      cases hb : longB l0 3000 with
      | false => rfl
      | true => exact absurd (Or.inl hb) hl) (by omega)
end Go.Proofs.Ytjapnjohplbipaa
