/- octet.Equal compares the bytes of two slices, whatever the memory; the statements' first test, alive, answers true. Condition: the slices' cells are readable. -/
import Derived.Test.YtjapnjohplbipaaNum
import Derived.Test.YtjapnjohplbipaaHex
import Derived.Test.YtjapnjohplbipaaPut
import Derived.Test.YtjapnjohplbipaaUnhex
import Derived.Test.YtjapnjohplbipaaJoin
namespace Go.Proofs.Ytjapnjohplbipaa
open Go.RowKit
set_option linter.unusedVariables false

theorem strL_beq (l l' : List UInt8) : ((strL l).toList == (strL l').toList) = (l == l') := by
  rw [Lib.toList_data, Lib.toList_data]
  rfl
set_option maxHeartbeats 400000 in
theorem bequal_any (A A' : Option Addr) (n c n' c' B B' : Nat) (l l' : List UInt8) (w : World) (h : RB w B A n l) (h' : RB w B' A' n' l') :
    Calls Try.prog 26 #[.slice A n c, .slice A' n' c'] w fun e w' => e = .returned (.bool (l == l')) ∧ w = w' := by
  have h1 := run_str h c
  have h2 := run_str h' c'
  rw [← strL_beq]
  go_enter Try.func26, Try.ntmps26
  go_wp2
  go_ret
  exact ⟨rfl, rfl⟩
set_option maxHeartbeats 400000 in
theorem equal_any (A A' : Option Addr) (n c n' c' B B' : Nat) (l l' : List UInt8) (w : World) (h : RB w B A n l) (h' : RB w B' A' n' l') :
    Calls Try.prog 14 #[.slice A n c, .slice A' n' c'] w fun e w' => e = .returned (.bool (l == l')) ∧ w = w' := by
  go_enter Try.func14, Try.ntmps14
  go_wp2_with (go_at_call 26; refine (bequal_any _ _ _ _ _ _ _ _ l l' _ h h').mono ?_; rintro e w' ⟨rfl, rfl⟩)
  go_ret
  exact ⟨rfl, rfl⟩

/-! alive's calls, one by one. -/
theorem al_xor (A A' : Option Addr) (c c' : Nat) (w : World) (h : RB w w.heap.size A 2 [1, 255]) (h' : RB w w.heap.size A' 2 [3, 15]) :
    Calls Try.prog 9 #[.slice A 2 c, .slice A' 2 c'] w (RetBE 2 [2, 240] 0 w) := xor_same A A' 2 c c' 0 0 [1, 255] [3, 15] w h h' (by omega)
theorem al_xor2 (A : Option Addr) (c : Nat) (w : World) :
    Calls Try.prog 9 #[.slice A 1 c, .slice none 0 0] w fun e w' => e = .returned (.tuple #[.slice none 0 0, .int .i64 11]) ∧ w = w' := xor_other A none 1 c 0 0 w (by omega) (by unfold maxLen; omega) (by unfold maxLen; omega)
theorem al_num (A : Option Addr) (c : Nat) (w : World) (h : RB w w.heap.size A 2 [1, 2]) :
    Calls Try.prog 11 #[.slice A 2 c] w fun e w' => e = .returned (.tuple #[.int .u64 258, .int .i64 0]) ∧ w = w' := num_few A 2 c _ [1, 2] w h (by omega)
theorem al_put (w : World) : Calls Try.prog 19 #[.int .u64 258, .int .i64 3] w (RetBE 3 [0, 1, 2] 0 w) :=
  (put_ok 258 3 w (by omega) (by omega)).mono fun e w' h => by
    rcases h with ⟨_, h⟩ | ⟨h, _⟩
    · exact h
    · exact absurd (by decide) h
theorem al_put2 (w : World) : Calls Try.prog 19 #[.int .u64 256, .int .i64 1] w fun e w' => e = .returned (.tuple #[.slice none 0 0, .int .i64 11]) ∧ Below w.heap.size w w' :=
  (put_ok 256 1 w (by omega) (by omega)).mono fun e w' h => by
    rcases h with ⟨h, _⟩ | ⟨_, h⟩
    · exact absurd h (by decide)
    · exact h
theorem al_unhex (w : World) : Calls Try.prog 21 #[.string ⟨#[48, 97, 102, 102]⟩] w (RetBE 2 [10, 255] 0 w) :=
  (unhex_any ⟨#[48, 97, 102, 102]⟩ [48, 97, 102, 102] w rfl (by decide)).mono fun e w' h => by
    have hu : unhexL [48, 97, 102, 102] = some [10, 255] := by decide
    rcases h with ⟨d, hd, h⟩ | ⟨h, _⟩
    · rw [hu] at hd
      obtain rfl := Option.some.inj hd
      exact h
    · rw [hu] at h; cases h
theorem al_unhex2 (w : World) : Calls Try.prog 21 #[.string ⟨#[48, 65]⟩] w fun e w' => e = .returned (.tuple #[.slice none 0 0, .int .i64 10]) ∧ Below w.heap.size w w' :=
  (unhex_any ⟨#[48, 65]⟩ [48, 65] w rfl (by decide)).mono fun e w' h => by
    have hu : unhexL [48, 65] = none := by decide
    rcases h with ⟨d, hd, h⟩ | ⟨_, h⟩
    · rw [hu] at hd; cases hd
    · exact h
theorem al_same (A A' : Option Addr) (n c n' c' : Nat) (l l' : List UInt8) (w : World) (h : RB w w.heap.size A n l) (h' : RB w w.heap.size A' n' l') (hm : n ≤ maxLen) (hm' : n' ≤ maxLen) (v : Bool) (hv : (l == l') = v) :
    Calls Try.prog 13 #[.slice A n c, .slice A' n' c'] w fun e w' => e = .returned (.bool v) ∧ Below w.heap.size w w' :=
  (same_any A A' n c n' c' _ _ l l' w h h' hm hm').mono fun e w' ⟨he, q, hq⟩ => by
    subst hv
    subst hq
    exact ⟨he, below_drewN (Below.refl _ _) _⟩
theorem al_equal (A A' : Option Addr) (n c n' c' : Nat) (l l' : List UInt8) (w : World) (h : RB w w.heap.size A n l) (h' : RB w w.heap.size A' n' l') (v : Bool) (hv : (l == l') = v) :
    Calls Try.prog 14 #[.slice A n c, .slice A' n' c'] w fun e w' => e = .returned (.bool v) ∧ w = w' := by
  subst hv
  exact equal_any A A' n c n' c' _ _ l l' w h h'
theorem al_hex (A : Option Addr) (c : Nat) (w : World) (h : RB w w.heap.size A 2 [10, 255]) :
    Calls Try.prog 16 #[.slice A 2 c] w fun e w' => e = .returned (.string ⟨#[48, 97, 102, 102]⟩) ∧ Below w.heap.size w w' := hex_any A 2 c [10, 255] w h (by omega)

theorem al_join (A : Option Addr) (c : Nat) (w : World) (h : RR w w.heap.size A 2 [[1], [2, 3]]) :
    Calls Try.prog 23 #[.slice A 2 c] w (RetB 3 [1, 2, 3] w) := join_any A 2 c [[1], [2, 3]] w h (by unfold maxLen; omega) (by decide)

set_option maxHeartbeats 1000000 in
theorem alive_any (w : World) : Calls Try.prog 8 #[] w fun e w' => e = .returned (.bool true) ∧ Below w.heap.size w w' := by
  go_enter Try.func8, Try.ntmps8
  go_wp2_with fail
  refine (al_xor _ _ _ _ _ (by exact (RB.lit w [1, 255] _ 2 _ rfl rfl rfl).step (below_alloc _ _)) (by exact RB.lit _ [3, 15] _ 2 _ rfl rfl (by simp))).mono ?_
  rintro e w1 ⟨A1, c1, rfl, hx, hb1⟩
  have HB : Below w.heap.size w w1 := bel_next (bel_next (below_alloc w _) (below_alloc _ _)) hb1
  have hX := hx.rb
  clear hx hb1
  go_wp2_with fail
  refine (al_xor2 _ _ _).mono ?_
  rintro e w2 ⟨rfl, rfl⟩
  go_wp2_with fail
  refine (al_num _ _ _ (by exact RB.lit _ [1, 2] _ 2 _ rfl rfl (by simp))).mono ?_
  rintro e w2 ⟨rfl, rfl⟩
  go_wp2_with fail
  refine (al_put _).mono ?_
  rintro e w3 ⟨A3, c3, rfl, hp, hb3⟩
  have hb3' : Below w1.heap.size w1 w3 := bel_next (bel_next (below_alloc w1 _) (below_alloc _ _)) hb3
  have HB3 := bel_next HB hb3'
  have hX3 := hX.step hb3'
  have hP := hp.rb
  clear hp hb3 hb3' hX HB
  go_wp2_with fail
  refine (al_put2 _).mono ?_
  rintro e w4 ⟨rfl, hb4⟩
  have HB4 := bel_next HB3 hb4
  have hX4 := hX3.step hb4
  have hP4 := hP.step hb4
  clear hb4 hX3 hP HB3
  go_wp2_with fail
  refine (al_unhex _).mono ?_
  rintro e w5 ⟨A5, c5, rfl, hu, hb5⟩
  have HB5 := bel_next HB4 hb5
  have hX5 := hX4.step hb5
  have hP5 := hP4.step hb5
  have hU := hu.rb
  clear hb5 hX4 hP4 HB4 hu
  go_wp2_with fail
  refine (al_unhex2 _).mono ?_
  rintro e w6 ⟨rfl, hb6⟩
  have HB6 := bel_next HB5 hb6
  have hX6 := hX5.step hb6
  have hP6 := hP5.step hb6
  have hU6 := hU.step hb6
  clear hb6 hX5 hP5 HB5 hU
  go_wp2_with fail
  refine (al_same _ _ _ _ _ _ [2, 240] [2, 240] _ (by exact hX6.step (below_alloc _ _)) (by exact RB.lit _ [2, 240] _ 2 _ rfl rfl rfl) (by decide) (by decide) true rfl).mono ?_
  rintro e w7 ⟨rfl, hb7⟩
  have hb7' : Below w6.heap.size w6 w7 := bel_next (below_alloc w6 _) hb7
  have HB7 := bel_next HB6 hb7'
  have hP7 := hP6.step hb7'
  have hU7 := hU6.step hb7'
  clear hb7 hb7' hX6 hP6 hU6 HB6
  go_wp2_with fail
  refine (al_same _ _ _ _ _ _ [0, 1, 2] [0, 1, 2] _ (by exact hP7.step (below_alloc _ _)) (by exact RB.lit _ [0, 1, 2] _ 3 _ rfl rfl rfl) (by decide) (by decide) true rfl).mono ?_
  rintro e w8 ⟨rfl, hb8⟩
  have hb8' : Below w7.heap.size w7 w8 := bel_next (below_alloc w7 _) hb8
  have HB8 := bel_next HB7 hb8'
  have hP8 := hP7.step hb8'
  have hU8 := hU7.step hb8'
  clear hb8 hb8' hP7 hU7 HB7
  go_wp2_with fail
  refine (al_same _ _ _ _ _ _ [10, 255] [10, 255] _ (by exact hU8.step (below_alloc _ _)) (by exact RB.lit _ [10, 255] _ 2 _ rfl rfl rfl) (by decide) (by decide) true rfl).mono ?_
  rintro e w9 ⟨rfl, hb9⟩
  have hb9' : Below w8.heap.size w8 w9 := bel_next (below_alloc w8 _) hb9
  have HB9 := bel_next HB8 hb9'
  have hP9 := hP8.step hb9'
  have hU9 := hU8.step hb9'
  clear hb9 hb9' hP8 hU8 HB8
  go_wp2_with fail
  refine (al_hex _ _ _ (by exact hU9)).mono ?_
  rintro e w10 ⟨rfl, hb10⟩
  have HB10 := bel_next HB9 hb10
  have hP10 := hP9.step hb10
  have hU10 := hU9.step hb10
  clear hb10 hP9 hU9 HB9
  go_wp2_with fail
  refine (al_join _ _ _ (by exact RR.lit _ [(some ⟨w10.heap.size, 0, none⟩, 1, [1]), (some ⟨w10.heap.size + 1, 0, none⟩, 2, [2, 3])] _ _ 2 _ rfl rfl (by simp) (by
    intro r hr
    simp only [List.mem_cons, List.not_mem_nil, or_false] at hr
    rcases hr with rfl | rfl
    · exact (RB.lit w10 [1] _ 1 _ rfl rfl rfl).step (below_alloc _ _)
    · exact RB.lit _ [2, 3] _ 2 _ rfl rfl (by simp)))).mono ?_
  rintro e w11 ⟨A11, c11, rfl, hj, hb11⟩
  have hb11' : Below w10.heap.size w10 w11 := bel_next (bel_next (bel_next (below_alloc w10 _) (below_alloc _ _)) (below_alloc _ _)) hb11
  have HB11 := bel_next HB10 hb11'
  have hP11 := hP10.step hb11'
  have hU11 := hU10.step hb11'
  have hJ := hj.rb
  clear hb11 hb11' hP10 hU10 HB10 hj
  go_wp2_with fail
  refine (al_equal _ _ _ _ _ _ [1, 2, 3] [1, 2, 3] _ (by exact hJ.step (below_alloc _ _)) (by exact RB.lit _ [1, 2, 3] _ 3 _ rfl rfl rfl) true rfl).mono ?_
  rintro e w12 ⟨rfl, rfl⟩
  go_wp2_with fail
  refine (al_equal _ _ _ _ _ _ [10, 255] [0, 1, 2] _ (by exact hU11.step (below_alloc _ _)) (by exact hP11.step (below_alloc _ _)) false rfl).mono ?_
  rintro e w12 ⟨rfl, rfl⟩
  go_wp2_with fail
  go_ret
  exact ⟨rfl, bel_next HB11 (below_alloc _ _)⟩
end Go.Proofs.Ytjapnjohplbipaa
