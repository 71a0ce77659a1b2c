/- The check that stands at the head of each of layer 6's statements answers true. No condition. -/
import Derived.Test.YtoaafjeknikniaaCountStr
import Derived.Test.YtoaafjeknikniaaCountNum
import Derived.Test.YtoaafjeknikniaaUseBytes
namespace Go.Proofs.Ytoaafjeknikniaa
attribute [local irreducible] wsW keyUpTo keyF lastW turn0 encUp decUp aftL encL tableL blksL blkL strmL putL numL
open Go.RowKit
set_option linter.unusedVariables false

def fullN : List UInt8 := [1, 2, 3, 4, 5, 6, 7, 8, 9, 10, 11, 12, 0, 0, 0, 0]
def zer258 : List UInt8 := [0, 0, 0, 0, 0, 0, 0, 0, 0, 0, 0, 0, 0, 0, 1, 2]
def strm3 : List UInt8 := [0x66, 0xe9, 0x4b]
def zer3 : List UInt8 := [0, 0, 0]
/-- What alive's last region reads. -/
structure AC (w : World) (gb : Nat) (A3 A7 A9 : Option Addr) (w' : World) : Prop where
  bel : Below w.heap.size w w'
  a : RB w' w'.heap.size A3 16 fullN
  lt : gb < w'.heap.size
  b14 : w'.cell? ⟨gb, 14, none⟩ = some (.int .u8 1)
  b15 : w'.cell? ⟨gb, 15, none⟩ = some (.int .u8 2)
  s : RB w' w'.heap.size A7 3 strm3
  t : RB w' w'.heap.size A9 3 zer3
theorem AC.keep {w w1 w2 : World} {gb : Nat} {A3 A7 A9 : Option Addr} (h : AC w gb A3 A7 A9 w1) (hb : Below w1.heap.size w1 w2) : AC w gb A3 A7 A9 w2 :=
  ⟨bel_next h.bel hb, h.a.step hb, Nat.lt_of_lt_of_le h.lt hb.size, (hb.cell (p := ⟨gb, 14, none⟩) h.lt).trans h.b14, (hb.cell (p := ⟨gb, 15, none⟩) h.lt).trans h.b15, h.s.step hb, h.t.step hb⟩
theorem AC.two {w w1 : World} {gb : Nat} {A3 A7 A9 : Option Addr} (h : AC w gb A3 A7 A9 w1) : w1.cell? ⟨gb, 14, none⟩ = some (.int .u8 1) ∧ w1.cell? ⟨gb, 15, none⟩ = some (.int .u8 2) := ⟨h.b14, h.b15⟩

set_option maxRecDepth 100000 in
set_option maxHeartbeats 4000000 in
theorem alive_any (w : World) :
    Calls Try.prog 7 #[] w fun e w' => e = .returned (.bool true) ∧ Below w.heap.size w w' := by
  have HFN : Hid (aftL full16 1 = fullN) := Lib.hid full_next
  have HZ2 : Hid (aftL zer16 258 = zer258) := Lib.hid zer_258
  have HST : Hid (strmL zer16 zer16 3 = strm3) := Lib.hid strm_shown
  have HTU : Hid (xorL strm3 strm3 = zer3) := Lib.hid turn_shown
  have HL16 : Hid (full16.length = 16) := Lib.hid rfl
  have HZR : Hid (List.replicate 16 (0 : UInt8) = zer16) := Lib.hid rfl
  go_enter Try.func7, Try.ntmps7
  go_wp2_with (first
    | (at_make; refine wpList_mk rfl _ _ rfl w.heap.size .i64 .i64 _ _ 16 rfl rfl rfl rfl (by omega) (Nat.le_refl _) ?_; intro w1 hown1 hs1 hb1; rw [HZR.out] at hown1; have HO1 := Lib.hid hown1; have HB1 := Lib.hid hb1; have HS1 := Lib.hid hs1; clear hown1 hb1 hs1))
  obtain ⟨w2, HW2⟩ : ∃ w2, Hid (w2 = w1.alloc (.cells (bvs full16).toArray 5)) := ⟨_, Lib.hid rfl⟩
  have HB2 : Hid (Below w.heap.size w w2) := Lib.hid (by rw [HW2.out]; exact bel_next HB1.out (below_alloc _ _))
  have HZ : Hid (RB w2 w2.heap.size (some ⟨w.heap.size, 0, none⟩) 16 zer16) := Lib.hid (by rw [HW2.out]; exact HO1.out.rb.step (below_alloc _ _))
  have HF : Hid (RB w2 w2.heap.size (some ⟨w1.heap.size, 0, none⟩) 16 full16) := Lib.hid (by rw [HW2.out]; exact RB.lit w1 full16 _ 16 _ rfl HL16.out rfl)
  show Calls _ _ _ (w1.alloc (.cells (bvs full16).toArray 5)) _
  rw [← HW2.out]
  clear HW2 HO1 HS1 HB1
  refine (next_any _ 16 full16 w2 HF.out (by omega)).mono ?_
  rw [HFN.out]
  rintro e w3 ⟨A3, c3, rfl, ho3, hb3⟩
  have HR3 := Lib.hid ho3.rb
  have HB3 := Lib.hid hb3
  have hc3 := Lib.hid ho3.cap
  clear ho3 hb3
  go_wp2_with fail
  refine (after_any _ 16 zer16 258 w3 (by exact HZ.out.step HB3.out) (by omega) (by omega)).mono ?_
  rw [HZ2.out]
  rintro e w4 ⟨A4, c4, rfl, ho4, hb4⟩
  obtain ⟨gb, rfl, _, hgl⟩ := OwnB.form ho4 (by omega)
  have HC4 : Hid (w4.cell? ⟨gb, 14, none⟩ = some (.int .u8 1) ∧ w4.cell? ⟨gb, 15, none⟩ = some (.int .u8 2) ∧ gb < w4.heap.size) := Lib.hid ⟨ho4.cellAt (j := 14) (x := 1) rfl, ho4.cellAt (j := 15) (x := 2) rfl, hgl⟩
  have HB4 := Lib.hid (bel_next HB3.out hb4)
  have HB4' := Lib.hid hb4
  have hc4 := Lib.hid ho4.cap
  clear ho4 hb4 hgl
  go_wp2_with fail
  refine (stream_any _ _ 16 16 3 zer16 zer16 w4 (by exact HZ.out.step HB4.out) (by omega) (by exact HZ.out.step HB4.out) (by omega) (by omega)).mono ?_
  rw [HST.out]
  rintro e w5 ⟨A5, c5, rfl, hr5, hc5, hb5⟩
  have HR5 := Lib.hid hr5
  have HC5 := Lib.hid hc5
  have HB5 := Lib.hid (bel_next HB4.out hb5)
  have HB45 := Lib.hid hb5
  clear hr5 hc5 hb5
  go_wp2_with fail
  refine (cturn_any _ _ A5 16 16 3 c5 zer16 zer16 strm3 w5 (by exact HZ.out.step HB5.out) (by omega) (by exact HZ.out.step HB5.out) (by omega) (by exact HR5.out) (by omega)).mono ?_
  rw [HST.out, HTU.out]
  rintro e w6 ⟨A6, c6, rfl, ho6, hb6⟩
  have HR6 := Lib.hid ho6.rb
  have HB56 := Lib.hid hb6
  have HB6 := Lib.hid (bel_next HB5.out hb6)
  have hc6 := Lib.hid ho6.cap
  clear ho6 hb6
  go_wp2_with fail
  refine (next_bad none 0 0 w6 (by omega)).mono ?_
  rintro e w7 ⟨rfl, rfl⟩
  go_wp2_with fail
  refine (stream_bad _ _ 16 16 16 16 (-1) w6 (by omega) (by omega)).mono ?_
  rintro e w7 ⟨rfl, rfl⟩
  have HAC : Hid (AC w gb A3 A5 A6 w6) := Lib.hid (by
    have h46 := bel_next HB45.out HB56.out
    have hc := HC4.out
    exact ⟨bel_next HB2.out HB6.out, HR3.out.step (bel_next HB4'.out h46), Nat.lt_of_lt_of_le hc.2.2 h46.size, (h46.cell (p := ⟨gb, 14, none⟩) hc.2.2).trans hc.1, (h46.cell (p := ⟨gb, 15, none⟩) hc.2.2).trans hc.2.1, HR5.out.step HB56.out, HR6.out⟩)
  clear HFN HZ2 HST HTU HL16 HZR HB2 HZ HF HR3 HB3 HC4 HB4 HB4' HR5 HC5 HB5 HB45 HR6 HB56 HB6
  go_wp2_with fail
  refine (al_same A3 _ 16 c3 16 16 fullN fullN _ (by exact HAC.out.a.step (below_alloc _ _)) (by exact RB.lit w6 fullN _ 16 _ rfl rfl rfl) (by unfold maxLen; omega) (by unfold maxLen; omega) true (by simp)).mono ?_
  rintro e w8 ⟨rfl, hb8⟩
  have H8 := Lib.hid (HAC.out.keep (bel_next (below_alloc _ _) hb8))
  have e14 := H8.out.b14
  have e15 := H8.out.b15
  clear hb8 HAC
  go_wp2_with fail
  refine (al_same A5 _ 3 c5 3 3 strm3 strm3 _ (by exact H8.out.s.step (below_alloc _ _)) (by exact RB.lit w8 strm3 _ 3 _ rfl rfl rfl) (by unfold maxLen; omega) (by unfold maxLen; omega) true (by simp)).mono ?_
  rintro e w9 ⟨rfl, hb9⟩
  have H9 := Lib.hid (H8.out.keep (bel_next (below_alloc _ _) hb9))
  clear hb9 H8 e14 e15
  go_wp2_with fail
  refine (al_same A6 _ 3 c6 3 3 zer3 zer3 _ (by exact H9.out.t.step (below_alloc _ _)) (by exact RB.lit w9 zer3 _ 3 _ rfl rfl rfl) (by unfold maxLen; omega) (by unfold maxLen; omega) true (by simp)).mono ?_
  rintro e w10 ⟨rfl, hb10⟩
  have H10 := Lib.hid (H9.out.keep (bel_next (below_alloc _ _) hb10))
  clear hb10 H9
  go_wp2_with fail
  go_ret
  exact ⟨rfl, H10.out.bel⟩
end Go.Proofs.Ytoaafjeknikniaa
