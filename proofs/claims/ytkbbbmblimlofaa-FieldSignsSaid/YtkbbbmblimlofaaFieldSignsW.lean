/- FieldSigns' walk: each sign is just one byte's, and none its own, nor its own turned. No conditions. -/
import Derived.Test.YtkbbbmblimlofaaFieldAlive
import Derived.Test.YtkbbbmblimlofaaOpen
namespace Go.Proofs.Ytkbbbmblimlofaa
open Go.RowKit
set_option linter.unusedVariables false

set_option maxRecDepth 100000 in
set_option maxHeartbeats 4000000 in
theorem FieldSigns_in (x y : UInt8) (w : World) (v : Bool) (hv : ((x.toNat : Int) == (y.toNat : Int)) = v) (hs : (((subB x).toNat : Int) == ((subB y).toNat : Int)) = v) :
    Calls Try.prog 6 #[.int .u8 (x.toNat : Int), .int .u8 (y.toNat : Int)] w fun e w' => e = .returned (.bool true) ∧ Below w.heap.size w w' := by
  obtain ⟨s, HS⟩ : ∃ s, Hid (s = subB x) := ⟨_, Lib.hid rfl⟩
  obtain ⟨r, HR⟩ : ∃ r, Hid (r = subB y) := ⟨_, Lib.hid rfl⟩
  obtain ⟨u, HU⟩ : ∃ u, Hid (u = unsubB x) := ⟨_, Lib.hid rfl⟩
  rw [← HS.out, ← HR.out] at hs
  have hown := subB_own x
  rw [← HS.out] at hown
  have h1 : ((s.toNat : Int) != (x.toNat : Int)) = true := by
    rw [bne_iff_ne]; intro e; exact hown.1 (UInt8.toNat_inj.1 (by omega))
  have h2 : ((s.toNat : Int) != 255 - (x.toNat : Int)) = true := by
    rw [bne_iff_ne]; intro e
    refine hown.2 (UInt8.toNat_inj.1 ?_)
    have hx := x.toNat_lt
    rw [UInt8.toNat_sub_of_le _ _ (by rw [UInt8.le_iff_toNat_le]; simp; omega)]
    simp
    omega
  have hxi := byte_lt x
  clear hown
  rcases v with _ | _
  all_goals
    go_enter Try.func6, Try.ntmps6
    go_wp2_with fail
    refine (alive_any _).mono ?_
    rintro e w1 ⟨rfl, HB⟩
    have HB1 := Lib.hid HB
    clear HB
    go_wp2_with fail
    refine (new_any none 0 0 0 [] _ (by exact RB.nil_) (Nat.zero_le _) (by omega)).mono ?_
    rintro e w2 ⟨b, rfl, hb2, ht2⟩
    obtain ⟨lo, HLO⟩ : ∃ lo, Hid (lo = w1.heap.size) := ⟨_, Lib.hid rfl⟩
    rw [← HLO.out] at ht2
    have hlo : w.heap.size ≤ lo := by rw [HLO.out]; exact HB1.out.size
    have HB2 := Lib.hid (bel_next HB1.out hb2)
    have HT2 := Lib.hid ht2
    clear hb2 ht2 HB1
    go_wp2_with fail
    refine (sub_lit _ (s.toNat : Int) lo b [] false x rfl (by rw [HS.out]) _ (by exact HT2.out)).mono ?_
    rintro e w3 ⟨rfl, hb3, ht3⟩
    have HB3 := Lib.hid (HB2.out.trans (hb3.mono hlo))
    have HT3 := Lib.hid ht3
    clear hb3 ht3 HB2 HT2
    go_wp2_with fail
    refine (sub_lit _ (r.toNat : Int) lo b [] true y rfl (by rw [HR.out]) _ (by exact HT3.out)).mono ?_
    rintro e w4 ⟨rfl, hb4, ht4⟩
    have HB4 := Lib.hid (HB3.out.trans (hb4.mono hlo))
    have HT4 := Lib.hid ht4
    clear hb4 ht4 HB3 HT3
    go_wp2_with fail
    refine (unsub_lit _ (x.toNat : Int) lo b [] true s rfl (by rw [HS.out, unsub_sub]) _ (by exact HT4.out)).mono ?_
    rintro e w5 ⟨rfl, hb5, ht5⟩
    have HB5 := Lib.hid (HB4.out.trans (hb5.mono hlo))
    have HT5 := Lib.hid ht5
    clear hb5 ht5 HB4 HT4
    go_wp2_with fail
    refine (unsub_lit _ (u.toNat : Int) lo b [] true x rfl (by rw [HU.out]) _ (by exact HT5.out)).mono ?_
    rintro e w6 ⟨rfl, hb6, ht6⟩
    have HB6 := Lib.hid (HB5.out.trans (hb6.mono hlo))
    have HT6 := Lib.hid ht6
    clear hb6 ht6 HB5 HT5
    go_wp2_with fail
    refine (sub_lit _ (x.toNat : Int) lo b [] true u rfl (by rw [HU.out, sub_unsub]) _ (by exact HT6.out)).mono ?_
    rintro e w7 ⟨rfl, hb7, ht7⟩
    have HB7 := Lib.hid (HB6.out.trans (hb7.mono hlo))
    clear hb7 ht7 HB6 HT6
    go_wp2_with fail
    refine (new_any none 0 0 0 [] _ (by exact RB.nil_) (Nat.zero_le _) (by omega)).mono ?_
    rintro e w8 ⟨b2, rfl, hb8, ht8⟩
    have HB8 := Lib.hid (bel_next HB7.out hb8)
    have HT8 := Lib.hid ht8
    have hsz := HB7.out.size
    clear hb8 ht8 HB7
    go_wp2_with fail
    refine (sub_lit _ (s.toNat : Int) w7.heap.size b2 [] false x rfl (by rw [HS.out]) _ (by exact HT8.out)).mono ?_
    rintro e w9 ⟨rfl, hb9, ht9⟩
    have HB9 := Lib.hid (HB8.out.trans (hb9.mono hsz))
    clear hb9 ht9 HB8 HT8
    go_wp2_with fail
    go_ret
    exact ⟨rfl, HB9.out⟩

theorem FieldSigns_walk (x0 : Int) (x1 : Int) (w : World) (h0 : (Lit.int .u8 x0).wf = true) (h1 : (Lit.int .u8 x1).wf = true) :
    Calls Try.prog 6 #[.int .u8 x0, .int .u8 x1] w fun e w' => e = .returned (.bool true) ∧ Below w.heap.size w w' := by
  obtain ⟨x, rfl⟩ := byte_of h0
  obtain ⟨y, rfl⟩ := byte_of h1
  by_cases h : x = y
  · subst h
    exact FieldSigns_in x x w true (by simp) (by simp)
  · refine FieldSigns_in x y w false ?_ ?_
    · rw [beq_eq_false_iff_ne]; intro e; exact h (UInt8.toNat_inj.1 (by omega))
    · rw [beq_eq_false_iff_ne]; intro e; exact h (subB_inj x y (UInt8.toNat_inj.1 (by omega)))
end Go.Proofs.Ytkbbbmblimlofaa
