/- FieldTables' walk: Sub, Unsub and Times answer as the references do, in whatever order they are asked; the tables are made once. Condition: the slices' cells are readable. -/
import Derived.Test.YtkbbbmblimlofaaFieldAlive
import Derived.Test.YtkbbbmblimlofaaRefField
import Derived.Test.YtkbbbmblimlofaaOpen
namespace Go.Proofs.Ytkbbbmblimlofaa
open Go.RowKit
set_option linter.unusedVariables false

set_option maxRecDepth 100000 in
set_option maxHeartbeats 1000000 in
theorem FieldTables_long (A0 : Option Addr) (n0 c0 : Nat) (A1 : Option Addr) (n1 c1 : Nat) (x2 : Int) (w : World) (b0 : n0 ≤ 9223372036854775807) (b1 : n1 ≤ 9223372036854775807) (hl : 8 < n0 ∨ 60 < n1) :
    Calls Try.prog 4 #[.slice A0 n0 c0, .slice A1 n1 c1, .int .i64 x2] w fun e w' => e = .returned (.bool true) ∧ Below w.heap.size w w' := by
  by_cases h : 8 < n0
  · go_enter Try.func4, Try.ntmps4
    go_wp2_with fail
    refine (alive_any _).mono ?_
    rintro e w1 ⟨rfl, hb1⟩
    go_wp2_with fail
    go_ret
    exact ⟨rfl, hb1⟩
  · have h' : 60 < n1 := by omega
    clear hl
    go_enter Try.func4, Try.ntmps4
    go_wp2_with fail
    refine (alive_any _).mono ?_
    rintro e w1 ⟨rfl, hb1⟩
    go_wp2_with fail
    go_ret
    exact ⟨rfl, hb1⟩

/-- Where a third argument lies: below 0, not below n, or at a byte. -/
def KCase (x : Int) (l : List UInt8) : Prop := (x < 0 ∧ -9223372036854775808 ≤ x) ∨ ((l.length : Int) ≤ x ∧ x ≤ 9223372036854775807) ∨ ∃ (k : Nat) (y : UInt8), x = (k : Int) ∧ l[k]? = some y
def AnyTab (w : World) (lo b : Nat) (l : List UInt8) : Prop := ∃ d, Tab w lo b l d
def AnyOwn (w : World) (base : Nat) (A : Option Addr) (n c : Nat) : Prop := ∃ l, OwnB w base A n c l

set_option maxRecDepth 100000 in
set_option maxHeartbeats 8000000 in
theorem FieldTables_in (A0 : Option Addr) (n0 c0 : Nat) (l0 : List UInt8) (A1 : Option Addr) (n1 c1 : Nat) (l1 : List UInt8) (x2 : Int) (w : World) (h0 : RB w w.heap.size A0 n0 l0) (h1 : RB w w.heap.size A1 n1 l1) (hn0 : n0 ≤ 8) (hn1 : n1 ≤ 60) (hk : KCase x2 l0) :
    Calls Try.prog 4 #[.slice A0 n0 c0, .slice A1 n1 c1, .int .i64 x2] w fun e w' => e = .returned (.bool true) ∧ Below w.heap.size w w' := by
  have HR0 := Lib.hid h0
  have HR1 := Lib.hid h1
  have HK := Lib.hid hk
  clear h0 h1 hk
  go_enter Try.func4, Try.ntmps4
  go_wp2_with fail
  refine (alive_any _).mono ?_
  rintro e w1 ⟨rfl, hb1⟩
  have HB1 := Lib.hid hb1
  have hsz1 := hb1.size
  have h01 := (HR0.out.below hb1).more (Nat.le_succ_of_le hsz1)
  have h02 : RB (w1.alloc (.cells #[] 5)) w.heap.size A0 n0 l0 := (HR0.out.below hb1).alloc hsz1 _
  clear hb1 h01
  go_wp2_with (at_builtin; refine wpList_app rfl (.tmp 25) (.tmp 26) rfl w1.heap.size (some ⟨w1.heap.size, 0, none⟩) 0 0 [] rfl (by exact OwnB.lit w1 _ [] _ 0 rfl rfl (by unfold maxLen; omega) (Nat.le_refl _)) w.heap.size A0 n0 c0 l0 rfl (by exact h02) (by omega) (by simp) ?_; intro A2 c2 w2 hown2 _ hb2)
  have hown : OwnB w2 w1.heap.size A2 n0 c2 l0 := by
    have h := hown2
    rw [Nat.zero_add, List.nil_append] at h
    exact h
  have HB2 := Lib.hid ((HB1.out.trans ((below_alloc w1 (.cells #[] 5)).mono hsz1)).trans (hb2.mono hsz1))
  obtain ⟨base, HBASE⟩ : ∃ base, Hid (base = w1.heap.size) := ⟨_, Lib.hid rfl⟩
  rw [← HBASE.out] at hown
  have hbase : w.heap.size ≤ base := by rw [HBASE.out]; exact hsz1
  obtain ⟨lo, HLO⟩ : ∃ lo, Hid (lo = w2.heap.size) := ⟨_, Lib.hid rfl⟩
  have hform : 0 < n0 → ∃ g, A2 = some ⟨g, 0, none⟩ ∧ base ≤ g ∧ g < lo := fun hn => by
    obtain ⟨g, e, h1, h2⟩ := hown.form hn
    exact ⟨g, e, h1, by rw [HLO.out]; exact h2⟩
  have hlo : w.heap.size ≤ lo := by rw [HLO.out]; exact HB2.out.size
  have HF := Lib.hid hform
  have HOWN := Lib.hid hown
  have hownrb := hown.rb
  have HL0 := Lib.hid hown.len
  clear hown hown2 hb2 hform h02 hsz1
  refine (new_any A2 n0 c2 _ l0 _ (by exact hownrb) (Nat.le_refl _) (by omega)).mono ?_
  rintro e w3 ⟨b, rfl, hb3, ht3⟩
  rw [← HLO.out] at ht3
  have HO3 : Hid (AnyOwn w3 base A2 n0 c2) := Lib.hid ⟨l0, HOWN.out.below hb3⟩
  have HB3 := Lib.hid (bel_next HB2.out hb3)
  have HT3 := Lib.hid ht3
  clear hb3 ht3 hownrb HB2 HB1 HOWN
  go_wp2_with fail
  refine (made_lit 0 lo b l0 false rfl _ (by exact HT3.out)).mono ?_
  rintro e w4 ⟨rfl, rfl⟩
  go_wp2_with fail
  go_loopw [9] (fun i wr => ∃ k : Nat, k ≤ n0 ∧ i = .int .i64 k ∧ Hid (AnyOwn wr base A2 n0 c2) ∧ Hid (Tab wr lo b l0 false) ∧ Hid (Below w.heap.size w wr)) (fun i _ => n0 - (intOf i).toNat)
  case atStart => exact ⟨0, Nat.zero_le _, rfl, HO3, HT3, HB3⟩
  case round =>
    obtain ⟨k, hk, rfl, hown, htab, hbel⟩ := hrel
    by_cases hlt : k < n0
    · obtain ⟨g, rfl, hg1, hg2⟩ := HF.out (by omega)
      obtain ⟨lx, hox⟩ := hown.out
      obtain ⟨x, hx⟩ : ∃ x, lx[k]? = some x := ⟨lx[k]'(by rw [hox.len]; omega), List.getElem?_eq_getElem (by rw [hox.len]; omega)⟩
      have hcx := hox.cellAt hx
      have hfx := hox.freeAt k
      have hxi := byte_lt x
      have HOX := Lib.hid hox
      clear hox hx
      go_wp2
      go_roundw
      case rel =>
        have e1 : Value.int .u8 (((x.toNat : Int) + 1) % 256) = bv (x + 1) := by
          unfold bv
          rw [UInt8.toNat_add]
          simp
        rw [e1]
        refine ⟨k + 1, by omega, by go_num, Lib.hid ⟨_, HOX.out.stored k (x + 1) _ rfl⟩, Lib.hid (htab.out.keep fun g' n f hg' _ hc => hc.other (a := ⟨g, k, none⟩) (show g ≠ g' by omega) _), Lib.hid (hbel.out.setCell (show w.heap.size ≤ g by omega) _)⟩
      case measure => simp [intOf]; omega
    · obtain rfl : n0 = k := by omega
      clear hown HO3 HT3 HB3
      have HAT : Hid (AnyTab wr lo b l0) := Lib.hid ⟨false, htab.out⟩
      clear htab
      go_wp2_with fail
      go_loopw [10] (fun i ws => ∃ j : Nat, j ≤ n1 ∧ i = .int .i64 j ∧ Hid (AnyTab ws lo b l0) ∧ Hid (Below w.heap.size w ws)) (fun i _ => n1 - (intOf i).toNat)
      case atStart => exact ⟨0, Nat.zero_le _, rfl, HAT, hbel⟩
      case round =>
        obtain ⟨j, hj, rfl, htab, hbs⟩ := hrel
        clear HAT hbel
        by_cases hlt2 : j < n1
        · obtain ⟨b1, o1, rfl, hbb, x, hx, hcx⟩ := (HR1.out.below hbs.out).at_ hlt2
          obtain ⟨d, ht⟩ := htab.out
          have HT := Lib.hid ht
          have hxi := byte_lt x
          clear ht hx
          rcases (show j % 3 = 0 ∨ j % 3 = 1 ∨ j % 3 = 2 by omega) with hm | hm | hm
          · have hmi : (j : Int) % 3 = 0 := by omega
            obtain ⟨s, HS⟩ : ∃ s, Hid (s = subB x) := ⟨_, Lib.hid rfl⟩
            clear hm
            go_wp2_with fail
            refine (sub_lit _ (s.toNat : Int) lo b l0 d x rfl (by rw [HS.out]) _ (by exact HT.out)).mono ?_
            rintro e w5 ⟨rfl, hb5, ht5⟩
            have HB5 := Lib.hid (hbs.out.trans (hb5.mono hlo))
            have HT5 := Lib.hid ht5
            clear hb5 ht5
            go_wp2_with fail
            refine (rsub_any _ _).mono ?_
            rintro e w6 ⟨rfl, rfl⟩
            rw [← HS.out]
            go_wp2_with fail
            refine (made_lit 1 lo b l0 true rfl _ (by exact HT5.out)).mono ?_
            rintro e w6 ⟨rfl, rfl⟩
            go_wp2_with fail
            go_roundw
            case rel => exact ⟨j + 1, by omega, by go_num, Lib.hid ⟨true, HT5.out⟩, HB5⟩
            case measure => simp [intOf]; omega
          · have hmi : (j : Int) % 3 = 1 := by omega
            obtain ⟨s, HS⟩ : ∃ s, Hid (s = unsubB x) := ⟨_, Lib.hid rfl⟩
            clear hm
            go_wp2_with fail
            refine (unsub_lit _ (s.toNat : Int) lo b l0 d x rfl (by rw [HS.out]) _ (by exact HT.out)).mono ?_
            rintro e w5 ⟨rfl, hb5, ht5⟩
            have HB5 := Lib.hid (hbs.out.trans (hb5.mono hlo))
            have HT5 := Lib.hid ht5
            clear hb5 ht5
            go_wp2_with fail
            refine (runsub_any _ _).mono ?_
            rintro e w6 ⟨rfl, rfl⟩
            rw [← HS.out]
            go_wp2_with fail
            refine (made_lit 1 lo b l0 true rfl _ (by exact HT5.out)).mono ?_
            rintro e w6 ⟨rfl, rfl⟩
            go_wp2_with fail
            go_roundw
            case rel => exact ⟨j + 1, by omega, by go_num, Lib.hid ⟨true, HT5.out⟩, HB5⟩
            case measure => simp [intOf]; omega
          · have hmi : (j : Int) % 3 = 2 := by omega
            clear hm
            rcases HK.out with ⟨hk1, hk2⟩ | ⟨hk1, hk2⟩ | ⟨kk, y, rfl, hky⟩
            · have hkd : decide (x2 < 0) = true := decide_eq_true hk1
              go_wp2_with fail
              refine (tab_times_low lo b l0 d x2 x _ (by exact HT.out) hk1 hk2).mono ?_
              rintro e w5 ⟨rfl, hb5, ht5⟩
              have HB5 := Lib.hid (hbs.out.trans (hb5.mono hlo))
              have HT5 := Lib.hid ht5
              clear hb5 ht5
              go_wp2_with fail
              refine (made_lit 1 lo b l0 true rfl _ (by exact HT5.out)).mono ?_
              rintro e w6 ⟨rfl, rfl⟩
              go_wp2_with fail
              go_roundw
              case rel => exact ⟨j + 1, by omega, by go_num, Lib.hid ⟨true, HT5.out⟩, HB5⟩
              case measure => simp [intOf]; omega
            · have hkd : decide (x2 < 0) = false := decide_eq_false (by omega)
              have hln := HL0.out
              have hkn' : (n0 : Int) ≤ x2 := by omega
              have hkn : decide ((n0 : Int) ≤ x2) = true := decide_eq_true hkn'
              have HK1 := Lib.hid hk1
              clear hln hk1
              go_wp2_with fail
              refine (tab_times_high lo b l0 d x2 x _ (by exact HT.out) HK1.out hk2).mono ?_
              rintro e w5 ⟨rfl, hb5, ht5⟩
              have HB5 := Lib.hid (hbs.out.trans (hb5.mono hlo))
              have HT5 := Lib.hid ht5
              clear hb5 ht5
              go_wp2_with fail
              refine (made_lit 1 lo b l0 true rfl _ (by exact HT5.out)).mono ?_
              rintro e w6 ⟨rfl, rfl⟩
              go_wp2_with fail
              go_roundw
              case rel => exact ⟨j + 1, by omega, by go_num, Lib.hid ⟨true, HT5.out⟩, HB5⟩
              case measure => simp [intOf]; omega
            · have hkl := (List.getElem?_eq_some_iff.1 hky).1
              have hkn : kk < n0 := by have := HL0.out; omega
              have HKY := Lib.hid hky
              have hkd : decide ((kk : Int) < 0) = false := decide_eq_false (by omega)
              have hkd1 : decide ((n0 : Int) ≤ (kk : Int)) = false := decide_eq_false (by omega)
              have hkd2 : decide (n0 ≤ kk) = false := decide_eq_false (by omega)
              obtain ⟨s, HS⟩ : ∃ s, Hid (s = mulB y x) := ⟨_, Lib.hid rfl⟩
              clear hky hkl
              go_wp2_with fail
              refine (times_lit _ _ (s.toNat : Int) lo b l0 d kk y x rfl rfl (by rw [HS.out]) _ (by exact HT.out) HKY.out).mono ?_
              rintro e w5 ⟨rfl, hb5, ht5⟩
              have HB5 := Lib.hid (hbs.out.trans (hb5.mono hlo))
              have HT5 := Lib.hid ht5
              clear hb5 ht5
              obtain ⟨b3, o3, rfl, hbb3, y', hy', hcy⟩ := (HR0.out.below HB5.out).at_ hkn
              obtain rfl : y = y' := by
                have := HKY.out.symm.trans hy'
                simpa using this
              clear hy'
              go_wp2_with fail
              refine (rmul_any _ _ _).mono ?_
              rintro e w6 ⟨rfl, rfl⟩
              rw [← HS.out]
              go_wp2_with fail
              refine (made_lit 1 lo b l0 true rfl _ (by exact HT5.out)).mono ?_
              rintro e w6 ⟨rfl, rfl⟩
              go_wp2_with fail
              go_roundw
              case rel => exact ⟨j + 1, by omega, by go_num, Lib.hid ⟨true, HT5.out⟩, HB5⟩
              case measure => simp [intOf]; omega
        · go_wp2_with fail
          go_ret
          exact ⟨rfl, hbs.out⟩

theorem FieldTables_walk (A0 : Option Addr) (n0 c0 : Nat) (l0 : List UInt8) (A1 : Option Addr) (n1 c1 : Nat) (l1 : List UInt8) (x2 : Int) (w : World) (h0 : RB w w.heap.size A0 n0 l0) (m0 : n0 ≤ c0 ∧ c0 ≤ maxLen) (h1 : RB w w.heap.size A1 n1 l1) (m1 : n1 ≤ c1 ∧ c1 ≤ maxLen) (h2 : (Lit.int .i64 x2).wf = true) :
    Calls Try.prog 4 #[.slice A0 n0 c0, .slice A1 n1 c1, .int .i64 x2] w fun e w' => e = .returned (.bool true) ∧ Below w.heap.size w w' := by
  unfold maxLen at m0 m1
  by_cases hl : 8 < n0 ∨ 60 < n1
  · exact FieldTables_long A0 n0 c0 A1 n1 c1 x2 w (by omega) (by omega) hl
  · have hb : -9223372036854775808 ≤ x2 ∧ x2 ≤ 9223372036854775807 := bounds_i64 h2
    refine FieldTables_in A0 n0 c0 l0 A1 n1 c1 l1 x2 w h0 h1 (by omega) (by omega) ?_
    have hlen := h0.len
    by_cases h : x2 < 0
    · exact .inl ⟨h, hb.1⟩
    · by_cases h' : (l0.length : Int) ≤ x2
      · exact .inr (.inl ⟨h', hb.2⟩)
      · obtain ⟨k, rfl⟩ := Int.eq_ofNat_of_zero_le (show 0 ≤ x2 by omega)
        have hk : k < l0.length := by omega
        exact .inr (.inr ⟨k, l0[k], rfl, List.getElem?_eq_getElem hk⟩)
end Go.Proofs.Ytkbbbmblimlofaa
