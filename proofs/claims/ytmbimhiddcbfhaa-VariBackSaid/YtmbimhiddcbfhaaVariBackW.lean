/- VariBack's walk: each form is taken as its number, and a row number by number. Condition: the slices' cells are readable. -/
import Derived.Test.YtmbimhiddcbfhaaVariAlive
import Derived.OpenShut
namespace Go.Proofs.Ytmbimhiddcbfhaa
open Go.RowKit
set_option linter.unusedVariables false

/-- What Wide gives at a size, and what is taken of it. -/
theorem wide_or (x : Nat) (z : Int) :
    (∃ (s : Nat) (a : List UInt8), z = (s : Int) ∧ s ≤ 8 ∧ Hid (∀ W : World, Calls Try.prog 10 #[.int .u64 (x : Int), .int .i64 z] W (RetBE s a 0 W)) ∧ Hid (∀ r, tkV (a ++ r) = x ∧ tkN (a ++ r) = s ∧ tkE (a ++ r) = 0) ∧ sz (clsL x) ≤ s) ∨
    Hid (∀ W : World, Calls Try.prog 10 #[.int .u64 (x : Int), .int .i64 z] W fun e w' => e = .returned (.tuple #[.slice none 0 0, .int .i64 11]) ∧ W = w') := by
  by_cases h : ∃ k, k ≤ 3 ∧ z = (sz k : Int) ∧ x < lim k
  · obtain ⟨k, hk, rfl, hx⟩ := h
    refine .inl ⟨sz k, formL x k, rfl, sz_le _, Lib.hid fun W => wide_ok x k W hk hx, Lib.hid fun r => tk_form hk hx r, ?_⟩
    have hc := clsL_of_fit hk hx
    rcases Nat.lt_or_ge (clsL x) k with h2 | h2
    · exact Nat.le_of_lt (sz_lt h2 hk)
    · rw [show clsL x = k from by omega]; exact Nat.le_refl _
  · exact .inr (Lib.hid fun W => wide_bad x z W fun k h1 h2 h3 => h ⟨k, h1, h2, h3⟩)

theorem rowL_cons (x : Nat) (l : List Nat) : rowL (x :: l) = leastL x ++ rowL l := by simp [rowL]
theorem dropN_at {l : List Nat} {k x : Nat} (h : l[k]? = some x) : l.drop k = x :: l.drop (k + 1) := by
  have hl := (List.getElem?_eq_some_iff.1 h).1
  rw [List.getElem?_eq_getElem hl] at h
  rw [List.drop_eq_getElem_cons hl, Option.some.inj h]

set_option maxRecDepth 100000 in
set_option maxHeartbeats 2000000 in
theorem back_in (A0 : Option Addr) (n0 c0 : Nat) (l0 : List Nat) (x1 : Int) (A2 : Option Addr) (n2 c2 : Nat) (l2 : List UInt8) (w : World) (h0 : UL w w.heap.size A0 n0 l0) (h2 : RB w w.heap.size A2 n2 l2) (hn0 : n0 ≤ 60) (hn2 : n2 ≤ 300) :
    Calls Try.prog 5 #[.slice A0 n0 c0, .int .i64 x1, .slice A2 n2 c2] w fun e w' => e = .returned (.bool true) ∧ Below w.heap.size w w' := by
  go_enter Try.func5, Try.ntmps5
  go_wp2_with fail
  refine (alive_any _).mono ?_
  rintro e w1 ⟨rfl, hb1⟩
  have HB1 := Lib.hid hb1
  clear hb1
  go_wp2_with fail
  go_loopw [7, 8, 9, 10, 11, 12] (fun i _ _ _ _ _ wr => ∃ k : Nat, k ≤ n0 ∧ i = .int .i64 k ∧ Below w.heap.size w wr) (fun i _ _ _ _ _ _ => n0 - (intOf i).toNat)
  case atStart => exact ⟨0, Nat.zero_le _, rfl, HB1.out⟩
  case round =>
    obtain ⟨k, hk, rfl, hbel⟩ := hrel
    by_cases hlt : k < n0
    · obtain ⟨b, o, rfl, hb, x, hx, hx64, hcl⟩ := (h0.below hbel).at_ hlt
      clear hx
      rcases wide_or x x1 with ⟨s, a, rfl, hs8, HW, HT, hle⟩ | HW
      · have HBL := Lib.hid hbel
        clear hbel
        go_wp2_with fail
        refine (HW.out _).mono ?_
        rintro e w2 ⟨A3, c3, rfl, ho, hb2⟩
        have R := ho.rb
        have HB2 := HBL.out.trans (hb2.mono HBL.out.size)
        have HB12 := Lib.hid hb2
        have hl1 := ho.len
        clear ho hb2
        go_wp2_with fail
        refine (copy_any _ _ _ 0 a _ (by exact R) (by omega)).mono ?_
        rintro e w3 ⟨A4, c4, rfl, ho, hb3⟩
        have HB3 := Lib.hid (bel_next HB2 hb3)
        have HB13 := Lib.hid (bel_next HB12.out hb3)
        have HO := Lib.hid ho
        have hsz := hb3.size
        have hsz2 := HB2.size
        have hsz3 := HB12.out.size
        clear hb3 ho R HB2 HB12
        have hown := HO.out
        have hrest := h2.step HB3.out
        go_wp2_with (first
          | (at_builtin; refine wpList_app rfl (.tmp 48) (.tmp 49) rfl w2.heap.size _ _ _ _ rfl hown _ A2 n2 c2 l2 rfl hrest (by omega) hsz ?_; intro A5 c5 w4 hown4 _ hb4))
        have HB4 := Lib.hid (HB3.out.trans (hb4.mono hsz2))
        have hcl4 := ((HB13.out.trans (hb4.mono hsz3)).cell (p := ⟨b, o + k, none⟩) (Nat.lt_of_lt_of_le hb HBL.out.size)).trans hcl
        have htk := take_any A5 (s + n2) c5 _ _ hown4.rb hown4.cap.1 (by omega)
        obtain ⟨t1, t2, t3⟩ := HT.out l2
        rw [t1, t2, t3] at htk
        have HK := Lib.hid htk
        have hsz := size_any x
        obtain ⟨q, HQ⟩ : ∃ q, Hid (q = sz (clsL x)) := ⟨_, Lib.hid rfl⟩
        rw [← HQ.out] at hsz hle
        have HS := Lib.hid hsz
        clear htk t1 t2 t3 hb4 hown4 hown hrest hcl hsz hsz2 hsz3
        go_wp2_with fail
        refine HK.out.mono ?_
        rintro e w5 ⟨rfl, rfl⟩
        go_wp2_with fail
        refine (HS.out _).mono ?_
        rintro e w5 ⟨rfl, rfl⟩
        go_wp2_with fail
        go_roundw
        case rel => exact ⟨k + 1, by omega, by go_num, HB4.out⟩
        case measure => simp [intOf]; omega
      · go_wp2_with fail
        refine (HW.out _).mono ?_
        rintro e w2 ⟨rfl, rfl⟩
        go_wp2_with fail
        go_roundw
        case rel => exact ⟨k + 1, by omega, by go_num, hbel⟩
        case measure => simp [intOf]; omega
    · obtain rfl : k = n0 := by omega
      have U := h0.step hbel
      have hrow := row_any A0 k c0 l0 _ U (by omega)
      have HBL := Lib.hid hbel
      clear hbel
      by_cases hok : rowOk l0 = true
      · unfold rowR rowC at hrow
        rw [if_pos hok, if_pos hok] at hrow
        have hrl := rowL_le l0
        rw [h0.len] at hrl
        obtain ⟨m, HM⟩ : ∃ m, Hid (m = (rowL l0).length) := ⟨_, Lib.hid rfl⟩
        rw [← HM.out] at hrow hrl
        have HRW := Lib.hid hrow
        clear hrow
        go_wp2_with fail
        refine HRW.out.mono ?_
        rintro e w2 ⟨A3, c3, rfl, ho, hb2⟩
        have HB2 := Lib.hid (HBL.out.trans (hb2.mono HBL.out.size))
        have R := ho.rb
        have hc3 := ho.cap.1
        clear hb2 ho
        go_wp2_with fail
        have HR := Lib.hid R
        clear R U HRW
        go_loopw [13, 15, 16, 17, 18] (fun v i _ _ _ wr => ∃ (j m' c' : Nat) (A' : Option Addr), j ≤ k ∧ i = .int .i64 j ∧ v = .slice A' m' c' ∧ m' ≤ c' ∧ m' ≤ 480 ∧ RB w2 w2.heap.size A' m' (rowL (l0.drop j)) ∧ wr = w2) (fun _ i _ _ _ _ => k - (intOf i).toNat)
        case atStart => exact ⟨0, m, c3, A3, Nat.zero_le _, rfl, rfl, hc3, by omega, by rw [List.drop_zero]; exact HR.out, rfl⟩
        case round =>
          obtain ⟨j, m', c', A', hj, rfl, rfl, hmc, hm4, hR, rfl⟩ := hrel
          have hlen := hR.len
          by_cases hlt2 : j < k
          · obtain ⟨b, o, rfl, hb, x, hx, hx64, hcl⟩ := (h0.below HB2.out).at_ hlt2
            have h3 : clsL x ≤ 3 := by
              rcases Nat.lt_or_ge 3 (clsL x) with h4 | h4
              · have := rowOk_not hx (by omega); rw [hok] at this; cases this
              · exact h4
            have hdr : rowL (l0.drop j) = formL x (clsL x) ++ rowL (l0.drop (j + 1)) := by
              rw [dropN_at hx, rowL_cons]
              unfold leastL
              rw [if_pos h3]
            have hfl := formL_len x (clsL x)
            have hml : m' = sz (clsL x) + (rowL (l0.drop (j + 1))).length := by rw [← hlen, hdr, List.length_append, hfl]
            have htk := take_any A' m' c' _ _ hR hmc (by omega)
            obtain ⟨t1, t2, t3⟩ := tk_form h3 (clsL_fit (n := x) rfl h3) (rowL (l0.drop (j + 1)))
            rw [← hdr] at t1 t2 t3
            rw [t1, t2, t3] at htk
            have hsz := size_any x
            have hpart := hR.part (i := sz (clsL x)) (j := m') (by omega) (Nat.le_refl _) hmc
            rw [List.take_of_length_le (by omega), hdr, List.drop_left' hfl] at hpart
            have hdl : (rowL (l0.drop (j + 1))).length = m' - sz (clsL x) := by omega
            have hsl := sz_le (clsL x)
            obtain ⟨q, HQ⟩ : ∃ q, Hid (q = sz (clsL x)) := ⟨_, Lib.hid rfl⟩
            rw [← HQ.out] at hsz htk hpart hml hsl
            have hqm : q ≤ m' := by omega
            have hcut := cut_l A' m' c' q hqm
            have HK := Lib.hid htk
            have HS := Lib.hid hsz
            have HP := Lib.hid hpart
            clear htk hsz hpart t1 t2 t3 hdr hdl hml hfl hlen hx hR
            go_wp2_with fail
            refine HK.out.mono ?_
            rintro e w3 ⟨rfl, rfl⟩
            go_wp2_with fail
            refine (HS.out _).mono ?_
            rintro e w3 ⟨rfl, rfl⟩
            go_wp2_with fail
            go_roundw
            case rel => exact ⟨j + 1, m' - q, c' - q, cutA A' c' q, by omega, by go_num, rfl, by omega, by omega, HP.out, trivial⟩
            case measure => simp [intOf]; omega
          · obtain rfl : j = k := by omega
            have hz : m' = 0 := by
              rw [← hlen, List.drop_of_length_le (by have := h0.len; omega)]
              rfl
            subst hz
            go_wp2_with fail
            go_ret
            exact ⟨rfl, HB2.out⟩
      · unfold rowR rowC at hrow
        rw [if_neg hok, if_neg hok] at hrow
        have HRW := Lib.hid hrow
        clear hrow
        go_wp2_with fail
        refine HRW.out.mono ?_
        rintro e w2 ⟨A3, c3, rfl, ho, hb2⟩
        have HB2 := Lib.hid (HBL.out.trans (hb2.mono HBL.out.size))
        clear hb2 ho
        go_wp2_with fail
        go_ret
        exact ⟨rfl, HB2.out⟩

theorem back_long (A0 : Option Addr) (n0 c0 : Nat) (x1 : Int) (A2 : Option Addr) (n2 c2 : Nat) (w : World) (b0 : n0 ≤ 9223372036854775807) (b2 : n2 ≤ 9223372036854775807) (hl : 60 < n0 ∨ 300 < n2) :
    Calls Try.prog 5 #[.slice A0 n0 c0, .int .i64 x1, .slice A2 n2 c2] w fun e w' => e = .returned (.bool true) ∧ Below w.heap.size w w' := by
  by_cases h : 60 < n0
  · go_enter Try.func5, Try.ntmps5
    go_wp2_with fail
    refine (alive_any _).mono ?_
    rintro e w1 ⟨rfl, hb1⟩
    go_wp2_with fail
    go_ret
    exact ⟨rfl, hb1⟩
  · have h2 : 300 < n2 := by omega
    go_enter Try.func5, Try.ntmps5
    go_wp2_with fail
    refine (alive_any _).mono ?_
    rintro e w1 ⟨rfl, hb1⟩
    go_wp2_with fail
    go_ret
    exact ⟨rfl, hb1⟩

theorem VariBack_walk (A0 : Option Addr) (n0 c0 : Nat) (l0 : List Nat) (x1 : Int) (A2 : Option Addr) (n2 c2 : Nat) (l2 : List UInt8) (w : World) (h0 : UL w w.heap.size A0 n0 l0) (m0 : n0 ≤ c0 ∧ c0 ≤ maxLen) (h1 : (Lit.int .i64 x1).wf = true) (h2 : RB w w.heap.size A2 n2 l2) (m2 : n2 ≤ c2 ∧ c2 ≤ maxLen) :
    Calls Try.prog 5 #[.slice A0 n0 c0, .int .i64 x1, .slice A2 n2 c2] w fun e w' => e = .returned (.bool true) ∧ Below w.heap.size w w' := by
  have b0 : n0 ≤ 9223372036854775807 := by have := m0; unfold maxLen at this; omega
  have b2 : n2 ≤ 9223372036854775807 := by have := m2; unfold maxLen at this; omega
  by_cases hl : 60 < n0 ∨ 300 < n2
  · exact back_long A0 n0 c0 x1 A2 n2 c2 w b0 b2 hl
  · exact back_in A0 n0 c0 l0 x1 A2 n2 c2 l2 w h0 h2 (by omega) (by omega)
end Go.Proofs.Ytmbimhiddcbfhaa
