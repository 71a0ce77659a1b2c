/- The reference of layer 5 (ghash): the sum of two texts. Conditions: the slices' cells are readable, and not too many. -/
import Derived.Test.YtilpdojliaiokaaRefBlocks
import Derived.Test.YtilpdojliaiokaaRefLong
import Derived.Test.YtilpdojliaiokaaRefPolyBytes
namespace Go.Proofs.Ytilpdojliaiokaa
open Go.RowKit
set_option linter.unusedVariables false

/-- The blocks of a sum; the sum as a number; its bytes. -/
def sumN (l1 l2 : List UInt8) : List Nat := bks l1 ++ bks l2 ++ bks (longL l1.length ++ longL l2.length)
def sumG (h : Nat) (l1 l2 : List UInt8) : Nat := gFold h 0 (sumN l1 l2)
def bB (x : Nat) : List UInt8 := eB (x / 2 ^ 64) (x % 2 ^ 64)
theorem bB_len (x : Nat) : (bB x).length = 16 := eB_len _ _
theorem bB_bits (x : Nat) (hx : x < 2 ^ 128) : bitsOf (bB x) = co x := by
  unfold bB
  rw [bits_e _ _ (by omega), show x / 2 ^ 64 * 2 ^ 64 + x % 2 ^ 64 = x by omega]
theorem bks_lt (l : List UInt8) (i x : Nat) (h : (bks l)[i]? = some x) : x < 2 ^ 128 := bksN_lt l _ i x h
theorem bks_len (l : List UInt8) : (bks l).length = (l.length + 15) / 16 := bksN_len l _
theorem app_lt (a b : List Nat) (ha : ∀ (i x : Nat), a[i]? = some x → x < 2 ^ 128) (hb : ∀ (i x : Nat), b[i]? = some x → x < 2 ^ 128) (i x : Nat) (h : (a ++ b)[i]? = some x) : x < 2 ^ 128 := by
  rcases List.mem_append.1 (List.mem_of_getElem? h) with h | h
  · obtain ⟨j, hj⟩ := List.getElem?_of_mem h
    exact ha j x hj
  · obtain ⟨j, hj⟩ := List.getElem?_of_mem h
    exact hb j x hj
theorem sumN_lt (l1 l2 : List UInt8) (i x : Nat) (h : (sumN l1 l2)[i]? = some x) : x < 2 ^ 128 := app_lt _ _ (app_lt _ _ (bks_lt l1) (bks_lt l2)) (bks_lt _) i x h
theorem sumG_lt (h : Nat) (hh : h < 2 ^ 128) (l1 l2 : List UInt8) : sumG h l1 l2 < 2 ^ 128 := gFold_lt h hh _ 0 (by omega) (sumN_lt l1 l2)
theorem OwnP.xp {w : World} {base n c : Nat} {A : Option Addr} {xs : List Nat} (h : OwnP w base A n c xs) (hx : ∀ (i x : Nat), xs[i]? = some x → x < 2 ^ 128) : XP w w.heap.size A n xs := by
  refine ⟨h.2, hx, fun hn => ?_⟩
  obtain ⟨g, rfl⟩ := OwnX.form h hn
  have hg : g < w.heap.size := (World.ownsRow.lt h.1 g rfl).2
  refine ⟨g, 0, rfl, hg, fun i x hi => ?_⟩
  obtain ⟨g2, e, _, _, hr⟩ := OwnX.at_ h (fun x => by rw [tvs_length, co_len]) hi
  injection e with e
  injection e with e
  subst e
  rw [Nat.zero_add]
  exact hr
theorem rfold0_any (h : Nat) (A : Option Addr) (n c : Nat) (xs : List Nat) (w : World) (hh : h < 2 ^ 128) (hn : n ≤ maxLen) (hX : XP w w.heap.size A n xs) :
    Calls Try.prog 19 #[BV (co h), BV zP, .slice A n c] w (RetT (co (gFold h 0 xs)) w) := by
  rw [zP_co]
  exact rfold_any h 0 A n c xs w hh (by omega) hn hX
attribute [local irreducible] bks longL gFold co tvs bitsOf zP

set_option maxRecDepth 100000 in
set_option maxHeartbeats 4000000 in
theorem rsum_any (A0 A1 A2 : Option Addr) (c0 n1 c1 n2 c2 : Nat) (k l1 l2 : List UInt8) (w : World) (h0 : RB w w.heap.size A0 16 k) (h1 : RB w w.heap.size A1 n1 l1) (h2 : RB w w.heap.size A2 n2 l2) (hn1 : n1 ≤ 100000) (hn2 : n2 ≤ 100000) :
    Calls Try.prog 15 #[.slice A0 16 c0, .slice A1 n1 c1, .slice A2 n2 c2] w (RetB 16 (bB (sumG (nB k) l1 l2)) w) := by
  obtain ⟨z, hX⟩ := cells_co
  have HXX := Lib.hid hX
  clear hX
  have H0 := Lib.hid h0
  have H1 := Lib.hid h1
  have H2 := Lib.hid h2
  have e1 := h1.len
  have e2 := h2.len
  have HK := Lib.hid (nB_lt k h0.len)
  have HKB := Lib.hid (nB_bits k h0.len)
  clear h0 h1 h2
  obtain ⟨R, HR⟩ : ∃ R, Hid (R = bB (sumG (nB k) l1 l2)) := ⟨_, Lib.hid rfl⟩
  rw [← HR.out]
  have hRB : Hid (bitsOf R = co (gFold (nB k) 0 (bks l1 ++ bks l2 ++ bks (longL n1 ++ longL n2)))) := Lib.hid (by rw [HR.out, bB_bits _ (sumG_lt _ HK.out l1 l2), ← e1, ← e2]; rfl)
  have hRL : Hid (R.length = 16) := Lib.hid (by rw [HR.out]; exact bB_len _)
  go_enter Try.func15, Try.ntmps15
  go_wp2_with fail
  refine (rblocks_any A1 n1 c1 l1 _ H1.out (by omega)).mono ?_
  rintro e w1 ⟨g1, d1, rfl, ho1, hb1⟩
  have HO1 := Lib.hid ho1
  have HB1 := Lib.hid hb1
  clear ho1 hb1
  go_wp2_with fail
  refine (rblocks_any A2 n2 c2 l2 _ (H2.out.step HB1.out) (by omega)).mono ?_
  rintro e w2 ⟨g2, d2, rfl, ho2, hb2⟩
  have HO2 := Lib.hid ho2
  have HB2 := Lib.hid hb2
  clear ho2 hb2
  obtain ⟨m1, HM1⟩ : ∃ m1, Hid (m1 = (n1 + 15) / 16 ∧ m1 ≤ 10000 ∧ (bks l1).length = m1) := ⟨_, Lib.hid ⟨rfl, by omega, by rw [bks_len, e1]⟩⟩
  obtain ⟨m2, HM2⟩ : ∃ m2, Hid (m2 = (n2 + 15) / 16 ∧ m2 ≤ 10000 ∧ (bks l2).length = m2) := ⟨_, Lib.hid ⟨rfl, by omega, by rw [bks_len, e2]⟩⟩
  rw [← HM1.out.1] at HO1 ⊢
  rw [← HM2.out.1] at HO2 ⊢
  go_wp2_with (at_builtin; refine wpList_appX HXX.out rfl (.tmp 9) (.tmp 11) rfl w.heap.size (some ⟨g1, 0, none⟩) m1 d1 (bks l1) rfl (by exact OwnX.below HO1.out HB2.out) g2 m2 d2 (bks l2) rfl HM2.out.2.2 (by exact OwnX.cells_ HO2.out) (by have := HM1.out; have := HM2.out; unfold maxLen; omega) (by have := HM1.out; have := HM2.out; omega) (by have := HB1.out.size; have := HB2.out.size; omega) ?_; intro A3 c3 w3 ho3 hb3; have HO3 := Lib.hid ho3; have HB3 := Lib.hid hb3; clear ho3 hb3)
  have HW3 : Hid (Below w.heap.size w w3) := Lib.hid ((HB1.out.trans (HB2.out.mono HB1.out.size)).trans HB3.out)
  have hs3 : w.heap.size ≤ w3.heap.size := HW3.out.size
  clear HO1 HO2 HB1 HB2 HB3
  refine (long_any n1 _ (by omega)).mono ?_
  rintro e w4 ⟨A4, c4, rfl, ho4, hb4⟩
  have HO4 := Lib.hid ho4
  have HB4 := Lib.hid hb4
  clear ho4 hb4
  go_wp2_with fail
  refine (long_any n2 _ (by omega)).mono ?_
  rintro e w5 ⟨A5, c5, rfl, ho5, hb5⟩
  have HO5 := Lib.hid ho5
  have HB5 := Lib.hid hb5
  clear ho5 hb5
  have hs4 : w3.heap.size ≤ w4.heap.size := HB4.out.size
  have hs5 : w4.heap.size ≤ w5.heap.size := HB5.out.size
  go_wp2_with (at_builtin; refine wpList_app rfl (.tmp 16) (.tmp 19) rfl w3.heap.size A4 8 c4 (longL n1) rfl (by exact HO4.out.below HB5.out) w5.heap.size A5 8 c5 (longL n2) rfl (by exact HO5.out.rb) (by omega) (by omega) ?_; intro A6 c6 w6 ho6 _ hb6; have HO6 := Lib.hid ho6; have HB6 := Lib.hid hb6; clear ho6 hb6)
  have HB36 : Hid (Below w3.heap.size w3 w6) := Lib.hid ((HB4.out.trans (HB5.out.mono hs4)).trans HB6.out)
  clear HO4 HO5 HB4 HB5 HB6
  refine (rblocks_any A6 16 c6 (longL n1 ++ longL n2) _ (by exact HO6.out.rb) (by omega)).mono ?_
  rintro e w7 ⟨g7, d7, rfl, ho7, hb7⟩
  have HO7 : Hid (OwnP w7 w6.heap.size (some ⟨g7, 0, none⟩) 1 d7 (bks (longL n1 ++ longL n2))) := Lib.hid ho7
  have HB7 := Lib.hid hb7
  have HL7 : Hid ((bks (longL n1 ++ longL n2)).length = 1) := Lib.hid (by have := HO7.out.2; exact this)
  clear ho7 hb7
  have hs6 : w3.heap.size ≤ w6.heap.size := HB36.out.size
  have hs7 : w6.heap.size ≤ w7.heap.size := HB7.out.size
  have HB37 : Hid (Below w3.heap.size w3 w7) := Lib.hid (HB36.out.trans (HB7.out.mono hs6))
  go_wp2_with (at_builtin; refine wpList_appX HXX.out rfl (.tmp 13) (.tmp 21) rfl w.heap.size A3 (m1 + m2) c3 (bks l1 ++ bks l2) rfl (by exact OwnX.below HO3.out HB37.out) g7 1 d7 (bks (longL n1 ++ longL n2)) rfl HL7.out (by exact OwnX.cells_ HO7.out) (by have := HM1.out; have := HM2.out; unfold maxLen; omega) (by have := HM1.out; have := HM2.out; omega) (by omega) ?_; intro A8 c8 w8 ho8 hb8; have HO8 := Lib.hid ho8; have HB8 := Lib.hid hb8; clear ho8 hb8)
  have HW8 : Hid (Below w.heap.size w w8) := Lib.hid ((HW3.out.trans (HB37.out.mono hs3)).trans HB8.out)
  clear HO3 HO6 HO7 HB36 HB37 HB7 HB8 HW3
  refine (pof_any A0 c0 k _ (H0.out.step HW8.out)).mono ?_
  rw [HKB.out]
  rintro e w9 ⟨rfl, hb9⟩
  have HB9 := Lib.hid hb9
  clear hb9
  go_wp2_with (refine wpList_built0 rfl _ rfl zP poly_built ?_)
  refine (rfold0_any (nB k) A8 _ c8 _ _ HK.out (by have := HM1.out; have := HM2.out; unfold maxLen; omega) ((OwnP.xp (OwnX.below HO8.out HB9.out) (app_lt _ _ (app_lt _ _ (bks_lt l1) (bks_lt l2)) (bks_lt _))))).mono ?_
  rw [← hRB.out]
  rintro e w10 ⟨rfl, hb10⟩
  have HB10 := Lib.hid hb10
  clear hb10
  go_wp2_with fail
  refine (pbytes_any R _ hRL.out).mono ?_
  rintro e w11 ⟨A11, c11, rfl, ho11, hb11⟩
  have HO11 := Lib.hid ho11
  have HB11 := Lib.hid hb11
  clear ho11 hb11
  have h8 := HW8.out.size
  have h9 := HB9.out.size
  have h10 := HB10.out.size
  go_wp2_with fail
  go_ret
  exact ⟨A11, c11, rfl, HO11.out.base_le (by omega), HW8.out.trans ((HB9.out.trans ((HB10.out.trans (HB11.out.mono h10)).mono h9)).mono h8)⟩
end Go.Proofs.Ytilpdojliaiokaa
