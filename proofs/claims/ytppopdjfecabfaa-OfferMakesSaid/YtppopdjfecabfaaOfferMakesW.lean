/- Layer 13's statement OfferMakes, walked. No condition. -/
import Derived.Test.YtppopdjfecabfaaOffW
import Derived.Test.YtppopdjfecabfaaOpenVers
namespace Go.Proofs.Ytppopdjfecabfaa
open Go.RowKit
set_option linter.unusedVariables false
set_option linter.unusedSimpArgs false
attribute [local irreducible] putL byt mkO offL rawP verL prs splV vnum numL oprs answ hasV lngL
attribute [local go_sem ↓] ex_ldHd ex_stHd ex_ldHr ex_stHr
set_option maxRecDepth 100000 in
set_option maxHeartbeats 8000000 in
theorem OfferMakes_walk (A0 : Option Addr) (n0 c0 : Nat) (l0 : List UInt8) (x1 : Int) (A2 : Option Addr) (n2 c2 : Nat) (l2 : List UInt8) (A3 : Option Addr) (n3 c3 : Nat) (l3 : List UInt8) (A4 : Option Addr) (n4 c4 : Nat) (l4 : List Nat) (w : World) (h0 : RB w w.heap.size A0 n0 l0) (m0 : n0 ≤ c0 ∧ c0 ≤ maxLen) (h1 : (Lit.int .u8 x1).wf = true) (h2 : RB w w.heap.size A2 n2 l2) (m2 : n2 ≤ c2 ∧ c2 ≤ maxLen) (h3 : RB w w.heap.size A3 n3 l3) (m3 : n3 ≤ c3 ∧ c3 ≤ maxLen) (h4 : VL w w.heap.size A4 n4 l4) (m4 : n4 ≤ c4 ∧ c4 ≤ maxLen) :
    Calls Try.prog 3 #[.slice A0 n0 c0, .int .u8 x1, .slice A2 n2 c2, .slice A3 n3 c3, .slice A4 n4 c4] w fun e w' => e = .returned (.bool true) ∧ Below w.heap.size w w' := by
  obtain ⟨f, hf⟩ : ∃ f : UInt8, (f.toNat : Int) = x1 := by have := bounds_u8 h1; exact ⟨UInt8.ofNat x1.toNat, by rw [UInt8.toNat_ofNat']; omega⟩
  subst hf
  clear h1
  have K0 := Lib.hid (((((VW.start w).add h0 m0.1 m0.2).add h2 m2.1 m2.2).add h3 m3.1 m3.2).addv h4 m4.1 m4.2)
  clear h0 h2 h3 h4
  by_cases t0 : 3000 < n0
  · have d0 : decide (3000 < (n0 : Int)) = true := decide_eq_true (by omega)
    go_enter Try.func3, Try.ntmps3
    go_wp2_with fail
    refine (oalive_any _).mono ?_
    rintro e w1 ⟨rfl, hb1⟩
    have K1 := Lib.hid (K0.out.step hb1)
    clear hb1 K0
    go_wp2_with fail
    go_ret
    exact ⟨rfl, K1.out.bel⟩
  have d0 : decide (3000 < (n0 : Int)) = false := decide_eq_false (by omega)
  by_cases t1 : 400 < n2
  · have d1 : decide (400 < (n2 : Int)) = true := decide_eq_true (by omega)
    go_enter Try.func3, Try.ntmps3
    go_wp2_with fail
    refine (oalive_any _).mono ?_
    rintro e w1 ⟨rfl, hb1⟩
    have K1 := Lib.hid (K0.out.step hb1)
    clear hb1 K0
    go_wp2_with fail
    go_ret
    exact ⟨rfl, K1.out.bel⟩
  have d1 : decide (400 < (n2 : Int)) = false := decide_eq_false (by omega)
  by_cases t2 : 400 < n3
  · have d2 : decide (400 < (n3 : Int)) = true := decide_eq_true (by omega)
    go_enter Try.func3, Try.ntmps3
    go_wp2_with fail
    refine (oalive_any _).mono ?_
    rintro e w1 ⟨rfl, hb1⟩
    have K1 := Lib.hid (K0.out.step hb1)
    clear hb1 K0
    go_wp2_with fail
    go_ret
    exact ⟨rfl, K1.out.bel⟩
  have d2 : decide (400 < (n3 : Int)) = false := decide_eq_false (by omega)
  by_cases t3 : 200 < n4
  · have d3 : decide (200 < (n4 : Int)) = true := decide_eq_true (by omega)
    go_enter Try.func3, Try.ntmps3
    go_wp2_with fail
    refine (oalive_any _).mono ?_
    rintro e w1 ⟨rfl, hb1⟩
    have K1 := Lib.hid (K0.out.step hb1)
    clear hb1 K0
    go_wp2_with fail
    go_ret
    exact ⟨rfl, K1.out.bel⟩
  have d3 : decide (200 < (n4 : Int)) = false := decide_eq_false (by omega)
  go_enter Try.func3, Try.ntmps3
  go_wp2_with fail
  refine (oalive_any _).mono ?_
  rintro e w1 ⟨rfl, hb1⟩
  have K1 := Lib.hid (K0.out.step hb1)
  clear hb1 K0
  go_wp2_with (first
    | (at_builtin; refine wpList_appV rfl (.tmp 40) (.tmp 41) rfl w1.heap.size _ _ _ [] rfl (OwnV.lit w1 _ [] #[] 0 rfl rfl (by unfold maxLen; omega) (Nat.le_refl _) (by simp)) _ A4 n4 c4 l4 rfl (by exact ((K1.out.step (below_alloc w1 (.cells #[] 34))).vl (A4, n4, c4, l4) (by simp)).1) (by omega) (by simp) ?_; intro A5 c5 w2 ho2 _ hb2; have K2 : Hid (VW w [(A3, n3, c3, l3), (A2, n2, c2, l2), (A0, n0, c0, l0)] [] [] [(A5, n4, c5, l4), (A4, n4, c4, l4)] w2) := Lib.hid (K1.out.ownv ((below_alloc _ _).trans hb2) (by simpa using ho2)); clear ho2 hb2 K1))
  obtain ⟨X, HX⟩ : ∃ X, Hid (X = mkO f l2 l3 l4) := ⟨_, Lib.hid rfl⟩
  obtain ⟨Y, HY⟩ : ∃ Y, Hid (Y = answ l0 f l4) := ⟨_, Lib.hid rfl⟩
  refine (omake_lit f _ rfl A2 A3 A5 n2 c2 n3 c3 n4 c5 l2 l3 l4 _ (by exact (K2.out.row (A2, n2, c2, l2) (by simp)).1) m2 (by exact (K2.out.row (A3, n3, c3, l3) (by simp)).1) m3 (by omega) (by omega) (by exact (K2.out.vl (A5, n4, c5, l4) (by simp)).1) (by unfold maxLen; omega)).mono ?_
  rw [← HX.out]
  rintro e w3 ⟨A6, c6, rfl, ho, hb⟩
  have K3 := Lib.hid (K2.out.own hb ho)
  clear ho hb K2
  go_wp2_with fail
  refine (romake_lit f _ rfl A2 A3 A4 n2 c2 n3 c3 n4 c4 l2 l3 l4 _ (by exact (K3.out.row (A2, n2, c2, l2) (by simp)).1) m2 (by exact (K3.out.row (A3, n3, c3, l3) (by simp)).1) m3 (by omega) (by omega) (by exact (K3.out.vl (A4, n4, c4, l4) (by simp)).1) (by unfold maxLen; omega)).mono ?_
  rw [← HX.out]
  rintro e w4 ⟨A7, c7, rfl, ho, hb⟩
  have K4 := Lib.hid (K3.out.own hb ho)
  clear ho hb K3
  go_wp2_with fail
  refine (oanswer_lit A0 n0 c0 l0 f _ rfl A5 n4 c5 l4 _ (by exact (K4.out.row (A0, n0, c0, l0) (by simp)).1) m0 (by omega) (by exact (K4.out.vl (A5, n4, c5, l4) (by simp)).1) (by unfold maxLen; omega)).mono ?_
  rw [← HY.out]
  rintro e w5 ⟨A8, c8, rfl, ho, hb⟩
  have K5 := Lib.hid (K4.out.own hb ho)
  clear ho hb K4
  go_wp2_with fail
  refine (roanswer_any A0 n0 c0 l0 f A4 n4 c4 l4 _ (by exact (K5.out.row (A0, n0, c0, l0) (by simp)).1) m0 (by omega) (by exact (K5.out.vl (A4, n4, c4, l4) (by simp)).1) (by unfold maxLen; omega)).mono ?_
  rw [← HY.out]
  rintro e w6 ⟨A9, c9, rfl, ho, hb⟩
  have K6 := Lib.hid (K5.out.own hb ho)
  clear ho hb K5
  obtain ⟨L, E⟩ := X
  obtain ⟨M, F⟩ := Y
  simp only at K6 ⊢
  go_wp2_with fail
  refine (al_same _ _ _ _ _ _ L L _ (by exact (K6.out.row (A6, L.length, c6, L) (by simp)).1) (by exact (K6.out.row (A7, L.length, c7, L) (by simp)).1) (Nat.le_trans (K6.out.row (A6, L.length, c6, L) (by simp)).2.1 (K6.out.row (A6, L.length, c6, L) (by simp)).2.2) (Nat.le_trans (K6.out.row (A7, L.length, c7, L) (by simp)).2.1 (K6.out.row (A7, L.length, c7, L) (by simp)).2.2) true (by simp)).mono ?_
  rintro e w7 ⟨rfl, hb⟩
  have K7 := Lib.hid (K6.out.step hb)
  clear hb K6
  go_wp2_with fail
  refine (al_same _ _ _ _ _ _ M M _ (by exact (K7.out.row (A8, M.length, c8, M) (by simp)).1) (by exact (K7.out.row (A9, M.length, c9, M) (by simp)).1) (Nat.le_trans (K7.out.row (A8, M.length, c8, M) (by simp)).2.1 (K7.out.row (A8, M.length, c8, M) (by simp)).2.2) (Nat.le_trans (K7.out.row (A9, M.length, c9, M) (by simp)).2.1 (K7.out.row (A9, M.length, c9, M) (by simp)).2.2) true (by simp)).mono ?_
  rintro e w8 ⟨rfl, hb⟩
  have K8 := Lib.hid (K7.out.step hb)
  clear hb K7
  go_wp2_with fail
  refine (al_vsame A5 A4 n4 c5 n4 c4 l4 l4 _ (by exact (K8.out.vl (A5, n4, c5, l4) (by simp)).1) (by exact (K8.out.vl (A4, n4, c4, l4) (by simp)).1) (by unfold maxLen; omega) (by unfold maxLen; omega) true (by simp)).mono ?_
  rintro e w9 ⟨rfl, hb⟩
  have K9 := Lib.hid (K8.out.step hb)
  clear hb K8
  go_wp2_with fail
  go_ret
  exact ⟨rfl, K9.out.bel⟩
end Go.Proofs.Ytppopdjfecabfaa
