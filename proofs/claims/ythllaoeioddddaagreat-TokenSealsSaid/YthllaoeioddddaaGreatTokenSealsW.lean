/- TokenSeals's walk: what is sealed is what the document says. Condition: what the arguments hold can be read. -/
import Derived.Test.YthllaoeioddddaaGreatTkO
import Derived.Test.YthllaoeioddddaaGreatOpenTk
import Derived.Test.YthllaoeioddddaaGreatOpenCr
namespace Go.Proofs.YthllaoeioddddaaGreat
attribute [local irreducible] wsW keyUpTo keyF lastW turn0 encUp decUp aftL encL tableL blksL blkL strmL putL numL xorL turnAt fstL hkL tagL trnL bB sumG nB sealR openR tagR numS shortS endS untextR textR sealT openT seqT fstT
open Go.RowKit
set_option linter.unusedVariables false
set_option linter.unusedSimpArgs false
attribute [local go_sem ↓] ex_ldF ex_ldFr ex_ldCr
set_option maxRecDepth 100000 in
set_option maxHeartbeats 16000000 in
theorem TokenSeals_walk (A0 : Option Addr) (n0 c0 : Nat) (l0 : List Cr) (x1 : Int) (A2 : Option Addr) (n2 c2 : Nat) (l2 : List UInt8) (A3 : Option Addr) (n3 c3 : Nat) (l3 : List UInt8) (x4 : Fd) (w : World) (h0 : CRs w w.heap.size A0 n0 l0) (m0 : n0 ≤ c0 ∧ c0 ≤ maxLen) (h1 : (Lit.int .i64 x1).wf = true) (h2 : RB w w.heap.size A2 n2 l2) (m2 : n2 ≤ c2 ∧ c2 ≤ maxLen) (h3 : RB w w.heap.size A3 n3 l3) (m3 : n3 ≤ c3 ∧ c3 ≤ maxLen) (h4 : x4.ok w) :
    Calls Tryz.prog 4 #[.slice A0 n0 c0, .int .i64 x1, .slice A2 n2 c2, .slice A3 n3 c3, x4.val] w fun e w' => e = .returned (.bool true) ∧ Below w.heap.size w w' := by
  have b2 : n2 ≤ 9223372036854775807 := by have := m2.1; have := m2.2; unfold maxLen at this; omega
  have b3 : n3 ≤ 9223372036854775807 := by have := m3.1; have := m3.2; unfold maxLen at this; omega
  have H0 := Lib.hid (And.intro h0 m0)
  have H2 := Lib.hid (And.intro h2 m2)
  have H3 := Lib.hid (And.intro h3 m3)
  have H4 := Lib.hid h4
  clear h0 m0 h1 h2 m2 h3 m3 h4
  go_enter Tryz.func4, Tryz.ntmps4
  go_wp2_with (first
    | (with_reducible show wpList _ _ _ (⟨_, .box _ (.tmp 4), _, _, _, none⟩ :: _) _ _; refine wpList_boxF rfl _ (.tmp 4) rfl x4 rfl ?_; intro w1 q4 hc1 hb1 hx1; have HX4 := Lib.hid (And.intro hc1 (hb1)); clear hc1 hb1 hx1))
  refine (alive20_any _).mono ?_
  rintro e w2 ⟨rfl, hb2⟩
  have HB2 := Lib.hid (bel_next HX4.out.2 hb2)
  have HC2 := Lib.hid (HX4.out.1.step hb2)
  clear hb2 HX4
  go_wp2_with fail
  refine (great19_any A0 n0 c0 l0 w2 (by exact ⟨(H0.out.1.below HB2.out).1, fun k hk => ((H0.out.1.below HB2.out).2.1 k hk).more HB2.out.size, fun hn => by obtain ⟨b, o, a1, a2, a3⟩ := (H0.out.1.below HB2.out).2.2 hn; exact ⟨b, o, a1, Nat.lt_of_lt_of_le a2 HB2.out.size, a3⟩⟩) (Nat.le_trans H0.out.2.1 H0.out.2.2)).mono ?_
  rintro e w9 ⟨v1, rfl, rfl, hv1⟩
  rcases v1 with _ | _
  case true =>
    clear hv1
    go_wp2_with fail
    go_ret
    exact ⟨rfl, HB2.out⟩
  have HG1 := Lib.hid (hv1 rfl)
  clear hv1
  by_cases g2 : (n2 : Int) > 100
  · have dg2 : decide ((n2 : Int) > 100) = true := decide_eq_true g2
    clear g2
    go_wp2_with fail
    go_ret
    exact ⟨rfl, HB2.out⟩
  have dg2 : decide ((n2 : Int) > 100) = false := decide_eq_false g2
  by_cases g3 : (n3 : Int) > 100
  · have dg3 : decide ((n3 : Int) > 100) = true := decide_eq_true g3
    clear g3 g2
    go_wp2_with fail
    go_ret
    exact ⟨rfl, HB2.out⟩
  have dg3 : decide ((n3 : Int) > 100) = false := decide_eq_false g3
  have HS : Hid (n2 ≤ 100 ∧ n3 ≤ 100) := Lib.hid ⟨by omega, by omega⟩
  clear g2 g3
  have q4l := HC2.out.ld rt_tk
  cases hlg : decide (300 < x4.o.length ∨ 300 < x4.s.length)
  case true =>
    go_wp2_with fail
    refine (long20_any x4 w2 (by exact H4.out.step HB2.out) true hlg).mono ?_
    rintro e w3 ⟨rfl, hb⟩
    have HB3 := Lib.hid (bel_next HB2.out hb)
    clear hb
    go_wp2_with fail
    go_ret
    exact ⟨rfl, HB3.out⟩
  have HLG : Hid (x4.o.length ≤ 300 ∧ x4.s.length ≤ 300) := Lib.hid (by have := of_decide_eq_false hlg; omega)
  go_wp2_with fail
  refine (long20_any x4 w2 (by exact H4.out.step HB2.out) false hlg).mono ?_
  rintro e v ⟨rfl, hb⟩
  have HBV := Lib.hid (bel_next HB2.out hb)
  have HCV := Lib.hid (HC2.out.step hb)
  clear hb hlg q4l HC2
  have V2 := Lib.hid (H2.out.1.step HBV.out)
  have V3 := Lib.hid (H3.out.1.step HBV.out)
  have V4 := Lib.hid (H4.out.step HBV.out)
  go_wp2_with fail
  refine (rings20_any A0 n0 c0 l0 v (by exact ⟨(H0.out.1.below HBV.out).1, fun k hk => ((H0.out.1.below HBV.out).2.1 k hk).more HBV.out.size, fun hn => by obtain ⟨b, o, a1, a2, a3⟩ := (H0.out.1.below HBV.out).2.2 hn; exact ⟨b, o, a1, Nat.lt_of_lt_of_le a2 HBV.out.size, a3⟩⟩) (Nat.le_trans H0.out.2.1 H0.out.2.2) HG1.out.2).mono ?_
  rintro e w4 ⟨x, y, rfl, hp⟩
  obtain ⟨s, HS0⟩ : ∃ s, Hid (upR l0 n0 = s) := ⟨_, Lib.hid rfl⟩
  rw [HS0.out] at hp
  have os := Lib.hid hp.ok.1
  obtain ⟨D, hT⟩ := hp.tx
  have T4 := Lib.hid (hT.arg V2.out H2.out.2.1)
  obtain ⟨⟨L, E⟩, hR⟩ : ∃ r, sealT s x1 l2 l3 x4.tk = r := ⟨_, rfl⟩
  obtain ⟨M, hM⟩ : ∃ M, L.length = M := ⟨_, rfl⟩
  have bM : M ≤ 100 := by have := seal_lenE (q := x1) (n := l2) (c := l3) (f := x4.tk) os.out; rw [hR] at this; rw [← hM]; exact this
  have HR := Lib.hid (And.intro hR hM)
  have hEE : (E == E) = true := by simp
  clear hp hT hR hM
  go_wp2_with fail
  refine (copy_any A3 n3 c3 0 l3 w4 (by exact V3.out.step T4.out.bel) (by have := HS.out; omega)).mono ?_
  rintro e w5 ⟨A5, c5, rfl, ho, hb⟩
  have T5 := Lib.hid (T4.out.own hb ho)
  clear ho hb T4
  have q4l := (HCV.out.step T5.out.bel).ld rt_tk
  go_wp2_with fail
  refine (tx_seal 1 0 v x y s s D _ _ w5 (by exact T5.out) (by omega) x1 A2 A5 n2 c2 n3 c5 l2 l3 (by simp) (by exact (T5.out.row (A5, n3, c5, l3) (by simp)).1) (by have := HS.out; omega) (by have := HS.out; omega) x4 (by exact V4.out.step T5.out.bel) M L E HR.out.1 HR.out.2).mono ?_
  rintro e w6 ⟨B6, c6, G6, rfl, _, hT⟩
  have T6 := Lib.hid hT
  clear hT T5 q4l
  have q4l := (HCV.out.step T6.out.bel).ld rt_tk
  go_wp2_with fail
  refine (tkof_any x4 w6 (by exact V4.out.step T6.out.bel) (by have := HLG.out; omega) (by have := HLG.out; omega)).mono ?_
  rintro e w7 ⟨j, rfl, hj, hoj, hb⟩
  have HJ := Lib.hid (And.intro hj hoj.ok)
  have T7 := Lib.hid (T6.out.step hb)
  clear hj hoj hb T6 q4l
  go_wp2_with fail
  refine (tx_rseal 2 0 v x y s s D _ _ w7 (by exact T7.out) x1 A2 A3 n2 c2 n3 c3 l2 l3 (by exact V2.out.step T7.out.bel) (by exact V3.out.step T7.out.bel) (by have := HS.out; omega) (by have := HS.out; omega) j HJ.out.2 M L E (by rw [HJ.out.1]; exact HR.out.1) HR.out.2).mono ?_
  rintro e w8 ⟨B8, c8, rfl, ho, hb⟩
  have T8 := Lib.hid (T7.out.own hb ho)
  clear ho hb T7
  go_wp2_with fail
  refine (al_same B6 B8 M c6 M c8 L L w8 (by exact (T8.out.row (B6, M, c6, L) (by simp)).1) (by exact (T8.out.row (B8, M, c8, L) (by simp)).1) (by unfold maxLen; omega) (by unfold maxLen; omega) true (by simp)).mono ?_
  rintro e wa ⟨rfl, hb⟩
  have TA := Lib.hid (T8.out.step hb)
  clear hb T8
  go_wp2_with fail
  refine (al_same A5 A3 n3 c5 n3 c3 l3 l3 wa (by exact (TA.out.row (A5, n3, c5, l3) (by simp)).1) (by exact V3.out.step TA.out.bel) (by unfold maxLen; have := HS.out; omega) (by unfold maxLen; have := HS.out; omega) true (by simp)).mono ?_
  rintro e wb ⟨rfl, hb⟩
  have TB2 := Lib.hid (TA.out.step hb)
  clear hb TA
  go_wp2_with fail
  go_ret
  exact ⟨rfl, bel_next HBV.out TB2.out.bel⟩
end Go.Proofs.YthllaoeioddddaaGreat
