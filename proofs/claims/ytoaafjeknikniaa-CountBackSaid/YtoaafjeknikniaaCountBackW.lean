/- CountBack's walk: what is turned twice is as it was; a stream goes on where a part of it ends; steps add up. No condition. -/
import Derived.Test.YtoaafjeknikniaaCountAlive
import Derived.Test.YtoaafjeknikniaaOpen
namespace Go.Proofs.Ytoaafjeknikniaa
attribute [local irreducible] wsW keyUpTo keyF lastW turn0 encUp decUp aftL encL tableL blksL blkL strmL putL numL xorL
open Go.RowKit
set_option linter.unusedVariables false

theorem big_len {n c : Nat} (h : n ≤ c ∧ c ≤ maxLen) : n ≤ 9223372036854775807 := by unfold maxLen at h; omega
theorem xorL_again : ∀ s t : List UInt8, s.length = t.length → xorL s (xorL s t) = t
  | [], [], _ => by unfold xorL; rfl
  | x :: s, y :: t, h => by
    have := xorL_again s t (by simpa using h)
    unfold xorL at this ⊢
    rw [List.zipWith_cons_cons, List.zipWith_cons_cons, this, ← UInt8.xor_assoc, UInt8.xor_self, UInt8.zero_xor]
set_option maxRecDepth 100000 in
set_option maxHeartbeats 4000000 in
theorem CountBack_skip (A0 : Option Addr) (n0 c0 : Nat) (A1 : Option Addr) (n1 c1 : Nat) (A2 : Option Addr) (n2 c2 : Nat) (x3 x4 : Int) (w : World) (b0 : n0 ≤ 9223372036854775807) (b1 : n1 ≤ 9223372036854775807) (b2 : n2 ≤ 9223372036854775807)
    (h : n0 ≠ 16 ∨ (n0 = 16 ∧ n1 ≠ 16) ∨ (n0 = 16 ∧ n1 = 16 ∧ 300 < n2)) :
    Calls Try.prog 5 #[.slice A0 n0 c0, .slice A1 n1 c1, .slice A2 n2 c2, .int .u8 x3, .int .u8 x4] w fun e w' => e = .returned (.bool true) ∧ Below w.heap.size w w' := by
  rcases h with h | ⟨h, h'⟩ | ⟨h, h', h''⟩
  · have g : ((n0 : Int) == 16) = false := by rw [beq_eq_false_iff_ne]; omega
    have g' : ((n0 : Int) != 16) = true := by simp [bne, g]
    go_enter Try.func5, Try.ntmps5
    go_wp2_with fail
    refine (alive_any _).mono ?_
    rintro e w1 ⟨rfl, hb1⟩
    go_wp2_with fail
    go_ret
    exact ⟨rfl, hb1⟩
  · subst h
    have g : ((n1 : Int) == 16) = false := by rw [beq_eq_false_iff_ne]; omega
    have g' : ((n1 : Int) != 16) = true := by simp [bne, g]
    go_enter Try.func5, Try.ntmps5
    go_wp2_with fail
    refine (alive_any _).mono ?_
    rintro e w1 ⟨rfl, hb1⟩
    go_wp2_with fail
    go_ret
    exact ⟨rfl, hb1⟩
  · subst h
    subst h'
    have g : decide (300 < (n2 : Int)) = true := decide_eq_true (by omega)
    go_enter Try.func5, Try.ntmps5
    go_wp2_with fail
    refine (alive_any _).mono ?_
    rintro e w1 ⟨rfl, hb1⟩
    go_wp2_with fail
    go_ret
    exact ⟨rfl, hb1⟩

set_option maxRecDepth 100000 in
set_option maxHeartbeats 4000000 in
theorem CountBack_in (A0 : Option Addr) (c0 : Nat) (l0 : List UInt8) (A1 : Option Addr) (c1 : Nat) (l1 : List UInt8) (A2 : Option Addr) (n2 c2 : Nat) (l2 : List UInt8) (bb nn : Nat) (w : World) (h0 : RB w w.heap.size A0 16 l0) (m0 : 16 ≤ c0) (h1 : RB w w.heap.size A1 16 l1) (m1 : 16 ≤ c1) (h2 : RB w w.heap.size A2 n2 l2) (hbb : bb ≤ 255) (hnn : nn ≤ 255) (hn2 : n2 ≤ 300) :
    Calls Try.prog 5 #[.slice A0 16 c0, .slice A1 16 c1, .slice A2 n2 c2, .int .u8 (bb : Int), .int .u8 (nn : Int)] w fun e w' => e = .returned (.bool true) ∧ Below w.heap.size w w' := by
  have e0 := h0.len
  have e1 := h1.len
  have e2 := h2.len
  have H0 := Lib.hid h0
  have H1 := Lib.hid h1
  have H2 := Lib.hid h2
  obtain ⟨s, HS⟩ : ∃ s, Hid (s = strmL l0 l1 n2) := ⟨_, Lib.hid rfl⟩
  have hsl : s.length = n2 := by rw [HS.out]; exact strmL_len l0 l1 n2 e0 e1
  obtain ⟨a, HA⟩ : ∃ a, Hid (a = xorL s l2 ∧ xorL s a = l2) := ⟨_, Lib.hid ⟨rfl, xorL_again s l2 (by rw [hsl, e2])⟩⟩
  obtain ⟨kk, HK⟩ : ∃ kk, Hid (kk = bb % 8) := ⟨_, Lib.hid rfl⟩
  have hkk : kk ≤ 7 := by rw [HK.out]; omega
  obtain ⟨p, HP⟩ : ∃ p, Hid (p = 16 * kk) := ⟨_, Lib.hid rfl⟩
  have hp : p ≤ 112 := by rw [HP.out]; omega
  obtain ⟨q, HQ⟩ : ∃ q, Hid (q = p + nn) := ⟨_, Lib.hid rfl⟩
  have hq : q ≤ 400 := by rw [HQ.out]; omega
  obtain ⟨t, HTT⟩ : ∃ t, Hid (t = kk + nn) := ⟨_, Lib.hid rfl⟩
  have ht : t ≤ 300 := by rw [HTT.out]; omega
  obtain ⟨la, HLA⟩ : ∃ la, Hid (la = aftL l1 kk) := ⟨_, Lib.hid rfl⟩
  have hla : la.length = 16 := by rw [HLA.out]; exact aftL_len l1 kk e1
  obtain ⟨S1, HS1⟩ : ∃ S1, Hid (S1 = strmL l0 l1 q) := ⟨_, Lib.hid rfl⟩
  obtain ⟨S2, HS2⟩ : ∃ S2, Hid (S2 = strmL l0 la nn ∧ S1.drop p = S2) := ⟨_, Lib.hid ⟨rfl, by
    rw [HS1.out, HLA.out, HQ.out, HP.out]
    exact strm_drop l0 l1 kk nn e0 e1⟩⟩
  obtain ⟨lx, HLX⟩ : ∃ lx, Hid (lx = aftL la nn ∧ aftL l1 t = lx) := ⟨_, Lib.hid ⟨rfl, by rw [HLA.out, HTT.out]; exact (aft_aft l1 kk nn e1).symm⟩⟩
  have HW : Hid (aftL l1 4294967296 = l1) := Lib.hid (aft_whole l1 4294967296 e1 rfl)
  have r1 : (bb : Int) % 8 = (kk : Int) := by have := HK.out; omega
  have r1' : Int.tmod (bb : Int) 8 = (kk : Int) := by rw [Int.tmod_eq_emod_of_nonneg (by omega)]; exact r1
  have r2 : 16 * (kk : Int) = (p : Int) := by have := HP.out; omega
  have r3 : (p : Int) + (nn : Int) = (q : Int) := by have := HQ.out; omega
  have r4 : (kk : Int) + (nn : Int) = (t : Int) := by have := HTT.out; omega
  have HM0 := Lib.hid m0
  have HM1 := Lib.hid m1
  have hd2 : decide (300 < (n2 : Int)) = false := decide_eq_false (by omega)
  clear h0 h1 h2 m0 m1 hsl e2
  go_enter Try.func5, Try.ntmps5
  go_wp2_with fail
  refine (alive_any _).mono ?_
  rintro e w1 ⟨rfl, hb1⟩
  have HB1 := Lib.hid hb1
  clear hb1
  go_wp2_with fail
  refine (cturn_any A0 A1 A2 c0 c1 n2 c2 l0 l1 l2 _ (by exact H0.out.step HB1.out) HM0.out (by exact H1.out.step HB1.out) HM1.out (by exact H2.out.step HB1.out) (by omega)).mono ?_
  rw [← HS.out, ← HA.out.1]
  rintro e w2 ⟨A3, c3, rfl, ho3, hb2⟩
  have HR3 := Lib.hid ho3.rb
  have HB2 := Lib.hid (bel_next HB1.out hb2)
  clear ho3 hb2
  go_wp2_with fail
  refine (cturn_any A0 A1 A3 c0 c1 n2 c3 l0 l1 a _ (by exact H0.out.step HB2.out) HM0.out (by exact H1.out.step HB2.out) HM1.out (by exact HR3.out) (by omega)).mono ?_
  rw [← HS.out, HA.out.2]
  rintro e w3 ⟨A4, c4, rfl, ho4, hb3⟩
  have HR4 := Lib.hid ho4.rb
  have HB3 := Lib.hid (bel_next HB2.out hb3)
  clear ho4 hb3 HR3
  go_wp2_with fail
  refine (al_same A4 A2 n2 c4 n2 c2 l2 l2 _ (by exact HR4.out) (by exact H2.out.step HB3.out) (by unfold maxLen; omega) (by unfold maxLen; omega) true (by simp)).mono ?_
  rintro e w4 ⟨rfl, hb4⟩
  have HB4 := Lib.hid (bel_next HB3.out hb4)
  clear hb4 HR4
  go_wp2_with fail
  refine (after_any A1 c1 l1 kk _ (by exact H1.out.step HB4.out) HM1.out (by omega)).mono ?_
  rw [← HLA.out]
  rintro e w5 ⟨A5, c5, rfl, ho5, hb5⟩
  have HR5 := Lib.hid ho5.rb
  have HC5 := Lib.hid ho5.cap
  have HB5 := Lib.hid (bel_next HB4.out hb5)
  clear ho5 hb5
  go_wp2_with fail
  refine (stream_any A0 A1 c0 c1 q l0 l1 _ (by exact H0.out.step HB5.out) HM0.out (by exact H1.out.step HB5.out) HM1.out (by omega)).mono ?_
  rw [← HS1.out]
  rintro e w6 ⟨A6, c6, rfl, hr6, hc6, hb6⟩
  have HR6 := Lib.hid hr6
  have HC6 := Lib.hid hc6
  have HR56 := Lib.hid (HR5.out.step hb6)
  have HB6 := Lib.hid (bel_next HB5.out hb6)
  clear hr6 hb6 hc6 HR5
  go_wp2_with fail
  refine (stream_any A0 A5 c0 c5 nn l0 la _ (by exact H0.out.step HB6.out) HM0.out (by exact HR56.out) HC5.out.1 (by omega)).mono ?_
  rw [← HS2.out.1]
  rintro e w7 ⟨A7, c7, rfl, hr7, hc7, hb7⟩
  have HR7 := Lib.hid hr7
  have HR57 := Lib.hid (HR56.out.step hb7)
  have HR67 := Lib.hid (HR6.out.step hb7)
  have HB7 := Lib.hid (bel_next HB6.out hb7)
  clear hr7 hb7 hc7 HR56 HR6
  have hqp : p ≤ q ∧ q - p = nn := by have := HQ.out; omega
  have hcut : ∀ W : World, (Instr.slice 22 (.slice A6 q c6) (some (.int .i64 (p : Int))) none none).run Try.prog W = .ok (.slice (cutA A6 c6 p) nn (c6 - p)) W := fun W => by
    have h := cut_l A6 q c6 p hqp.1 W
    rw [hqp.2] at h
    exact h
  have HCUT : Hid (RB w7 w7.heap.size (cutA A6 c6 p) nn S2) := Lib.hid (by
    have h := HR67.out.part (i := p) (j := q) (c := c6) hqp.1 (Nat.le_refl _) HC6.out.1
    rw [hqp.2, List.take_of_length_le (by rw [HR67.out.len]; exact Nat.le_refl _), HS2.out.2] at h
    exact h)
  go_wp2_with fail
  refine (al_same _ A7 nn _ nn c7 S2 S2 _ (by exact HCUT.out) (by exact HR7.out) (by unfold maxLen; omega) (by unfold maxLen; omega) true (by simp)).mono ?_
  rintro e w8 ⟨rfl, hb8⟩
  have HR58 := Lib.hid (HR57.out.step hb8)
  have HB8 := Lib.hid (bel_next HB7.out hb8)
  clear hb8 HR57 HR67 HR7 HCUT hcut
  go_wp2_with fail
  refine (after_any A5 c5 la nn _ (by exact HR58.out) HC5.out.1 (by omega)).mono ?_
  rw [← HLX.out.1]
  rintro e w9 ⟨A9, c9, rfl, ho9, hb9⟩
  have HR9 := Lib.hid ho9.rb
  have HB9 := Lib.hid (bel_next HB8.out hb9)
  clear ho9 hb9 HR58
  go_wp2_with fail
  refine (after_any A1 c1 l1 t _ (by exact H1.out.step HB9.out) HM1.out (by omega)).mono ?_
  rw [HLX.out.2]
  rintro e w10 ⟨A10, c10, rfl, ho10, hb10⟩
  have HR10 := Lib.hid ho10.rb
  have HR910 := Lib.hid (HR9.out.step hb10)
  have HB10 := Lib.hid (bel_next HB9.out hb10)
  clear ho10 hb10 HR9
  go_wp2_with fail
  refine (after_any A1 c1 l1 4294967296 _ (by exact H1.out.step HB10.out) HM1.out (by omega)).mono ?_
  rw [HW.out]
  rintro e w11 ⟨A11, c11, rfl, ho11, hb11⟩
  have HR11 := Lib.hid ho11.rb
  have HR911 := Lib.hid (HR910.out.step hb11)
  have HR1011 := Lib.hid (HR10.out.step hb11)
  have HB11 := Lib.hid (bel_next HB10.out hb11)
  clear ho11 hb11 HR910 HR10
  go_wp2_with fail
  refine (al_same A9 A10 16 c9 16 c10 lx lx _ (by exact HR911.out) (by exact HR1011.out) (by unfold maxLen; omega) (by unfold maxLen; omega) true (by simp)).mono ?_
  rintro e w12 ⟨rfl, hb12⟩
  have HR1112 := Lib.hid (HR11.out.step hb12)
  have HB12 := Lib.hid (bel_next HB11.out hb12)
  clear hb12 HR911 HR1011 HR11
  go_wp2_with fail
  refine (al_same A11 A1 16 c11 16 c1 l1 l1 _ (by exact HR1112.out) (by exact H1.out.step HB12.out) (by unfold maxLen; omega) (by unfold maxLen; omega) true (by simp)).mono ?_
  rintro e w13 ⟨rfl, hb13⟩
  have HB13 := Lib.hid (bel_next HB12.out hb13)
  clear hb13
  go_wp2_with fail
  go_ret
  exact ⟨rfl, HB13.out⟩

theorem CountBack_walk (A0 : Option Addr) (n0 c0 : Nat) (l0 : List UInt8) (A1 : Option Addr) (n1 c1 : Nat) (l1 : List UInt8) (A2 : Option Addr) (n2 c2 : Nat) (l2 : List UInt8) (x3 : Int) (x4 : Int) (w : World) (h0 : RB w w.heap.size A0 n0 l0) (m0 : n0 ≤ c0 ∧ c0 ≤ maxLen) (h1 : RB w w.heap.size A1 n1 l1) (m1 : n1 ≤ c1 ∧ c1 ≤ maxLen) (h2 : RB w w.heap.size A2 n2 l2) (m2 : n2 ≤ c2 ∧ c2 ≤ maxLen) (h3 : (Lit.int .u8 x3).wf = true) (h4 : (Lit.int .u8 x4).wf = true) :
    Calls Try.prog 5 #[.slice A0 n0 c0, .slice A1 n1 c1, .slice A2 n2 c2, .int .u8 x3, .int .u8 x4] w fun e w' => e = .returned (.bool true) ∧ Below w.heap.size w w' := by
  have b3 : 0 ≤ x3 ∧ x3 ≤ 255 := bounds_u8 h3
  have b4 : 0 ≤ x4 ∧ x4 ≤ 255 := bounds_u8 h4
  by_cases hs : n0 ≠ 16 ∨ (n0 = 16 ∧ n1 ≠ 16) ∨ (n0 = 16 ∧ n1 = 16 ∧ 300 < n2)
  · exact CountBack_skip A0 n0 c0 A1 n1 c1 A2 n2 c2 x3 x4 w (big_len m0) (big_len m1) (big_len m2) hs
  · obtain ⟨bb, rfl⟩ := Int.eq_ofNat_of_zero_le b3.1
    obtain ⟨nn, rfl⟩ := Int.eq_ofNat_of_zero_le b4.1
    obtain rfl : n0 = 16 := by omega
    obtain rfl : n1 = 16 := by omega
    exact CountBack_in A0 c0 l0 A1 c1 l1 A2 n2 c2 l2 bb nn w h0 m0.1 h1 m1.1 h2 (by omega) (by omega) (by omega)
end Go.Proofs.Ytoaafjeknikniaa
