/- CountTurns' walk: texts that are turned are as far apart as they were; a longer text's beginning is turned as it is alone. No condition. -/
import Derived.Test.YtoaafjeknikniaaCountAlive
import Derived.Test.YtoaafjeknikniaaOpen
namespace Go.Proofs.Ytoaafjeknikniaa
attribute [local irreducible] wsW keyUpTo keyF lastW turn0 encUp decUp aftL encL tableL blksL blkL strmL putL numL xorL
open Go.RowKit
set_option linter.unusedVariables false

theorem big_len {n c : Nat} (h : n ≤ c ∧ c ≤ maxLen) : n ≤ 9223372036854775807 := by unfold maxLen at h; omega
theorem xorL_get (s t : List UInt8) (k : Nat) (u v : UInt8) (hs : s[k]? = some u) (ht : t[k]? = some v) : (xorL s t)[k]? = some (u ^^^ v) := by
  unfold xorL
  rw [List.getElem?_zipWith, hs, ht]
theorem xorL_head (s t : List UInt8) (k : Nat) : (xorL s t).take k = xorL (s.take k) (t.take k) := by
  unfold xorL
  rw [List.take_zipWith]
set_option maxRecDepth 100000 in
set_option maxHeartbeats 4000000 in
theorem CountTurns_skip (A0 : Option Addr) (n0 c0 : Nat) (A1 : Option Addr) (n1 c1 : Nat) (A2 : Option Addr) (n2 c2 : Nat) (A3 : Option Addr) (n3 c3 : Nat) (w : World) (b0 : n0 ≤ 9223372036854775807) (b1 : n1 ≤ 9223372036854775807) (b2 : n2 ≤ 9223372036854775807) (b3 : n3 ≤ 9223372036854775807)
    (h : n0 ≠ 16 ∨ (n0 = 16 ∧ n1 ≠ 16) ∨ (n0 = 16 ∧ n1 = 16 ∧ 200 < n2) ∨ (n0 = 16 ∧ n1 = 16 ∧ n2 ≤ 200 ∧ n3 < n2) ∨ (n0 = 16 ∧ n1 = 16 ∧ n2 ≤ 200 ∧ n2 ≤ n3 ∧ 200 < n3)) :
    Calls Try.prog 6 #[.slice A0 n0 c0, .slice A1 n1 c1, .slice A2 n2 c2, .slice A3 n3 c3] w fun e w' => e = .returned (.bool true) ∧ Below w.heap.size w w' := by
  rcases h with h | ⟨h, h'⟩ | ⟨h, h', h2⟩ | ⟨h, h', h2, h3⟩ | ⟨h, h', h2, h3, h4⟩
  · have g : ((n0 : Int) == 16) = false := by rw [beq_eq_false_iff_ne]; omega
    have g' : ((n0 : Int) != 16) = true := by simp [bne, g]
    go_enter Try.func6, Try.ntmps6
    go_wp2_with fail
    refine (alive_any _).mono ?_
    rintro e w1 ⟨rfl, hb1⟩
    go_wp2_with fail
    go_ret
    exact ⟨rfl, hb1⟩
  · subst h
    have g : ((n1 : Int) == 16) = false := by rw [beq_eq_false_iff_ne]; omega
    have g' : ((n1 : Int) != 16) = true := by simp [bne, g]
    go_enter Try.func6, Try.ntmps6
    go_wp2_with fail
    refine (alive_any _).mono ?_
    rintro e w1 ⟨rfl, hb1⟩
    go_wp2_with fail
    go_ret
    exact ⟨rfl, hb1⟩
  · subst h
    subst h'
    have g : decide (200 < (n2 : Int)) = true := decide_eq_true (by omega)
    go_enter Try.func6, Try.ntmps6
    go_wp2_with fail
    refine (alive_any _).mono ?_
    rintro e w1 ⟨rfl, hb1⟩
    go_wp2_with fail
    go_ret
    exact ⟨rfl, hb1⟩
  · subst h
    subst h'
    have g : decide (200 < (n2 : Int)) = false := decide_eq_false (by omega)
    have g2 : decide ((n3 : Int) < (n2 : Int)) = true := decide_eq_true (by omega)
    go_enter Try.func6, Try.ntmps6
    go_wp2_with fail
    refine (alive_any _).mono ?_
    rintro e w1 ⟨rfl, hb1⟩
    go_wp2_with fail
    go_ret
    exact ⟨rfl, hb1⟩
  · subst h
    subst h'
    have g : decide (200 < (n2 : Int)) = false := decide_eq_false (by omega)
    have g2 : decide ((n3 : Int) < (n2 : Int)) = false := decide_eq_false (by omega)
    have g3 : decide (200 < (n3 : Int)) = true := decide_eq_true (by omega)
    go_enter Try.func6, Try.ntmps6
    go_wp2_with fail
    refine (alive_any _).mono ?_
    rintro e w1 ⟨rfl, hb1⟩
    go_wp2_with fail
    go_ret
    exact ⟨rfl, hb1⟩

set_option maxRecDepth 100000 in
set_option maxHeartbeats 4000000 in
theorem CountTurns_in (A0 : Option Addr) (c0 : Nat) (l0 : List UInt8) (A1 : Option Addr) (c1 : Nat) (l1 : List UInt8) (A2 : Option Addr) (n2 c2 : Nat) (l2 : List UInt8) (A3 : Option Addr) (n3 c3 : Nat) (l3 : List UInt8) (w : World) (h0 : RB w w.heap.size A0 16 l0) (m0 : 16 ≤ c0) (h1 : RB w w.heap.size A1 16 l1) (m1 : 16 ≤ c1) (h2 : RB w w.heap.size A2 n2 l2) (h3 : RB w w.heap.size A3 n3 l3) (m3 : n3 ≤ c3) (h23 : n2 ≤ n3) (hn3 : n3 ≤ 200) :
    Calls Try.prog 6 #[.slice A0 16 c0, .slice A1 16 c1, .slice A2 n2 c2, .slice A3 n3 c3] w fun e w' => e = .returned (.bool true) ∧ Below w.heap.size w w' := by
  have e0 := h0.len
  have e1 := h1.len
  have e2 := h2.len
  have e3 := h3.len
  have H0 := Lib.hid h0
  have H1 := Lib.hid h1
  have H2 := Lib.hid h2
  have H3 := Lib.hid h3
  obtain ⟨s2, HS2⟩ : ∃ s, Hid (s = strmL l0 l1 n2) := ⟨_, Lib.hid rfl⟩
  obtain ⟨s3, HS3⟩ : ∃ s, Hid (s = strmL l0 l1 n3) := ⟨_, Lib.hid rfl⟩
  have HL3 : Hid (s3.length = n3) := Lib.hid (by rw [HS3.out]; exact strmL_len l0 l1 n3 e0 e1)
  have HT : Hid (s3.take n2 = s2) := Lib.hid (by rw [HS3.out, HS2.out]; exact strm_take l0 l1 n2 n3 e0 e1 h23)
  obtain ⟨x, HX⟩ : ∃ x, Hid (x = xorL s2 l2) := ⟨_, Lib.hid rfl⟩
  obtain ⟨y, HY⟩ : ∃ y, Hid (y = xorL s3 l3) := ⟨_, Lib.hid rfl⟩
  obtain ⟨z, HZ⟩ : ∃ z, Hid (z = xorL s2 (l3.take n2) ∧ y.take n2 = z) := ⟨_, Lib.hid ⟨rfl, by rw [HY.out, xorL_head, HT.out]⟩⟩
  have HAT : Hid (∀ k, k < n2 → ∃ u v t, l2[k]? = some u ∧ l3[k]? = some v ∧ x[k]? = some (t ^^^ u) ∧ y[k]? = some (t ^^^ v)) := Lib.hid (fun k hk => by
    obtain ⟨u, hu⟩ : ∃ u, l2[k]? = some u := ⟨_, List.getElem?_eq_getElem (by omega)⟩
    obtain ⟨v, hv⟩ : ∃ v, l3[k]? = some v := ⟨_, List.getElem?_eq_getElem (by omega)⟩
    obtain ⟨t, ht⟩ : ∃ t, s3[k]? = some t := ⟨_, List.getElem?_eq_getElem (by rw [HL3.out]; omega)⟩
    have ht2 : s2[k]? = some t := by rw [← HT.out, List.getElem?_take_of_lt hk]; exact ht
    exact ⟨u, v, t, hu, hv, by rw [HX.out]; exact xorL_get _ _ _ _ _ ht2 hu, by rw [HY.out]; exact xorL_get _ _ _ _ _ ht hv⟩)
  have HM0 := Lib.hid m0
  have HM1 := Lib.hid m1
  have hd2 : decide (200 < (n2 : Int)) = false := decide_eq_false (by omega)
  have hd3 : decide (200 < (n3 : Int)) = false := decide_eq_false (by omega)
  have hd4 : decide ((n3 : Int) < (n2 : Int)) = false := decide_eq_false (by omega)
  have hcut : ∀ W : World, (Instr.slice 22 (.slice A3 n3 c3) none (some (.int .i64 (n2 : Int))) none).run Try.prog W = .ok (.slice (cutA A3 c3 0) n2 c3) W := cut_h A3 n3 c3 n2 (by omega)
  have HCUT : Hid (∀ v, Below w.heap.size w v → RB v v.heap.size (cutA A3 c3 0) n2 (l3.take n2)) := Lib.hid (fun v hv => (H3.out.step hv).part (i := 0) (j := n2) (c := c3) (by omega) h23 m3)
  clear h0 h1 h2 h3 m0 m1 e0 e1 e2 e3
  go_enter Try.func6, Try.ntmps6
  go_wp2_with fail
  refine (alive_any _).mono ?_
  rintro e w1 ⟨rfl, hb1⟩
  have HB1 := Lib.hid hb1
  clear hb1
  go_wp2_with fail
  refine (cturn_any A0 A1 A2 c0 c1 n2 c2 l0 l1 l2 _ (by exact H0.out.step HB1.out) HM0.out (by exact H1.out.step HB1.out) HM1.out (by exact H2.out.step HB1.out) (by omega)).mono ?_
  rw [← HS2.out, ← HX.out]
  rintro e w2 ⟨A5, c5, rfl, ho5, hb2⟩
  have HR5 := Lib.hid ho5.rb
  have HB2 := Lib.hid (bel_next HB1.out hb2)
  clear ho5 hb2
  go_wp2_with fail
  refine (cturn_any A0 A1 A3 c0 c1 n3 c3 l0 l1 l3 _ (by exact H0.out.step HB2.out) HM0.out (by exact H1.out.step HB2.out) HM1.out (by exact H3.out.step HB2.out) (by omega)).mono ?_
  rw [← HS3.out, ← HY.out]
  rintro e w3 ⟨A6, c6, rfl, ho6, hb3⟩
  have HR6 := Lib.hid ho6.rb
  have HC6 := Lib.hid ho6.cap
  have HR53 := Lib.hid (HR5.out.step hb3)
  have HB3 := Lib.hid (bel_next HB2.out hb3)
  clear ho6 hb3 HR5
  go_wp2_with fail
  refine (cturn_any A0 A1 (cutA A3 c3 0) c0 c1 n2 c3 l0 l1 (l3.take n2) _ (by exact H0.out.step HB3.out) HM0.out (by exact H1.out.step HB3.out) HM1.out (by exact HCUT.out _ HB3.out) (by omega)).mono ?_
  rw [← HS2.out, ← HZ.out.1]
  rintro e w4 ⟨A7, c7, rfl, ho7, hb4⟩
  have HR7 := Lib.hid ho7.rb
  have HR54 := Lib.hid (HR53.out.step hb4)
  have HR64 := Lib.hid (HR6.out.step hb4)
  have HB4 := Lib.hid (bel_next HB3.out hb4)
  clear ho7 hb4 HR53 HR6
  have hcut2 : ∀ W : World, (Instr.slice 22 (.slice A6 n3 c6) none (some (.int .i64 (n2 : Int))) none).run Try.prog W = .ok (.slice (cutA A6 c6 0) n2 c6) W := cut_h A6 n3 c6 n2 (by have := HC6.out.1; omega)
  have HCUT2 : Hid (RB w4 w4.heap.size (cutA A6 c6 0) n2 z) := Lib.hid (by
    have h := HR64.out.part (i := 0) (j := n2) (c := c6) (by omega) h23 HC6.out.1
    rw [HZ.out.2, List.drop_zero] at h
    exact h)
  go_wp2_with fail
  refine (al_same _ A7 n2 _ n2 c7 z z _ (by exact HCUT2.out) (by exact HR7.out) (by unfold maxLen; omega) (by unfold maxLen; omega) true (by simp)).mono ?_
  rintro e w5 ⟨rfl, hb5⟩
  have HR55 := Lib.hid (HR54.out.step hb5)
  have HR65 := Lib.hid (HR64.out.step hb5)
  have HB5 := Lib.hid (bel_next HB4.out hb5)
  have HR25 := Lib.hid (H2.out.step HB5.out)
  have HR35 := Lib.hid (H3.out.step HB5.out)
  clear hb5 HR54 HR64 HR7 HCUT2 hcut2 HCUT hcut H0 H1 H2 H3
  go_wp2_with fail
  go_loopw [15] (fun i wr => ∃ k : Nat, k ≤ n2 ∧ i = .int .i64 k ∧ Hid (RB wr wr.heap.size A5 n2 x) ∧ Hid (RB wr wr.heap.size A6 n3 y) ∧ Hid (RB wr wr.heap.size A2 n2 l2) ∧ Hid (RB wr wr.heap.size A3 n3 l3) ∧ Hid (Below w.heap.size w wr)) (fun i _ => n2 - (intOf i).toNat)
  case atStart => exact ⟨0, by omega, rfl, HR55, HR65, HR25, HR35, HB5⟩
  case round =>
    obtain ⟨k, hk, rfl, hx, hy, ha, hbb, hb⟩ := hrel
    clear HR55 HR65 HR25 HR35 HB5
    by_cases hlt : k < n2
    · obtain ⟨u, v, t, hu, hv, hxt, hyt⟩ := HAT.out k hlt
      have hlt3 : k < n3 := by omega
      obtain ⟨g5, o5, rfl, hg5, x', hx', hc5⟩ := hx.out.at_ hlt
      obtain ⟨g6, o6, rfl, hg6, y', hy', hc6⟩ := hy.out.at_ hlt3
      obtain ⟨g2, o2, rfl, hg2, a', ha', hc2⟩ := ha.out.at_ hlt
      obtain ⟨g3, o3, rfl, hg3, b', hb', hc3⟩ := hbb.out.at_ hlt3
      obtain rfl : x' = t ^^^ u := by rw [hxt] at hx'; exact (Option.some.inj hx').symm
      obtain rfl : y' = t ^^^ v := by rw [hyt] at hy'; exact (Option.some.inj hy').symm
      obtain rfl : a' = u := by rw [hu] at ha'; exact (Option.some.inj ha').symm
      obtain rfl : b' = v := by rw [hv] at hb'; exact (Option.some.inj hb').symm
      obtain ⟨d, HD⟩ : ∃ d : Nat, Hid (d = (a' ^^^ b').toNat) := ⟨_, Lib.hid rfl⟩
      obtain ⟨p1, HP1⟩ : ∃ p : Nat, Hid (p = (t ^^^ a').toNat) := ⟨_, Lib.hid rfl⟩
      obtain ⟨p2, HP2⟩ : ∃ p : Nat, Hid (p = (t ^^^ b').toNat) := ⟨_, Lib.hid rfl⟩
      have r1 : bits .xor .u8 (p1 : Int) (p2 : Int) = (d : Int) := by rw [HP1.out, HP2.out, HD.out, xor_byte, xor8_apart]
      have r2 : bits .xor .u8 (a'.toNat : Int) (b'.toNat : Int) = (d : Int) := by rw [HD.out, xor_byte]
      rw [← HP1.out] at hc5
      rw [← HP2.out] at hc6
      clear hu hv hxt hyt hx' hy' ha' hb'
      go_wp2_with fail
      go_region
      all_goals
        go_wp2
        go_roundw
        case rel => exact ⟨k + 1, by omega, by go_num, Lib.hid hx.out.drew, Lib.hid hy.out.drew, Lib.hid ha.out.drew, Lib.hid hbb.out.drew, Lib.hid hb.out.drew⟩
        case measure => simp [intOf]; omega
    · have hkn : k = n2 := by omega
      subst hkn
      go_wp2_with fail
      go_ret
      exact ⟨rfl, hb.out⟩

theorem CountTurns_walk (A0 : Option Addr) (n0 c0 : Nat) (l0 : List UInt8) (A1 : Option Addr) (n1 c1 : Nat) (l1 : List UInt8) (A2 : Option Addr) (n2 c2 : Nat) (l2 : List UInt8) (A3 : Option Addr) (n3 c3 : Nat) (l3 : List UInt8) (w : World) (h0 : RB w w.heap.size A0 n0 l0) (m0 : n0 ≤ c0 ∧ c0 ≤ maxLen) (h1 : RB w w.heap.size A1 n1 l1) (m1 : n1 ≤ c1 ∧ c1 ≤ maxLen) (h2 : RB w w.heap.size A2 n2 l2) (m2 : n2 ≤ c2 ∧ c2 ≤ maxLen) (h3 : RB w w.heap.size A3 n3 l3) (m3 : n3 ≤ c3 ∧ c3 ≤ maxLen) :
    Calls Try.prog 6 #[.slice A0 n0 c0, .slice A1 n1 c1, .slice A2 n2 c2, .slice A3 n3 c3] w fun e w' => e = .returned (.bool true) ∧ Below w.heap.size w w' := by
  by_cases hs : n0 ≠ 16 ∨ (n0 = 16 ∧ n1 ≠ 16) ∨ (n0 = 16 ∧ n1 = 16 ∧ 200 < n2) ∨ (n0 = 16 ∧ n1 = 16 ∧ n2 ≤ 200 ∧ n3 < n2) ∨ (n0 = 16 ∧ n1 = 16 ∧ n2 ≤ 200 ∧ n2 ≤ n3 ∧ 200 < n3)
  · exact CountTurns_skip A0 n0 c0 A1 n1 c1 A2 n2 c2 A3 n3 c3 w (big_len m0) (big_len m1) (big_len m2) (big_len m3) hs
  · obtain rfl : n0 = 16 := by omega
    obtain rfl : n1 = 16 := by omega
    exact CountTurns_in A0 c0 l0 A1 c1 l1 A2 n2 c2 l2 A3 n3 c3 l3 w h0 m0.1 h1 m1.1 h2 h3 m3.1 (by omega) (by omega)
end Go.Proofs.Ytoaafjeknikniaa
