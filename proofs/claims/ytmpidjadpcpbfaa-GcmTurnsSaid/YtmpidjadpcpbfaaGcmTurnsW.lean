/- GcmTurns' walk: sealed texts of one key and nonce are as far apart as their texts; the note changes the tag alone. No condition. -/
import Derived.Test.YtmpidjadpcpbfaaGcmAlive
import Derived.Test.YtmpidjadpcpbfaaOpen
namespace Go.Proofs.Ytmpidjadpcpbfaa
attribute [local irreducible] wsW keyUpTo keyF lastW turn0 encUp decUp aftL encL tableL blksL blkL strmL putL numL xorL turnAt fstL hkL tagL trnL bB sumG nB sealR openR tagR
open Go.RowKit
set_option linter.unusedVariables false
set_option linter.unusedSimpArgs false

theorem gbig_len {n c : Nat} (h : n ≤ c ∧ c ≤ maxLen) : n ≤ 9223372036854775807 := by unfold maxLen at h; omega
theorem gxorL_get (s t : List UInt8) (k : Nat) (u v : UInt8) (hs : s[k]? = some u) (ht : t[k]? = some v) : (xorL s t)[k]? = some (u ^^^ v) := by
  unfold xorL
  rw [List.getElem?_zipWith, hs, ht]
/-- Two turned texts' bytes: one byte of the stream apart from their texts'. -/
theorem trn_at (K n a b : List UInt8) (m k : Nat) (hK : K.length = 16) (hn : n.length = 12) (ha : a.length = m) (hb : b.length = m) (hk : k < m) : ∃ u v t : UInt8, a[k]? = some u ∧ b[k]? = some v ∧ (trnL K n a)[k]? = some (t ^^^ u) ∧ (trnL K n b)[k]? = some (t ^^^ v) := by
  have hs := strmL_len K (aftL (fstL n) 1) m hK (aftL_len _ 1 (fstL_len n hn))
  refine ⟨a[k], b[k], (strmL K (aftL (fstL n) 1) m)[k], List.getElem?_eq_getElem _, List.getElem?_eq_getElem _, ?_, ?_⟩
  · rw [← trn_eq K n a m ha]
    exact gxorL_get _ _ _ _ _ (List.getElem?_eq_getElem _) (List.getElem?_eq_getElem _)
  · rw [← trn_eq K n b m hb]
    exact gxorL_get _ _ _ _ _ (List.getElem?_eq_getElem _) (List.getElem?_eq_getElem _)

set_option maxRecDepth 100000 in
set_option maxHeartbeats 8000000 in
theorem GcmTurns_in (A0 : Option Addr) (c0 : Nat) (l0 : List UInt8) (A1 : Option Addr) (c1 : Nat) (l1 : List UInt8) (A2 : Option Addr) (n2 c2 : Nat) (l2 : List UInt8) (A3 : Option Addr) (c3 : Nat) (l3 : List UInt8) (A4 : Option Addr) (n4 c4 : Nat) (l4 : List UInt8) (w : World) (h0 : RB w w.heap.size A0 16 l0) (m0 : 16 ≤ c0) (h1 : RB w w.heap.size A1 12 l1) (h2 : RB w w.heap.size A2 n2 l2) (m2 : n2 ≤ c2 ∧ c2 ≤ maxLen) (h3 : RB w w.heap.size A3 n2 l3) (m3 : n2 ≤ c3 ∧ c3 ≤ maxLen) (h4 : RB w w.heap.size A4 n4 l4) (m4 : n4 ≤ c4 ∧ c4 ≤ maxLen) :
    Calls Try.prog 3 #[.slice A0 16 c0, .slice A1 12 c1, .slice A2 n2 c2, .slice A3 n2 c3, .slice A4 n4 c4] w fun e w' => e = .returned (.bool true) ∧ Below w.heap.size w w' := by
  have e0 := h0.len
  have e1 := h1.len
  have e2 := h2.len
  have e3 := h3.len
  have e4 := h4.len
  have b2 := gbig_len m2
  have b3 := gbig_len m3
  have b4 := gbig_len m4
  have H0 := Lib.hid (And.intro h0 m0)
  have H1 := Lib.hid h1
  have H2 := Lib.hid (And.intro h2 m2)
  have H3 := Lib.hid (And.intro h3 m3)
  have H4 := Lib.hid (And.intro h4 m4)
  obtain ⟨u, HU⟩ : ∃ u, Hid (u = trnL l0 l1 l2 ∧ u.length = n2) := ⟨_, Lib.hid ⟨rfl, by rw [trnL_len l0 l1 l2 e0 e1, e2]⟩⟩
  obtain ⟨g, HG⟩ : ∃ g, Hid (g = tagL l0 l1 u l4 ∧ g.length = 16) := ⟨_, Lib.hid ⟨rfl, tagL_len l0 l1 u l4 e0 e1⟩⟩
  obtain ⟨u', HU'⟩ : ∃ u, Hid (u = trnL l0 l1 l3 ∧ u.length = n2) := ⟨_, Lib.hid ⟨rfl, by rw [trnL_len l0 l1 l3 e0 e1, e3]⟩⟩
  obtain ⟨g', HG'⟩ : ∃ g, Hid (g = tagL l0 l1 u' [] ∧ g.length = 16) := ⟨_, Lib.hid ⟨rfl, tagL_len l0 l1 u' [] e0 e1⟩⟩
  obtain ⟨N, HN⟩ : ∃ N, Hid (N = n2 + 16) := ⟨_, Lib.hid rfl⟩
  have HL : Hid ((u ++ g).length = N ∧ (u ++ g).take n2 = u ∧ (u ++ g).drop n2 = g) := Lib.hid ⟨by rw [List.length_append, HU.out.2, HG.out.2, HN.out], List.take_left' HU.out.2, List.drop_left' HU.out.2⟩
  have HL' : Hid ((u' ++ g').length = N ∧ (u' ++ g').take n2 = u') := Lib.hid ⟨by rw [List.length_append, HU'.out.2, HG'.out.2, HN.out], List.take_left' HU'.out.2⟩
  have HAT : Hid (∀ k, k < n2 → ∃ x y t : UInt8, l2[k]? = some x ∧ l3[k]? = some y ∧ (u ++ g)[k]? = some (t ^^^ x) ∧ (u' ++ g')[k]? = some (t ^^^ y)) := Lib.hid (fun k hk => by
    obtain ⟨x, y, t, q1, q2, q3, q4⟩ := trn_at l0 l1 l2 l3 n2 k e0 e1 e2 e3 hk
    rw [← HU.out.1] at q3
    rw [← HU'.out.1] at q4
    exact ⟨x, y, t, q1, q2, by rw [List.getElem?_append_left (by rw [HU.out.2]; exact hk)]; exact q3, by rw [List.getElem?_append_left (by rw [HU'.out.2]; exact hk)]; exact q4⟩)
  have HGR := Lib.hid (great_lit [(A2, c2, l2), (A3, c3, l3), (A4, c4, l4)] #[.slice A2 n2 c2, .slice A3 n2 c3, .slice A4 n4 c4] 3)
  have HE := Lib.hid (And.intro e2 (And.intro e3 e4))
  clear h0 h1 h2 h3 h4 m0 m2 m3 m4 e0 e1 e2 e3 e4
  go_enter Try.func3, Try.ntmps3
  go_wp2_with fail
  refine (alive_any _).mono ?_
  rintro e w1 ⟨rfl, hb1⟩
  have HB1 := Lib.hid hb1
  clear hb1
  go_wp2_with fail
  refine (HGR.out w1 (by simp [HE.out.1, HE.out.2.1, HE.out.2.2]) rfl (by omega) (by
    intro r hr
    simp only [List.mem_cons, List.not_mem_nil, or_false] at hr
    rcases hr with rfl | rfl | rfl
    · dsimp only; rw [HE.out.1]; exact H2.out.1.step HB1.out
    · dsimp only; rw [HE.out.2.1]; exact H3.out.1.step HB1.out
    · dsimp only; rw [HE.out.2.2]; exact H4.out.1.step HB1.out) (by
    intro r hr
    simp only [List.mem_cons, List.not_mem_nil, or_false] at hr
    rcases hr with rfl | rfl | rfl
    · dsimp only; rw [HE.out.1]; exact Nat.le_trans H2.out.2.1 H2.out.2.2
    · dsimp only; rw [HE.out.2.1]; exact Nat.le_trans H3.out.2.1 H3.out.2.2
    · dsimp only; rw [HE.out.2.2]; exact Nat.le_trans H4.out.2.1 H4.out.2.2)).mono ?_
  rintro e w2 ⟨v, rfl, hb2, hv⟩
  have HB2 := Lib.hid (bel_next HB1.out hb2)
  clear hb2 HB1 HGR
  rcases v with _ | _
  case true =>
    clear hv
    go_wp2_with fail
    go_ret
    exact ⟨rfl, HB2.out⟩
  case false =>
    have hv' := hv rfl
    have s2 : n2 ≤ 200 := by have := hv' (A2, c2, l2) (by simp); dsimp only at this; rw [HE.out.1] at this; exact this
    have s4 : n4 ≤ 200 := by have := hv' (A4, c4, l4) (by simp); dsimp only at this; rw [HE.out.2.2] at this; exact this
    have hN : N ≤ 216 := by have := HN.out; omega
    have hN2 : n2 + 16 = N := HN.out.symm
    have r0 : (n2 : Int) + 16 = (N : Int) := by omega
    clear hv hv' hN2
    go_wp2_with fail
    refine (gnew_any A0 c0 l0 _ (by exact H0.out.1.step HB2.out) H0.out.2).mono ?_
    intro e w3 hx
    obtain ⟨p, rfl, hpk, hk3⟩ := KG.start HB2.out hx
    have HPK := Lib.hid hpk
    have HK3 := Lib.hid ((((hk3.arg H1.out).arg H2.out.1).arg H3.out.1).arg H4.out.1)
    clear hx hk3 hpk HB2
    go_wp2_with fail
    refine (gseal_any p 1 0 A1 A2 A4 c1 n2 c2 n4 c4 l1 l2 l4 _ (by exact HK3.out.box) (by omega) (by exact (HK3.out.row (A1, 12, l1) (by simp)).1) (by exact (HK3.out.row (A2, n2, l2) (by simp)).1) (by exact (HK3.out.row (A4, n4, l4) (by simp)).1) H4.out.2.1 (by exact (HK3.out.row (A4, n4, l4) (by simp)).2) (by omega) (by omega)).mono ?_
    intro e w4 hr
    obtain ⟨A5, c5, rfl, hk4, ho4⟩ := HK3.out.ret (hr.to 0 N (u ++ g) 0 rfl (by rw [HPK.out, ← HU.out.1, ← HG.out.1]) HL.out.1)
    have HK4 := Lib.hid hk4
    have HC5 := Lib.hid ho4.cap.1
    clear hr hk4 ho4 HK3
    go_wp2_with fail
    refine (gseal_any p 2 0 A1 A3 none c1 n2 c3 0 0 l1 l3 [] _ (by exact HK4.out.box) (by omega) (by exact (HK4.out.row (A1, 12, l1) (by simp)).1) (by exact (HK4.out.row (A3, n2, l3) (by simp)).1) (RB.nil_) (by omega) (fun h => absurd h (by omega)) (by omega) (by omega)).mono ?_
    intro e w5 hr
    obtain ⟨A6, c6, rfl, hk5, ho5⟩ := HK4.out.ret (hr.to 0 N (u' ++ g') 0 rfl (by rw [HPK.out, ← HU'.out.1, ← HG'.out.1]) HL'.out.1)
    have HK5 := Lib.hid hk5
    clear hr hk5 ho5 HK4
    go_wp2_with fail
    go_loopw [17] (fun i wr => ∃ k : Nat, k ≤ n2 ∧ i = .int .i64 k ∧ Hid (KG w p 3 0 [(A6, N, u' ++ g'), (A5, N, u ++ g), (A4, n4, l4), (A3, n2, l3), (A2, n2, l2), (A1, 12, l1)] wr)) (fun i _ => n2 - (intOf i).toNat)
    case atStart => exact ⟨0, by omega, rfl, HK5⟩
    case round =>
      obtain ⟨k, hk, rfl, hkg⟩ := hrel
      clear HK5
      by_cases hlt : k < n2
      · obtain ⟨x, y, t, hx2, hy3, hxt, hyt⟩ := HAT.out k hlt
        have hltN : k < N := by have := HN.out; omega
        obtain ⟨g5, o5, rfl, hg5, x', hx', hc5⟩ := (hkg.out.row (A5, N, u ++ g) (by simp)).1.at_ hltN
        obtain ⟨g6, o6, rfl, hg6, y', hy', hc6⟩ := (hkg.out.row (A6, N, u' ++ g') (by simp)).1.at_ hltN
        obtain ⟨g2, o2, rfl, hg2, a', ha', hc2⟩ := (hkg.out.row (A2, n2, l2) (by simp)).1.at_ hlt
        obtain ⟨g3, o3, rfl, hg3, b', hb', hc3⟩ := (hkg.out.row (A3, n2, l3) (by simp)).1.at_ hlt
        dsimp only at hx' hy' ha' hb' hc5 hc6 hc2 hc3
        obtain rfl : x' = t ^^^ x := by rw [hxt] at hx'; exact (Option.some.inj hx').symm
        obtain rfl : y' = t ^^^ y := by rw [hyt] at hy'; exact (Option.some.inj hy').symm
        obtain rfl : a' = x := by rw [hx2] at ha'; exact (Option.some.inj ha').symm
        obtain rfl : b' = y := by rw [hy3] at hb'; exact (Option.some.inj hb').symm
        obtain ⟨d, HD⟩ : ∃ d : Nat, Hid (d = (a' ^^^ b').toNat) := ⟨_, Lib.hid rfl⟩
        obtain ⟨p1, HP1⟩ : ∃ p : Nat, Hid (p = (t ^^^ a').toNat) := ⟨_, Lib.hid rfl⟩
        obtain ⟨p2, HP2⟩ : ∃ p : Nat, Hid (p = (t ^^^ b').toNat) := ⟨_, Lib.hid rfl⟩
        have r1 : bits .xor .u8 (p1 : Int) (p2 : Int) = (d : Int) := by rw [HP1.out, HP2.out, HD.out, xor_byte, xor8_apart]
        have r2 : bits .xor .u8 (a'.toNat : Int) (b'.toNat : Int) = (d : Int) := by rw [HD.out, xor_byte]
        rw [← HP1.out] at hc5
        rw [← HP2.out] at hc6
        clear hx2 hy3 hxt hyt hx' hy' ha' hb'
        go_wp2_with fail
        go_region
        all_goals
          go_wp2
          go_roundw
          case rel => exact ⟨k + 1, by omega, by go_num, Lib.hid (hkg.out.step (Below.refl _ _).drew)⟩
          case measure => simp [intOf]; omega
      · have hkn : k = n2 := by omega
        subst hkn
        have HK6 := Lib.hid ((hkg.out.head (A := A5) (N := N) (l := u ++ g) (c := c5) (m := k) (by simp) (by have := HN.out; omega) HC5.out (by have := HN.out; omega) HL.out.2.1).tail (A := A5) (N := N) (l := u ++ g) (c := c5) (i := k) (M := 16) (by simp) HN.out.symm HC5.out (by have := HN.out; omega) HL.out.2.2)
        clear hkg
        have hcut := cut_h A5 N c5 k (by have := HN.out; have := HC5.out; omega)
        have hcutl := cut_l A5 N c5 k (by have := HN.out; omega)
        rw [show N - k = 16 by have := HN.out; omega] at hcutl
        go_wp2_with fail
        refine (gtag_any p 3 0 A1 (cutA A5 c5 0) A4 c1 k c5 n4 c4 l1 u l4 _ (by exact HK6.out.box) (by omega) (by exact (HK6.out.row (A1, 12, l1) (by simp)).1) (by exact (HK6.out.row (cutA A5 c5 0, k, u) (by simp)).1) (by exact (HK6.out.row (A4, n4, l4) (by simp)).1) (by have := HN.out; have := HC5.out; omega) H4.out.2.1 (by exact (HK6.out.row (cutA A5 c5 0, k, u) (by simp)).2) (by exact (HK6.out.row (A4, n4, l4) (by simp)).2) (by omega) (by omega)).mono ?_
        intro e w7 hr
        obtain ⟨A7, c7, rfl, hk7, ho7⟩ := HK6.out.ret (hr.to 0 16 g 0 rfl (by rw [HPK.out, ← HG.out.1]) HG.out.2)
        have HK7 := Lib.hid hk7
        clear hr hk7 ho7 HK6 hcut
        go_wp2_with fail
        refine (al_same A7 _ 16 c7 16 _ g g _ (by exact (HK7.out.row (A7, 16, g) (by simp)).1) (by exact (HK7.out.row (cutA A5 c5 k, 16, g) (by simp)).1) (by unfold maxLen; omega) (by unfold maxLen; omega) true (by simp)).mono ?_
        rintro e w8 ⟨rfl, hb8⟩
        have HB8 := Lib.hid (HK7.out.step hb8).bel
        clear hb8 HK7
        go_wp2_with fail
        go_ret
        exact ⟨rfl, HB8.out⟩
set_option maxRecDepth 100000 in
set_option maxHeartbeats 4000000 in
theorem GcmTurns_skip (A0 : Option Addr) (n0 c0 : Nat) (A1 : Option Addr) (n1 c1 : Nat) (A2 : Option Addr) (n2 c2 : Nat) (l2 : List UInt8) (A3 : Option Addr) (n3 c3 : Nat) (l3 : List UInt8) (A4 : Option Addr) (n4 c4 : Nat) (l4 : List UInt8) (w : World) (b0 : n0 ≤ 9223372036854775807) (b1 : n1 ≤ 9223372036854775807) (h2 : RB w w.heap.size A2 n2 l2) (m2 : n2 ≤ c2 ∧ c2 ≤ maxLen) (h3 : RB w w.heap.size A3 n3 l3) (m3 : n3 ≤ c3 ∧ c3 ≤ maxLen) (h4 : RB w w.heap.size A4 n4 l4) (m4 : n4 ≤ c4 ∧ c4 ≤ maxLen) (h : n0 ≠ 16 ∨ n1 ≠ 12 ∨ n2 ≠ n3) :
    Calls Try.prog 3 #[.slice A0 n0 c0, .slice A1 n1 c1, .slice A2 n2 c2, .slice A3 n3 c3, .slice A4 n4 c4] w fun e w' => e = .returned (.bool true) ∧ Below w.heap.size w w' := by
  have e2 := h2.len
  have e3 := h3.len
  have e4 := h4.len
  have b2 := gbig_len m2
  have b3 := gbig_len m3
  have b4 := gbig_len m4
  have H2 := Lib.hid (And.intro h2 m2)
  have H3 := Lib.hid (And.intro h3 m3)
  have H4 := Lib.hid (And.intro h4 m4)
  have HGR := Lib.hid (great_lit [(A2, c2, l2), (A3, c3, l3), (A4, c4, l4)] #[.slice A2 n2 c2, .slice A3 n3 c3, .slice A4 n4 c4] 3)
  have HE := Lib.hid (And.intro e2 (And.intro e3 e4))
  have HH := Lib.hid h
  clear h2 h3 h4 m2 m3 m4 e2 e3 e4 h
  go_enter Try.func3, Try.ntmps3
  go_wp2_with fail
  refine (alive_any _).mono ?_
  rintro e w1 ⟨rfl, hb1⟩
  have HB1 := Lib.hid hb1
  clear hb1
  go_wp2_with fail
  refine (HGR.out w1 (by simp [HE.out.1, HE.out.2.1, HE.out.2.2]) rfl (by omega) (by
    intro r hr
    simp only [List.mem_cons, List.not_mem_nil, or_false] at hr
    rcases hr with rfl | rfl | rfl
    · dsimp only; rw [HE.out.1]; exact H2.out.1.step HB1.out
    · dsimp only; rw [HE.out.2.1]; exact H3.out.1.step HB1.out
    · dsimp only; rw [HE.out.2.2]; exact H4.out.1.step HB1.out) (by
    intro r hr
    simp only [List.mem_cons, List.not_mem_nil, or_false] at hr
    rcases hr with rfl | rfl | rfl
    · dsimp only; rw [HE.out.1]; exact Nat.le_trans H2.out.2.1 H2.out.2.2
    · dsimp only; rw [HE.out.2.1]; exact Nat.le_trans H3.out.2.1 H3.out.2.2
    · dsimp only; rw [HE.out.2.2]; exact Nat.le_trans H4.out.2.1 H4.out.2.2)).mono ?_
  rintro e w2 ⟨v, rfl, hb2, hv⟩
  have HB2 := Lib.hid (bel_next HB1.out hb2)
  clear hb2 HB1 HGR hv
  rcases v with _ | _
  case true =>
    go_wp2_with fail
    go_ret
    exact ⟨rfl, HB2.out⟩
  case false =>
    by_cases q0 : n0 = 16
    · by_cases q1 : n1 = 12
      · have q2 : n2 ≠ n3 := by have := HH.out; omega
        have g0 : ((n0 : Int) == 16) = true := by rw [beq_iff_eq]; omega
        have g0' : ((n0 : Int) != 16) = false := by simp [bne, g0]
        have g1 : ((n1 : Int) == 12) = true := by rw [beq_iff_eq]; omega
        have g1' : ((n1 : Int) != 12) = false := by simp [bne, g1]
        have g2 : ((n2 : Int) == (n3 : Int)) = false := by rw [beq_eq_false_iff_ne]; omega
        have g2' : ((n2 : Int) != (n3 : Int)) = true := by simp [bne, g2]
        clear q0 q1 q2
        go_wp2_with fail
        go_ret
        exact ⟨rfl, HB2.out⟩
      · have g0 : ((n0 : Int) == 16) = true := by rw [beq_iff_eq]; omega
        have g0' : ((n0 : Int) != 16) = false := by simp [bne, g0]
        have g1 : ((n1 : Int) == 12) = false := by rw [beq_eq_false_iff_ne]; omega
        have g1' : ((n1 : Int) != 12) = true := by simp [bne, g1]
        clear q0 q1
        go_wp2_with fail
        go_ret
        exact ⟨rfl, HB2.out⟩
    · have g0 : ((n0 : Int) == 16) = false := by rw [beq_eq_false_iff_ne]; omega
      have g0' : ((n0 : Int) != 16) = true := by simp [bne, g0]
      clear q0
      go_wp2_with fail
      go_ret
      exact ⟨rfl, HB2.out⟩
theorem GcmTurns_walk (A0 : Option Addr) (n0 c0 : Nat) (l0 : List UInt8) (A1 : Option Addr) (n1 c1 : Nat) (l1 : List UInt8) (A2 : Option Addr) (n2 c2 : Nat) (l2 : List UInt8) (A3 : Option Addr) (n3 c3 : Nat) (l3 : List UInt8) (A4 : Option Addr) (n4 c4 : Nat) (l4 : List UInt8) (w : World) (h0 : RB w w.heap.size A0 n0 l0) (m0 : n0 ≤ c0 ∧ c0 ≤ maxLen) (h1 : RB w w.heap.size A1 n1 l1) (m1 : n1 ≤ c1 ∧ c1 ≤ maxLen) (h2 : RB w w.heap.size A2 n2 l2) (m2 : n2 ≤ c2 ∧ c2 ≤ maxLen) (h3 : RB w w.heap.size A3 n3 l3) (m3 : n3 ≤ c3 ∧ c3 ≤ maxLen) (h4 : RB w w.heap.size A4 n4 l4) (m4 : n4 ≤ c4 ∧ c4 ≤ maxLen) :
    Calls Try.prog 3 #[.slice A0 n0 c0, .slice A1 n1 c1, .slice A2 n2 c2, .slice A3 n3 c3, .slice A4 n4 c4] w fun e w' => e = .returned (.bool true) ∧ Below w.heap.size w w' := by
  by_cases hs : n0 ≠ 16 ∨ n1 ≠ 12 ∨ n2 ≠ n3
  · exact GcmTurns_skip A0 n0 c0 A1 n1 c1 A2 n2 c2 l2 A3 n3 c3 l3 A4 n4 c4 l4 w (gbig_len m0) (gbig_len m1) h2 m2 h3 m3 h4 m4 hs
  · obtain rfl : n0 = 16 := by omega
    obtain rfl : n1 = 12 := by omega
    obtain rfl : n3 = n2 := by omega
    exact GcmTurns_in A0 c0 l0 A1 c1 l1 A2 n3 c2 l2 A3 c3 l3 A4 n4 c4 l4 w h0 m0.1 h1 h2 m2 h3 m3 h4 m4
end Go.Proofs.Ytmpidjadpcpbfaa
