/- GcmParts' walk: what is sealed is the turned text, and its tag; of no text it is the tag alone; failures are counted, whatever is opened between them. No condition. -/
import Derived.Test.YtmpidjadpcpbfaaGcmAlive
import Derived.Test.YtmpidjadpcpbfaaOpen
namespace Go.Proofs.Ytmpidjadpcpbfaa
attribute [local irreducible] wsW keyUpTo keyF lastW turn0 encUp decUp aftL encL tableL blksL blkL strmL putL numL xorL turnAt fstL hkL tagL trnL bB sumG nB sealR openR tagR
open Go.RowKit
set_option linter.unusedVariables false
set_option linter.unusedSimpArgs false

theorem gbig_len {n c : Nat} (h : n ≤ c ∧ c ≤ maxLen) : n ≤ 9223372036854775807 := by unfold maxLen at h; omega
/-- What Open answers, where there are sixteen bytes. -/
theorem open_two (k n s a : List UInt8) (hn : n.length = 12) (hs : 16 ≤ s.length) (hl : s.length ≤ 1000) (hk : k.length = 16) : ∃ (B : List UInt8) (E : Int) (f : Nat), openR k n s a = (B, E) ∧ B.length ≤ 1000 ∧ (f = if E = 13 then 1 else 0) ∧ ((E = 0 ∧ f = 0) ∨ (E = 13 ∧ f = 1)) := by
  unfold openR
  rw [if_pos hn, if_neg (by omega)]
  by_cases h : tagL k n (s.take (s.length - 16)) a = s.drop (s.length - 16)
  · rw [if_pos h]
    exact ⟨_, 0, 0, rfl, by rw [trnL_len k n _ hk hn, List.length_take]; omega, rfl, .inl ⟨rfl, rfl⟩⟩
  · rw [if_neg h]
    exact ⟨[], 13, 1, rfl, by simp, rfl, .inr ⟨rfl, rfl⟩⟩
theorem seal_pair (k n t a : List UInt8) (hn : n.length = 12) : sealR k n t a = (trnL k n t ++ tagL k n (trnL k n t) a, 0) := by
  unfold sealR
  rw [if_pos hn]

set_option maxRecDepth 100000 in
set_option maxHeartbeats 8000000 in
theorem GcmParts_in (A0 : Option Addr) (c0 : Nat) (l0 : List UInt8) (A1 : Option Addr) (c1 : Nat) (l1 : List UInt8) (A2 : Option Addr) (n2 c2 : Nat) (l2 : List UInt8) (A3 : Option Addr) (n3 c3 : Nat) (l3 : List UInt8) (A4 : Option Addr) (n4 c4 : Nat) (l4 : List UInt8) (w : World) (h0 : RB w w.heap.size A0 16 l0) (m0 : 16 ≤ c0) (h1 : RB w w.heap.size A1 12 l1) (h2 : RB w w.heap.size A2 n2 l2) (m2 : n2 ≤ c2 ∧ c2 ≤ maxLen) (h3 : RB w w.heap.size A3 n3 l3) (m3 : n3 ≤ c3 ∧ c3 ≤ maxLen) (h4 : RB w w.heap.size A4 n4 l4) (m4 : n4 ≤ c4 ∧ c4 ≤ maxLen) (h16 : 16 ≤ n4) :
    Calls Try.prog 4 #[.slice A0 16 c0, .slice A1 12 c1, .slice A2 n2 c2, .slice A3 n3 c3, .slice A4 n4 c4] w fun e w' => e = .returned (.bool true) ∧ Below w.heap.size w w' := by
  have e0 := h0.len
  have e1 := h1.len
  have e2 := h2.len
  have e3 := h3.len
  have e4 := h4.len
  have b2 := gbig_len m2
  have b3 := gbig_len m3
  have b4 := gbig_len m4
  have H0 := Lib.hid (And.intro h0 m0)
  have H1 := Lib.hid h1
  have H2 := Lib.hid (And.intro h2 m2)
  have H3 := Lib.hid (And.intro h3 m3)
  have H4 := Lib.hid (And.intro h4 m4)
  obtain ⟨u, HU⟩ : ∃ u, Hid (u = trnL l0 l1 l2 ∧ u.length = n2) := ⟨_, Lib.hid ⟨rfl, by rw [trnL_len l0 l1 l2 e0 e1, e2]⟩⟩
  obtain ⟨g, HG⟩ : ∃ g, Hid (g = tagL l0 l1 u l3 ∧ g.length = 16) := ⟨_, Lib.hid ⟨rfl, tagL_len l0 l1 u l3 e0 e1⟩⟩
  obtain ⟨z, HZ⟩ : ∃ z, Hid (z = tagL l0 l1 [] l3 ∧ z.length = 16) := ⟨_, Lib.hid ⟨rfl, tagL_len l0 l1 [] l3 e0 e1⟩⟩
  have HTN : Hid (trnL l0 l1 [] = []) := Lib.hid (List.eq_nil_of_length_eq_zero (by rw [trnL_len l0 l1 [] e0 e1]; rfl))
  obtain ⟨N, HN⟩ : ∃ N, Hid (N = n2 + 16) := ⟨_, Lib.hid rfl⟩
  have HL : Hid ((u ++ g).length = N ∧ (u ++ g).take n2 = u ∧ (u ++ g).drop n2 = g) := Lib.hid ⟨by rw [List.length_append, HU.out.2, HG.out.2, HN.out], List.take_left' HU.out.2, List.drop_left' HU.out.2⟩
  have HOS : Hid (openR l0 l1 (u ++ g) l3 = (l2, 0)) := Lib.hid (by
    have h := open_seal l0 l1 l2 l3 e0 e1
    rw [seal_pair l0 l1 l2 l3 e1, ← HU.out.1, ← HG.out.1] at h
    exact h)
  have HGR := Lib.hid (great_lit [(A2, c2, l2), (A3, c3, l3), (A4, c4, l4)] #[.slice A2 n2 c2, .slice A3 n3 c3, .slice A4 n4 c4] 3)
  have HE := Lib.hid (And.intro e2 (And.intro e3 e4))
  clear h0 h1 h2 h3 h4 m0 m2 m3 m4 e0 e1 e2 e3 e4
  go_enter Try.func4, Try.ntmps4
  go_wp2_with fail
  refine (alive_any _).mono ?_
  rintro e w1 ⟨rfl, hb1⟩
  have HB1 := Lib.hid hb1
  clear hb1
  go_wp2_with fail
  refine (HGR.out w1 (by simp [HE.out.1, HE.out.2.1, HE.out.2.2]) rfl (by omega) (by
    intro r hr
    simp only [List.mem_cons, List.not_mem_nil, or_false] at hr
    rcases hr with rfl | rfl | rfl
    · dsimp only; rw [HE.out.1]; exact H2.out.1.step HB1.out
    · dsimp only; rw [HE.out.2.1]; exact H3.out.1.step HB1.out
    · dsimp only; rw [HE.out.2.2]; exact H4.out.1.step HB1.out) (by
    intro r hr
    simp only [List.mem_cons, List.not_mem_nil, or_false] at hr
    rcases hr with rfl | rfl | rfl
    · dsimp only; rw [HE.out.1]; exact Nat.le_trans H2.out.2.1 H2.out.2.2
    · dsimp only; rw [HE.out.2.1]; exact Nat.le_trans H3.out.2.1 H3.out.2.2
    · dsimp only; rw [HE.out.2.2]; exact Nat.le_trans H4.out.2.1 H4.out.2.2)).mono ?_
  rintro e w2 ⟨v, rfl, hb2, hv⟩
  have HB2 := Lib.hid (bel_next HB1.out hb2)
  clear hb2 HB1 HGR
  rcases v with _ | _
  case true =>
    clear hv
    go_wp2_with fail
    go_ret
    exact ⟨rfl, HB2.out⟩
  case false =>
    have hv' := hv rfl
    have s2 : n2 ≤ 200 := by have := hv' (A2, c2, l2) (by simp); dsimp only at this; rw [HE.out.1] at this; exact this
    have s3 : n3 ≤ 200 := by have := hv' (A3, c3, l3) (by simp); dsimp only at this; rw [HE.out.2.1] at this; exact this
    have s4 : n4 ≤ 200 := by have := hv' (A4, c4, l4) (by simp); dsimp only at this; rw [HE.out.2.2] at this; exact this
    have hN : N ≤ 216 := by have := HN.out; omega
    have hN2 : n2 + 16 = N := HN.out.symm
    have r0 : (n2 : Int) + 16 = (N : Int) := by omega
    have q4 : decide ((n4 : Int) < 16) = false := decide_eq_false (by omega)
    obtain ⟨B, E, f1, HB⟩ : ∃ B E f, Hid (openR l0 l1 l4 l3 = (B, E) ∧ B.length ≤ 1000 ∧ (f = if E = 13 then 1 else 0) ∧ ((E = 0 ∧ f = 0) ∨ (E = 13 ∧ f = 1))) := by
      obtain ⟨B, E, f, h⟩ := open_two l0 l1 l4 l3 H1.out.len (by rw [HE.out.2.2]; exact h16) (by rw [HE.out.2.2]; omega) H0.out.1.len
      exact ⟨B, E, f, Lib.hid h⟩
    obtain ⟨M, HM⟩ : ∃ M, Hid (B.length = M) := ⟨_, Lib.hid rfl⟩
    have hf1 : f1 ≤ 1 := by rcases HB.out.2.2.2 with ⟨_, h⟩ | ⟨_, h⟩ <;> omega
    clear hv hv' hN2
    go_wp2_with fail
    refine (gnew_any A0 c0 l0 _ (by exact H0.out.1.step HB2.out) H0.out.2).mono ?_
    intro e w3 hx
    obtain ⟨p, rfl, hpk, hk3⟩ := KG.start HB2.out hx
    have HPK := Lib.hid hpk
    have HK3 := Lib.hid ((((hk3.arg H1.out).arg H2.out.1).arg H3.out.1).arg H4.out.1)
    clear hx hk3 hpk HB2
    go_wp2_with fail
    refine (gseal_any p 1 0 A1 A2 A3 c1 n2 c2 n3 c3 l1 l2 l3 _ (by exact HK3.out.box) (by omega) (by exact (HK3.out.row (A1, 12, l1) (by simp)).1) (by exact (HK3.out.row (A2, n2, l2) (by simp)).1) (by exact (HK3.out.row (A3, n3, l3) (by simp)).1) H3.out.2.1 (by exact (HK3.out.row (A3, n3, l3) (by simp)).2) (by omega) (by omega)).mono ?_
    intro e w4 hr
    obtain ⟨A5, c5, rfl, hk4, ho4⟩ := HK3.out.ret (hr.to 0 N (u ++ g) 0 rfl (by rw [HPK.out, ← HU.out.1, ← HG.out.1]) HL.out.1)
    have HC5 := Lib.hid ho4.cap.1
    have HK6 := Lib.hid ((hk4.head (A := A5) (N := N) (l := u ++ g) (c := c5) (m := n2) (by simp) (by have := HN.out; omega) HC5.out (by have := HN.out; omega) HL.out.2.1).tail (A := A5) (N := N) (l := u ++ g) (c := c5) (i := n2) (M := 16) (by simp) HN.out.symm HC5.out (by have := HN.out; omega) HL.out.2.2)
    clear hr hk4 ho4 HK3
    have hcut := cut_h A5 N c5 n2 (by have := HN.out; have := HC5.out; omega)
    have hcutl := cut_l A5 N c5 n2 (by have := HN.out; omega)
    rw [show N - n2 = 16 by have := HN.out; omega] at hcutl
    go_wp2_with fail
    refine (gtag_any p 2 0 A1 (cutA A5 c5 0) A3 c1 n2 c5 n3 c3 l1 u l3 _ (by exact HK6.out.box) (by omega) (by exact (HK6.out.row (A1, 12, l1) (by simp)).1) (by exact (HK6.out.row (cutA A5 c5 0, n2, u) (by simp)).1) (by exact (HK6.out.row (A3, n3, l3) (by simp)).1) (by have := HN.out; have := HC5.out; omega) H3.out.2.1 (by exact (HK6.out.row (cutA A5 c5 0, n2, u) (by simp)).2) (by exact (HK6.out.row (A3, n3, l3) (by simp)).2) (by omega) (by omega)).mono ?_
    intro e w7 hr
    obtain ⟨A7, c7, rfl, hk7, ho7⟩ := HK6.out.ret (hr.to 0 16 g 0 rfl (by rw [HPK.out, ← HG.out.1]) HG.out.2)
    have HK7 := Lib.hid hk7
    clear hr hk7 ho7 HK6 hcut
    go_wp2_with fail
    refine (gseal_any p 3 0 A1 none A3 c1 0 0 n3 c3 l1 [] l3 _ (by exact HK7.out.box) (by omega) (by exact (HK7.out.row (A1, 12, l1) (by simp)).1) (RB.nil_) (by exact (HK7.out.row (A3, n3, l3) (by simp)).1) H3.out.2.1 (by exact (HK7.out.row (A3, n3, l3) (by simp)).2) (by omega) (by omega)).mono ?_
    intro e w8 hr
    obtain ⟨A8, c8, rfl, hk8, ho8⟩ := HK7.out.ret (hr.to 0 16 z 0 rfl (by rw [HPK.out, HTN.out, List.nil_append, ← HZ.out.1]) HZ.out.2)
    have HK8 := Lib.hid hk8
    clear hr hk8 ho8 HK7
    go_wp2_with fail
    refine (gtag_any p 4 0 A1 none A3 c1 0 0 n3 c3 l1 [] l3 _ (by exact HK8.out.box) (by omega) (by exact (HK8.out.row (A1, 12, l1) (by simp)).1) (RB.nil_) (by exact (HK8.out.row (A3, n3, l3) (by simp)).1) (by omega) H3.out.2.1 (fun h => absurd h (by omega)) (by exact (HK8.out.row (A3, n3, l3) (by simp)).2) (by omega) (by omega)).mono ?_
    intro e w9 hr
    obtain ⟨A9, c9, rfl, hk9, ho9⟩ := HK8.out.ret (hr.to 0 16 z 0 rfl (by rw [HPK.out, ← HZ.out.1]) HZ.out.2)
    have HK9 := Lib.hid hk9
    clear hr hk9 ho9 HK8
    go_wp2_with fail
    refine (al_same A7 _ 16 c7 16 _ g g _ (by exact (HK9.out.row (A7, 16, g) (by simp)).1) (by exact (HK9.out.row (cutA A5 c5 n2, 16, g) (by simp)).1) (by unfold maxLen; omega) (by unfold maxLen; omega) true (by simp)).mono ?_
    rintro e w10 ⟨rfl, hb10⟩
    have HK10 := Lib.hid (HK9.out.step hb10)
    clear hb10 HK9 hcutl
    go_wp2_with fail
    refine (al_same A8 A9 16 c8 16 c9 z z _ (by exact (HK10.out.row (A8, 16, z) (by simp)).1) (by exact (HK10.out.row (A9, 16, z) (by simp)).1) (by unfold maxLen; omega) (by unfold maxLen; omega) true (by simp)).mono ?_
    rintro e w11 ⟨rfl, hb11⟩
    have HK11 := Lib.hid (HK10.out.step hb11)
    clear hb11 HK10
    go_wp2_with fail
    refine (gfailed_any p 5 0 _ (by exact HK11.out.box)).mono ?_
    rintro e w12 ⟨rfl, rfl⟩
    go_wp2_with fail
    refine (gopen_r p 5 0 A1 A4 A3 12 c1 n4 c4 n3 c3 l1 l4 l3 _ (by exact HK11.out.box) (by omega) (by omega) (by exact (HK11.out.row (A1, 12, l1) (by simp)).1) (by exact (HK11.out.row (A4, n4, l4) (by simp)).1) (by exact (HK11.out.row (A3, n3, l3) (by simp)).1) H4.out.2.1 H3.out.2.1 (by exact (HK11.out.row (A1, 12, l1) (by simp)).2) (by exact (HK11.out.row (A4, n4, l4) (by simp)).2) (by exact (HK11.out.row (A3, n3, l3) (by simp)).2) (by omega) (by omega)).mono ?_
    intro e w13 hr
    obtain ⟨A13, c13, rfl, hk13, ho13⟩ := HK11.out.ret (hr.to f1 M B E (by rw [HPK.out, HB.out.1, HB.out.2.2.1, Nat.zero_add]) (by rw [HPK.out, HB.out.1]) HM.out)
    have HK13 := Lib.hid hk13
    clear hr hk13 ho13 HK11
    go_wp2_with fail
    refine (gopen_r p 6 f1 A1 A5 A3 12 c1 N c5 n3 c3 l1 (u ++ g) l3 _ (by exact HK13.out.box) (by omega) (by omega) (by exact (HK13.out.row (A1, 12, l1) (by simp)).1) (by exact (HK13.out.row (A5, N, u ++ g) (by simp)).1) (by exact (HK13.out.row (A3, n3, l3) (by simp)).1) HC5.out H3.out.2.1 (by exact (HK13.out.row (A1, 12, l1) (by simp)).2) (by exact (HK13.out.row (A5, N, u ++ g) (by simp)).2) (by exact (HK13.out.row (A3, n3, l3) (by simp)).2) (by omega) (by omega)).mono ?_
    intro e w14 hr
    obtain ⟨A14, c14, rfl, hk14, ho14⟩ := HK13.out.ret (hr.to f1 n2 l2 0 (by rw [HPK.out, HOS.out]; rfl) (by rw [HPK.out, HOS.out]) HE.out.1)
    have HK14 := Lib.hid hk14
    clear hr hk14 ho14 HK13
    go_wp2_with fail
    refine (gopen_r p 7 f1 A1 A4 A3 12 c1 n4 c4 n3 c3 l1 l4 l3 _ (by exact HK14.out.box) (by omega) (by omega) (by exact (HK14.out.row (A1, 12, l1) (by simp)).1) (by exact (HK14.out.row (A4, n4, l4) (by simp)).1) (by exact (HK14.out.row (A3, n3, l3) (by simp)).1) H4.out.2.1 H3.out.2.1 (by exact (HK14.out.row (A1, 12, l1) (by simp)).2) (by exact (HK14.out.row (A4, n4, l4) (by simp)).2) (by exact (HK14.out.row (A3, n3, l3) (by simp)).2) (by omega) (by omega)).mono ?_
    intro e w15 hr
    obtain ⟨A15, c15, rfl, hk15, ho15⟩ := HK14.out.ret (hr.to (f1 + f1) M B E (by rw [HPK.out, HB.out.1, HB.out.2.2.1]) (by rw [HPK.out, HB.out.1]) HM.out)
    have HK15 := Lib.hid hk15
    clear hr hk15 ho15 HK14
    have hEE := HB.out.2.2.2
    clear HB hf1
    rcases hEE with ⟨rfl, rfl⟩ | ⟨rfl, rfl⟩
    · go_wp2_with fail
      refine (gfailed_any p 8 0 _ (by exact HK15.out.box)).mono ?_
      rintro e w16 ⟨rfl, rfl⟩
      go_wp2_with fail
      go_ret
      exact ⟨rfl, HK15.out.bel⟩
    · go_wp2_with fail
      refine (gfailed_any p 8 2 _ (by exact HK15.out.box)).mono ?_
      rintro e w16 ⟨rfl, rfl⟩
      go_wp2_with fail
      go_ret
      exact ⟨rfl, HK15.out.bel⟩
set_option maxRecDepth 100000 in
set_option maxHeartbeats 4000000 in
theorem GcmParts_skip (A0 : Option Addr) (n0 c0 : Nat) (A1 : Option Addr) (n1 c1 : Nat) (A2 : Option Addr) (n2 c2 : Nat) (l2 : List UInt8) (A3 : Option Addr) (n3 c3 : Nat) (l3 : List UInt8) (A4 : Option Addr) (n4 c4 : Nat) (l4 : List UInt8) (w : World) (b0 : n0 ≤ 9223372036854775807) (b1 : n1 ≤ 9223372036854775807) (h2 : RB w w.heap.size A2 n2 l2) (m2 : n2 ≤ c2 ∧ c2 ≤ maxLen) (h3 : RB w w.heap.size A3 n3 l3) (m3 : n3 ≤ c3 ∧ c3 ≤ maxLen) (h4 : RB w w.heap.size A4 n4 l4) (m4 : n4 ≤ c4 ∧ c4 ≤ maxLen) (h : n0 ≠ 16 ∨ n1 ≠ 12 ∨ n4 < 16) :
    Calls Try.prog 4 #[.slice A0 n0 c0, .slice A1 n1 c1, .slice A2 n2 c2, .slice A3 n3 c3, .slice A4 n4 c4] w fun e w' => e = .returned (.bool true) ∧ Below w.heap.size w w' := by
  have e2 := h2.len
  have e3 := h3.len
  have e4 := h4.len
  have b2 := gbig_len m2
  have b3 := gbig_len m3
  have b4 := gbig_len m4
  have H2 := Lib.hid (And.intro h2 m2)
  have H3 := Lib.hid (And.intro h3 m3)
  have H4 := Lib.hid (And.intro h4 m4)
  have HGR := Lib.hid (great_lit [(A2, c2, l2), (A3, c3, l3), (A4, c4, l4)] #[.slice A2 n2 c2, .slice A3 n3 c3, .slice A4 n4 c4] 3)
  have HE := Lib.hid (And.intro e2 (And.intro e3 e4))
  have HH := Lib.hid h
  clear h2 h3 h4 m2 m3 m4 e2 e3 e4 h
  go_enter Try.func4, Try.ntmps4
  go_wp2_with fail
  refine (alive_any _).mono ?_
  rintro e w1 ⟨rfl, hb1⟩
  have HB1 := Lib.hid hb1
  clear hb1
  go_wp2_with fail
  refine (HGR.out w1 (by simp [HE.out.1, HE.out.2.1, HE.out.2.2]) rfl (by omega) (by
    intro r hr
    simp only [List.mem_cons, List.not_mem_nil, or_false] at hr
    rcases hr with rfl | rfl | rfl
    · dsimp only; rw [HE.out.1]; exact H2.out.1.step HB1.out
    · dsimp only; rw [HE.out.2.1]; exact H3.out.1.step HB1.out
    · dsimp only; rw [HE.out.2.2]; exact H4.out.1.step HB1.out) (by
    intro r hr
    simp only [List.mem_cons, List.not_mem_nil, or_false] at hr
    rcases hr with rfl | rfl | rfl
    · dsimp only; rw [HE.out.1]; exact Nat.le_trans H2.out.2.1 H2.out.2.2
    · dsimp only; rw [HE.out.2.1]; exact Nat.le_trans H3.out.2.1 H3.out.2.2
    · dsimp only; rw [HE.out.2.2]; exact Nat.le_trans H4.out.2.1 H4.out.2.2)).mono ?_
  rintro e w2 ⟨v, rfl, hb2, hv⟩
  have HB2 := Lib.hid (bel_next HB1.out hb2)
  clear hb2 HB1 HGR hv
  rcases v with _ | _
  case true =>
    go_wp2_with fail
    go_ret
    exact ⟨rfl, HB2.out⟩
  case false =>
    by_cases q0 : n0 = 16
    · by_cases q1 : n1 = 12
      · have q2 : n4 < 16 := by have := HH.out; omega
        have g0 : ((n0 : Int) == 16) = true := by rw [beq_iff_eq]; omega
        have g0' : ((n0 : Int) != 16) = false := by simp [bne, g0]
        have g1 : ((n1 : Int) == 12) = true := by rw [beq_iff_eq]; omega
        have g1' : ((n1 : Int) != 12) = false := by simp [bne, g1]
        have g2 : decide ((n4 : Int) < 16) = true := decide_eq_true (by omega)
        clear q0 q1 q2
        go_wp2_with fail
        go_ret
        exact ⟨rfl, HB2.out⟩
      · have g0 : ((n0 : Int) == 16) = true := by rw [beq_iff_eq]; omega
        have g0' : ((n0 : Int) != 16) = false := by simp [bne, g0]
        have g1 : ((n1 : Int) == 12) = false := by rw [beq_eq_false_iff_ne]; omega
        have g1' : ((n1 : Int) != 12) = true := by simp [bne, g1]
        clear q0 q1
        go_wp2_with fail
        go_ret
        exact ⟨rfl, HB2.out⟩
    · have g0 : ((n0 : Int) == 16) = false := by rw [beq_eq_false_iff_ne]; omega
      have g0' : ((n0 : Int) != 16) = true := by simp [bne, g0]
      clear q0
      go_wp2_with fail
      go_ret
      exact ⟨rfl, HB2.out⟩
theorem GcmParts_walk (A0 : Option Addr) (n0 c0 : Nat) (l0 : List UInt8) (A1 : Option Addr) (n1 c1 : Nat) (l1 : List UInt8) (A2 : Option Addr) (n2 c2 : Nat) (l2 : List UInt8) (A3 : Option Addr) (n3 c3 : Nat) (l3 : List UInt8) (A4 : Option Addr) (n4 c4 : Nat) (l4 : List UInt8) (w : World) (h0 : RB w w.heap.size A0 n0 l0) (m0 : n0 ≤ c0 ∧ c0 ≤ maxLen) (h1 : RB w w.heap.size A1 n1 l1) (m1 : n1 ≤ c1 ∧ c1 ≤ maxLen) (h2 : RB w w.heap.size A2 n2 l2) (m2 : n2 ≤ c2 ∧ c2 ≤ maxLen) (h3 : RB w w.heap.size A3 n3 l3) (m3 : n3 ≤ c3 ∧ c3 ≤ maxLen) (h4 : RB w w.heap.size A4 n4 l4) (m4 : n4 ≤ c4 ∧ c4 ≤ maxLen) :
    Calls Try.prog 4 #[.slice A0 n0 c0, .slice A1 n1 c1, .slice A2 n2 c2, .slice A3 n3 c3, .slice A4 n4 c4] w fun e w' => e = .returned (.bool true) ∧ Below w.heap.size w w' := by
  by_cases hs : n0 ≠ 16 ∨ n1 ≠ 12 ∨ n4 < 16
  · exact GcmParts_skip A0 n0 c0 A1 n1 c1 A2 n2 c2 l2 A3 n3 c3 l3 A4 n4 c4 l4 w (gbig_len m0) (gbig_len m1) h2 m2 h3 m3 h4 m4 hs
  · obtain rfl : n0 = 16 := by omega
    obtain rfl : n1 = 12 := by omega
    exact GcmParts_in A0 c0 l0 A1 c1 l1 A2 n2 c2 l2 A3 n3 c3 l3 A4 n4 c4 l4 w h0 m0.1 h1 h2 m2 h3 m3 h4 m4 (by omega)
end Go.Proofs.Ytmpidjadpcpbfaa
