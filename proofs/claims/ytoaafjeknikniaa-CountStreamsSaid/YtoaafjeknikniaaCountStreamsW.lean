/- CountStreams' walk: every Stream and Turn answers what the document says. No condition. -/
import Derived.Test.YtoaafjeknikniaaCountAlive
import Derived.Test.YtoaafjeknikniaaOpen
namespace Go.Proofs.Ytoaafjeknikniaa
attribute [local irreducible] wsW keyUpTo keyF lastW turn0 encUp decUp aftL encL tableL blksL blkL strmL putL numL xorL
open Go.RowKit
set_option linter.unusedVariables false

theorem big_len {n c : Nat} (h : n ≤ c ∧ c ≤ maxLen) : n ≤ 9223372036854775807 := by unfold maxLen at h; omega
/-- Bytes that are read, and an error's number. -/
def RetX (m : Nat) (l : List UInt8) (code : Int) (w : World) (e : Ending) (w' : World) : Prop :=
  ∃ A c, e = .returned (.tuple #[.slice A m c, .int .i64 code]) ∧ RB w' w'.heap.size A m l ∧ (m ≤ c ∧ c ≤ maxLen) ∧ Below w.heap.size w w'
theorem RetX.nil_ {w w' : World} {e : Ending} (h : e = .returned (.tuple #[.slice none 0 0, .int .i64 11]) ∧ w = w') : RetX 0 [] 11 w e w' := by
  obtain ⟨he, rfl⟩ := h
  exact ⟨none, 0, he, RB.nil_, ⟨Nat.le_refl _, by unfold maxLen; omega⟩, Below.refl _ _⟩
theorem RetX.of {n : Nat} {l : List UInt8} {w w' : World} {e : Ending} (h : RetBE n l 0 w e w') : RetX n l 0 w e w' := by
  obtain ⟨A, c, he, ho, hb⟩ := h
  exact ⟨A, c, he, ho.rb, ho.cap, hb⟩
set_option maxRecDepth 100000 in
set_option maxHeartbeats 2000000 in
theorem rturn_bad (A0 A1 A2 : Option Addr) (n0 c0 n1 c1 n2 c2 : Nat) (w : World) (hb : n0 ≠ 16 ∨ n1 ≠ 16) :
    Calls Try.prog 14 #[.slice A0 n0 c0, .slice A1 n1 c1, .slice A2 n2 c2] w fun e w' => e = .returned (.tuple #[.slice none 0 0, .int .i64 11]) ∧ w = w' := by
  by_cases h0 : n0 = 16
  · have h1 : n1 ≠ 16 := by omega
    have hd : ((n0 : Int) == 16) = true := by rw [beq_iff_eq]; omega
    have hd0 : ((n0 : Int) != 16) = false := by simp [bne, hd]
    have hd1 : ((n1 : Int) == 16) = false := by rw [beq_eq_false_iff_ne]; omega
    have hd2 : ((n1 : Int) != 16) = true := by simp [bne, hd1]
    clear hb h0 h1
    go_enter Try.func14, Try.ntmps14
    go_wp2_with fail
    go_ret2
    exact ⟨rfl, rfl⟩
  · have hd1 : ((n0 : Int) == 16) = false := by rw [beq_eq_false_iff_ne]; omega
    have hd2 : ((n0 : Int) != 16) = true := by simp [bne, hd1]
    clear hb h0
    go_enter Try.func14, Try.ntmps14
    go_wp2_with fail
    go_ret2
    exact ⟨rfl, rfl⟩
/-- Both Turns answer alike. -/
theorem turns_alike (A0 A1 A2 : Option Addr) (n0 c0 n1 c1 n2 c2 : Nat) (l0 l1 l2 : List UInt8) (w : World) (h0 : RB w w.heap.size A0 n0 l0) (m0 : n0 ≤ c0) (h1 : RB w w.heap.size A1 n1 l1) (m1 : n1 ≤ c1) (h2 : RB w w.heap.size A2 n2 l2) (hn : n2 ≤ 200) :
    ∃ m l code, m ≤ 200 ∧ (∀ v A c, Below w.heap.size w v → RB v v.heap.size A n2 l2 → Calls Try.prog 13 #[.slice A0 n0 c0, .slice A1 n1 c1, .slice A n2 c] v (RetX m l code v)) ∧
      (∀ v, Below w.heap.size w v → Calls Try.prog 14 #[.slice A0 n0 c0, .slice A1 n1 c1, .slice A2 n2 c2] v (RetX m l code v)) := by
  by_cases h : n0 = 16 ∧ n1 = 16
  · obtain ⟨rfl, rfl⟩ := h
    exact ⟨n2, xorL (strmL l0 l1 n2) l2, 0, hn, fun v A c hb hr => (cturn_any A0 A1 A c0 c1 n2 c l0 l1 l2 v (h0.step hb) m0 (h1.step hb) m1 hr (by omega)).mono fun e w' k => RetX.of k,
      fun v hb => (rturn_any A0 A1 A2 c0 c1 n2 c2 l0 l1 l2 v (h0.step hb) m0 (h1.step hb) (h2.step hb) (by omega)).mono fun e w' k => RetX.of k⟩
  · exact ⟨0, [], 11, by omega, fun v A c hb hr => (cturn_bad A0 A1 A n0 c0 n1 c1 n2 c v (by unfold maxLen; omega) (by omega)).mono fun e w' k => RetX.nil_ k,
      fun v hb => (rturn_bad A0 A1 A2 n0 c0 n1 c1 n2 c2 v (by omega)).mono fun e w' k => RetX.nil_ k⟩
/-- Stream, whatever it is asked. -/
theorem stream_all (A0 A1 : Option Addr) (n0 c0 n1 c1 : Nat) (l0 l1 : List UInt8) (x : Int) (w : World) (h0 : RB w w.heap.size A0 n0 l0) (m0 : n0 ≤ c0) (h1 : RB w w.heap.size A1 n1 l1) (m1 : n1 ≤ c1) (hx : -9223372036854775808 ≤ x ∧ x ≤ 9223372036854775807) :
    ∃ m l code, (∀ v, Below w.heap.size w v → Calls Try.prog 15 #[.slice A0 n0 c0, .slice A1 n1 c1, .int .i64 x] v (RetX m l code v)) ∧
      ((n0 ≠ 16 ∨ n1 ≠ 16 ∨ x < 0 ∨ 65535 < x) → m = 0 ∧ code = 11) ∧ (∀ n : Nat, n0 = 16 → n1 = 16 → x = (n : Int) → n ≤ 65535 → m = n ∧ code = 0 ∧ l = strmL l0 l1 n) := by
  by_cases h : n0 ≠ 16 ∨ n1 ≠ 16 ∨ x < 0 ∨ 65535 < x
  · exact ⟨0, [], 11, fun v hb => (stream_bad A0 A1 n0 c0 n1 c1 x v hx h).mono fun e w' k => RetX.nil_ k, fun _ => ⟨rfl, rfl⟩, fun n e0 e1 e2 e3 => by omega⟩
  · obtain ⟨n, rfl⟩ := Int.eq_ofNat_of_zero_le (show 0 ≤ x by omega)
    obtain rfl : n0 = 16 := by omega
    obtain rfl : n1 = 16 := by omega
    exact ⟨n, strmL l0 l1 n, 0, fun v hb => stream_any A0 A1 c0 c1 n l0 l1 v (h0.step hb) m0 (h1.step hb) m1 (by omega), fun k => absurd k h, fun n' _ _ e _ => by
      obtain rfl : n = n' := by omega
      exact ⟨rfl, rfl, rfl⟩⟩

set_option maxRecDepth 100000 in
set_option maxHeartbeats 4000000 in
theorem CountStreams_skip (A0 : Option Addr) (n0 c0 : Nat) (A1 : Option Addr) (n1 c1 : Nat) (A2 : Option Addr) (n2 c2 : Nat) (x3 : Int) (w : World) (b0 : n0 ≤ 9223372036854775807) (b1 : n1 ≤ 9223372036854775807) (b2 : n2 ≤ 9223372036854775807)
    (h : 100 < n0 ∨ (¬ 100 < n0 ∧ 100 < n1) ∨ (¬ 100 < n0 ∧ ¬ 100 < n1 ∧ 200 < n2) ∨ (¬ 100 < n0 ∧ ¬ 100 < n1 ∧ ¬ 200 < n2 ∧ 200 < x3 ∧ x3 ≤ 65535)) :
    Calls Try.prog 4 #[.slice A0 n0 c0, .slice A1 n1 c1, .slice A2 n2 c2, .int .i64 x3] w fun e w' => e = .returned (.bool true) ∧ Below w.heap.size w w' := by
  obtain ⟨v0, hv0⟩ : ∃ v, decide (100 < (n0 : Int)) = v := ⟨_, rfl⟩
  obtain ⟨v1, hv1⟩ : ∃ v, decide (100 < (n1 : Int)) = v := ⟨_, rfl⟩
  obtain ⟨v2, hv2⟩ : ∃ v, decide (200 < (n2 : Int)) = v := ⟨_, rfl⟩
  rcases h with h | ⟨h, h'⟩ | ⟨h, h', h''⟩ | ⟨h, h', h'', h3, h4⟩
  · obtain rfl : v0 = true := by rw [← hv0]; exact decide_eq_true (by omega)
    go_enter Try.func4, Try.ntmps4
    go_wp2_with fail
    refine (alive_any _).mono ?_
    rintro e w1 ⟨rfl, hb1⟩
    go_wp2_with fail
    go_ret
    exact ⟨rfl, hb1⟩
  · obtain rfl : v0 = false := by rw [← hv0]; exact decide_eq_false (by omega)
    obtain rfl : v1 = true := by rw [← hv1]; exact decide_eq_true (by omega)
    go_enter Try.func4, Try.ntmps4
    go_wp2_with fail
    refine (alive_any _).mono ?_
    rintro e w1 ⟨rfl, hb1⟩
    go_wp2_with fail
    go_ret
    exact ⟨rfl, hb1⟩
  · obtain rfl : v0 = false := by rw [← hv0]; exact decide_eq_false (by omega)
    obtain rfl : v1 = false := by rw [← hv1]; exact decide_eq_false (by omega)
    obtain rfl : v2 = true := by rw [← hv2]; exact decide_eq_true (by omega)
    go_enter Try.func4, Try.ntmps4
    go_wp2_with fail
    refine (alive_any _).mono ?_
    rintro e w1 ⟨rfl, hb1⟩
    go_wp2_with fail
    go_ret
    exact ⟨rfl, hb1⟩
  · obtain rfl : v0 = false := by rw [← hv0]; exact decide_eq_false (by omega)
    obtain rfl : v1 = false := by rw [← hv1]; exact decide_eq_false (by omega)
    obtain rfl : v2 = false := by rw [← hv2]; exact decide_eq_false (by omega)
    have h3' : decide (200 < x3) = true := decide_eq_true h3
    have h4' : decide (x3 ≤ 65535) = true := decide_eq_true h4
    go_enter Try.func4, Try.ntmps4
    go_wp2_with fail
    refine (alive_any _).mono ?_
    rintro e w1 ⟨rfl, hb1⟩
    go_wp2_with fail
    go_ret
    exact ⟨rfl, hb1⟩

set_option maxRecDepth 100000 in
set_option maxHeartbeats 4000000 in
theorem CountStreams_in (A0 : Option Addr) (n0 c0 : Nat) (l0 : List UInt8) (A1 : Option Addr) (n1 c1 : Nat) (l1 : List UInt8) (A2 : Option Addr) (n2 c2 : Nat) (l2 : List UInt8) (x3 : Int) (w : World) (h0 : RB w w.heap.size A0 n0 l0) (m0 : n0 ≤ c0) (h1 : RB w w.heap.size A1 n1 l1) (m1 : n1 ≤ c1) (h2 : RB w w.heap.size A2 n2 l2) (b3 : -9223372036854775808 ≤ x3 ∧ x3 ≤ 9223372036854775807)
    (hd0 : decide (100 < (n0 : Int)) = false) (hd1 : decide (100 < (n1 : Int)) = false) (hd2 : decide (200 < (n2 : Int)) = false) (hd3 : decide (200 < x3) = false ∨ (decide (200 < x3) = true ∧ decide (x3 ≤ 65535) = false)) :
    Calls Try.prog 4 #[.slice A0 n0 c0, .slice A1 n1 c1, .slice A2 n2 c2, .int .i64 x3] w fun e w' => e = .returned (.bool true) ∧ Below w.heap.size w w' := by
  have u0 : n0 ≤ 100 := by have := of_decide_eq_false hd0; omega
  have u1 : n1 ≤ 100 := by have := of_decide_eq_false hd1; omega
  have u2 : n2 ≤ 200 := by have := of_decide_eq_false hd2; omega
  have u3 : x3 ≤ 200 ∨ 65535 < x3 := by rcases hd3 with h | ⟨_, h⟩ <;> have := of_decide_eq_false h <;> omega
  obtain ⟨m, l, code, hm, ht, hrt⟩ := turns_alike A0 A1 A2 n0 c0 n1 c1 n2 c2 l0 l1 l2 w h0 m0 h1 m1 h2 u2
  obtain ⟨m', l', code', hs, hbad, hgood⟩ := stream_all A0 A1 n0 c0 n1 c1 l0 l1 x3 w h0 m0 h1 m1 b3
  have H0 := Lib.hid h0
  have H1 := Lib.hid h1
  have H2 := Lib.hid h2
  have HT := Lib.hid ht
  have HRT := Lib.hid hrt
  have HS := Lib.hid hs
  have HBAD := Lib.hid hbad
  have HGOOD := Lib.hid hgood
  have M0 := Lib.hid m0
  have U3 := Lib.hid u3
  clear h0 h1 h2 ht hrt hs hbad hgood m0 m1 u3
  rcases hd3 with hd3 | ⟨hd3, hd4⟩
  all_goals
    go_enter Try.func4, Try.ntmps4
    go_wp2_with fail
    refine (alive_any _).mono ?_
    rintro e w1 ⟨rfl, hb1⟩
    have HB1 := Lib.hid hb1
    clear hb1
    go_wp2_with fail
    refine (copy_any A2 n2 c2 0 l2 _ (by exact H2.out.step HB1.out) (by omega)).mono ?_
    rintro e w2 ⟨A5, c5, rfl, ho5, hb5⟩
    have HR5 := Lib.hid ho5.rb
    have HB2 := Lib.hid (bel_next HB1.out hb5)
    clear ho5 hb5
    go_wp2_with fail
    refine (HT.out _ A5 c5 (by exact HB2.out) (by exact HR5.out)).mono ?_
    rintro e w3 ⟨A6, c6, rfl, hr6, hc6, hb6⟩
    have HR6 := Lib.hid hr6
    have HR53 := Lib.hid (HR5.out.step hb6)
    have HB3 := Lib.hid (bel_next HB2.out hb6)
    clear hr6 hb6 hc6 HT
    go_wp2_with fail
    refine (HRT.out _ (by exact HB3.out)).mono ?_
    rintro e w4 ⟨A7, c7, rfl, hr7, hc7, hb7⟩
    have HR7 := Lib.hid hr7
    have HR64 := Lib.hid (HR6.out.step hb7)
    have HR54 := Lib.hid (HR53.out.step hb7)
    have HB4 := Lib.hid (bel_next HB3.out hb7)
    clear hr7 hb7 hc7 HRT
    go_wp2_with fail
    refine (HS.out _ (by exact HB4.out)).mono ?_
    rintro e w5 ⟨A8, c8, rfl, hr8, hc8, hb8⟩
    have HR8 := Lib.hid hr8
    have HR75 := Lib.hid (HR7.out.step hb8)
    have HR65 := Lib.hid (HR64.out.step hb8)
    have HR55 := Lib.hid (HR54.out.step hb8)
    have HB5 := Lib.hid (bel_next HB4.out hb8)
    clear hr8 hb8 hc8 HS
    go_wp2_with fail
    refine (al_same A6 A7 m c6 m c7 l l _ (by exact HR65.out) (by exact HR75.out) (by unfold maxLen; omega) (by unfold maxLen; omega) true (by simp)).mono ?_
    rintro e w6 ⟨rfl, hb9⟩
    have HR86 := Lib.hid (HR8.out.step hb9)
    have HR56 := Lib.hid (HR55.out.step hb9)
    have HB6 := Lib.hid (bel_next HB5.out hb9)
    clear hb9 HR8 HR55 HR65 HR75
    go_wp2_with fail
    refine (al_same A5 A2 n2 c5 n2 c2 l2 l2 _ (by exact HR56.out) (by exact H2.out.step HB6.out) (by unfold maxLen; omega) (by unfold maxLen; omega) true (by simp)).mono ?_
    rintro e w7 ⟨rfl, hb10⟩
    have HR87 := Lib.hid (HR86.out.step hb10)
    have HB7 := Lib.hid (bel_next HB6.out hb10)
    clear hb10 HR86 HR56
    by_cases g1 : x3 < 0
    · obtain ⟨rfl, rfl⟩ := HBAD.out (.inr (.inr (.inl g1)))
      have g1' : decide (x3 < 0) = true := decide_eq_true g1
      go_wp2_with fail
      go_ret
      exact ⟨rfl, HB7.out⟩
    · have g1' : decide (x3 < 0) = false := decide_eq_false g1
      by_cases g2 : 65535 < x3
      · obtain ⟨rfl, rfl⟩ := HBAD.out (.inr (.inr (.inr g2)))
        have g2' : decide (65535 < x3) = true := decide_eq_true g2
        go_wp2_with fail
        go_ret
        exact ⟨rfl, HB7.out⟩
      · have g2' : decide (65535 < x3) = false := decide_eq_false g2
        by_cases g3 : n0 = 16
        · have g3' : ((n0 : Int) == 16) = true := by rw [beq_iff_eq]; omega
          have g3'' : ((n0 : Int) != 16) = false := by simp [bne, g3']
          by_cases g4 : n1 = 16
          · have g4' : ((n1 : Int) == 16) = true := by rw [beq_iff_eq]; omega
            have g4'' : ((n1 : Int) != 16) = false := by simp [bne, g4']
            obtain ⟨n, hxn⟩ := Int.eq_ofNat_of_zero_le (show 0 ≤ x3 by omega)
            have hn : n ≤ 65535 := by omega
            have hn2 : n ≤ 200 := by have := U3.out; omega
            obtain ⟨rfl, rfl, rfl⟩ := HGOOD.out n g3 g4 hxn hn
            have HRS : Hid (∀ v, Below w.heap.size w v → Calls Try.prog 16 #[.slice A0 n0 c0, .slice A1 n1 c1, .int .i64 x3] v fun e w' => ∃ g c, e = .returned (.slice (some ⟨g, 0, none⟩) m' c) ∧ OwnB w' v.heap.size (some ⟨g, 0, none⟩) m' c (strmL l0 l1 m') ∧ Below v.heap.size v w') := Lib.hid (fun v hb => by
              have k0 := H0.out.step hb
              have k1 := H1.out.step hb
              have km := M0.out
              rw [hxn]
              rw [g3] at k0 km ⊢
              rw [g4] at k1 ⊢
              exact rstream_any A0 A1 c0 c1 m' l0 l1 v k0 km k1 (by omega))
            obtain ⟨L, HL⟩ : ∃ L, Hid (L = strmL l0 l1 m') := ⟨_, Lib.hid rfl⟩
            rw [← HL.out] at HR87 HRS
            clear g1 g2 g3 g4 hxn
            go_wp2_with fail
            refine (HRS.out _ (by exact HB7.out)).mono ?_
            rintro e w8 ⟨g9, c9, rfl, ho9, hb11⟩
            have HR9 := Lib.hid ho9.rb
            have HR88 := Lib.hid (HR87.out.step hb11)
            have HB8 := Lib.hid (bel_next HB7.out hb11)
            clear ho9 hb11 HR87
            go_wp2_with fail
            refine (al_same A8 _ m' c8 m' c9 L L _ (by exact HR88.out) (by exact HR9.out) (by unfold maxLen; omega) (by unfold maxLen; omega) true (by simp)).mono ?_
            rintro e w9 ⟨rfl, hb12⟩
            have HB9 := Lib.hid (bel_next HB8.out hb12)
            clear hb12
            go_wp2_with fail
            go_ret
            exact ⟨rfl, HB9.out⟩
          · have g4' : ((n1 : Int) == 16) = false := by rw [beq_eq_false_iff_ne]; omega
            have g4'' : ((n1 : Int) != 16) = true := by simp [bne, g4']
            obtain ⟨rfl, rfl⟩ := HBAD.out (.inr (.inl g4))
            go_wp2_with fail
            go_ret
            exact ⟨rfl, HB7.out⟩
        · have g3' : ((n0 : Int) == 16) = false := by rw [beq_eq_false_iff_ne]; omega
          have g3'' : ((n0 : Int) != 16) = true := by simp [bne, g3']
          obtain ⟨rfl, rfl⟩ := HBAD.out (.inl g3)
          go_wp2_with fail
          go_ret
          exact ⟨rfl, HB7.out⟩

theorem CountStreams_walk (A0 : Option Addr) (n0 c0 : Nat) (l0 : List UInt8) (A1 : Option Addr) (n1 c1 : Nat) (l1 : List UInt8) (A2 : Option Addr) (n2 c2 : Nat) (l2 : List UInt8) (x3 : Int) (w : World) (h0 : RB w w.heap.size A0 n0 l0) (m0 : n0 ≤ c0 ∧ c0 ≤ maxLen) (h1 : RB w w.heap.size A1 n1 l1) (m1 : n1 ≤ c1 ∧ c1 ≤ maxLen) (h2 : RB w w.heap.size A2 n2 l2) (m2 : n2 ≤ c2 ∧ c2 ≤ maxLen) (h3 : (Lit.int .i64 x3).wf = true) :
    Calls Try.prog 4 #[.slice A0 n0 c0, .slice A1 n1 c1, .slice A2 n2 c2, .int .i64 x3] w fun e w' => e = .returned (.bool true) ∧ Below w.heap.size w w' := by
  have b3 := bounds_i64 h3
  by_cases hs : 100 < n0 ∨ (¬ 100 < n0 ∧ 100 < n1) ∨ (¬ 100 < n0 ∧ ¬ 100 < n1 ∧ 200 < n2) ∨ (¬ 100 < n0 ∧ ¬ 100 < n1 ∧ ¬ 200 < n2 ∧ 200 < x3 ∧ x3 ≤ 65535)
  · exact CountStreams_skip A0 n0 c0 A1 n1 c1 A2 n2 c2 x3 w (big_len m0) (big_len m1) (big_len m2) hs
  · exact CountStreams_in A0 n0 c0 l0 A1 n1 c1 l1 A2 n2 c2 l2 x3 w h0 m0.1 h1 m1.1 h2 b3 (decide_eq_false (by omega)) (decide_eq_false (by omega)) (decide_eq_false (by omega)) (by
      by_cases h : 200 < x3
      · exact .inr ⟨decide_eq_true h, decide_eq_false (by omega)⟩
      · exact .inl (decide_eq_false h))
end Go.Proofs.Ytoaafjeknikniaa
