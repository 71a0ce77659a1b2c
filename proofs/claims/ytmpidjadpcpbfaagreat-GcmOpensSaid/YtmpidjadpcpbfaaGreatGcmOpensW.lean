/- GcmOpens' walk: every Open answers what the document says, failures are counted. No condition. -/
import Derived.Test.YtmpidjadpcpbfaaGreatGcmAlive
import Derived.Test.YtmpidjadpcpbfaaGreatOpen
namespace Go.Proofs.YtmpidjadpcpbfaaGreat
attribute [local irreducible] wsW keyUpTo keyF lastW turn0 encUp decUp aftL encL tableL blksL blkL strmL putL numL xorL turnAt fstL hkL tagL trnL bB sumG nB sealR openR tagR
open Go.RowKit
set_option linter.unusedVariables false
set_option linter.unusedSimpArgs false

theorem gbig_len {n c : Nat} (h : n ≤ c ∧ c ≤ maxLen) : n ≤ 9223372036854775807 := by unfold maxLen at h; omega
theorem open_len (k n s a : List UInt8) (hk : k.length = 16) (ht : s.length ≤ 200) : (openR k n s a).1.length ≤ 1000 := by
  unfold openR
  by_cases hn : n.length = 12
  · rw [if_pos hn]
    by_cases h16 : s.length < 16
    · rw [if_pos h16]
      simp
    · rw [if_neg h16]
      by_cases h : tagL k n (s.take (s.length - 16)) a = s.drop (s.length - 16)
      · rw [if_pos h]
        show (trnL k n (s.take (s.length - 16))).length ≤ 1000
        rw [trnL_len k n _ hk hn, List.length_take]
        omega
      · rw [if_neg h]
        simp
  · rw [if_neg hn]
    simp
set_option maxRecDepth 100000 in
set_option maxHeartbeats 8000000 in
theorem GcmOpens_walk (A0 : Option Addr) (n0 c0 : Nat) (l0 : List UInt8) (A1 : Option Addr) (n1 c1 : Nat) (l1 : List UInt8) (A2 : Option Addr) (n2 c2 : Nat) (l2 : List UInt8) (A3 : Option Addr) (n3 c3 : Nat) (l3 : List UInt8) (x4 : Int) (w : World) (h0 : RB w w.heap.size A0 n0 l0) (m0 : n0 ≤ c0 ∧ c0 ≤ maxLen) (h1 : RB w w.heap.size A1 n1 l1) (m1 : n1 ≤ c1 ∧ c1 ≤ maxLen) (h2 : RB w w.heap.size A2 n2 l2) (m2 : n2 ≤ c2 ∧ c2 ≤ maxLen) (h3 : RB w w.heap.size A3 n3 l3) (m3 : n3 ≤ c3 ∧ c3 ≤ maxLen) (h4 : (Lit.int .u8 x4).wf = true) :
    Calls Tryz.prog 4 #[.slice A0 n0 c0, .slice A1 n1 c1, .slice A2 n2 c2, .slice A3 n3 c3, .int .u8 x4] w fun e w' => e = .returned (.bool true) ∧ Below w.heap.size w w' := by
  obtain ⟨y, hy⟩ := byte_of h4
  obtain ⟨T, HTT⟩ : ∃ T : Nat, Hid (T = y.toNat % 4) := ⟨_, Lib.hid rfl⟩
  have hT : T ≤ 3 := by have := HTT.out; omega
  have r1 : x4 % 4 = (T : Int) := by rw [hy, HTT.out]; omega
  have r1' : Int.tmod x4 4 = (T : Int) := by rw [Int.tmod_eq_emod_of_nonneg (by omega)]; exact r1
  clear h4 hy
  have e0 := h0.len
  have b0 := gbig_len m0
  have H0 := Lib.hid (And.intro h0 m0)
  have e1 := h1.len
  have b1 := gbig_len m1
  have H1 := Lib.hid (And.intro h1 m1)
  have e2 := h2.len
  have b2 := gbig_len m2
  have H2 := Lib.hid (And.intro h2 m2)
  have e3 := h3.len
  have b3 := gbig_len m3
  have H3 := Lib.hid (And.intro h3 m3)
  have HE := Lib.hid (And.intro e0 (And.intro e1 (And.intro e2 e3)))
  have HGR := Lib.hid (great_lit [(A0, c0, l0), (A1, c1, l1), (A2, c2, l2), (A3, c3, l3)] #[.slice A0 n0 c0, .slice A1 n1 c1, .slice A2 n2 c2, .slice A3 n3 c3] 4)
  clear h0 h1 h2 h3 m0 m1 m2 m3 e0 e1 e2 e3
  go_enter Tryz.func4, Tryz.ntmps4
  go_wp2_with fail
  refine (alive_any _).mono ?_
  rintro e w1 ⟨rfl, hb1⟩
  have HB1 := Lib.hid hb1
  clear hb1
  go_wp2_with fail
  refine (HGR.out w1 (by simp [HE.out.1, HE.out.2.1, HE.out.2.2.1, HE.out.2.2.2]) rfl (by omega) (by
    intro r hr
    simp only [List.mem_cons, List.not_mem_nil, or_false] at hr
    rcases hr with rfl | rfl | rfl | rfl
    · dsimp only; rw [HE.out.1]; exact H0.out.1.step HB1.out
    · dsimp only; rw [HE.out.2.1]; exact H1.out.1.step HB1.out
    · dsimp only; rw [HE.out.2.2.1]; exact H2.out.1.step HB1.out
    · dsimp only; rw [HE.out.2.2.2]; exact H3.out.1.step HB1.out) (by
    intro r hr
    simp only [List.mem_cons, List.not_mem_nil, or_false] at hr
    rcases hr with rfl | rfl | rfl | rfl
    · dsimp only; rw [HE.out.1]; exact Nat.le_trans H0.out.2.1 H0.out.2.2
    · dsimp only; rw [HE.out.2.1]; exact Nat.le_trans H1.out.2.1 H1.out.2.2
    · dsimp only; rw [HE.out.2.2.1]; exact Nat.le_trans H2.out.2.1 H2.out.2.2
    · dsimp only; rw [HE.out.2.2.2]; exact Nat.le_trans H3.out.2.1 H3.out.2.2)).mono ?_
  rintro e w2 ⟨v, rfl, hb2, hv⟩
  have HB2 := Lib.hid (bel_next HB1.out hb2)
  clear hb2 HB1 HGR
  rcases v with _ | _
  case true =>
    clear hv
    go_wp2_with fail
    go_ret
    exact ⟨rfl, HB2.out⟩
  case false =>
    have hv' := hv rfl
    have s0 : n0 ≤ 200 := by have := hv' (A0, c0, l0) (by simp); dsimp only at this; rw [HE.out.1] at this; exact this
    have s1 : n1 ≤ 200 := by have := hv' (A1, c1, l1) (by simp); dsimp only at this; rw [HE.out.2.1] at this; exact this
    have s2 : n2 ≤ 200 := by have := hv' (A2, c2, l2) (by simp); dsimp only at this; rw [HE.out.2.2.1] at this; exact this
    have s3 : n3 ≤ 200 := by have := hv' (A3, c3, l3) (by simp); dsimp only at this; rw [HE.out.2.2.2] at this; exact this
    clear hv hv'
    by_cases q0 : n0 = 16
    · have g0 : ((n0 : Int) == 16) = true := by rw [beq_iff_eq]; omega
      have g0' : ((n0 : Int) != 16) = false := by simp [bne, g0]
      have HL0 : Hid (l0.length = 16) := Lib.hid (by rw [HE.out.1]; exact q0)
      obtain ⟨S, E, HS⟩ : ∃ S E, Hid (openR l0 l1 l2 l3 = (S, E) ∧ S.length ≤ 1000) := ⟨_, _, Lib.hid ⟨rfl, open_len l0 l1 l2 l3 HL0.out (by rw [HE.out.2.2.1]; exact s2)⟩⟩
      obtain ⟨M, HM⟩ : ∃ M, Hid (S.length = M) := ⟨_, Lib.hid rfl⟩
      subst q0
      go_wp2_with fail
      refine (gnew_any A0 c0 l0 _ (by exact H0.out.1.step HB2.out) H0.out.2.1).mono ?_
      intro e w3 hx
      obtain ⟨p, rfl, hpk, hk3⟩ := KG.start HB2.out hx
      have HPK := Lib.hid hpk
      have HK3 := Lib.hid ((((hk3.arg H0.out.1).arg H1.out.1).arg H2.out.1).arg H3.out.1)
      clear hx hk3 hpk HB2
      go_wp2_with fail
      refine (ropen_r A0 A1 A2 A3 c0 n1 c1 n2 c2 n3 c3 l0 l1 l2 l3 _ (by exact (HK3.out.row (A0, 16, l0) (by simp)).1) H0.out.2.1 (by exact (HK3.out.row (A1, n1, l1) (by simp)).1) (by exact (HK3.out.row (A2, n2, l2) (by simp)).1) H2.out.2.1 (by exact (HK3.out.row (A3, n3, l3) (by simp)).1) (by omega) (by omega)).mono ?_
      intro e w4 hr
      obtain ⟨A4, c4, rfl, ho4, hb4⟩ := hr.to M S E HS.out.1 HM.out
      have HK4 := Lib.hid (HK3.out.own hb4 ho4)
      clear hr ho4 hb4 HK3
      by_cases hE : E = 13
      · subst hE
        go_wp2_with fail
        go_loopw [15, 16] (fun fl i wr => ∃ k : Nat, k ≤ T + 1 ∧ i = .int .i64 k ∧ fl = .int .i64 (k : Int) ∧ Hid (KG w p (1 + k) k [(A4, M, S), (A3, n3, l3), (A2, n2, l2), (A1, n1, l1), (A0, 16, l0)] wr)) (fun _ i _ => T + 1 - (intOf i).toNat)
        case atStart => exact ⟨0, by omega, rfl, rfl, HK4⟩
        case round =>
          obtain ⟨k, hk, rfl, rfl, hkg⟩ := hrel
          clear HK4
          by_cases hlt : k < T + 1
          · go_wp2_with fail
            refine (copy_any A2 n2 c2 0 l2 _ (by exact (hkg.out.row (A2, n2, l2) (by simp)).1) (by omega)).mono ?_
            rintro e w5 ⟨A5, c5, rfl, ho5, hb5⟩
            have HK5 := Lib.hid (hkg.out.own hb5 ho5)
            have HC5 := Lib.hid ho5.cap.1
            clear ho5 hb5
            go_wp2_with fail
            refine (gopen_r p (1 + k) k A1 A5 A3 n1 c1 n2 c5 n3 c3 l1 l2 l3 _ (by exact HK5.out.box) (by omega) (by omega) (by exact (HK5.out.row (A1, n1, l1) (by simp)).1) (by exact (HK5.out.row (A5, n2, l2) (by simp)).1) (by exact (HK5.out.row (A3, n3, l3) (by simp)).1) HC5.out H3.out.2.1 (by exact (HK5.out.row (A1, n1, l1) (by simp)).2) (by exact (HK5.out.row (A5, n2, l2) (by simp)).2) (by exact (HK5.out.row (A3, n3, l3) (by simp)).2) (by omega) (by omega)).mono ?_
            intro e w6 hr
            obtain ⟨A6, c6, rfl, hk6, ho6⟩ := HK5.out.ret (hr.to (k + 1) M S 13 (by rw [HPK.out, HS.out.1]; exact rfl) (by rw [HPK.out, HS.out.1]) HM.out)
            have HK6 := Lib.hid hk6
            clear hr hk6 ho6 HK5
            go_wp2_with fail
            refine (al_same A6 A4 M c6 M c4 S S _ (by exact (HK6.out.row (A6, M, S) (by simp)).1) (by exact (HK6.out.row (A4, M, S) (by simp)).1) (by have := HS.out.2; rw [HM.out] at this; unfold maxLen; omega) (by have := HS.out.2; rw [HM.out] at this; unfold maxLen; omega) true (by simp)).mono ?_
            rintro e w7 ⟨rfl, hb7⟩
            have HK7 := Lib.hid (HK6.out.step hb7)
            clear hb7 HK6
            go_wp2_with fail
            refine (al_same A5 A2 n2 c5 n2 c2 l2 l2 _ (by exact (HK7.out.row (A5, n2, l2) (by simp)).1) (by exact (HK7.out.row (A2, n2, l2) (by simp)).1) (by unfold maxLen; omega) (by unfold maxLen; omega) true (by simp)).mono ?_
            rintro e w8 ⟨rfl, hb8⟩
            have HK8 := Lib.hid (HK7.out.step hb8)
            clear hb8 HK7
            go_wp2_with fail
            refine (gfailed_any p (1 + k + 1) (k + 1) _ (by exact HK8.out.box)).mono ?_
            rintro e w9 ⟨rfl, rfl⟩
            go_wp2_with fail
            go_roundw
            case rel => exact ⟨k + 1, by omega, by go_num, by go_num, Lib.hid ⟨HK8.out.bel, HK8.out.low, HK8.out.box.up (by omega), fun r hr => HK8.out.row r (by
              simp only [List.mem_cons, List.not_mem_nil, or_false] at hr ⊢
              rcases hr with rfl | rfl | rfl | rfl | rfl <;> simp)⟩⟩
            case measure => simp [intOf]; omega
          · have hkn : k = T + 1 := by omega
            subst hkn
            go_wp2_with fail
            go_ret
            exact ⟨rfl, hkg.out.bel⟩
      · have gE : (E == 13) = false := by rw [beq_eq_false_iff_ne]; exact hE
        go_wp2_with fail
        go_loopw [15, 16] (fun fl i wr => ∃ k : Nat, k ≤ T + 1 ∧ i = .int .i64 k ∧ fl = .int .i64 0 ∧ Hid (KG w p (1 + k) 0 [(A4, M, S), (A3, n3, l3), (A2, n2, l2), (A1, n1, l1), (A0, 16, l0)] wr)) (fun _ i _ => T + 1 - (intOf i).toNat)
        case atStart => exact ⟨0, by omega, rfl, rfl, HK4⟩
        case round =>
          obtain ⟨k, hk, rfl, rfl, hkg⟩ := hrel
          clear HK4
          by_cases hlt : k < T + 1
          · go_wp2_with fail
            refine (copy_any A2 n2 c2 0 l2 _ (by exact (hkg.out.row (A2, n2, l2) (by simp)).1) (by omega)).mono ?_
            rintro e w5 ⟨A5, c5, rfl, ho5, hb5⟩
            have HK5 := Lib.hid (hkg.out.own hb5 ho5)
            have HC5 := Lib.hid ho5.cap.1
            clear ho5 hb5
            go_wp2_with fail
            refine (gopen_r p (1 + k) 0 A1 A5 A3 n1 c1 n2 c5 n3 c3 l1 l2 l3 _ (by exact HK5.out.box) (by omega) (by omega) (by exact (HK5.out.row (A1, n1, l1) (by simp)).1) (by exact (HK5.out.row (A5, n2, l2) (by simp)).1) (by exact (HK5.out.row (A3, n3, l3) (by simp)).1) HC5.out H3.out.2.1 (by exact (HK5.out.row (A1, n1, l1) (by simp)).2) (by exact (HK5.out.row (A5, n2, l2) (by simp)).2) (by exact (HK5.out.row (A3, n3, l3) (by simp)).2) (by omega) (by omega)).mono ?_
            intro e w6 hr
            obtain ⟨A6, c6, rfl, hk6, ho6⟩ := HK5.out.ret (hr.to 0 M S E (by rw [HPK.out, HS.out.1]; exact by rw [if_neg hE]) (by rw [HPK.out, HS.out.1]) HM.out)
            have HK6 := Lib.hid hk6
            clear hr hk6 ho6 HK5
            go_wp2_with fail
            refine (al_same A6 A4 M c6 M c4 S S _ (by exact (HK6.out.row (A6, M, S) (by simp)).1) (by exact (HK6.out.row (A4, M, S) (by simp)).1) (by have := HS.out.2; rw [HM.out] at this; unfold maxLen; omega) (by have := HS.out.2; rw [HM.out] at this; unfold maxLen; omega) true (by simp)).mono ?_
            rintro e w7 ⟨rfl, hb7⟩
            have HK7 := Lib.hid (HK6.out.step hb7)
            clear hb7 HK6
            go_wp2_with fail
            refine (al_same A5 A2 n2 c5 n2 c2 l2 l2 _ (by exact (HK7.out.row (A5, n2, l2) (by simp)).1) (by exact (HK7.out.row (A2, n2, l2) (by simp)).1) (by unfold maxLen; omega) (by unfold maxLen; omega) true (by simp)).mono ?_
            rintro e w8 ⟨rfl, hb8⟩
            have HK8 := Lib.hid (HK7.out.step hb8)
            clear hb8 HK7
            go_wp2_with fail
            refine (gfailed_any p (1 + k + 1) 0 _ (by exact HK8.out.box)).mono ?_
            rintro e w9 ⟨rfl, rfl⟩
            go_wp2_with fail
            go_roundw
            case rel => exact ⟨k + 1, by omega, by go_num, rfl, Lib.hid ⟨HK8.out.bel, HK8.out.low, HK8.out.box.up (by omega), fun r hr => HK8.out.row r (by
              simp only [List.mem_cons, List.not_mem_nil, or_false] at hr ⊢
              rcases hr with rfl | rfl | rfl | rfl | rfl <;> simp)⟩⟩
            case measure => simp [intOf]; omega
          · have hkn : k = T + 1 := by omega
            subst hkn
            go_wp2_with fail
            go_ret
            exact ⟨rfl, hkg.out.bel⟩
    · have g0 : ((n0 : Int) == 16) = false := by rw [beq_eq_false_iff_ne]; omega
      have g0' : ((n0 : Int) != 16) = true := by simp [bne, g0]
      go_wp2_with fail
      refine (gnew_bad A0 n0 c0 _ q0).mono ?_
      rintro e w3 ⟨rfl, rfl⟩
      go_wp2_with fail
      go_ret
      exact ⟨rfl, HB2.out⟩
end Go.Proofs.YtmpidjadpcpbfaaGreat
