/- Layer 14's statement HalvesBits, walked. No condition. -/
import Derived.Test.YtcobklcokffbdaaHvV
import Derived.Test.YtcobklcokffbdaaOpen
namespace Go.Proofs.Ytcobklcokffbdaa
open Go.RowKit
set_option linter.unusedVariables false
set_option linter.unusedSimpArgs false
theorem RB.gd_ {w : World} {B b o n i : Nat} {l : List UInt8} (h : RB w B (some ⟨b, o, none⟩) n l) (hi : i < n) : w.cell? ⟨b, o + i, none⟩ = some (.int .u8 ((gd l i).toNat : Int)) := by
  obtain ⟨b', o', e, _, x, hx, hc⟩ := h.at_ hi
  injection e with e
  injection e with e1 e2
  subst e1
  subst e2
  rw [gd_some hx]
  exact hc
theorem bit_255 (y : UInt8) : (y &&& 255) ^^^ y = 0 := hv_byte (p := fun y => (y &&& 255) ^^^ y = 0) (by decide +kernel) y
theorem bit_240 (y : UInt8) : ((y &&& 240) ^^^ y).toNat ≤ 15 := hv_byte (p := fun y => ((y &&& 240) ^^^ y).toNat ≤ 15) (by decide +kernel) y
theorem bit_15 (y : UInt8) : ((y &&& 15) ^^^ y).toNat % 16 = 0 := hv_byte (p := fun y => ((y &&& 15) ^^^ y).toNat % 16 = 0) (by decide +kernel) y
/-- What trimming changes. -/
theorem trim_off (l : List UInt8) (N i : Nat) (left : Bool) : gd (trimL l N left) i ^^^ gd l i = 0 ∨ (N % 2 = 1 ∧ (left = true ∧ i = l.length - 1 ∧ (gd (trimL l N left) i ^^^ gd l i).toNat ≤ 15 ∨ left = false ∧ i = 0 ∧ (gd (trimL l N left) i ^^^ gd l i).toNat % 16 = 0)) := by
  rw [trim_gd]
  split
  · rename_i h
    unfold maskB
    by_cases hm : N % 2 = 0
    · rw [if_pos hm]; exact .inl (bit_255 _)
    · rw [if_neg hm]
      refine .inr ⟨by omega, ?_⟩
      unfold edgeN at h
      cases left
      · exact .inr ⟨rfl, by simpa using h.1, by simpa using bit_15 _⟩
      · exact .inl ⟨rfl, by simpa using h.1, by simpa using bit_240 _⟩
  · exact .inl (by simp)
attribute [local irreducible] foursL pairsL cutR trimL joinL blockL joinR trimR blockR maskB edgeN layN stL szI gd
set_option maxRecDepth 100000 in
set_option maxHeartbeats 8000000 in
theorem HalvesBits_walk (A0 : Option Addr) (n0 c0 : Nat) (l0 : List UInt8) (x1 : Int) (b2 : Bool) (x3 : Int) (w : World) (h0 : RB w w.heap.size A0 n0 l0) (m0 : n0 ≤ c0 ∧ c0 ≤ maxLen) (h1 : (Lit.int .i64 x1).wf = true) (h3 : (Lit.int .u8 x3).wf = true) :
    Calls Try.prog 6 #[.slice A0 n0 c0, .int .i64 x1, .bool b2, .int .u8 x3] w fun e w' => e = .returned (.bool true) ∧ Below w.heap.size w w' := by
  obtain ⟨p, hp, hp255⟩ : ∃ p : Nat, (p : Int) = x3 ∧ p ≤ 255 := by have := bounds_u8 h3; exact ⟨x3.toNat, by omega, by omega⟩
  subst hp
  have hx1 : x1 ≤ 9223372036854775807 := (bounds_i64 h1).2
  have HL0 := Lib.hid h0.len
  have K0 := Lib.hid ((HW.start w).add h0 m0.1 m0.2)
  clear h0 h1 h3
  by_cases t0 : 100 < n0
  · have d0 : decide (100 < (n0 : Int)) = true := decide_eq_true (by omega)
    go_enter Try.func6, Try.ntmps6
    go_wp2_with fail
    refine (halive_any _).mono ?_
    rintro e w1 ⟨rfl, hb⟩
    have K1 := Lib.hid (K0.out.step hb)
    clear K0
    clear hb
    go_wp2_with fail
    go_ret
    exact ⟨rfl, K1.out.bel⟩
  have d0 : decide (100 < (n0 : Int)) = false := decide_eq_false (by omega)
  cases hv : fitB x1 n0
  · by_cases z2 : x1 < 2
    · have e1 : decide (x1 < 2) = true := decide_eq_true z2
      clear z2
      have HT : Hid (trimR l0 x1 b2 = ([], 11)) := Lib.hid (trimR_no (by rw [HL0.out]; exact hv))
      have HX1 := Lib.hid hx1
      have hn100 : n0 ≤ 100 := by omega
      clear hv hx1 t0
      go_enter Try.func6, Try.ntmps6
      go_wp2_with fail
      refine (halive_any _).mono ?_
      rintro e w1 ⟨rfl, hb⟩
      have K1 := Lib.hid (K0.out.step hb)
      clear K0
      clear hb
      go_wp2_with fail
      refine (htrimT_any A0 n0 c0 l0 x1 b2 _ (by exact (K1.out.row _ (.head _)).1) (by omega) HX1.out).mono ?_
      rw [HT.out]
      rintro e w2 ⟨At, ct, rfl, ho, hb⟩
      have K2 := Lib.hid (K1.out.own hb ho)
      clear K1
      clear ho hb
      go_wp2_with fail
      go_ret
      exact ⟨rfl, K2.out.bel⟩
    have e1 : decide (x1 < 2) = false := decide_eq_false z2
    by_cases z28 : 28 < x1
    · have e2 : decide (28 < x1) = true := decide_eq_true z28
      clear z2 z28
      have HT : Hid (trimR l0 x1 b2 = ([], 11)) := Lib.hid (trimR_no (by rw [HL0.out]; exact hv))
      have HX1 := Lib.hid hx1
      have hn100 : n0 ≤ 100 := by omega
      clear hv hx1 t0
      go_enter Try.func6, Try.ntmps6
      go_wp2_with fail
      refine (halive_any _).mono ?_
      rintro e w1 ⟨rfl, hb⟩
      have K1 := Lib.hid (K0.out.step hb)
      clear K0
      clear hb
      go_wp2_with fail
      refine (htrimT_any A0 n0 c0 l0 x1 b2 _ (by exact (K1.out.row _ (.head _)).1) (by omega) HX1.out).mono ?_
      rw [HT.out]
      rintro e w2 ⟨At, ct, rfl, ho, hb⟩
      have K2 := Lib.hid (K1.out.own hb ho)
      clear K1
      clear ho hb
      go_wp2_with fail
      go_ret
      exact ⟨rfl, K2.out.bel⟩
    have e2 : decide (28 < x1) = false := decide_eq_false z28
    obtain ⟨s, hs⟩ : ∃ s, szI x1 = s := ⟨_, rfl⟩
    have e3 : ((n0 : Int) != s) = true := by
      rw [bne_iff_ne]
      intro e
      have := of_decide_eq_false hv
      exact this ⟨by omega, by omega, by rw [hs]; exact e⟩
    have HSZ := Lib.hid (fun v => hsize_any x1 hx1 v)
    rw [hs] at HSZ
    have HT : Hid (trimR l0 x1 b2 = ([], 11)) := Lib.hid (trimR_no (by rw [HL0.out]; exact hv))
    have HX1 := Lib.hid hx1
    have hn100 : n0 ≤ 100 := by omega
    clear hv hx1 t0 hs z2 z28
    go_enter Try.func6, Try.ntmps6
    go_wp2_with fail
    refine (halive_any _).mono ?_
    rintro e w1 ⟨rfl, hb⟩
    have K1 := Lib.hid (K0.out.step hb)
    clear K0
    clear hb
    go_wp2_with fail
    refine (htrimT_any A0 n0 c0 l0 x1 b2 _ (by exact (K1.out.row _ (.head _)).1) (by omega) HX1.out).mono ?_
    rw [HT.out]
    rintro e w2 ⟨At, ct, rfl, ho, hb⟩
    have K2 := Lib.hid (K1.out.own hb ho)
    clear K1
    clear ho hb
    go_wp2_with fail
    refine (HSZ.out _).mono ?_
    rintro e w90 ⟨rfl, rfl⟩
    go_wp2_with fail
    go_ret
    exact ⟨rfl, K2.out.bel⟩
  · obtain ⟨N, rfl, h2, h28, en⟩ := fitB_nat hv
    have hn14 : n0 ≤ 14 := by rw [en]; exact szN_le N h28
    have HT := Lib.hid (trim_ok l0 N b2 h2 h28 (by rw [HL0.out]; exact en))
    have HTL : Hid ((trimL l0 N b2).length = n0) := Lib.hid (by rw [trim_len]; exact HL0.out)
    have HOF := Lib.hid (fun i => trim_off l0 N i b2)
    rw [HL0.out] at HOF
    have HBK := Lib.hid (block_ok (trimL l0 N b2) N p h2 h28 (by rw [HTL.out]; exact en) hp255)
    have HBL := Lib.hid (block_len (trimL l0 N b2) N p (by rw [HTL.out]; exact hn14))
    have HBG := Lib.hid (fun i => block_gd (trimL l0 N b2) N p i (by rw [HTL.out]; exact hn14))
    rw [HTL.out] at HBG
    have HBT : Hid ((blockL (trimL l0 N b2) N p).take n0 = trimL l0 N b2) := Lib.hid (gd_ext (by rw [List.length_take, HBL.out, HTL.out]; omega) fun i hi => by
      rw [List.length_take, HBL.out] at hi
      rw [gd_take, if_pos (show i < n0 by omega), HBG.out, if_pos (show i < n0 by omega)])
    obtain ⟨T, hT⟩ : ∃ T, trimL l0 N b2 = T := ⟨_, rfl⟩
    rw [hT] at HT HTL HOF HBK HBL HBG HBT
    obtain ⟨V, hV⟩ : ∃ V, blockL T N p = V := ⟨_, rfl⟩
    rw [hV] at HBK HBL HBG HBT
    have hw1 : IntKind.u8.wrap (N : Int) = (N : Int) := by rw [IntKind.wrap_u8]; omega
    have H28 := Lib.hid h28
    clear hv hx1 t0 en hT hV
    go_enter Try.func6, Try.ntmps6
    go_wp2_with fail
    refine (halive_any _).mono ?_
    rintro e w1 ⟨rfl, hb⟩
    have K1 := Lib.hid (K0.out.step hb)
    clear K0
    clear hb
    go_wp2_with fail
    refine (htrimT_any A0 n0 c0 l0 (N : Int) b2 _ (by exact (K1.out.row _ (.head _)).1) (by omega) (by omega)).mono ?_
    rw [HT.out]; dsimp only; rw [HTL.out]
    rintro e w2 ⟨At, ct, rfl, ho, hb⟩
    have K2 := Lib.hid (K1.out.own hb ho)
    clear K1
    clear ho hb
    go_wp2_with fail
    go_loopw [11, 12] (fun i _ wr => ∃ k : Nat, k ≤ n0 ∧ i = .int .i64 (k : Int) ∧ Hid (HW w [(At, n0, ct, T), (A0, n0, c0, l0)] wr)) (fun i _ _ => n0 - (intOf i).toNat)
    case atStart => exact ⟨0, Nat.zero_le _, rfl, K2⟩
    case round =>
      obtain ⟨k, hk, rfl, HK⟩ := hrel
      by_cases hlt : k < n0
      · obtain ⟨gt, ot, hAt, -, -, -, -⟩ := (HK.out.row _ (.head _)).1.at_ (k := k) hlt
        have hAt : At = some ⟨gt, ot, none⟩ := hAt
        subst hAt
        obtain ⟨g0, o0, hA0, -, -, -, -⟩ := (HK.out.row _ (.tail _ (.head _))).1.at_ (k := k) hlt
        have hA0 : A0 = some ⟨g0, o0, none⟩ := hA0
        subst hA0
        have c1 : wr.cell? ⟨gt, ot + k, none⟩ = some (.int .u8 ((gd T k).toNat : Int)) := (HK.out.row _ (.head _)).1.gd_ hlt
        have c2 : wr.cell? ⟨g0, o0 + k, none⟩ = some (.int .u8 ((gd l0 k).toNat : Int)) := (HK.out.row _ (.tail _ (.head _))).1.gd_ hlt
        have hoff := HOF.out k
        have hxor := xor_byte (gd T k) (gd l0 k)
        obtain ⟨x, hx⟩ : ∃ x, gd T k = x := ⟨_, rfl⟩
        obtain ⟨y, hy⟩ : ∃ y, gd l0 k = y := ⟨_, rfl⟩
        rw [hx] at c1
        rw [hy] at c2
        rw [hx, hy] at hoff hxor
        obtain ⟨z, hz⟩ : ∃ z, x ^^^ y = z := ⟨_, rfl⟩
        rw [hz] at hoff hxor
        clear hx hy hz
        rcases hoff with rfl | ⟨hodd, ⟨rfl, hke, h15⟩ | ⟨rfl, rfl, h16⟩⟩
        · have hxor0 : bits .xor .u8 (x.toNat : Int) (y.toNat : Int) = 0 := hxor
          clear hxor
          go_wp2
          go_quiet (fail)
          go_wp2_with fail
          go_roundw
          case rel => exact ⟨k + 1, by omega, by go_num, Lib.hid (HK.out.step (below_drewN (Below.refl _ _) _))⟩
          case measure => simp [intOf]; omega
        · have hmod : ((N : Int) % 2 == 0) = false := by rw [beq_eq_false_iff_ne]; omega
          have hsub : (n0 : Int) - 1 = (k : Int) := by omega
          clear hke
          have hgt : decide (15 < (z.toNat : Int)) = false := decide_eq_false (by omega)
          cases hz0 : ((z.toNat : Int) != 0)
          · go_wp2
            go_quiet (fail)
            go_wp2_with fail
            go_roundw
            case rel => exact ⟨k + 1, by omega, by go_num, Lib.hid (HK.out.step (below_drewN (Below.refl _ _) _))⟩
            case measure => simp [intOf]; omega
          · go_wp2
            go_quiet (fail)
            go_wp2_with fail
            go_roundw
            case rel => exact ⟨k + 1, by omega, by go_num, Lib.hid (HK.out.step (below_drewN (Below.refl _ _) _))⟩
            case measure => simp [intOf]; omega
        · have hmod : ((N : Int) % 2 == 0) = false := by rw [beq_eq_false_iff_ne]; omega
          have hgt : ((z.toNat : Int) % 16 != 0) = false := by rw [bne_eq_false_iff_eq]; omega
          rw [Nat.add_zero] at c1 c2
          cases hz0 : ((z.toNat : Int) != 0)
          · go_wp2
            go_quiet (fail)
            go_wp2_with fail
            go_roundw
            case rel => exact ⟨0 + 1, by omega, by go_num, Lib.hid (HK.out.step (below_drewN (Below.refl _ _) _))⟩
            case measure => simp [intOf]; omega
          · go_wp2
            go_quiet (fail)
            go_wp2_with fail
            go_roundw
            case rel => exact ⟨0 + 1, by omega, by go_num, Lib.hid (HK.out.step (below_drewN (Below.refl _ _) _))⟩
            case measure => simp [intOf]; omega
      · obtain rfl : k = n0 := by omega
        go_wp2_with fail
        refine (hblock_any At k ct T (N : Int) (p : Int) _ (by exact (HK.out.row _ (.head _)).1) (by omega) (by omega)).mono ?_
        rw [HBK.out]; dsimp only; rw [HBL.out]
        rintro e w5 ⟨Ab, cb, rfl, ho, hb⟩
        have K5 := Lib.hid (HK.out.own hb ho)
        have hcb := ho.cap.1
        clear ho hb HK
        obtain ⟨gb, ob, hAb, -, -, -, -⟩ := (K5.out.row _ (.head _)).1.at_ (k := 0) (show 0 < 16 by omega)
        have hAb : Ab = some ⟨gb, ob, none⟩ := hAb
        subst hAb
        have c14 : w5.cell? ⟨gb, ob + 14, none⟩ = some (.int .u8 (N : Int)) := by
          have := (K5.out.row _ (.head _)).1.gd_ (i := 14) (show 14 < 16 by omega)
          rw [HBG.out, if_neg (by omega), if_neg (by omega), if_pos rfl] at this
          rw [this]
          exact congrArg some (by_of N (by have := H28.out; omega))
        have c15 : w5.cell? ⟨gb, ob + 15, none⟩ = some (.int .u8 (p : Int)) := by
          have := (K5.out.row _ (.head _)).1.gd_ (i := 15) (show 15 < 16 by omega)
          rw [HBG.out, if_neg (by omega), if_neg (by omega), if_neg (by omega), if_pos rfl] at this
          rw [this]
          exact congrArg some (by_of p hp255)
        have kcut := cut_h (some ⟨gb, ob, none⟩) 16 cb k (by omega)
        have HCA : Hid (RB w5 w5.heap.size (cutA (some ⟨gb, ob, none⟩) cb 0) k T) := Lib.hid (by
          have h := (K5.out.row _ (.head _)).1.part (i := 0) (j := k) (c := cb) (Nat.zero_le _) (show k ≤ 16 by omega) hcb
          rw [List.drop_zero, HBT.out, Nat.sub_zero] at h
          exact h)
        obtain ⟨ca, HCC⟩ : ∃ ca, Hid (ca = cutA (some ⟨gb, ob, none⟩) cb 0) := ⟨_, Lib.hid rfl⟩
        rw [← HCC.out] at kcut HCA
        clear HCC
        go_wp2_with fail
        refine (al_same _ _ _ _ _ _ T T _ (by exact HCA.out) (by exact (K5.out.row _ (.tail _ (.head _))).1) (by unfold maxLen; omega) (by unfold maxLen; omega) true (beq_self_eq_true _)).mono ?_
        rintro e w6 ⟨rfl, hb⟩
        have K6 := Lib.hid (K5.out.step hb)
        clear hb K5 HCA c14 c15 kcut
        go_wp2_with fail
        go_loopw [15] (fun i wr => ∃ j : Nat, k ≤ j ∧ j ≤ 14 ∧ i = .int .i64 (j : Int) ∧ Hid (HW w [(some ⟨gb, ob, none⟩, 16, cb, V), (At, k, ct, T), (A0, k, c0, l0)] wr)) (fun i _ => 14 - (intOf i).toNat)
        case atStart => exact ⟨k, Nat.le_refl _, hn14, rfl, K6⟩
        case round =>
          obtain ⟨j, hj, hj14, rfl, HK⟩ := hrel
          by_cases hlt2 : j < 14
          · have cj : wr.cell? ⟨gb, ob + j, none⟩ = some (.int .u8 0) := by
              have := (HK.out.row _ (.head _)).1.gd_ (i := j) (show j < 16 by omega)
              rw [HBG.out, if_neg (by omega), if_pos hlt2] at this
              exact this
            go_wp2_with fail
            go_roundw
            case rel => exact ⟨j + 1, by omega, by omega, by go_num, HK⟩
            case measure => simp [intOf]; omega
          · obtain rfl : j = 14 := by omega
            go_wp2_with fail
            go_ret
            exact ⟨rfl, HK.out.bel⟩
end Go.Proofs.Ytcobklcokffbdaa
