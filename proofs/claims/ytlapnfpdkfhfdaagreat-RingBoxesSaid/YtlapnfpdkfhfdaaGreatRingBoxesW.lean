/- RingBoxes's walk: what a sequence's box seals is what the document says of its key, and what another one's opens too. Condition: the calls' keys can be read. -/
import Derived.Test.YtlapnfpdkfhfdaaGreatRiX
import Derived.Test.YtlapnfpdkfhfdaaGreatOpen
namespace Go.Proofs.YtlapnfpdkfhfdaaGreat
attribute [local irreducible] wsW keyUpTo keyF lastW turn0 encUp decUp aftL encL tableL blksL blkL strmL putL numL xorL turnAt fstL hkL tagL trnL bB sumG nB sealR openR tagR zr12 zr16
open Go.RowKit
set_option linter.unusedVariables false
set_option linter.unusedSimpArgs false
attribute [local go_sem ↓] ex_ldCr
theorem seal_12 (k t a : List UInt8) (hk : k.length = 16) : ∃ S, sealR k zr12 t a = (S, 0) ∧ S.length = t.length + 16 := by
  refine ⟨trnL k zr12 t ++ tagL k zr12 (trnL k zr12 t) a, by unfold sealR; rw [if_pos shown_lens.2.1], ?_⟩
  rw [List.length_append, trnL_len k zr12 t hk shown_lens.2.1, tagL_len k zr12 _ a hk shown_lens.2.1]
theorem open_12 (k s a : List UInt8) (hk : k.length = 16) (hs : s.length ≤ 200) : ∃ T E, openR k zr12 s a = (T, E) ∧ T.length ≤ 200 := by
  refine ⟨_, _, rfl, ?_⟩
  unfold openR
  rw [if_pos shown_lens.2.1]
  split
  · exact Nat.zero_le _
  · split
    · rw [trnL_len k zr12 _ hk shown_lens.2.1, List.length_take]; omega
    · exact Nat.zero_le _
set_option maxRecDepth 100000 in
set_option maxHeartbeats 16000000 in
theorem RingBoxes_walk (A0 : Option Addr) (n0 c0 : Nat) (l0 : List Cr) (x1 : Int) (x2 : Int) (A3 : Option Addr) (n3 c3 : Nat) (l3 : List UInt8) (A4 : Option Addr) (n4 c4 : Nat) (l4 : List UInt8) (w : World) (h0 : CRs w w.heap.size A0 n0 l0) (m0 : n0 ≤ c0 ∧ c0 ≤ maxLen) (h1 : (Lit.int .i64 x1).wf = true) (h2 : (Lit.int .i64 x2).wf = true) (h3 : RB w w.heap.size A3 n3 l3) (m3 : n3 ≤ c3 ∧ c3 ≤ maxLen) (h4 : RB w w.heap.size A4 n4 l4) (m4 : n4 ≤ c4 ∧ c4 ≤ maxLen) :
    Calls Tryz.prog 3 #[.slice A0 n0 c0, .int .i64 x1, .int .i64 x2, .slice A3 n3 c3, .slice A4 n4 c4] w fun e w' => e = .returned (.bool true) ∧ Below w.heap.size w w' := by
  have e3 := h3.len
  have H3 := Lib.hid (And.intro h3 m3)
  have H4 := Lib.hid (And.intro h4 m4)
  have b3 : n3 ≤ 9223372036854775807 := by have := m3.1; have := m3.2; unfold maxLen at this; omega
  have b4 : n4 ≤ 9223372036854775807 := by have := m4.1; have := m4.2; unfold maxLen at this; omega
  clear h1 h2 h3 h4 m3 m4
  have H0 := Lib.hid h0
  have M0 := Lib.hid m0
  have hn0 : n0 ≤ 9223372036854775807 := by have := m0.1; have := m0.2; unfold maxLen at this; omega
  clear h0 m0
  go_enter Tryz.func3, Tryz.ntmps3
  go_wp2_with fail
  refine (alive19_any _).mono ?_
  rintro e w2 ⟨rfl, hb2⟩
  have HB2 : Hid (Below w.heap.size w w2) := Lib.hid (hb2)
  clear hb2
  go_wp2_with fail
  refine (great19_any A0 n0 c0 l0 w2 (by exact ⟨(H0.out.below HB2.out).1, fun k hk => ((H0.out.below HB2.out).2.1 k hk).more HB2.out.size, fun hn => by obtain ⟨b, o, a1, a2, a3⟩ := (H0.out.below HB2.out).2.2 hn; exact ⟨b, o, a1, Nat.lt_of_lt_of_le a2 HB2.out.size, a3⟩⟩) (Nat.le_trans M0.out.1 M0.out.2)).mono ?_
  rintro e w3 ⟨v1, rfl, rfl, hv1⟩
  rcases v1 with _ | _
  case true =>
    clear hv1
    go_wp2_with fail
    go_ret
    exact ⟨rfl, HB2.out⟩
  have HG1 := Lib.hid (hv1 rfl)
  clear hv1
  by_cases g3 : (n3 : Int) > 60
  · have d3 : decide ((n3 : Int) > 60) = true := decide_eq_true g3
    clear g3
    go_wp2_with fail
    go_ret
    exact ⟨rfl, HB2.out⟩
  have d3 : decide ((n3 : Int) > 60) = false := decide_eq_false g3
  by_cases g4 : (n4 : Int) > 60
  · have d4 : decide ((n4 : Int) > 60) = true := decide_eq_true g4
    clear g3 g4
    go_wp2_with fail
    go_ret
    exact ⟨rfl, HB2.out⟩
  have d4 : decide ((n4 : Int) > 60) = false := decide_eq_false g4
  have HS3 : Hid (n3 ≤ 60) := Lib.hid (by omega)
  have HS4 : Hid (n4 ≤ 60) := Lib.hid (by omega)
  clear g3 g4
  have HV0 : Hid (CRs w2 w2.heap.size A0 n0 l0) := Lib.hid ⟨(H0.out.below HB2.out).1, fun k hk => ((H0.out.below HB2.out).2.1 k hk).more HB2.out.size, fun hn => by obtain ⟨b, o, a1, a2, a3⟩ := (H0.out.below HB2.out).2.2 hn; exact ⟨b, o, a1, Nat.lt_of_lt_of_le a2 HB2.out.size, a3⟩⟩
  go_wp2_with fail
  refine (rnew_any w2).mono ?_
  rintro e w4 ⟨x, rfl, hb4, hr4⟩
  have HR4 : Hid (RG w2 x [] [] w4) := Lib.hid ⟨hb4, nil_okR, none, 0, [], hr4, rfl, fun g hg => by cases hg⟩
  clear hb4 hr4
  go_wp2_with (first
    | (refine wpList_boxB rfl 31 (.tmp 46) rfl [.slice none 0 0] rfl ?_; intro w5 y k5 hb5 hy5; have P5 := Lib.hid (HR4.out.pr hb5 k5 hy5); clear k5 hb5 hy5))
  go_loopw [13] (fun i wr => ∃ k : Nat, k ≤ n0 ∧ i = .int .i64 (k : Int) ∧ Hid (PR w2 x y (upR l0 k) (upR l0 k) [] wr)) (fun i _ => n0 - (intOf i).toNat)
  case atStart => exact ⟨0, by omega, rfl, Lib.hid P5.out⟩
  case round =>
    obtain ⟨k, hk, rfl, HK⟩ := hrel
    by_cases hlt : k < n0
    · obtain ⟨b, o, e0, rfl, he, hok, hrg, _⟩ := (HV0.out.below HK.out.bel).at_ hlt
      have HE := Lib.hid (And.intro he (And.intro (HV0.out.2.1 e0 (List.mem_of_getElem? he)) (HG1.out.2 e0 (List.mem_of_getElem? he))))
      have ql := ldCr_r hrg
      clear he hok hrg
      go_wp2_with fail
      refine (do19_any w2 x y (upR l0 k) (upR l0 k) wr (by exact HK.out) e0 (by exact HE.out.2.1) (by exact HE.out.2.2)).mono ?_
      rintro e w6 ⟨rfl, hp⟩
      rw [← upR_next HE.out.1] at hp
      have P6 := Lib.hid hp
      clear hp ql
      go_wp2_with fail
      go_roundw
      case rel => exact ⟨k + 1, by omega, by go_num, Lib.hid P6.out⟩
      case measure => simp [intOf]; omega
    · have hkn : k = n0 := by omega
      subst hkn
      obtain ⟨s, HS⟩ : ∃ s, Hid (upR l0 k = s) := ⟨_, Lib.hid rfl⟩
      have hpr : PR w2 x y s s [] wr := by rw [← HS.out]; exact HK.out
      obtain ⟨A, c, es, B, d, ks, hq⟩ := hpr
      have hl := hq.len.1
      have HL := Lib.hid (Nat.le_trans hl (show 16 ≤ 1000 by omega))
      have HEE := Lib.hid hq.ee
      have HOK := Lib.hid hq.os
      have X0 : Hid (BX w2 x A c es 1 0 [] wr) := Lib.hid ⟨hq.bel, hq.rn, fun r hr => by cases hr⟩
      have X1 := Lib.hid ((X0.out.arg (H3.out.1.step HB2.out) H3.out.2.1).arg (H4.out.1.step HB2.out) H4.out.2.1)
      clear hq hlt hl X0
      cases hv : hasR s x1
      · have HBX := Lib.hid (fun W hb => box_no _ x A c es 1 0 x1 W (X1.out.rn.step (w' := W) hb) HL.out (by rw [HEE.out]; exact hv))
        have HKY := Lib.hid (fun W hb => rkey_any _ x A c es 1 0 x1 W (X1.out.rn.step (w' := W) hb) HL.out)
        rw [HEE.out, hv] at HKY
        clear hv
        go_wp2_with fail
        refine (HBX.out wr (Below.refl _ _)).mono ?_
        rintro e w7 ⟨rfl, hb⟩
        have HB7 := Lib.hid hb
        clear hb
        go_wp2_with fail
        refine (HKY.out w7 HB7.out).mono ?_
        intro e w8 hr
        obtain ⟨A7, c7, he7, _, hb⟩ := hr
        subst he7
        have HB8 := Lib.hid (bel_next HB7.out hb)
        clear hb
        go_wp2_with fail
        go_ret
        exact ⟨rfl, bel_next HB2.out (X1.out.step HB8.out).bel⟩
      · obtain ⟨i0, e0, he0, _, _, hk0, hbx⟩ := box_has _ x A c es 1 0 x1 wr X1.out.rn HL.out (by rw [HEE.out]; exact hv)
        have HM0 := Lib.hid (List.mem_of_getElem? he0)
        rw [HEE.out] at hk0
        have HK0 := Lib.hid (And.intro hk0 (X1.out.rn.ok e0 HM0.out).2.1)
        have HV := Lib.hid hv
        obtain ⟨S, hS, hSl⟩ := seal_12 e0.1.key l3 l4 HK0.out.2
        obtain ⟨M, hM⟩ : ∃ M, S.length = M := ⟨_, rfl⟩
        have HS := Lib.hid (And.intro hS hM)
        have hMM : M ≤ 76 := by have := HS3.out; omega
        clear hv he0 hk0 hS hSl hM
        go_wp2_with fail
        refine hbx.mono ?_
        rintro e w7 ⟨rfl, hb⟩
        have X7 := Lib.hid (X1.out.step hb)
        clear hb hbx X1
        go_wp2_with fail
        refine (rkey_any _ x A c es 1 0 x1 w7 (by exact X7.out.rn) HL.out).mono ?_
        rw [HEE.out, HV.out, ← HK0.out.1]
        intro e w8 hr
        obtain ⟨K, kc, he8, ho8, hb8⟩ := hr
        rw [HK0.out.2] at he8 ho8
        subst he8
        have X8 := Lib.hid (X7.out.own hb8 ho8)
        clear ho8 hb8 X7 HV
        go_wp2_with (first
          | (at_make; refine wpList_mk rfl _ _ rfl w8.heap.size .i64 .i64 _ _ 12 rfl rfl rfl rfl (by omega) (Nat.le_refl _) ?_; intro w9 ho9 hs9 hb9; rw [zr_reps.2] at ho9; have X9 := Lib.hid (X8.out.own hb9 ho9); clear ho9 hs9 hb9 X8))
        refine (eb_seal e0.1 1 0 w9 (by exact (X9.out.rn.ok e0 HM0.out).1) (by omega) _ A3 A4 12 12 n3 c3 n4 c4 zr12 l3 l4 (by exact (X9.out.row (some ⟨w8.heap.size, 0, none⟩, 12, 12, zr12) (by simp)).1) (by exact (X9.out.row (A3, n3, c3, l3) (by simp)).1) (by exact (X9.out.row (A4, n4, c4, l4) (by simp)).1) H4.out.2.1 (X9.out.not HM0.out (B := A4) (n := n4) (d := c4) (l := l4) (by simp)) (by have := HS3.out; omega) (by have := HS4.out; omega) M S 0 HS.out.1 HS.out.2).mono ?_
        intro e wa hr
        obtain ⟨Xs, xc, rfl, hx⟩ := X9.out.call (N' := 2) (F' := 0) HM0.out hr (by omega) (by omega)
        have XA := Lib.hid hx
        clear hr hx X9
        go_wp2_with fail
        refine (rseal_r K _ A3 A4 kc 12 12 n3 c3 n4 c4 e0.1.key zr12 l3 l4 wa (by exact (XA.out.row (K, 16, kc, e0.1.key) (by simp)).1) (by exact (XA.out.row (K, 16, kc, e0.1.key) (by simp)).2.1) (by exact (XA.out.row (some ⟨w8.heap.size, 0, none⟩, 12, 12, zr12) (by simp)).1) (by exact (XA.out.row (A3, n3, c3, l3) (by simp)).1) (by exact (XA.out.row (A4, n4, c4, l4) (by simp)).1) (by have := HS3.out; omega) (by have := HS4.out; omega)).mono ?_
        intro e wb hr
        obtain ⟨Ys, yc, rfl, hoy, hby⟩ := hr.to M S 0 HS.out.1 HS.out.2
        have XB := Lib.hid (XA.out.own hby hoy)
        clear hr hoy hby XA
        go_wp2_with fail
        refine (al_same Xs Ys M xc M yc S S wb (by exact (XB.out.row (Xs, M, xc, S) (by simp)).1) (by exact (XB.out.row (Ys, M, yc, S) (by simp)).1) (by unfold maxLen; omega) (by unfold maxLen; omega) true (by simp)).mono ?_
        rintro e wc ⟨rfl, hb⟩
        have XC := Lib.hid (XB.out.step hb)
        clear hb XB
        cases hv2 : hasR s x2
        · have hbn := box_no _ x A c es 2 0 x2 wc XC.out.rn HL.out (by rw [HEE.out]; exact hv2)
          clear hv2
          go_wp2_with fail
          refine hbn.mono ?_
          rintro e wd ⟨rfl, hb⟩
          have BD := Lib.hid (bel_next HB2.out (XC.out.step hb).bel)
          clear hb hbn
          go_wp2_with fail
          go_ret
          exact ⟨rfl, BD.out⟩
        · obtain ⟨i1, e1, he1, _, _, hk1, hbx⟩ := box_has _ x A c es 2 0 x2 wc XC.out.rn HL.out (by rw [HEE.out]; exact hv2)
          have HM1 := Lib.hid (List.mem_of_getElem? he1)
          rw [HEE.out] at hk1
          have HK1 := Lib.hid (And.intro hk1 (XC.out.rn.ok e1 HM1.out).2.1)
          have HV := Lib.hid hv2
          obtain ⟨T, E, hT, hTl⟩ := open_12 e1.1.key S l4 HK1.out.2 (by rw [HS.out.2]; omega)
          obtain ⟨R, hR⟩ : ∃ R, T.length = R := ⟨_, rfl⟩
          have HT := Lib.hid (And.intro hT hR)
          have hRR : R ≤ 200 := by omega
          have hEE : (E == E) = true := by simp
          clear hv2 he1 hk1 hT hTl hR
          go_wp2_with fail
          refine hbx.mono ?_
          rintro e wd ⟨rfl, hb⟩
          have XD := Lib.hid (XC.out.step hb)
          clear hb hbx XC
          go_wp2_with fail
          refine (rkey_any _ x A c es 2 0 x2 wd (by exact XD.out.rn) HL.out).mono ?_
          rw [HEE.out, HV.out, ← HK1.out.1]
          intro e we hr
          obtain ⟨K2, kc2, hee, hoe, hbe⟩ := hr
          rw [HK1.out.2] at hee hoe
          subst hee
          have XE := Lib.hid (XD.out.own hbe hoe)
          clear hoe hbe XD HV
          go_wp2_with fail
          refine (eb_open e1.1 2 0 we (by exact (XE.out.rn.ok e1 HM1.out).1) (by omega) (by omega) _ Xs A4 12 12 M xc n4 c4 zr12 S l4 (by exact (XE.out.row (some ⟨w8.heap.size, 0, none⟩, 12, 12, zr12) (by simp)).1) (by exact (XE.out.row (Xs, M, xc, S) (by simp)).1) (by exact (XE.out.row (A4, n4, c4, l4) (by simp)).1) (by exact (XE.out.row (Xs, M, xc, S) (by simp)).2.1) H4.out.2.1 (XE.out.not HM1.out (B := some ⟨w8.heap.size, 0, none⟩) (n := 12) (d := 12) (l := zr12) (by simp)) (XE.out.not HM1.out (B := Xs) (n := M) (d := xc) (l := S) (by simp)) (XE.out.not HM1.out (B := A4) (n := n4) (d := c4) (l := l4) (by simp)) (by omega) (by have := HS4.out; omega) R T E HT.out.1 HT.out.2).mono ?_
          intro e wf hr
          obtain ⟨Zs, zc, rfl, hx⟩ := XE.out.call (N' := 3) (F' := 1) HM1.out hr (by omega) (by omega)
          have XF := Lib.hid hx
          clear hr hx XE
          go_wp2_with fail
          refine (ropen_r K2 _ Xs A4 kc2 12 12 M xc n4 c4 e1.1.key zr12 S l4 wf (by exact (XF.out.row (K2, 16, kc2, e1.1.key) (by simp)).1) (by exact (XF.out.row (K2, 16, kc2, e1.1.key) (by simp)).2.1) (by exact (XF.out.row (some ⟨w8.heap.size, 0, none⟩, 12, 12, zr12) (by simp)).1) (by exact (XF.out.row (Xs, M, xc, S) (by simp)).1) (by exact (XF.out.row (Xs, M, xc, S) (by simp)).2.1) (by exact (XF.out.row (A4, n4, c4, l4) (by simp)).1) (by omega) (by have := HS4.out; omega)).mono ?_
          intro e wg hr
          obtain ⟨Us, uc, rfl, hou, hbu⟩ := hr.to R T E HT.out.1 HT.out.2
          have XG := Lib.hid (XF.out.own hbu hou)
          clear hr hou hbu XF
          go_wp2_with fail
          refine (al_same Zs Us R zc R uc T T wg (by exact (XG.out.row (Zs, R, zc, T) (by simp)).1) (by exact (XG.out.row (Us, R, uc, T) (by simp)).1) (by unfold maxLen; omega) (by unfold maxLen; omega) true (by simp)).mono ?_
          rintro e wh ⟨rfl, hb⟩
          have BH := Lib.hid (bel_next HB2.out (XG.out.step hb).bel)
          clear hb
          go_wp2_with fail
          go_ret
          exact ⟨rfl, BH.out⟩
end Go.Proofs.YtlapnfpdkfhfdaaGreat
