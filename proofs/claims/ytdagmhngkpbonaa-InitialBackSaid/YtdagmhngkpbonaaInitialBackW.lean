/- Layer 11's statement InitialBack, walked. No condition. -/
import Derived.Test.YtdagmhngkpbonaaIniV
import Derived.Test.YtdagmhngkpbonaaOpen
namespace Go.Proofs.Ytdagmhngkpbonaa
open Go.RowKit
set_option linter.unusedVariables false
set_option linter.unusedSimpArgs false
theorem iraw_leB (p : Pl) (t r : List UInt8) : (irawP (p, t, r)).length ≤ 15 + p.2.2.1.length + p.2.2.2.length + t.length + r.length := by
  unfold irawP
  have := longP_len t
  rw [List.length_append, List.length_append, raw_len]
  simp only
  omega
theorem iraw_geB (p : Pl) (t r : List UInt8) : r.length ≤ (irawP (p, t, r)).length := by
  unfold irawP
  rw [List.length_append, List.length_append]
  simp only
  omega
theorem ibyt_good (p : Pl) (t r : List UInt8) (h : chk p = 0) : ibyt (p, t, r) = (irawP (p, t, r), 0) := by
  unfold ibyt
  rw [if_neg (fun k => k h)]
theorem ibyt_240 (a b t r : List UInt8) : ibyt ((240, 1, a, b), t, r) = ([], 14) := by
  have h : chk (240, 1, a, b) = 14 := if_pos (.inr (.inr (show typ 240 ≠ 0 by decide)))
  unfold ibyt
  simp only
  rw [h]
  rfl
theorem IW.sub {v w : World} {rows rows' : List (Option Addr × Nat × Nat × List UInt8)} {is is' : List In} {bs bs' : List (TypeId × Nat × In)} (k : IW v rows is bs w) (h1 : ∀ r ∈ rows', r ∈ rows) (h2 : ∀ i ∈ is', i ∈ is) (h3 : ∀ b ∈ bs', b ∈ bs) : IW v rows' is' bs' w :=
  ⟨k.bel, fun r hr => k.row r (h1 r hr), fun i hi => k.ini i (h2 i hi), fun b hb => k.box b (h3 b hb)⟩
theorem RB.head0 {w : World} {n c j : Nat} {A : Option Addr} {l : List UInt8} (h : RB w w.heap.size A n l) (hj : j ≤ n) (hc : n ≤ c) : RB w w.heap.size (cutA A c 0) j (l.take j) := by
  have := h.part (i := 0) (j := j) (Nat.zero_le _) hj hc
  simpa using this
attribute [local irreducible] iprs ibyt mkI irawP typ
attribute [local go_sem ↓] ex_ldHd ex_stHd ex_ldHr ex_stHr ex_ldI ex_ldIr ex_stI ex_stIr
set_option maxRecDepth 100000 in
set_option maxHeartbeats 8000000 in
theorem InitialBack_walk (A0 : Option Addr) (n0 c0 : Nat) (l0 : List UInt8) (A1 : Option Addr) (n1 c1 : Nat) (l1 : List UInt8) (A2 : Option Addr) (n2 c2 : Nat) (l2 : List UInt8) (A3 : Option Addr) (n3 c3 : Nat) (l3 : List UInt8) (x4 : Int) (w : World) (h0 : RB w w.heap.size A0 n0 l0) (m0 : n0 ≤ c0 ∧ c0 ≤ maxLen) (h1 : RB w w.heap.size A1 n1 l1) (m1 : n1 ≤ c1 ∧ c1 ≤ maxLen) (h2 : RB w w.heap.size A2 n2 l2) (m2 : n2 ≤ c2 ∧ c2 ≤ maxLen) (h3 : RB w w.heap.size A3 n3 l3) (m3 : n3 ≤ c3 ∧ c3 ≤ maxLen) (h4 : (Lit.int .i64 x4).wf = true) :
    Calls Try.prog 4 #[.slice A0 n0 c0, .slice A1 n1 c1, .slice A2 n2 c2, .slice A3 n3 c3, .int .i64 x4] w fun e w' => e = .returned (.bool true) ∧ Below w.heap.size w w' := by
  have hz : -9223372036854775808 ≤ x4 := (bounds_i64 h4).1
  clear h4
  have hl0 := h0.len
  subst hl0
  have hl1 := h1.len
  subst hl1
  have hl2 := h2.len
  subst hl2
  have hl3 := h3.len
  subst hl3
  have HR := Lib.hid (And.intro h0 (And.intro h1 (And.intro h2 h3)))
  have HM := Lib.hid (And.intro m0 (And.intro m1 (And.intro m2 m3)))
  clear h0 h1 h2 h3 m0 m1 m2 m3
  by_cases t0 : 20 < l0.length
  · have d0 : decide (20 < (l0.length : Int)) = true := decide_eq_true (by omega)
    go_enter Try.func4, Try.ntmps4
    go_wp2_with fail
    refine (ialive_any _).mono ?_
    rintro e w1 ⟨rfl, hb1⟩
    have B1 := Lib.hid hb1
    clear hb1
    go_wp2_with fail
    go_ret
    exact ⟨rfl, B1.out⟩
  have d0 : decide (20 < (l0.length : Int)) = false := decide_eq_false (by omega)
  by_cases t1 : 20 < l1.length
  · have d1 : decide (20 < (l1.length : Int)) = true := decide_eq_true (by omega)
    go_enter Try.func4, Try.ntmps4
    go_wp2_with fail
    refine (ialive_any _).mono ?_
    rintro e w1 ⟨rfl, hb1⟩
    have B1 := Lib.hid hb1
    clear hb1
    go_wp2_with fail
    go_ret
    exact ⟨rfl, B1.out⟩
  have d1 : decide (20 < (l1.length : Int)) = false := decide_eq_false (by omega)
  by_cases t2 : 300 < l2.length
  · have d2 : decide (300 < (l2.length : Int)) = true := decide_eq_true (by omega)
    go_enter Try.func4, Try.ntmps4
    go_wp2_with fail
    refine (ialive_any _).mono ?_
    rintro e w1 ⟨rfl, hb1⟩
    have B1 := Lib.hid hb1
    clear hb1
    go_wp2_with fail
    go_ret
    exact ⟨rfl, B1.out⟩
  have d2 : decide (300 < (l2.length : Int)) = false := decide_eq_false (by omega)
  by_cases t3 : 300 < l3.length
  · have d3 : decide (300 < (l3.length : Int)) = true := decide_eq_true (by omega)
    go_enter Try.func4, Try.ntmps4
    go_wp2_with fail
    refine (ialive_any _).mono ?_
    rintro e w1 ⟨rfl, hb1⟩
    have B1 := Lib.hid hb1
    clear hb1
    go_wp2_with fail
    go_ret
    exact ⟨rfl, B1.out⟩
  have d3 : decide (300 < (l3.length : Int)) = false := decide_eq_false (by omega)
  by_cases t4 : 3000 < x4
  · have d4 : decide (3000 < x4) = true := decide_eq_true t4
    go_enter Try.func4, Try.ntmps4
    go_wp2_with fail
    refine (ialive_any _).mono ?_
    rintro e w1 ⟨rfl, hb1⟩
    have B1 := Lib.hid hb1
    clear hb1
    go_wp2_with fail
    go_ret
    exact ⟨rfl, B1.out⟩
  have d4 : decide (3000 < x4) = false := decide_eq_false t4
  go_enter Try.func4, Try.ntmps4
  go_wp2_with fail
  refine (ialive_any _).mono ?_
  rintro e w1 ⟨rfl, hb1⟩
  have B1 := Lib.hid hb1
  clear hb1
  have HL : Hid (l0.length ≤ 20 ∧ l1.length ≤ 20 ∧ l2.length ≤ 300 ∧ l3.length ≤ 300 ∧ x4 ≤ 3000 ∧ -9223372036854775808 ≤ x4) := Lib.hid (by omega)
  clear t0 t1 t2 t3 t4 hz
  go_wp2_with fail
  refine (make_any A0 A1 A2 A3 c0 c1 c2 c3 l0 l1 l2 l3 x4 _ (by exact HR.out.1.step B1.out) (by exact HR.out.2.1.step B1.out) (by exact HR.out.2.2.1.step B1.out) (by exact HR.out.2.2.2.step B1.out) HM.out.1 HM.out.2.1 HM.out.2.2.1 HM.out.2.2.2 (by have := HL.out; omega) (by have := HL.out; omega) (by have := HL.out; omega)).mono ?_
  rw [mk_made l0 l1 l2 l3 x4 (by have := HL.out; omega) (by have := HL.out; omega) (by have := HL.out; omega)]
  rintro e w2 ⟨A4, c4, rfl, ho, hb⟩
  obtain ⟨j0, HJ0⟩ : ∃ j, Hid (j = x4.toNat - (irawP (madeP l0 l1 l2 l3)).length) := ⟨_, Lib.hid rfl⟩
  have hmore := congrArg List.length (iraw_more l0 l1 l2 l3 j0)
  rw [List.length_append, List.length_replicate] at hmore
  rw [← HJ0.out] at ho ⊢
  obtain ⟨R, HRR⟩ : ∃ R, Hid (l3 ++ List.replicate j0 0 = R) := ⟨_, Lib.hid rfl⟩
  rw [HRR.out] at ho hmore ⊢
  have hRl : R.length = l3.length + j0 := by rw [← HRR.out]; simp
  obtain ⟨L, HLL⟩ : ∃ L, Hid (irawP (madeP l0 l1 l2 R) = L) := ⟨_, Lib.hid rfl⟩
  have hle := iraw_leB (192, 1, l0, l1) l2 R
  have hge := iraw_geB (192, 1, l0, l1) l2 R
  rw [show irawP ((192, 1, l0, l1), l2, R) = L from HLL.out] at hle hge
  rw [HLL.out] at ho hmore ⊢
  obtain ⟨m, hm⟩ : ∃ m, L.length = m := ⟨_, rfl⟩
  obtain ⟨q, hq⟩ : ∃ q, R.length = q := ⟨_, rfl⟩
  rw [hm] at hle hge hmore
  rw [hq] at hle hge hRl
  simp only [hm] at ho ⊢
  simp only at hle
  have HN : Hid (m ≤ 4000 ∧ q ≤ m ∧ q = l3.length + j0 ∧ x4 ≤ (m : Int) ∧ R.length = q ∧ L.length = m) := Lib.hid (by have := HJ0.out; have := HL.out; exact ⟨by omega, hge, hRl, by omega, hq, hm⟩)
  have B2 := Lib.hid (bel_next B1.out hb)
  have K2 := Lib.hid (((((IW.start w).add HR.out.1 HM.out.1.1 HM.out.1.2).add HR.out.2.1 HM.out.2.1.1 HM.out.2.1.2).add HR.out.2.2.1 HM.out.2.2.1.1 HM.out.2.2.1.2).add HR.out.2.2.2 HM.out.2.2.2.1 HM.out.2.2.2.2 |>.own B2.out ho)
  have HC := Lib.hid (chk_made l0 l1 (by have := HL.out; omega) (by have := HL.out; omega))
  have HX : Hid (iprs L = (((192, 1, l0, l1), l2, R), 0)) := Lib.hid (by rw [← HLL.out]; show iprs (irawP ((192, 1, l0, l1), l2, R)) = _; rw [iprs_raw (192, 1, l0, l1) l2 R (chk_good HC.out).1 (by have := HL.out; omega), HC.out]; rfl)
  clear ho hb hm hq hle hge hmore hRl B1
  go_wp2_with fail
  refine (iparse_any A4 m c4 L _ (by exact (K2.out.row _ (.head _)).1) (by have := HN.out; omega)).mono ?_
  rw [HX.out]
  intro e w3 qq
  obtain ⟨i, rfl, hp, _, kk⟩ := K2.out.ret qq
  have kp := kk.part (i := i) (by simp)
  have hpp := in_parts hp
  rw [hpp.2.2.1, hpp.2.2.2.1, hpp.2.2.2.2.1, hpp.2.2.2.2.2, HN.out.2.2.2.2.1] at kp
  have K3 := Lib.hid kp
  have HP := Lib.hid hpp
  have HPL := Lib.hid hp
  clear qq hp kk hpp kp K2
  have d5 : decide (q < l3.length) = false := decide_eq_false (by have := HN.out; omega)
  have hq4 : q ≤ 4000 := by have := HN.out; omega
  have d6 : decide ((m : Int) < x4) = false := decide_eq_false (by have := HN.out; omega)
  go_wp2_with (first
    | (with_reducible show wpList _ _ _ (⟨some 13, .alloc _, _, _, _, none⟩ :: _) _ _; refine wpList_newI rt_ini rfl rfl ?_; intro w3a x hc2 hb2 hx2; have H2 := Lib.hid (And.intro hc2 (And.intro hb2 hx2)); clear hc2 hb2 hx2)
    | (refine wpList_stI rt_ini rfl (.tmp 13) (.tmp 60) rfl x rfl i zeroI rfl (by exact H2.out.1) ?_; intro w3b hc3 ho3 hs3; have K4 := Lib.hid (K3.out.var H2.out.2.1 H2.out.2.2 hc3 ho3); have a2 := (K4.out.box (29, x, i) (by simp)).c2; rw [HP.out.2.2.1] at a2; clear hc3 ho3 hs3 H2 K3))
  refine (al_same _ _ _ _ _ _ l0 l0 _ (by exact (K4.out.row (i.h.A, l0.length, i.h.c, l0) (by simp)).1) (by exact (K4.out.row (A0, l0.length, c0, l0) (by simp)).1) (by have := HL.out; have := HN.out; unfold maxLen; omega) (by have := HL.out; have := HN.out; unfold maxLen; omega) true (by simp)).mono ?_
  rintro e w5 ⟨rfl, hb⟩
  have K5 := Lib.hid (K4.out.step hb)
  clear hb K4 a2
  have a3 := (K5.out.box (29, x, i) (by simp)).c3; rw [HP.out.2.2.2.1] at a3
  go_wp2_with fail
  refine (al_same _ _ _ _ _ _ l1 l1 _ (by exact (K5.out.row (i.h.B, l1.length, i.h.d, l1) (by simp)).1) (by exact (K5.out.row (A1, l1.length, c1, l1) (by simp)).1) (by have := HL.out; have := HN.out; unfold maxLen; omega) (by have := HL.out; have := HN.out; unfold maxLen; omega) true (by simp)).mono ?_
  rintro e w6 ⟨rfl, hb⟩
  have K6 := Lib.hid (K5.out.step hb)
  clear hb K5 a3
  have a4 := (K6.out.box (29, x, i) (by simp)).c4; rw [HP.out.2.2.2.2.1] at a4
  go_wp2_with fail
  refine (al_same _ _ _ _ _ _ l2 l2 _ (by exact (K6.out.row (i.T, l2.length, i.e, l2) (by simp)).1) (by exact (K6.out.row (A2, l2.length, c2, l2) (by simp)).1) (by have := HL.out; have := HN.out; unfold maxLen; omega) (by have := HL.out; have := HN.out; unfold maxLen; omega) true (by simp)).mono ?_
  rintro e w7 ⟨rfl, hb⟩
  have K7 := Lib.hid (K6.out.step hb)
  clear hb K6 a4
  have a5 := (K7.out.box (29, x, i) (by simp)).c5
  rw [HP.out.2.2.2.2.2, HN.out.2.2.2.2.1] at a5
  have hrr := K7.out.row (i.R, q, i.g, R) (by simp)
  have hcut := cut_h i.R q i.g l3.length (by have := HN.out; have h := hrr.2.1; simp only at h; omega)
  have hfr : RB w7 w7.heap.size (cutA i.R i.g 0) l3.length l3 := by
    have := hrr.1.head0 (j := l3.length) (c := i.g) (by have := HN.out; simp only; omega) hrr.2.1
    rw [← HRR.out] at this
    simpa using this
  have HF := Lib.hid hfr
  clear hfr hrr
  go_wp2_with fail
  clear hcut a5
  refine (al_same _ _ _ _ _ _ l3 l3 _ (by exact HF.out) (by exact (K7.out.row (A3, l3.length, c3, l3) (by simp)).1) (by have := HL.out; have := HN.out; unfold maxLen; omega) (by have := HL.out; have := HN.out; unfold maxLen; omega) true (by simp)).mono ?_
  rintro e w8 ⟨rfl, hb⟩
  have K8 := Lib.hid (K7.out.step hb)
  clear hb K7 HF
  have a5 := (K8.out.box (29, x, i) (by simp)).c5
  rw [HP.out.2.2.2.2.2, HN.out.2.2.2.2.1] at a5
  go_wp2_with fail
  go_loopw [15] (fun k wr => wr = w8 ∧ ∃ j : Nat, j ≤ q ∧ l3.length ≤ j ∧ k = .int .i64 j) (fun k _ => q - (intOf k).toNat)
  case atStart => exact ⟨rfl, l3.length, by have := HN.out; omega, Nat.le_refl _, rfl⟩
  case round =>
    obtain ⟨rfl, j, hj, hj3, rfl⟩ := hrel
    by_cases hlt : j < q
    · obtain ⟨b, oo, hA, _, y, hy, hc⟩ := ((K8.out.row (i.R, q, i.g, R) (by simp)).1).at_ (k := j) hlt
      obtain rfl : y = 0 := by
        rw [← HRR.out, List.getElem?_append_right hj3] at hy
        have h2 := List.mem_of_getElem? hy
        exact (List.mem_replicate.1 h2).2
      simp only at hA
      rw [hA] at a5
      clear hy hA
      go_wp2_with fail
      go_roundw
      case rel => exact ⟨trivial, j + 1, by omega, by omega, by go_num⟩
      case measure => simp [intOf]; omega
    · clear hj hj3
      go_wp2_with (first
        | (refine wpList_ldI rt_ini rfl (.tmp 13) rfl x rfl i (by exact (K8.out.box (29, x, i) (by simp))) ?_))
      refine (ibytes_any i _ (K8.out.ini i (by simp)) (by rw [HP.out.2.2.2.2.1]; have := HL.out; omega) (by rw [HP.out.2.2.2.2.2]; have := HN.out; omega) (by rw [HP.out.2.2.2.2.1, HP.out.2.2.2.2.2]; have := HL.out; have := HN.out; omega)).mono ?_
      rw [HPL.out, ibyt_good _ _ _ HC.out, show irawP ((192, 1, l0, l1), l2, R) = L from HLL.out]
      rintro e w9 ⟨A9, c9, rfl, ho, hb⟩
      have K9 := Lib.hid (K8.out.own hb ho)
      clear ho hb K8 a5
      rw [HN.out.2.2.2.2.2] at K9 ⊢
      go_wp2_with fail
      refine (al_same _ _ _ _ _ _ L L _ (by exact (K9.out.row (A9, m, c9, L) (by simp)).1) (by exact (K9.out.row (A4, m, c4, L) (by simp)).1) (by have := HN.out; unfold maxLen; omega) (by have := HN.out; unfold maxLen; omega) true (by simp)).mono ?_
      rintro e w10 ⟨rfl, hb⟩
      have K10 := Lib.hid ((K9.out.step hb).sub (rows' := [(A4, m, c4, L)]) (is' := [i]) (bs' := [(29, x, i)]) (by simp) (by simp) (by simp))
      have HRX : Hid (i.h.A = i.h.A) := Lib.hid rfl
      have R10 := Lib.hid (And.intro (K9.out.step hb) trivial)
      clear hb K9
      go_wp2_with fail
      go_loopw [18] (fun k wr => ∃ j : Nat, j + q ≤ m ∧ k = .int .i64 j ∧ IW w [(A4, m, c4, L)] [i] [(29, x, i)] wr) (fun k _ => m - (intOf k).toNat)
      case atStart => exact ⟨0, by have := HN.out; omega, rfl, K10.out⟩
      case round =>
        obtain ⟨j, hj, rfl, kw⟩ := hrel
        have K11 := Lib.hid kw
        have a5 := (K11.out.box (29, x, i) (by simp)).c5
        rw [HP.out.2.2.2.2.2, HN.out.2.2.2.2.1] at a5
        have hm4 : m ≤ 4000 := by have := HN.out; omega
        have hqm : q ≤ m := by omega
        clear kw K10
        by_cases hlt : j < m - q
        · have dj : decide ((j : Int) < (m : Int) - (q : Int)) = true := decide_eq_true (by omega)
          have hcut := cut_h A4 m c4 j (by have h := (K11.out.row (A4, m, c4, L) (by simp)).2.1; simp only at h; omega)
          have HF := Lib.hid ((K11.out.row (A4, m, c4, L) (by simp)).1.head0 (j := j) (c := c4) (by simp only; omega) (K11.out.row (A4, m, c4, L) (by simp)).2.1)
          go_wp2_with fail
          clear hcut a5
          obtain ⟨r, HRI⟩ : ∃ r, Hid (r = iprs (L.take j)) := ⟨_, Lib.hid rfl⟩
          have hr12 : r.2 = 12 := by
            rw [HRI.out, ← HLL.out]
            exact iprs_cut (192, 1, l0, l1) l2 R HC.out (by have := HL.out; omega) j (by rw [HN.out.2.2.2.2.1, show irawP ((192, 1, l0, l1), l2, R) = L from HLL.out, HN.out.2.2.2.2.2]; omega)
          have HR12 := Lib.hid hr12
          clear hr12
          refine (iparse_any _ j c4 (L.take j) _ (by exact HF.out) (by omega)).mono ?_
          rw [← HRI.out]
          intro e w12 qq
          obtain ⟨i2, rfl, _, _, kk⟩ := K11.out.ret qq
          have K12 := Lib.hid kk
          rw [HR12.out]
          clear qq kk K11
          go_wp2_with (first
            | (with_reducible show wpList _ _ _ (⟨some 19, .alloc _, _, _, _, none⟩ :: _) _ _; refine wpList_newI rt_ini rfl rfl ?_; intro w12a y hc2 hb2 hx2; have H2 := Lib.hid (And.intro hc2 (And.intro hb2 hx2)); clear hc2 hb2 hx2)
            | (refine wpList_stI rt_ini rfl (.tmp 19) (.tmp 158) rfl y rfl i2 zeroI rfl (by exact H2.out.1) ?_; intro w12b hc3 ho3 hs3; have K13 := Lib.hid (K12.out.var H2.out.2.1 H2.out.2.2 hc3 ho3); clear hc3 ho3 hs3 H2 K12))
          go_roundw
          case rel => exact ⟨j + 1, by omega, by go_num, K13.out.sub (by simp) (by simp) (by simp)⟩
          case measure => simp [intOf]; omega
        · have dj : decide ((j : Int) < (m : Int) - (q : Int)) = false := decide_eq_false (by omega)
          clear hlt
          obtain ⟨H, HH⟩ : ∃ H : Hd, Hid (H = ⟨240, 1, i.h.A, i.h.c, l0, i.h.B, i.h.d, l1⟩) := ⟨_, Lib.hid rfl⟩
          have E9 : Hid (H.val = .agg #[.int .u8 240, .int .u32 1, .slice i.h.A l0.length i.h.c, .slice i.h.B l1.length i.h.d]) := Lib.hid (by rw [HH.out]; rfl)
          obtain ⟨I2, HI2⟩ : ∃ I : In, Hid (I = { i with h := H }) := ⟨_, Lib.hid rfl⟩
          have HP2 : Hid (I2.pl = ((240, 1, l0, l1), l2, R)) := Lib.hid (by rw [HI2.out, HH.out]; show ((240, 1, l0, l1), i.t, i.r) = _; rw [HP.out.2.2.2.2.1, HP.out.2.2.2.2.2])
          have HOK2 : Hid (∀ w', i.ok w' → I2.ok w') := Lib.hid (fun w' k => by
            have ka := k.h.a
            have kb := k.h.b
            have kc := k.h.ca
            have kd := k.h.cb
            rw [HP.out.2.2.1] at ka kc
            rw [HP.out.2.2.2.1] at kb kd
            rw [HI2.out, HH.out]
            exact ⟨⟨ka, kb, kc, kd, by simp⟩, k.t, k.r, k.ct, k.cr⟩)
          go_wp2_with (first
            | (refine wpList_ldI rt_ini rfl (.tmp 13) rfl x rfl i (by exact (K11.out.box (29, x, i) (by simp))) ?_)
            | (with_reducible show wpList _ _ _ (⟨some 21, .alloc _, _, _, _, none⟩ :: _) _ _; refine wpList_newI rt_ini rfl rfl ?_; intro wa y hc2 hb2 hx2; have H2 := Lib.hid (And.intro hc2 (And.intro hb2 hx2)); clear hc2 hb2 hx2)
            | (refine wpList_stI rt_ini rfl (.tmp 21) (.tmp 162) rfl y rfl i zeroI rfl (by exact H2.out.1) ?_; intro wb hc3 ho3 hs3; have H3 := Lib.hid (And.intro hc3 (And.intro (H2.out.2.1.trans (ho3.below (fun j hj => by rw [List.mem_singleton.1 hj]; exact H2.out.2.2) H2.out.2.1.size)) H2.out.2.2)); have a2 := ((K11.out.box (29, x, i) (by simp)).step H3.out.2.1).c2; have a3 := ((K11.out.box (29, x, i) (by simp)).step H3.out.2.1).c3; rw [HP.out.2.2.1] at a2; rw [HP.out.2.2.2.1] at a3; clear hc3 ho3 hs3 H2)
            | (refine wpList_stIh ht_head rfl (.tmp 170) (.tmp 169) rfl y rfl H i (by rw [E9.out]; rfl) (by exact H3.out.1) ?_; intro wc hc4 ho4 hs4; rw [← HI2.out] at hc4; have H4 := Lib.hid (And.intro hc4 (H3.out.2.1.trans (ho4.below (fun j hj => by rw [List.mem_singleton.1 hj]; exact H3.out.2.2) H3.out.2.1.size))); clear hc4 ho4 hs4)
            | (refine wpList_ldI rt_ini rfl (.tmp 21) rfl y rfl I2 (by exact H4.out.1) ?_))
          refine (ibytes_any I2 _ (by exact HOK2.out _ ((K11.out.ini i (by simp)).step H4.out.2)) (by rw [HI2.out]; show i.t.length ≤ _; rw [HP.out.2.2.2.2.1]; have := HL.out; omega) (by rw [HI2.out]; show i.r.length ≤ _; rw [HP.out.2.2.2.2.2]; have := HN.out; omega) (by rw [HI2.out]; show i.t.length + i.r.length ≤ _; rw [HP.out.2.2.2.2.1, HP.out.2.2.2.2.2]; have := HL.out; have := HN.out; omega)).mono ?_
          rw [HP2.out, ibyt_240]
          rintro e w14 ⟨A14, c14, rfl, ho, hb⟩
          have B14 := Lib.hid (bel_next (bel_next K11.out.bel H4.out.2) hb)
          clear ho hb a2 a3
          go_wp2_with fail
          go_ret
          exact ⟨rfl, B14.out⟩
end Go.Proofs.Ytdagmhngkpbonaa
