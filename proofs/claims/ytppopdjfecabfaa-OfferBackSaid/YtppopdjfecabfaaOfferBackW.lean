/- Layer 13's statement OfferBack, walked. No condition. -/
import Derived.Test.YtppopdjfecabfaaOffW
import Derived.Test.YtppopdjfecabfaaOpenVers
namespace Go.Proofs.Ytppopdjfecabfaa
open Go.RowKit
set_option linter.unusedVariables false
set_option linter.unusedSimpArgs false
attribute [local irreducible] putL byt mkO offL rawP verL prs splV vnum numL oprs answ hasV lngL
attribute [local go_sem ↓] ex_ldHd ex_stHd ex_ldHr ex_stHr
set_option maxRecDepth 100000 in
set_option maxHeartbeats 8000000 in
theorem OfferBack_walk (x0 : Int) (A1 : Option Addr) (n1 c1 : Nat) (l1 : List UInt8) (A2 : Option Addr) (n2 c2 : Nat) (l2 : List UInt8) (A3 : Option Addr) (n3 c3 : Nat) (l3 : List Nat) (w : World) (h0 : (Lit.int .u8 x0).wf = true) (h1 : RB w w.heap.size A1 n1 l1) (m1 : n1 ≤ c1 ∧ c1 ≤ maxLen) (h2 : RB w w.heap.size A2 n2 l2) (m2 : n2 ≤ c2 ∧ c2 ≤ maxLen) (h3 : VL w w.heap.size A3 n3 l3) (m3 : n3 ≤ c3 ∧ c3 ≤ maxLen) :
    Calls Try.prog 5 #[.int .u8 x0, .slice A1 n1 c1, .slice A2 n2 c2, .slice A3 n3 c3] w fun e w' => e = .returned (.bool true) ∧ Below w.heap.size w w' := by
  have hl1 := h1.len
  have hl2 := h2.len
  have hl3 := h3.len
  have HV3 := Lib.hid h3.2.2
  obtain ⟨f, hf⟩ : ∃ f : UInt8, (f.toNat : Int) = x0 := by have := bounds_u8 h0; exact ⟨UInt8.ofNat x0.toNat, by rw [UInt8.toNat_ofNat']; omega⟩
  subst hf
  clear h0
  have K0 := Lib.hid ((((VW.start w).add h1 m1.1 m1.2).add h2 m2.1 m2.2).addv h3 m3.1 m3.2)
  clear h1 h2 h3
  by_cases t0 : 255 < n1
  · have d0 : decide (255 < (n1 : Int)) = true := decide_eq_true (by omega)
    go_enter Try.func5, Try.ntmps5
    go_wp2_with fail
    refine (oalive_any _).mono ?_
    rintro e w1 ⟨rfl, hb1⟩
    have K1 := Lib.hid (K0.out.step hb1)
    clear hb1 K0
    go_wp2_with fail
    go_ret
    exact ⟨rfl, K1.out.bel⟩
  have d0 : decide (255 < (n1 : Int)) = false := decide_eq_false (by omega)
  by_cases t1 : 255 < n2
  · have d1 : decide (255 < (n2 : Int)) = true := decide_eq_true (by omega)
    go_enter Try.func5, Try.ntmps5
    go_wp2_with fail
    refine (oalive_any _).mono ?_
    rintro e w1 ⟨rfl, hb1⟩
    have K1 := Lib.hid (K0.out.step hb1)
    clear hb1 K0
    go_wp2_with fail
    go_ret
    exact ⟨rfl, K1.out.bel⟩
  have d1 : decide (255 < (n2 : Int)) = false := decide_eq_false (by omega)
  by_cases t2 : n3 < 1
  · have d2 : decide ((n3 : Int) < 1) = true := decide_eq_true (by omega)
    go_enter Try.func5, Try.ntmps5
    go_wp2_with fail
    refine (oalive_any _).mono ?_
    rintro e w1 ⟨rfl, hb1⟩
    have K1 := Lib.hid (K0.out.step hb1)
    clear hb1 K0
    go_wp2_with fail
    go_ret
    exact ⟨rfl, K1.out.bel⟩
  have d2 : decide ((n3 : Int) < 1) = false := decide_eq_false (by omega)
  by_cases t3 : 64 < n3
  · have d3 : decide (64 < (n3 : Int)) = true := decide_eq_true (by omega)
    go_enter Try.func5, Try.ntmps5
    go_wp2_with fail
    refine (oalive_any _).mono ?_
    rintro e w1 ⟨rfl, hb1⟩
    have K1 := Lib.hid (K0.out.step hb1)
    clear hb1 K0
    go_wp2_with fail
    go_ret
    exact ⟨rfl, K1.out.bel⟩
  have d3 : decide (64 < (n3 : Int)) = false := decide_eq_false (by omega)
  obtain ⟨L, HL⟩ : ∃ L, Hid (L = offL f l1 l2 l3) := ⟨_, Lib.hid rfl⟩
  obtain ⟨m, hm⟩ : ∃ m, m = 7 + n1 + n2 + 4 * n3 := ⟨_, rfl⟩
  have HLL : Hid (L.length = m) := Lib.hid (by rw [HL.out, off_len]; omega)
  have HMK : Hid (mkO f l1 l2 l3 = (L, 0)) := Lib.hid (by rw [HL.out]; exact mk_off f l1 l2 l3 (by omega) (by omega) (by omega) (by omega))
  have HPR : Hid (oprs L = ((f128 f, 0, l1, l2), l3, 0)) := Lib.hid (by rw [HL.out]; exact off_oprs f l1 l2 l3 (by omega) (by omega) (by omega) HV3.out)
  obtain ⟨C, HC⟩ : ∃ C, Hid (C = offL f l2 l1 l3) := ⟨_, Lib.hid rfl⟩
  have HCL : Hid (C.length = m) := Lib.hid (by rw [HC.out, off_len]; omega)
  have HA1 : Hid (answ L f l3 = (C, 0)) := Lib.hid (by rw [HL.out, HC.out]; exact off_answ f f l1 l2 l3 l3 (by omega) (by omega) (by omega) (by omega))
  have HA2 : Hid (answ C f l3 = (L, 0)) := Lib.hid (by rw [HL.out, HC.out]; exact off_answ f f l2 l1 l3 l3 (by omega) (by omega) (by omega) (by omega))
  have HLG : Hid (lngL L = true) := Lib.hid (by rw [HL.out]; unfold offL; exact long_raw _ (off_good f l1 l2 (by omega) (by omega)) _)
  have HHS : Hid (∀ x, x ∈ l3 → hasV L x = true) := Lib.hid (fun x hx => by rw [HL.out, has_off f l1 l2 l3 x (by omega) (by omega) (by omega) HV3.out, List.contains_iff_mem]; exact hx)
  have hfa := f128_and f
  have m10 : m ≤ 10000 := by omega
  have HL1 := Lib.hid hl1
  have HL2 := Lib.hid hl2
  clear hl1 hl2 hl3 hm HV3
  go_enter Try.func5, Try.ntmps5
  go_wp2_with fail
  refine (oalive_any _).mono ?_
  rintro e w1 ⟨rfl, hb1⟩
  have K1 := Lib.hid (K0.out.step hb1)
  clear hb1 K0
  go_wp2_with fail
  refine (omake_lit f _ rfl A1 A2 A3 n1 c1 n2 c2 n3 c3 l1 l2 l3 _ (by exact (K1.out.row (A1, n1, c1, l1) (by simp)).1) m1 (by exact (K1.out.row (A2, n2, c2, l2) (by simp)).1) m2 (by omega) (by omega) (by exact (K1.out.vl (A3, n3, c3, l3) (by simp)).1) (by unfold maxLen; omega)).mono ?_
  rw [HMK.out, HLL.out]
  rintro e w2 ⟨A4, c4, rfl, ho, hb⟩
  have K2 := Lib.hid (K1.out.own hb ho)
  clear ho hb K1
  go_wp2_with fail
  refine (oparse_any A4 m c4 L _ (by exact (K2.out.row (A4, m, c4, L) (by simp)).1) (by exact (K2.out.row (A4, m, c4, L) (by simp)).2) (by omega)).mono ?_
  rw [HPR.out]
  intro e w3 qq
  obtain ⟨h, A5, n5, c5, rfl, hp, hn, kk⟩ := K2.out.hdr qq
  have K3 := Lib.hid kk
  have HPh := Lib.hid hp
  have HNh := Lib.hid hn
  clear qq kk hp hn K2
  have HPP := Lib.hid (pl_parts HPh.out)
  obtain rfl : n3 = n5 := by have ha : l3.length = n5 := HNh.out; have hb : l3.length = n3 := (K3.out.vl (A3, n3, c3, l3) (by simp)).1.len; omega
  go_wp2_with (first
    | (with_reducible show wpList _ _ _ (⟨some 11, .alloc _, _, _, _, none⟩ :: _) _ _; refine wpList_allocN ht_head rfl rfl ?_; intro w3a x hc2 hb2 hx2; have H2 := Lib.hid (And.intro hc2 (And.intro hb2 hx2)); clear hc2 hb2 hx2)
    | (refine wpList_stH ht_head rfl (.tmp 11) (.tmp 50) rfl x rfl h zeroH rfl (by exact H2.out.1) ?_; intro w4 hc3 ho3 hs3; have K4 := Lib.hid (K3.out.var H2.out.2.1 H2.out.2.2 hc3 ho3); have e0 := (K4.out.box (37, x, h) (by simp)).c0; have e2 := (K4.out.box (37, x, h) (by simp)).c2; rw [HPP.out.1] at e0; rw [HPP.out.2.2.1, HL1.out] at e2; clear hc3 ho3 hs3 H2 K3))
  have KA : Hid (RB w4 w4.heap.size h.A n1 l1 ∧ n1 ≤ h.c ∧ h.c ≤ maxLen) := Lib.hid (by have k := K4.out.hd h (by simp); have ka := k.a; have kc := k.ca; rw [HPP.out.2.2.1, HL1.out] at ka kc; exact ⟨ka, kc⟩)
  have KB : Hid (RB w4 w4.heap.size h.B n2 l2 ∧ n2 ≤ h.d ∧ h.d ≤ maxLen) := Lib.hid (by have k := K4.out.hd h (by simp); have ka := k.b; have kc := k.cb; rw [HPP.out.2.2.2, HL2.out] at ka kc; exact ⟨ka, kc⟩)
  have K5 := Lib.hid ((K4.out.add KA.out.1 KA.out.2.1 KA.out.2.2).add KB.out.1 KB.out.2.1 KB.out.2.2)
  clear K4 KA KB e0 e2
  refine (al_same h.A A1 n1 h.c n1 c1 l1 l1 _ (by exact (K5.out.row (h.A, n1, h.c, l1) (by simp)).1) (by exact (K5.out.row (A1, n1, c1, l1) (by simp)).1) (by unfold maxLen; omega) (by unfold maxLen; omega) true (by simp)).mono ?_
  rintro e w6 ⟨rfl, hb⟩
  have K6 := Lib.hid (K5.out.step hb)
  clear hb K5
  have e3 := (K6.out.box (37, x, h) (by simp)).c3
  rw [HPP.out.2.2.2, HL2.out] at e3
  go_wp2_with fail
  clear e3
  refine (al_same h.B A2 n2 h.d n2 c2 l2 l2 _ (by exact (K6.out.row (h.B, n2, h.d, l2) (by simp)).1) (by exact (K6.out.row (A2, n2, c2, l2) (by simp)).1) (by unfold maxLen; omega) (by unfold maxLen; omega) true (by simp)).mono ?_
  rintro e w7 ⟨rfl, hb⟩
  have K7 := Lib.hid (K6.out.step hb)
  clear hb K6
  go_wp2_with fail
  refine (al_vsame A5 A3 n3 c5 n3 c3 l3 l3 _ (by exact (K7.out.vl (A5, n3, c5, l3) (by simp)).1) (by exact (K7.out.vl (A3, n3, c3, l3) (by simp)).1) (by unfold maxLen; omega) (by unfold maxLen; omega) true (by simp)).mono ?_
  rintro e w8 ⟨rfl, hb⟩
  have K8 := Lib.hid (K7.out.step hb)
  clear hb K7
  have e0 := (K8.out.box (37, x, h) (by simp)).c0
  rw [HPP.out.1] at e0
  go_wp2_with fail
  clear e0
  refine (hlong_any A4 m c4 L _ (by exact (K8.out.row (A4, m, c4, L) (by simp)).1) true HLG.out).mono ?_
  rintro e w9 ⟨rfl, rfl⟩
  go_wp2_with fail
  obtain ⟨rows, HROWS⟩ : ∃ rows : List (Option Addr × Nat × Nat × List UInt8), Hid (VW w rows [h] [(37, x, h)] [(A5, n3, c5, l3), (A3, n3, c3, l3)] w8 ∧ (A4, m, c4, L) ∈ rows) := ⟨_, Lib.hid ⟨K8.out, by simp⟩⟩
  clear K8
  go_loopw [14] (fun i wr => ∃ k : Nat, k ≤ n3 ∧ i = .int .i64 k ∧ Hid (VW w rows [h] [(37, x, h)] [(A5, n3, c5, l3), (A3, n3, c3, l3)] wr)) (fun i _ => n3 - (intOf i).toNat)
  case atStart => exact ⟨0, Nat.zero_le _, rfl, Lib.hid HROWS.out.1⟩
  case round =>
    obtain ⟨k, hk, rfl, KR⟩ := hrel
    by_cases hlt : k < n3
    · obtain ⟨b, o, hA3, hb, y, hy, hy32, hcl⟩ := (KR.out.vl (A3, n3, c3, l3) (by simp)).1.at_ (k := k) hlt
      have hA3' : A3 = some ⟨b, o, none⟩ := hA3
      have HM := Lib.hid (HHS.out y (List.mem_of_getElem? hy))
      have HN := Lib.hid (ohas_lit A4 m c4 L y _ rfl wr (by exact (KR.out.row (A4, m, c4, L) HROWS.out.2).1) (by exact (KR.out.row (A4, m, c4, L) HROWS.out.2).2) (by omega) hy32 true HM.out)
      have hcl' : wr.cell? ⟨b, o + k, none⟩ = some (.int .u32 (y : Int)) := hcl
      clear hy hcl hA3
      subst hA3'
      go_wp2_with fail
      refine HN.out.mono ?_
      rintro e w10 ⟨rfl, hb10⟩
      have K10 := Lib.hid (KR.out.step hb10)
      clear hb10 hcl' HN KR
      go_wp2_with fail
      go_roundw
      case rel => exact ⟨k + 1, by omega, by go_num, K10⟩
      case measure => simp [intOf]; omega
    · obtain rfl : k = n3 := by omega
      go_wp2_with fail
      refine (oanswer_lit A4 m c4 L f _ rfl A3 k c3 l3 _ (by exact (KR.out.row (A4, m, c4, L) HROWS.out.2).1) (by exact (KR.out.row (A4, m, c4, L) HROWS.out.2).2) (by omega) (by exact (KR.out.vl (A3, k, c3, l3) (by simp)).1) (by unfold maxLen; omega)).mono ?_
      rw [HA1.out, HCL.out]
      rintro e w11 ⟨A6, c6, rfl, ho, hb⟩
      have K11 := Lib.hid (KR.out.own hb ho)
      clear ho hb KR
      go_wp2_with fail
      refine (oanswer_lit A6 m c6 C f _ rfl A3 k c3 l3 _ (by exact (K11.out.row _ (.head _)).1) (by exact (K11.out.row _ (.head _)).2) (by omega) (by exact (K11.out.vl (A3, k, c3, l3) (by simp)).1) (by unfold maxLen; omega)).mono ?_
      rw [HA2.out, HLL.out]
      rintro e w12 ⟨A7, c7, rfl, ho, hb⟩
      have K12 := Lib.hid (K11.out.own hb ho)
      clear ho hb K11
      go_wp2_with fail
      refine (al_same A7 A4 m c7 m c4 L L _ (by exact (K12.out.row _ (.head _)).1) (by exact (K12.out.row (A4, m, c4, L) (.tail _ (.tail _ HROWS.out.2))).1) (by unfold maxLen; omega) (by unfold maxLen; omega) true (by simp)).mono ?_
      rintro e w13 ⟨rfl, hb⟩
      have K13 := Lib.hid (K12.out.step hb)
      clear hb K12
      go_wp2_with fail
      go_ret
      exact ⟨rfl, K13.out.bel⟩
end Go.Proofs.Ytppopdjfecabfaa
