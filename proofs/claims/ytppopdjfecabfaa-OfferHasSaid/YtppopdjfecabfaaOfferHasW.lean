/- Layer 13's statement OfferHas, walked. No condition. -/
import Derived.Test.YtppopdjfecabfaaOffW
import Derived.Test.YtppopdjfecabfaaOpenVers
namespace Go.Proofs.Ytppopdjfecabfaa
open Go.RowKit
set_option linter.unusedVariables false
set_option linter.unusedSimpArgs false
attribute [local irreducible] putL byt mkO offL rawP verL prs splV vnum numL oprs answ hasV lngL
attribute [local go_sem ↓] ex_ldHd ex_stHd ex_ldHr ex_stHr
theorem cont_snoc (l : List Nat) (y v : Nat) : (l ++ [y]).contains v = (l.contains v || ((y : Int) == (v : Int))) := by
  rw [Bool.eq_iff_iff, Bool.or_eq_true, List.contains_iff_mem, List.contains_iff_mem, List.mem_append, List.mem_singleton, beq_iff_eq]
  constructor
  · rintro (h | h)
    · exact .inl h
    · exact .inr (by omega)
  · rintro (h | h)
    · exact .inl h
    · exact .inr (by omega)
set_option maxRecDepth 100000 in
set_option maxHeartbeats 8000000 in
theorem OfferHas_walk (x0 : Int) (A1 : Option Addr) (n1 c1 : Nat) (l1 : List UInt8) (A2 : Option Addr) (n2 c2 : Nat) (l2 : List UInt8) (A3 : Option Addr) (n3 c3 : Nat) (l3 : List Nat) (x4 : Int) (w : World) (h0 : (Lit.int .u8 x0).wf = true) (h1 : RB w w.heap.size A1 n1 l1) (m1 : n1 ≤ c1 ∧ c1 ≤ maxLen) (h2 : RB w w.heap.size A2 n2 l2) (m2 : n2 ≤ c2 ∧ c2 ≤ maxLen) (h3 : VL w w.heap.size A3 n3 l3) (m3 : n3 ≤ c3 ∧ c3 ≤ maxLen) (h4 : (Lit.int .u32 x4).wf = true) :
    Calls Try.prog 6 #[.int .u8 x0, .slice A1 n1 c1, .slice A2 n2 c2, .slice A3 n3 c3, .int .u32 x4] w fun e w' => e = .returned (.bool true) ∧ Below w.heap.size w w' := by
  have hl1 := h1.len
  have hl2 := h2.len
  have hl3 := h3.len
  have HV3 := Lib.hid h3.2.2
  obtain ⟨f, hf⟩ : ∃ f : UInt8, (f.toNat : Int) = x0 := by have := bounds_u8 h0; exact ⟨UInt8.ofNat x0.toNat, by rw [UInt8.toNat_ofNat']; omega⟩
  subst hf
  clear h0
  obtain ⟨v, hv, hv32⟩ : ∃ v : Nat, (v : Int) = x4 ∧ v ≤ 4294967295 := by have := bounds_u32 h4; exact ⟨x4.toNat, by omega, by omega⟩
  subst hv
  clear h4
  have K0 := Lib.hid ((((VW.start w).add h1 m1.1 m1.2).add h2 m2.1 m2.2).addv h3 m3.1 m3.2)
  clear h1 h2 h3
  by_cases t0 : 255 < n1
  · have d0 : decide (255 < (n1 : Int)) = true := decide_eq_true (by omega)
    go_enter Try.func6, Try.ntmps6
    go_wp2_with fail
    refine (oalive_any _).mono ?_
    rintro e w1 ⟨rfl, hb1⟩
    have K1 := Lib.hid (K0.out.step hb1)
    clear hb1 K0
    go_wp2_with fail
    go_ret
    exact ⟨rfl, K1.out.bel⟩
  have d0 : decide (255 < (n1 : Int)) = false := decide_eq_false (by omega)
  by_cases t1 : 255 < n2
  · have d1 : decide (255 < (n2 : Int)) = true := decide_eq_true (by omega)
    go_enter Try.func6, Try.ntmps6
    go_wp2_with fail
    refine (oalive_any _).mono ?_
    rintro e w1 ⟨rfl, hb1⟩
    have K1 := Lib.hid (K0.out.step hb1)
    clear hb1 K0
    go_wp2_with fail
    go_ret
    exact ⟨rfl, K1.out.bel⟩
  have d1 : decide (255 < (n2 : Int)) = false := decide_eq_false (by omega)
  by_cases t2 : n3 < 1
  · have d2 : decide ((n3 : Int) < 1) = true := decide_eq_true (by omega)
    go_enter Try.func6, Try.ntmps6
    go_wp2_with fail
    refine (oalive_any _).mono ?_
    rintro e w1 ⟨rfl, hb1⟩
    have K1 := Lib.hid (K0.out.step hb1)
    clear hb1 K0
    go_wp2_with fail
    go_ret
    exact ⟨rfl, K1.out.bel⟩
  have d2 : decide ((n3 : Int) < 1) = false := decide_eq_false (by omega)
  by_cases t3 : 64 < n3
  · have d3 : decide (64 < (n3 : Int)) = true := decide_eq_true (by omega)
    go_enter Try.func6, Try.ntmps6
    go_wp2_with fail
    refine (oalive_any _).mono ?_
    rintro e w1 ⟨rfl, hb1⟩
    have K1 := Lib.hid (K0.out.step hb1)
    clear hb1 K0
    go_wp2_with fail
    go_ret
    exact ⟨rfl, K1.out.bel⟩
  have d3 : decide (64 < (n3 : Int)) = false := decide_eq_false (by omega)
  obtain ⟨L, HL⟩ : ∃ L, Hid (L = offL f l1 l2 l3) := ⟨_, Lib.hid rfl⟩
  obtain ⟨m, hm⟩ : ∃ m, m = 7 + n1 + n2 + 4 * n3 := ⟨_, rfl⟩
  have HLL : Hid (L.length = m) := Lib.hid (by rw [HL.out, off_len]; omega)
  have HMK : Hid (mkO f l1 l2 l3 = (L, 0)) := Lib.hid (by rw [HL.out]; exact mk_off f l1 l2 l3 (by omega) (by omega) (by omega) (by omega))
  have HPR : Hid (oprs L = ((f128 f, 0, l1, l2), l3, 0)) := Lib.hid (by rw [HL.out]; exact off_oprs f l1 l2 l3 (by omega) (by omega) (by omega) HV3.out)
  have HCT : Hid (oprs (L.take (m - 1)) = (zeroP, [], 10)) := Lib.hid (by have h := off_cut f l1 l2 l3 (by omega) (by omega) (by omega); rw [← HL.out, HLL.out] at h; exact h)
  have HHS : Hid (hasV L v = l3.contains v) := Lib.hid (by rw [HL.out]; exact has_off f l1 l2 l3 v (by omega) (by omega) (by omega) HV3.out)
  have HHT : Hid (hasV (L.take (m - 1)) v = false) := Lib.hid (by have h := HCT.out; unfold hasV; rw [h]; rfl)
  have hne : ((m : Int) != 7 + (n1 : Int) + (n2 : Int) + 4 * (n3 : Int)) = false := by rw [bne_eq_false_iff_eq]; omega
  obtain ⟨p, hp⟩ : ∃ p, p = m - 1 := ⟨_, rfl⟩
  rw [← hp] at HCT HHT
  have hmp : (m : Int) - 1 = (p : Int) := by omega
  have m10 : m ≤ 10000 := by omega
  have p10 : p ≤ 10000 := by omega
  have HPM : Hid (p ≤ m) := Lib.hid (by omega)
  have HL3 := Lib.hid hl3
  clear hl1 hl2 hl3 hm HV3 hp
  go_enter Try.func6, Try.ntmps6
  go_wp2_with fail
  refine (oalive_any _).mono ?_
  rintro e w1 ⟨rfl, hb1⟩
  have K1 := Lib.hid (K0.out.step hb1)
  clear hb1 K0
  go_wp2_with fail
  refine (omake_lit f _ rfl A1 A2 A3 n1 c1 n2 c2 n3 c3 l1 l2 l3 _ (by exact (K1.out.row (A1, n1, c1, l1) (by simp)).1) m1 (by exact (K1.out.row (A2, n2, c2, l2) (by simp)).1) m2 (by omega) (by omega) (by exact (K1.out.vl (A3, n3, c3, l3) (by simp)).1) (by unfold maxLen; omega)).mono ?_
  rw [HMK.out, HLL.out]
  rintro e w2 ⟨A4, c4, rfl, ho, hb⟩
  have K2 := Lib.hid (K1.out.own hb ho)
  clear ho hb K1
  go_wp2_with fail
  have hc4 := (K2.out.row (A4, m, c4, L) (by simp)).2
  have hcut := cut_h A4 m c4 p (by have := HPM.out; have h := hc4.1; simp only at h; omega)
  have HCA : Hid (RB w2 w2.heap.size (cutA A4 c4 0) p (L.take p)) := Lib.hid (by
    have h := (K2.out.row (A4, m, c4, L) (by simp)).1.part (i := 0) (j := p) (c := c4) (Nat.zero_le _) HPM.out hc4.1
    rw [List.drop_zero] at h
    exact h)
  obtain ⟨ca, HCC⟩ : ∃ ca, Hid (ca = cutA A4 c4 0) := ⟨_, Lib.hid rfl⟩
  rw [← HCC.out] at hcut HCA
  have K3 := Lib.hid (K2.out.add HCA.out (Nat.le_trans HPM.out hc4.1) hc4.2)
  clear K2 hc4 HCA HCC
  go_loopw [13, 14] (fun q i wr => ∃ k : Nat, k ≤ n3 ∧ i = .int .i64 k ∧ wr = w2 ∧ q = .bool ((l3.take k).contains v)) (fun _ i _ => n3 - (intOf i).toNat)
  case atStart => exact ⟨0, Nat.zero_le _, rfl, rfl, by simp⟩
  case round =>
    obtain ⟨k, hk, rfl, rfl, rfl⟩ := hrel
    by_cases hlt : k < n3
    · obtain ⟨b, o, hA3, hb, y, hy, hy32, hcl⟩ := (K3.out.vl (A3, n3, c3, l3) (by simp)).1.at_ (k := k) hlt
      have hA3' : A3 = some ⟨b, o, none⟩ := hA3
      have hcl' : wr.cell? ⟨b, o + k, none⟩ = some (.int .u32 (y : Int)) := hcl
      have HY : Hid ((l3.take (k + 1)).contains v = ((l3.take k).contains v || ((y : Int) == (v : Int)))) := Lib.hid (by rw [vtk_snoc hy]; exact cont_snoc _ y v)
      obtain ⟨q, hq⟩ : ∃ q, (l3.take k).contains v = q := ⟨_, rfl⟩
      obtain ⟨z, hz⟩ : ∃ z, ((y : Int) == (v : Int)) = z := ⟨_, rfl⟩
      rw [hq, hz] at HY
      rw [hq]
      have HQ := Lib.hid hq
      clear hy hcl hA3 hq
      subst hA3'
      cases q
      · go_wp2_with fail
        go_roundw
        case rel => exact ⟨k + 1, by omega, by go_num, trivial, by rw [HY.out]; rfl⟩
        case measure => simp [intOf]; omega
      · go_wp2_with fail
        go_roundw
        case rel => exact ⟨k + 1, by omega, by go_num, trivial, by rw [HY.out]; rfl⟩
        case measure => simp [intOf]; omega
    · obtain rfl : k = n3 := by omega
      obtain ⟨u, HU⟩ : ∃ u, Hid (l3.contains v = u) := ⟨_, Lib.hid rfl⟩
      have e : l3.take k = l3 := List.take_of_length_le (by have := HL3.out; omega)
      rw [e, HU.out]
      rw [HU.out] at HHS
      clear e
      go_wp2_with fail
      refine (oparse_any ca p c4 (L.take p) _ (by exact (K3.out.row _ (.head _)).1) (by exact (K3.out.row _ (.head _)).2) (by omega)).mono ?_
      rw [HCT.out]
      intro e w4 qq
      obtain ⟨h, A5, n5, c5, rfl, hp, hn, kk⟩ := K3.out.hdr qq
      have K4 := Lib.hid kk
      have HPh := Lib.hid hp
      have HNh := Lib.hid hn
      clear qq kk hp hn K3
      go_wp2_with (first
        | (with_reducible show wpList _ _ _ (⟨some 15, .alloc _, _, _, _, none⟩ :: _) _ _; refine wpList_allocN ht_head rfl rfl ?_; intro w4a x hc2 hb2 hx2; have H2 := Lib.hid (And.intro hc2 (And.intro hb2 hx2)); clear hc2 hb2 hx2)
        | (refine wpList_stH ht_head rfl (.tmp 15) (.tmp 85) rfl x rfl h zeroH rfl (by exact H2.out.1) ?_; intro w5 hc3 ho3 hs3; have K5 := Lib.hid (K4.out.var H2.out.2.1 H2.out.2.2 hc3 ho3); clear hc3 ho3 hs3 H2 K4))
      refine (ohas_lit A4 m c4 L v _ rfl _ (by exact (K5.out.row _ (.tail _ (.head _))).1) (by exact (K5.out.row _ (.tail _ (.head _))).2) (by omega) hv32 u HHS.out).mono ?_
      rintro e w6 ⟨rfl, hb⟩
      have K6 := Lib.hid (K5.out.step hb)
      clear hb K5
      go_wp2_with fail
      refine (ohas_lit ca p c4 (L.take p) v _ rfl _ (by exact (K6.out.row _ (.head _)).1) (by exact (K6.out.row _ (.head _)).2) (by omega) hv32 false HHT.out).mono ?_
      rintro e w7 ⟨rfl, hb⟩
      have K7 := Lib.hid (K6.out.step hb)
      clear hb K6
      go_wp2_with fail
      go_ret
      exact ⟨rfl, K7.out.bel⟩
end Go.Proofs.Ytppopdjfecabfaa
