/- TokenBack's walk: what is sealed for a client is opened for it up to its time. Condition: what the arguments hold can be read. -/
import Derived.Test.YthllaoeioddddaaGreatTkO
import Derived.Test.YthllaoeioddddaaGreatOpenTk
import Derived.Test.YthllaoeioddddaaGreatOpenCr
namespace Go.Proofs.YthllaoeioddddaaGreat
attribute [local irreducible] wsW keyUpTo keyF lastW turn0 encUp decUp aftL encL tableL blksL blkL strmL putL numL xorL turnAt fstL hkL tagL trnL bB sumG nB sealR openR tagR numS shortS endS untextR textR sealT openT seqT fstT
open Go.RowKit
set_option linter.unusedVariables false
set_option linter.unusedSimpArgs false
attribute [local go_sem ↓] ex_ldF ex_ldFr ex_ldCr
theorem seq_of {L : List UInt8} {q : Int} (hl : 0 < L.length) (hf : fstT L = q) (hq : 0 ≤ q ∧ q ≤ 127) : seqT L = (q, true) := by
  unfold seqT
  rw [if_pos ⟨fun e => by rw [e] at hl; exact absurd hl (Nat.lt_irrefl 0), by rw [hf]; omega⟩, hf]
set_option maxRecDepth 100000 in
set_option maxHeartbeats 16000000 in
theorem TokenBack_walk (A0 : Option Addr) (n0 c0 : Nat) (l0 : List Cr) (x1 : Int) (A2 : Option Addr) (n2 c2 : Nat) (l2 : List UInt8) (A3 : Option Addr) (n3 c3 : Nat) (l3 : List UInt8) (x4 : Fd) (x5 : Int) (w : World) (h0 : CRs w w.heap.size A0 n0 l0) (m0 : n0 ≤ c0 ∧ c0 ≤ maxLen) (h1 : (Lit.int .i64 x1).wf = true) (h2 : RB w w.heap.size A2 n2 l2) (m2 : n2 ≤ c2 ∧ c2 ≤ maxLen) (h3 : RB w w.heap.size A3 n3 l3) (m3 : n3 ≤ c3 ∧ c3 ≤ maxLen) (h4 : x4.ok w) (h5 : (Lit.int .u64 x5).wf = true) :
    Calls Tryz.prog 6 #[.slice A0 n0 c0, .int .i64 x1, .slice A2 n2 c2, .slice A3 n3 c3, x4.val, .int .u64 x5] w fun e w' => e = .returned (.bool true) ∧ Below w.heap.size w w' := by
  have b2 : n2 ≤ 9223372036854775807 := by have := m2.1; have := m2.2; unfold maxLen at this; omega
  have b3 : n3 ≤ 9223372036854775807 := by have := m3.1; have := m3.2; unfold maxLen at this; omega
  have bo4 : x4.o.length ≤ 9223372036854775807 := by have h1 := h4.co.1; have h2 := h4.co.2; unfold maxLen at h2; omega
  have bs4 : x4.s.length ≤ 9223372036854775807 := by have h1 := h4.cs.1; have h2 := h4.cs.2; unfold maxLen at h2; omega
  obtain ⟨now, rfl⟩ : ∃ now : Nat, x5 = (now : Int) := ⟨x5.toNat, by have := (bounds_u64 h5).1; omega⟩
  have H0 := Lib.hid (And.intro h0 m0)
  have H2 := Lib.hid (And.intro h2 m2)
  have H3 := Lib.hid (And.intro h3 m3)
  have H4 := Lib.hid h4
  clear h0 m0 h1 h2 m2 h3 m3 h4 h5
  go_enter Tryz.func6, Tryz.ntmps6
  go_wp2_with (first
    | (with_reducible show wpList _ _ _ (⟨_, .box _ (.tmp 4), _, _, _, none⟩ :: _) _ _; refine wpList_boxF rfl _ (.tmp 4) rfl x4 rfl ?_; intro w01 q4 hc1 hb1 hx1; have HX4 := Lib.hid (And.intro hc1 (hb1)); clear hc1 hb1 hx1))
  refine (alive20_any _).mono ?_
  rintro e w2 ⟨rfl, hb2⟩
  have HB2 := Lib.hid (bel_next HX4.out.2 hb2)
  have HC4 := Lib.hid ((HX4.out.1).step hb2)
  clear hb2 HX4
  go_wp2_with fail
  refine (great19_any A0 n0 c0 l0 w2 (by exact ⟨(H0.out.1.below HB2.out).1, fun k hk => ((H0.out.1.below HB2.out).2.1 k hk).more HB2.out.size, fun hn => by obtain ⟨b, o, a1, a2, a3⟩ := (H0.out.1.below HB2.out).2.2 hn; exact ⟨b, o, a1, Nat.lt_of_lt_of_le a2 HB2.out.size, a3⟩⟩) (Nat.le_trans H0.out.2.1 H0.out.2.2)).mono ?_
  rintro e w9 ⟨v1, rfl, rfl, hv1⟩
  rcases v1 with _ | _
  case true =>
    clear hv1
    go_wp2_with fail
    go_ret
    exact ⟨rfl, HB2.out⟩
  have HG1 := Lib.hid (hv1 rfl)
  clear hv1
  have cc1 := HC4.out.c1
  have cc2 := HC4.out.c2
  by_cases g2 : (n2 : Int) ≠ 12
  · have dg2 : ((n2 : Int) != 12) = true := by rw [bne_iff_ne]; exact g2
    clear g2
    go_wp2_with fail
    go_ret
    exact ⟨rfl, HB2.out⟩
  have dg2 : ((n2 : Int) != 12) = false := by simpa using g2
  by_cases g3 : (n3 : Int) > 64
  · have dg3 : decide ((n3 : Int) > 64) = true := decide_eq_true g3
    clear g3 g2
    go_wp2_with fail
    go_ret
    exact ⟨rfl, HB2.out⟩
  have dg3 : decide ((n3 : Int) > 64) = false := decide_eq_false g3
  by_cases go_ : (x4.o.length : Int) > 20
  · have dgo_ : decide ((x4.o.length : Int) > 20) = true := decide_eq_true go_
    clear go_ g2 g3
    go_wp2_with fail
    go_ret
    exact ⟨rfl, HB2.out⟩
  have dgo_ : decide ((x4.o.length : Int) > 20) = false := decide_eq_false go_
  by_cases gs_ : (x4.s.length : Int) > 20
  · have dgs_ : decide ((x4.s.length : Int) > 20) = true := decide_eq_true gs_
    clear gs_ g2 g3 go_
    go_wp2_with fail
    go_ret
    exact ⟨rfl, HB2.out⟩
  have dgs_ : decide ((x4.s.length : Int) > 20) = false := decide_eq_false gs_
  have HS : Hid (n2 = 12 ∧ n3 ≤ 64) := Lib.hid ⟨by omega, by omega⟩
  have HFW : Hid (x4.tk.few) := Lib.hid (by unfold Tk.few Fd.tk; simp only; omega)
  have bo20 : x4.o.length ≤ 20 := by omega
  have bs20 : x4.s.length ≤ 20 := by omega
  obtain ⟨t, ht⟩ : ∃ t, t = 10 + x4.o.length + x4.s.length := ⟨_, rfl⟩
  have HT := Lib.hid ht
  have bt : t ≤ 50 := by omega
  have dt : ((t : Int) != 10 + (x4.o.length : Int) + (x4.s.length : Int)) = false := by rw [ht]; simp
  obtain ⟨R, HR0⟩ : ∃ R, Hid (rawT x4.tk = R) := ⟨_, Lib.hid rfl⟩
  have HRL : Hid (R.length = t) := Lib.hid (by rw [← HR0.out, rawT_len, ht]; rfl)
  have HTX : Hid (textR x4.tk = (R, 0)) := Lib.hid (by rw [text_few HFW.out, HR0.out])
  have HUN : Hid (untextR R = (x4.tk, 0)) := Lib.hid (by rw [← HR0.out]; exact untext_raw HFW.out H4.out.e)
  clear g2 g3 go_ gs_ ht
  have q4l := HC4.out.ld rt_tk
  go_wp2_with fail
  clear cc1 cc2
  refine (text20_any x4 w2 (by exact H4.out.step HB2.out) t R 0 HTX.out HRL.out).mono ?_
  rintro e w3 ⟨At, ct, rfl, ho, hb⟩
  have O3 := Lib.hid ho.rb
  have B3 := Lib.hid (bel_next HB2.out hb)
  have C3 := Lib.hid (HC4.out.step hb)
  clear ho hb q4l
  go_wp2_with fail
  refine (untext20_any At t ct R w3 (by exact O3.out) (by omega)).mono ?_
  rw [HUN.out]
  rintro e w4 ⟨u, rfl, hut, huo, hb⟩
  simp only at hut ⊢
  have B4 := Lib.hid (bel_next B3.out hb)
  have C4 := Lib.hid (C3.out.step hb)
  have U4 := Lib.hid huo.ok
  have HUT := Lib.hid hut
  clear hut huo hb C3
  go_wp2_with (first
    | (with_reducible show wpList _ _ _ (⟨some 15, .alloc _, _, _, _, none⟩ :: _) _ _; refine wpList_newF rt_tk rfl rfl ?_; intro w5 p15 hc4 hb4 hx4; have HV15 := Lib.hid (And.intro hc4 (And.intro hb4 hx4)); clear hc4 hb4 hx4)
    | (with_reducible show wpList _ _ _ (⟨none, .store _ (.tmp 15) (.tmp 61), _, _, _, none⟩ :: _) _ _; refine wpList_stF rt_tk rfl (.tmp 15) (.tmp 61) rfl p15 rfl u zeroF rfl (by exact HV15.out.1) ?_; intro w6 hc5 ho5 hs5; have hb5 := HV15.out.2.1.trans (ho5.below (fun j hj => by rw [List.mem_singleton.1 hj]; exact HV15.out.2.2) HV15.out.2.1.size); have CV15 := Lib.hid hc5; have C5 := Lib.hid (C4.out.step hb5); have U5 := Lib.hid (U4.out.step hb5); have B5 := Lib.hid (bel_next B4.out hb5); have p15l := CV15.out.ld rt_tk; have p10l := C5.out.ld rt_tk; have cc1 := C5.out.c1; have cc2 := C5.out.c2; clear hc5 ho5 hs5 hb5 HV15 B4 C4 U4))
  refine (tksame_any u x4 w6 (by exact U5.out) (by exact H4.out.step B5.out) true (by rw [HUT.out]; exact decide_eq_true rfl)).mono ?_
  rintro e v ⟨rfl, hb⟩
  have BV := Lib.hid (bel_next B5.out hb)
  have CV := Lib.hid (C5.out.step hb)
  clear p15l p10l cc1 cc2 B5 C5 U5 CV15
  have cc1 := CV.out.c1
  have cc2 := CV.out.c2
  clear hb
  have V2 := Lib.hid (H2.out.1.step BV.out)
  have V3 := Lib.hid (H3.out.1.step BV.out)
  have V4 := Lib.hid (H4.out.step BV.out)
  go_wp2_with fail
  refine (rings20_any A0 n0 c0 l0 v (by exact ⟨(H0.out.1.below BV.out).1, fun k hk => ((H0.out.1.below BV.out).2.1 k hk).more BV.out.size, fun hn => by obtain ⟨b, o, a1, a2, a3⟩ := (H0.out.1.below BV.out).2.2 hn; exact ⟨b, o, a1, Nat.lt_of_lt_of_le a2 BV.out.size, a3⟩⟩) (Nat.le_trans H0.out.2.1 H0.out.2.2) HG1.out.2).mono ?_
  rintro e w4 ⟨x, y, rfl, hp⟩
  obtain ⟨s, HS0⟩ : ∃ s, Hid (upR l0 n0 = s) := ⟨_, Lib.hid rfl⟩
  rw [HS0.out] at hp
  have os := Lib.hid hp.ok.1
  obtain ⟨D, hT⟩ := hp.tx
  have T4 := Lib.hid (hT.arg V2.out H2.out.2.1)
  obtain ⟨⟨L, E⟩, hR⟩ : ∃ r, sealT s x1 l2 l3 x4.tk = r := ⟨_, rfl⟩
  obtain ⟨M, hM⟩ : ∃ M, L.length = M := ⟨_, rfl⟩
  have bM : M ≤ 100 := by have := seal_lenE (q := x1) (n := l2) (c := l3) (f := x4.tk) os.out; rw [hR] at this; rw [← hM]; exact this
  have HR := Lib.hid (And.intro hR hM)
  clear hp hT hR hM cc1 cc2
  have q4l := (CV.out.step T4.out.bel).ld rt_tk
  go_wp2_with fail
  refine (tx_seal 1 0 v x y s s D _ _ w4 (by exact T4.out) (by omega) x1 A2 A3 n2 c2 n3 c3 l2 l3 (by simp) (by exact V3.out.step T4.out.bel) (by have := HS.out; omega) (by have := HS.out; omega) x4 (by exact V4.out.step T4.out.bel) M L E HR.out.1 HR.out.2).mono ?_
  rintro e w6 ⟨B6, c6, G6, rfl, _, hT⟩
  have T6 := Lib.hid hT
  clear hT T4 q4l
  cases hv : hasR s x1
  · obtain rfl : E = 17 := by have h := HR.out.1; rw [seal_no hv] at h; injection h with _ h; exact h.symm
    have HK := Lib.hid (rkey_any _ x D.A D.c D.es 2 0 x1 w6 T6.out.pr.rn (by have := T6.out.pr.len.1; omega))
    rw [T6.out.pr.ee, hv] at HK
    clear hv
    go_wp2_with fail
    refine HK.out.mono ?_
    rintro e w7 ⟨A7, c7, rfl, _, hb⟩
    have T7 := Lib.hid (T6.out.step hb)
    clear hb
    go_wp2_with fail
    go_ret
    exact ⟨rfl, bel_next BV.out T7.out.bel⟩
  obtain ⟨hE, hL, hLl, hf1, _, hmem, hq⟩ := seal_facts os.out (by rw [H2.out.1.len]; exact HS.out.1) (by rw [H3.out.1.len]; exact HS.out.2) HFW.out HR.out.1 hv
  subst hE
  have HMt : Hid (M = 29 + t) := Lib.hid (by have h := HR.out.2; rw [hLl] at h; have := HT.out; simp only [Fd.tk] at h; omega)
  have dm : ((M : Int) != 29 + (t : Int)) = false := by rw [HMt.out]; simp
  have hqq : (x1 != x1) = false := by simp
  have HSQ : Hid (seqT L = (x1, true)) := Lib.hid (seq_of (by rw [hLl]; omega) hf1 hq)
  have HO : Hid (openT s l3 L now = if x4.e < now then (zTk, 20) else (x4.tk, 0)) := Lib.hid (by
    rw [hL]
    exact open_later os.out hmem (by rw [H2.out.1.len]; exact HS.out.1) (by rw [H3.out.1.len]; exact HS.out.2) HFW.out V4.out.e now)
  have HGN := Lib.hid (ret_goneK os.out hv)
  have HGO : Hid (openT (retR s x1).1 l3 L now = (zTk, 17)) := Lib.hid (open_gone (by rw [hLl]; omega) hf1 HGN.out.2)
  clear hv hL hLl hf1 hmem hq
  go_wp2_with fail
  refine (seq20_any B6 M c6 L w6 (by exact (T6.out.row (B6, M, c6, L) (by simp)).1) (by omega) x1 true HSQ.out).mono ?_
  rintro e w7 ⟨rfl, rfl⟩
  go_wp2_with fail
  by_cases hlt : x4.e < now
  · have d4 : decide (now ≤ x4.e) = false := decide_eq_false (by omega)
    have d5 : decide (now > x4.e) = true := decide_eq_true hlt
    have HO2 : Hid (openT s l3 L now = (zTk, 20)) := Lib.hid (by rw [HO.out]; exact if_pos hlt)
    clear hlt
    refine (tx_open 2 0 v x y s s D G6 _ w6 (by exact T6.out) (by omega) (by omega) A3 B6 n3 c3 M c6 l3 L (by exact V3.out.step T6.out.bel) (by simp) (by have := HS.out; omega) (by omega) now zTk 20 HO2.out _ rfl).mono ?_
    rintro e w8 ⟨f, G8, rfl, hft, _, hfo, _, hT⟩
    have T8 := Lib.hid hT
    have F8 := Lib.hid hfo
    have HFT := Lib.hid hft
    clear hT hft hfo T6
    go_wp2_with (first
      | (with_reducible show wpList _ _ _ (⟨some 24, .alloc _, _, _, _, none⟩ :: _) _ _; refine wpList_newF rt_tk rfl rfl ?_; intro w9 p24 hc4 hb4 hx4; have HV24 := Lib.hid (And.intro hc4 (And.intro hb4 hx4)); clear hc4 hb4 hx4)
      | (with_reducible show wpList _ _ _ (⟨none, .store _ (.tmp 24) (.tmp 144), _, _, _, none⟩ :: _) _ _; refine wpList_stF rt_tk rfl (.tmp 24) (.tmp 144) rfl p24 rfl f zeroF rfl (by exact HV24.out.1) ?_; intro wa hc5 ho5 hs5; have hb5 := HV24.out.2.1.trans (ho5.below (fun j hj => by rw [List.mem_singleton.1 hj]; exact HV24.out.2.2) HV24.out.2.1.size); have CV24 := Lib.hid hc5; have TA := Lib.hid (T8.out.step hb5); have FA := Lib.hid (F8.out.step hb5); have c0e := (CV.out.step TA.out.bel).c0; have p24l := CV24.out.ld rt_tk; clear hc5 ho5 hs5 hb5 HV24 T8 F8))
    refine (tksame_any f zeroF wa (by exact FA.out) (by exact zeroF_ok _) true (by rw [HFT.out]; exact decide_eq_true rfl)).mono ?_
    rintro e wc ⟨rfl, hb⟩
    have TC := Lib.hid (TA.out.step hb)
    clear hb TA c0e p24l 
    go_wp2_with fail
    have HG2 : (retR s x1).2 = 0 := HGN.out.1
    refine (pr_ret 3 1 v x y s s _ wc TC.out.out x1).mono ?_
    rw [HG2]
    intro e wd hr
    obtain ⟨rfl, D2, hT⟩ := TC.out.ring hr
    have TD := Lib.hid hT
    clear hr hT HG2
    go_wp2_with fail
    refine (tx_open 3 1 v x y _ _ D2 _ _ wd (by exact TD.out) (by omega) (by omega) A3 B6 n3 c3 M c6 l3 L (by exact V3.out.step TD.out.bel) (by simp) (by have := HS.out; omega) (by omega) now zTk 17 HGO.out _ rfl).mono ?_
    rintro e we ⟨g, G9, rfl, _, _, _, _, hT⟩
    have TE := Lib.hid hT
    clear hT
    go_wp2_with (first
      | (with_reducible show wpList _ _ _ (⟨some 25, .alloc _, _, _, _, none⟩ :: _) _ _; refine wpList_newF rt_tk rfl rfl ?_; intro wf p25 hc4 hb4 hx4; have HV25 := Lib.hid (And.intro hc4 (And.intro hb4 hx4)); clear hc4 hb4 hx4)
      | (with_reducible show wpList _ _ _ (⟨none, .store _ (.tmp 25) (.tmp 186), _, _, _, none⟩ :: _) _ _; refine wpList_stF rt_tk rfl (.tmp 25) (.tmp 186) rfl p25 rfl g zeroF rfl (by exact HV25.out.1) ?_; intro wg hc5 ho5 hs5; have hb5 := HV25.out.2.1.trans (ho5.below (fun j hj => by rw [List.mem_singleton.1 hj]; exact HV25.out.2.2) HV25.out.2.1.size); have CV25 := Lib.hid hc5; have TG := Lib.hid (TE.out.step hb5); clear hc5 ho5 hs5 hb5 HV25 TE))
    go_ret
    exact ⟨rfl, bel_next BV.out TG.out.bel⟩
  · have d4 : decide (now ≤ x4.e) = true := decide_eq_true (by omega)
    have d5 : decide (now > x4.e) = false := decide_eq_false (by omega)
    have HO2 : Hid (openT s l3 L now = (x4.tk, 0)) := Lib.hid (by rw [HO.out]; exact if_neg hlt)
    clear hlt
    refine (tx_open 2 0 v x y s s D G6 _ w6 (by exact T6.out) (by omega) (by omega) A3 B6 n3 c3 M c6 l3 L (by exact V3.out.step T6.out.bel) (by simp) (by have := HS.out; omega) (by omega) now x4.tk 0 HO2.out _ rfl).mono ?_
    rintro e w8 ⟨f, G8, rfl, hft, _, hfo, _, hT⟩
    have T8 := Lib.hid hT
    have F8 := Lib.hid hfo
    have HFT := Lib.hid hft
    clear hT hft hfo T6
    go_wp2_with (first
      | (with_reducible show wpList _ _ _ (⟨some 24, .alloc _, _, _, _, none⟩ :: _) _ _; refine wpList_newF rt_tk rfl rfl ?_; intro w9 p24 hc4 hb4 hx4; have HV24 := Lib.hid (And.intro hc4 (And.intro hb4 hx4)); clear hc4 hb4 hx4)
      | (with_reducible show wpList _ _ _ (⟨none, .store _ (.tmp 24) (.tmp 144), _, _, _, none⟩ :: _) _ _; refine wpList_stF rt_tk rfl (.tmp 24) (.tmp 144) rfl p24 rfl f zeroF rfl (by exact HV24.out.1) ?_; intro wa hc5 ho5 hs5; have hb5 := HV24.out.2.1.trans (ho5.below (fun j hj => by rw [List.mem_singleton.1 hj]; exact HV24.out.2.2) HV24.out.2.1.size); have CV24 := Lib.hid hc5; have TA := Lib.hid (T8.out.step hb5); have FA := Lib.hid (F8.out.step hb5); have c0e := (CV.out.step TA.out.bel).c0; have p24l := CV24.out.ld rt_tk; have p10l := (CV.out.step TA.out.bel).ld rt_tk; clear hc5 ho5 hs5 hb5 HV24 T8 F8))
    refine (tksame_any f x4 wa (by exact FA.out) (by exact V4.out.step TA.out.bel) true (by rw [HFT.out]; exact decide_eq_true rfl)).mono ?_
    rintro e wc ⟨rfl, hb⟩
    have TC := Lib.hid (TA.out.step hb)
    clear hb TA c0e p24l p10l
    have c0e := (CV.out.step TC.out.bel).c0
    go_wp2_with fail
    have HG2 : (retR s x1).2 = 0 := HGN.out.1
    refine (pr_ret 3 1 v x y s s _ wc TC.out.out x1).mono ?_
    rw [HG2]
    intro e wd hr
    obtain ⟨rfl, D2, hT⟩ := TC.out.ring hr
    have TD := Lib.hid hT
    clear hr hT HG2
    go_wp2_with fail
    refine (tx_open 3 1 v x y _ _ D2 _ _ wd (by exact TD.out) (by omega) (by omega) A3 B6 n3 c3 M c6 l3 L (by exact V3.out.step TD.out.bel) (by simp) (by have := HS.out; omega) (by omega) now zTk 17 HGO.out _ rfl).mono ?_
    rintro e we ⟨g, G9, rfl, _, _, _, _, hT⟩
    have TE := Lib.hid hT
    clear hT
    go_wp2_with (first
      | (with_reducible show wpList _ _ _ (⟨some 25, .alloc _, _, _, _, none⟩ :: _) _ _; refine wpList_newF rt_tk rfl rfl ?_; intro wf p25 hc4 hb4 hx4; have HV25 := Lib.hid (And.intro hc4 (And.intro hb4 hx4)); clear hc4 hb4 hx4)
      | (with_reducible show wpList _ _ _ (⟨none, .store _ (.tmp 25) (.tmp 186), _, _, _, none⟩ :: _) _ _; refine wpList_stF rt_tk rfl (.tmp 25) (.tmp 186) rfl p25 rfl g zeroF rfl (by exact HV25.out.1) ?_; intro wg hc5 ho5 hs5; have hb5 := HV25.out.2.1.trans (ho5.below (fun j hj => by rw [List.mem_singleton.1 hj]; exact HV25.out.2.2) HV25.out.2.1.size); have CV25 := Lib.hid hc5; have TG := Lib.hid (TE.out.step hb5); clear hc5 ho5 hs5 hb5 HV25 TE))
    go_ret
    exact ⟨rfl, bel_next BV.out TG.out.bel⟩
end Go.Proofs.YthllaoeioddddaaGreat
