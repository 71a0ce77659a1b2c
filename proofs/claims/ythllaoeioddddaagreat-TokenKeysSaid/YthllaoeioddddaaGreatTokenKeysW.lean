/- TokenKeys's walk: a token opens as long as its own key is there. Condition: what the arguments hold can be read. -/
import Derived.Test.YthllaoeioddddaaGreatTkO
import Derived.Test.YthllaoeioddddaaGreatOpenTk
import Derived.Test.YthllaoeioddddaaGreatOpenCr
namespace Go.Proofs.YthllaoeioddddaaGreat
attribute [local irreducible] wsW keyUpTo keyF lastW turn0 encUp decUp aftL encL tableL blksL blkL strmL putL numL xorL turnAt fstL hkL tagL trnL bB sumG nB sealR openR tagR numS shortS endS untextR textR sealT openT seqT fstT
open Go.RowKit
set_option linter.unusedVariables false
set_option linter.unusedSimpArgs false
attribute [local go_sem ↓] ex_ldF ex_ldFr ex_ldCr
/-- What a round keeps: the key is there, the token is as it was. -/
def KeyIn (v : World) (x y : Nat) (q : Int) (K : List UInt8) (row : Rw) (k : Nat) (w : World) : Prop :=
  ∃ (s t : Rg) (D : XD) (G : List Nat) (N F : Nat), N ≤ 2 + k ∧ F ≤ k ∧ (q, K) ∈ s ∧ TX N F v x y s t D G [row] w
theorem KeyIn.bel {v w : World} {x y k : Nat} {q : Int} {K : List UInt8} {row : Rw} (h : KeyIn v x y q K row k w) : Below v.heap.size v w := by
  obtain ⟨_, _, _, _, _, _, _, _, _, h⟩ := h
  exact h.bel
theorem KeyIn.more {v w : World} {x y k : Nat} {q : Int} {K : List UInt8} {row : Rw} (h : KeyIn v x y q K row k w) : KeyIn v x y q K row (k + 1) w := by
  obtain ⟨s, t, D, G, N, F, h1, h2, h⟩ := h
  exact ⟨s, t, D, G, N, F, by omega, by omega, h⟩
set_option maxRecDepth 100000 in
set_option maxHeartbeats 16000000 in
theorem TokenKeys_walk (A0 : Option Addr) (n0 c0 : Nat) (l0 : List Cr) (A1 : Option Addr) (n1 c1 : Nat) (l1 : List Cr) (x2 : Int) (A3 : Option Addr) (n3 c3 : Nat) (l3 : List UInt8) (A4 : Option Addr) (n4 c4 : Nat) (l4 : List UInt8) (x5 : Fd) (w : World) (h0 : CRs w w.heap.size A0 n0 l0) (m0 : n0 ≤ c0 ∧ c0 ≤ maxLen) (h1 : CRs w w.heap.size A1 n1 l1) (m1 : n1 ≤ c1 ∧ c1 ≤ maxLen) (h2 : (Lit.int .i64 x2).wf = true) (h3 : RB w w.heap.size A3 n3 l3) (m3 : n3 ≤ c3 ∧ c3 ≤ maxLen) (h4 : RB w w.heap.size A4 n4 l4) (m4 : n4 ≤ c4 ∧ c4 ≤ maxLen) (h5 : x5.ok w) :
    Calls Tryz.prog 8 #[.slice A0 n0 c0, .slice A1 n1 c1, .int .i64 x2, .slice A3 n3 c3, .slice A4 n4 c4, x5.val] w fun e w' => e = .returned (.bool true) ∧ Below w.heap.size w w' := by
  have b1 : n1 ≤ 9223372036854775807 := by have := m1.1; have := m1.2; unfold maxLen at this; omega
  have b3 : n3 ≤ 9223372036854775807 := by have := m3.1; have := m3.2; unfold maxLen at this; omega
  have b4 : n4 ≤ 9223372036854775807 := by have := m4.1; have := m4.2; unfold maxLen at this; omega
  have bo5 : x5.o.length ≤ 9223372036854775807 := by have h1 := h5.co.1; have h2 := h5.co.2; unfold maxLen at h2; omega
  have bs5 : x5.s.length ≤ 9223372036854775807 := by have h1 := h5.cs.1; have h2 := h5.cs.2; unfold maxLen at h2; omega
  have H0 := Lib.hid (And.intro h0 m0)
  have H1 := Lib.hid (And.intro h1 m1)
  have H3 := Lib.hid (And.intro h3 m3)
  have H4 := Lib.hid (And.intro h4 m4)
  have H5 := Lib.hid h5
  clear h0 m0 h1 m1 h2 h3 m3 h4 m4 h5
  go_enter Tryz.func8, Tryz.ntmps8
  go_wp2_with (first
    | (with_reducible show wpList _ _ _ (⟨_, .box _ (.tmp 5), _, _, _, none⟩ :: _) _ _; refine wpList_boxF rfl _ (.tmp 5) rfl x5 rfl ?_; intro w01 q5 hc1 hb1 hx1; have HX5 := Lib.hid (And.intro hc1 (hb1)); clear hc1 hb1 hx1))
  refine (alive20_any _).mono ?_
  rintro e w2 ⟨rfl, hb2⟩
  have HB2 := Lib.hid (bel_next HX5.out.2 hb2)
  have HC5 := Lib.hid ((HX5.out.1).step hb2)
  clear hb2 HX5
  go_wp2_with fail
  refine (great19_any A0 n0 c0 l0 w2 (by exact ⟨(H0.out.1.below HB2.out).1, fun k hk => ((H0.out.1.below HB2.out).2.1 k hk).more HB2.out.size, fun hn => by obtain ⟨b, o, a1, a2, a3⟩ := (H0.out.1.below HB2.out).2.2 hn; exact ⟨b, o, a1, Nat.lt_of_lt_of_le a2 HB2.out.size, a3⟩⟩) (Nat.le_trans H0.out.2.1 H0.out.2.2)).mono ?_
  rintro e w9 ⟨v1, rfl, rfl, hv1⟩
  rcases v1 with _ | _
  case true =>
    clear hv1
    go_wp2_with fail
    go_ret
    exact ⟨rfl, HB2.out⟩
  have HG1 := Lib.hid (hv1 rfl)
  clear hv1
  go_wp2_with fail
  refine (great19_any A1 n1 c1 l1 w2 (by exact ⟨(H1.out.1.below HB2.out).1, fun k hk => ((H1.out.1.below HB2.out).2.1 k hk).more HB2.out.size, fun hn => by obtain ⟨b, o, a1, a2, a3⟩ := (H1.out.1.below HB2.out).2.2 hn; exact ⟨b, o, a1, Nat.lt_of_lt_of_le a2 HB2.out.size, a3⟩⟩) (Nat.le_trans H1.out.2.1 H1.out.2.2)).mono ?_
  rintro e w9 ⟨v1, rfl, rfl, hv1⟩
  rcases v1 with _ | _
  case true =>
    clear hv1
    go_wp2_with fail
    go_ret
    exact ⟨rfl, HB2.out⟩
  have HG2 := Lib.hid (hv1 rfl)
  have hn160 : n1 ≤ 60 := (hv1 rfl).1
  clear hv1
  have cc1 := HC5.out.c1
  have cc2 := HC5.out.c2
  by_cases g3 : (n3 : Int) ≠ 12
  · have dg3 : ((n3 : Int) != 12) = true := by rw [bne_iff_ne]; exact g3
    clear g3
    go_wp2_with fail
    go_ret
    exact ⟨rfl, HB2.out⟩
  have dg3 : ((n3 : Int) != 12) = false := by simpa using g3
  by_cases g4 : (n4 : Int) > 64
  · have dg4 : decide ((n4 : Int) > 64) = true := decide_eq_true g4
    clear g4 g3
    go_wp2_with fail
    go_ret
    exact ⟨rfl, HB2.out⟩
  have dg4 : decide ((n4 : Int) > 64) = false := decide_eq_false g4
  by_cases go_ : (x5.o.length : Int) > 20
  · have dgo_ : decide ((x5.o.length : Int) > 20) = true := decide_eq_true go_
    clear go_ g3 g4
    go_wp2_with fail
    go_ret
    exact ⟨rfl, HB2.out⟩
  have dgo_ : decide ((x5.o.length : Int) > 20) = false := decide_eq_false go_
  by_cases gs_ : (x5.s.length : Int) > 20
  · have dgs_ : decide ((x5.s.length : Int) > 20) = true := decide_eq_true gs_
    clear gs_ g3 g4 go_
    go_wp2_with fail
    go_ret
    exact ⟨rfl, HB2.out⟩
  have dgs_ : decide ((x5.s.length : Int) > 20) = false := decide_eq_false gs_
  have HS : Hid (n3 = 12 ∧ n4 ≤ 64) := Lib.hid ⟨by omega, by omega⟩
  have HFW : Hid (x5.tk.few) := Lib.hid (by unfold Tk.few Fd.tk; simp only; omega)
  clear g3 g4 go_ gs_
  have V3 := Lib.hid (H3.out.1.step HB2.out)
  have V4 := Lib.hid (H4.out.1.step HB2.out)
  have V5 := Lib.hid (H5.out.step HB2.out)
  go_wp2_with fail
  refine (rings20_any A0 n0 c0 l0 w2 (by exact ⟨(H0.out.1.below HB2.out).1, fun k hk => ((H0.out.1.below HB2.out).2.1 k hk).more HB2.out.size, fun hn => by obtain ⟨b, o, a1, a2, a3⟩ := (H0.out.1.below HB2.out).2.2 hn; exact ⟨b, o, a1, Nat.lt_of_lt_of_le a2 HB2.out.size, a3⟩⟩) (Nat.le_trans H0.out.2.1 H0.out.2.2) HG1.out.2).mono ?_
  rintro e w4 ⟨x, y, rfl, hp⟩
  obtain ⟨s, HS0⟩ : ∃ s, Hid (upR l0 n0 = s) := ⟨_, Lib.hid rfl⟩
  rw [HS0.out] at hp
  have os := Lib.hid hp.ok.1
  obtain ⟨D, hT⟩ := hp.tx
  have T4 := Lib.hid (hT.arg V3.out H3.out.2.1)
  obtain ⟨⟨L, E⟩, hR⟩ : ∃ r, sealT s x2 l3 l4 x5.tk = r := ⟨_, rfl⟩
  obtain ⟨M, hM⟩ : ∃ M, L.length = M := ⟨_, rfl⟩
  have bM : M ≤ 100 := by have := seal_lenE (q := x2) (n := l3) (c := l4) (f := x5.tk) os.out; rw [hR] at this; rw [← hM]; exact this
  have HR := Lib.hid (And.intro hR hM)
  clear hp hT hR hM cc1 cc2
  have q5l := (HC5.out.step T4.out.bel).ld rt_tk
  go_wp2_with fail
  refine (tx_seal 1 0 w2 x y s s D _ _ w4 (by exact T4.out) (by omega) x2 A3 A4 n3 c3 n4 c4 l3 l4 (by simp) (by exact V4.out.step T4.out.bel) (by have := HS.out; omega) (by have := HS.out; omega) x5 (by exact V5.out.step T4.out.bel) M L E HR.out.1 HR.out.2).mono ?_
  rintro e w6 ⟨B6, c6, G6, rfl, _, hT⟩
  have T6 := Lib.hid hT
  clear hT T4 q5l
  cases hv : hasR s x2
  · obtain rfl : E = 17 := by have h := HR.out.1; rw [seal_no hv] at h; injection h with _ h; exact h.symm
    clear hv
    go_wp2_with fail
    go_ret
    exact ⟨rfl, bel_next HB2.out T6.out.bel⟩
  obtain ⟨hE, hL, hLl, hf1, _, hmem, hq⟩ := seal_facts os.out (by rw [H3.out.1.len]; exact HS.out.1) (by rw [H4.out.1.len]; exact HS.out.2) HFW.out HR.out.1 hv
  subst hE
  obtain ⟨K, HK⟩ : ∃ K, Hid (keyR s x2 = K) := ⟨_, Lib.hid rfl⟩
  rw [HK.out] at hL hmem
  have HO : Hid (∀ s', okR s' → (x2, K) ∈ s' → openT s' l4 L x5.e = (x5.tk, 0)) := Lib.hid (fun s' ok hm => by
    rw [hL, open_later ok hm (by rw [H3.out.1.len]; exact HS.out.1) (by rw [H4.out.1.len]; exact HS.out.2) HFW.out V5.out.e x5.e]; exact if_neg (Nat.lt_irrefl _))
  have KI : Hid (KeyIn w2 x y x2 K (B6, M, c6, L) 0 w6) := Lib.hid ⟨s, s, D, G6, 2, 0, by omega, by omega, hmem, T6.out.sub (fun r hr => by rw [List.mem_singleton] at hr; subst hr; exact List.mem_cons_self ..)⟩
  clear hv hL hLl hf1 hmem hq T6
  go_wp2_with fail
  go_loopw [17] (fun i wr => ∃ k : Nat, k ≤ n1 ∧ i = .int .i64 (k : Int) ∧ Hid (KeyIn w2 x y x2 K (B6, M, c6, L) k wr)) (fun i _ => n1 - (intOf i).toNat)
  case atStart => exact ⟨0, by omega, rfl, KI⟩
  case round =>
    obtain ⟨k, hk, rfl, HK1⟩ := hrel
    by_cases hlt : k < n1
    · obtain ⟨b, o, e0, rfl, he, hok, hrg, _⟩ := ((H1.out.1.below HB2.out).below (HK1.out.bel.mono HB2.out.size)).at_ hlt
      have hcq : wr.cell? ⟨b, o + k * 3 + 1, none⟩ = some (.int .i64 e0.q) := hrg 1 _ rfl
      have HE := Lib.hid (And.intro he (And.intro ((H1.out.1.below HB2.out).2.1 e0 (List.mem_of_getElem? he)) (HG2.out.2 e0 (List.mem_of_getElem? he))))
      have ql := ldCr_r hrg
      clear he hok hrg
      by_cases hs : e0.q = x2
      · have ds : (e0.q == x2) = true := by rw [hs]; simp
        clear hs
        go_wp2_with fail
        go_roundw
        case rel => exact ⟨k + 1, by omega, by go_num, Lib.hid HK1.out.more⟩
        case measure => simp [intOf]; omega
      have ds : (e0.q == x2) = false := by simpa using hs
      have HNE := Lib.hid hs
      obtain ⟨s1, t1, D1, G1, N, F, hN, hF, hm1, hT1⟩ := HK1.out
      have T1 := Lib.hid hT1
      have HM1 := Lib.hid hm1
      clear hs hm1 hT1
      go_wp2_with fail
      refine (do19_g N F w2 x y s1 t1 G1 wr (by exact T1.out.out) e0 (by exact (HE.out.2.1.more HB2.out.size)) (by exact HE.out.2.2)).mono ?_
      intro e w7 hr
      obtain ⟨rfl, D2, hT2⟩ := T1.out.do_ hr
      have T7 := Lib.hid hT2
      have HM7 := Lib.hid (do_memR HNE.out HM1.out)
      have c5e := (HC5.out.step T7.out.bel).c0
      clear hr hT2 T1 ql hcq
      go_wp2_with fail
      refine (tx_open N F w2 x y _ _ D2 G1 _ w7 (by exact T7.out) (by omega) (by omega) A4 B6 n4 c4 M c6 l4 L (by exact V4.out.step T7.out.bel) (by simp) (by have := HS.out; omega) (by omega) x5.e x5.tk 0 (HO.out _ T7.out.pr.os HM7.out) _ rfl).mono ?_
      rintro e w8 ⟨f, G8, rfl, hft, _, hfo, _, hT8⟩
      have T8 := Lib.hid hT8
      have F8 := Lib.hid hfo
      have HFT := Lib.hid hft
      clear hT8 hfo hft T7 c5e
      go_wp2_with (first
        | (with_reducible show wpList _ _ _ (⟨some 18, .alloc _, _, _, _, none⟩ :: _) _ _; refine wpList_newF rt_tk rfl rfl ?_; intro w9 p hc4 hb4 hx4; have HV18 := Lib.hid (And.intro hc4 (And.intro hb4 hx4)); clear hc4 hb4 hx4)
        | (with_reducible show wpList _ _ _ (⟨none, .store _ (.tmp 18) (.tmp 97), _, _, _, none⟩ :: _) _ _; refine wpList_stF rt_tk rfl (.tmp 18) (.tmp 97) rfl p rfl f zeroF rfl (by exact HV18.out.1) ?_; intro wa hc5 ho5 hs5; have hb5 := HV18.out.2.1.trans (ho5.below (fun j hj => by rw [List.mem_singleton.1 hj]; exact HV18.out.2.2) HV18.out.2.1.size); have CV18 := Lib.hid hc5; have TA := Lib.hid (T8.out.step hb5); have FA := Lib.hid (F8.out.step hb5); have p18l := CV18.out.ld rt_tk; have p11l := (HC5.out.step TA.out.bel).ld rt_tk; clear hc5 ho5 hs5 hb5 HV18 T8 F8))
      refine (tksame_any f x5 wa (by exact FA.out) (by exact V5.out.step TA.out.bel) true (by rw [HFT.out]; exact decide_eq_true rfl)).mono ?_
      rintro e wb ⟨rfl, hb⟩
      have TB2 := Lib.hid (TA.out.step hb)
      clear hb TA p18l p11l
      go_wp2_with fail
      go_roundw
      case rel => exact ⟨k + 1, by omega, by go_num, Lib.hid ⟨_, _, D2, G8, N + 1, F + 1, by omega, by omega, HM7.out, TB2.out⟩⟩
      case measure => simp [intOf]; omega
    · go_wp2_with fail
      go_ret
      exact ⟨rfl, bel_next HB2.out HK1.out.bel⟩
end Go.Proofs.YthllaoeioddddaaGreat
