/- TokenApart's walk: tokens of unlike fields or nonces are unlike, and as long as their fields ask. Condition: what the arguments hold can be read. -/
import Derived.Test.YthllaoeioddddaaGreatTkO
import Derived.Test.YthllaoeioddddaaGreatOpenTk
import Derived.Test.YthllaoeioddddaaGreatOpenCr
namespace Go.Proofs.YthllaoeioddddaaGreat
attribute [local irreducible] wsW keyUpTo keyF lastW turn0 encUp decUp aftL encL tableL blksL blkL strmL putL numL xorL turnAt fstL hkL tagL trnL bB sumG nB sealR openR tagR numS shortS endS untextR textR sealT openT seqT fstT
open Go.RowKit
set_option linter.unusedVariables false
set_option linter.unusedSimpArgs false
attribute [local go_sem ↓] ex_ldF ex_ldFr ex_ldCr
theorem seal_apart {s : Rg} {q : Int} {n n' c : List UInt8} {f g : Tk} {L L' : List UInt8} (ok : okR s) (h : hasR s q = true) (hn : n.length = 12) (hn' : n'.length = 12) (hc : c.length ≤ 64) (hf : f.few) (hg : g.few) (ef : f.e < 2 ^ 64) (eg : g.e < 2 ^ 64) (h1 : sealT s q n c f = (L, 0)) (h2 : sealT s q n' c g = (L', 0)) : (L == L') = ((n == n') && decide (f = g)) := by
  have := seal_inj ok h hn hn' hc hf hg ef eg
  rw [h1, h2] at this
  rw [Bool.eq_iff_iff, beq_iff_eq, Bool.and_eq_true, beq_iff_eq, decide_eq_true_eq]
  exact this
set_option maxRecDepth 100000 in
set_option maxHeartbeats 16000000 in
theorem TokenApart_walk (A0 : Option Addr) (n0 c0 : Nat) (l0 : List Cr) (x1 : Int) (A2 : Option Addr) (n2 c2 : Nat) (l2 : List UInt8) (A3 : Option Addr) (n3 c3 : Nat) (l3 : List UInt8) (A4 : Option Addr) (n4 c4 : Nat) (l4 : List UInt8) (x5 : Fd) (x6 : Fd) (w : World) (h0 : CRs w w.heap.size A0 n0 l0) (m0 : n0 ≤ c0 ∧ c0 ≤ maxLen) (h1 : (Lit.int .i64 x1).wf = true) (h2 : RB w w.heap.size A2 n2 l2) (m2 : n2 ≤ c2 ∧ c2 ≤ maxLen) (h3 : RB w w.heap.size A3 n3 l3) (m3 : n3 ≤ c3 ∧ c3 ≤ maxLen) (h4 : RB w w.heap.size A4 n4 l4) (m4 : n4 ≤ c4 ∧ c4 ≤ maxLen) (h5 : x5.ok w) (h6 : x6.ok w) :
    Calls Tryz.prog 7 #[.slice A0 n0 c0, .int .i64 x1, .slice A2 n2 c2, .slice A3 n3 c3, .slice A4 n4 c4, x5.val, x6.val] w fun e w' => e = .returned (.bool true) ∧ Below w.heap.size w w' := by
  have b2 : n2 ≤ 9223372036854775807 := by have := m2.1; have := m2.2; unfold maxLen at this; omega
  have b3 : n3 ≤ 9223372036854775807 := by have := m3.1; have := m3.2; unfold maxLen at this; omega
  have b4 : n4 ≤ 9223372036854775807 := by have := m4.1; have := m4.2; unfold maxLen at this; omega
  have bo5 : x5.o.length ≤ 9223372036854775807 := by have h1 := h5.co.1; have h2 := h5.co.2; unfold maxLen at h2; omega
  have bs5 : x5.s.length ≤ 9223372036854775807 := by have h1 := h5.cs.1; have h2 := h5.cs.2; unfold maxLen at h2; omega
  have bo6 : x6.o.length ≤ 9223372036854775807 := by have h1 := h6.co.1; have h2 := h6.co.2; unfold maxLen at h2; omega
  have bs6 : x6.s.length ≤ 9223372036854775807 := by have h1 := h6.cs.1; have h2 := h6.cs.2; unfold maxLen at h2; omega
  have H0 := Lib.hid (And.intro h0 m0)
  have H2 := Lib.hid (And.intro h2 m2)
  have H3 := Lib.hid (And.intro h3 m3)
  have H4 := Lib.hid (And.intro h4 m4)
  have H5 := Lib.hid (And.intro h5 h6)
  clear h0 m0 h1 h2 m2 h3 m3 h4 m4 h5 h6
  go_enter Tryz.func7, Tryz.ntmps7
  go_wp2_with (first
    | (with_reducible show wpList _ _ _ (⟨_, .box _ (.tmp 5), _, _, _, none⟩ :: _) _ _; refine wpList_boxF rfl _ (.tmp 5) rfl x5 rfl ?_; intro w01 q5 hc1 hb1 hx1; have HX5 := Lib.hid (And.intro hc1 (hb1)); clear hc1 hb1 hx1)
    | (with_reducible show wpList _ _ _ (⟨_, .box _ (.tmp 6), _, _, _, none⟩ :: _) _ _; refine wpList_boxF rfl _ (.tmp 6) rfl x6 rfl ?_; intro w11 q6 hc1 hb1 hx1; have HX6 := Lib.hid (And.intro hc1 (bel_next HX5.out.2 hb1)); have HY6 := Lib.hid (HX5.out.1.step hb1); clear hc1 hb1 hx1))
  refine (alive20_any _).mono ?_
  rintro e w2 ⟨rfl, hb2⟩
  have HB2 := Lib.hid (bel_next HX6.out.2 hb2)
  have HC5 := Lib.hid ((HY6.out).step hb2)
  have HC6 := Lib.hid ((HX6.out.1).step hb2)
  clear hb2 HX5 HX6 HY6
  go_wp2_with fail
  refine (great19_any A0 n0 c0 l0 w2 (by exact ⟨(H0.out.1.below HB2.out).1, fun k hk => ((H0.out.1.below HB2.out).2.1 k hk).more HB2.out.size, fun hn => by obtain ⟨b, o, a1, a2, a3⟩ := (H0.out.1.below HB2.out).2.2 hn; exact ⟨b, o, a1, Nat.lt_of_lt_of_le a2 HB2.out.size, a3⟩⟩) (Nat.le_trans H0.out.2.1 H0.out.2.2)).mono ?_
  rintro e w9 ⟨v1, rfl, rfl, hv1⟩
  rcases v1 with _ | _
  case true =>
    clear hv1
    go_wp2_with fail
    go_ret
    exact ⟨rfl, HB2.out⟩
  have HG1 := Lib.hid (hv1 rfl)
  clear hv1
  have cc1 := HC5.out.c1
  have cc2 := HC5.out.c2
  have cc3 := HC6.out.c1
  have cc4 := HC6.out.c2
  by_cases g2 : (n2 : Int) ≠ 12
  · have dg2 : ((n2 : Int) != 12) = true := by rw [bne_iff_ne]; exact g2
    clear g2
    go_wp2_with fail
    go_ret
    exact ⟨rfl, HB2.out⟩
  have dg2 : ((n2 : Int) != 12) = false := by simpa using g2
  by_cases g3 : (n3 : Int) ≠ 12
  · have dg3 : ((n3 : Int) != 12) = true := by rw [bne_iff_ne]; exact g3
    clear g3 g2
    go_wp2_with fail
    go_ret
    exact ⟨rfl, HB2.out⟩
  have dg3 : ((n3 : Int) != 12) = false := by simpa using g3
  by_cases g4 : (n4 : Int) > 64
  · have dg4 : decide ((n4 : Int) > 64) = true := decide_eq_true g4
    clear g4 g2 g3
    go_wp2_with fail
    go_ret
    exact ⟨rfl, HB2.out⟩
  have dg4 : decide ((n4 : Int) > 64) = false := decide_eq_false g4
  by_cases go_ : (x5.o.length : Int) > 20
  · have dgo_ : decide ((x5.o.length : Int) > 20) = true := decide_eq_true go_
    clear go_ g2 g3 g4
    go_wp2_with fail
    go_ret
    exact ⟨rfl, HB2.out⟩
  have dgo_ : decide ((x5.o.length : Int) > 20) = false := decide_eq_false go_
  by_cases gs_ : (x5.s.length : Int) > 20
  · have dgs_ : decide ((x5.s.length : Int) > 20) = true := decide_eq_true gs_
    clear gs_ g2 g3 g4 go_
    go_wp2_with fail
    go_ret
    exact ⟨rfl, HB2.out⟩
  have dgs_ : decide ((x5.s.length : Int) > 20) = false := decide_eq_false gs_
  by_cases gp_ : (x6.o.length : Int) > 20
  · have dgp_ : decide ((x6.o.length : Int) > 20) = true := decide_eq_true gp_
    clear gp_ g2 g3 g4 go_ gs_
    go_wp2_with fail
    go_ret
    exact ⟨rfl, HB2.out⟩
  have dgp_ : decide ((x6.o.length : Int) > 20) = false := decide_eq_false gp_
  by_cases gr_ : (x6.s.length : Int) > 20
  · have dgr_ : decide ((x6.s.length : Int) > 20) = true := decide_eq_true gr_
    clear gr_ g2 g3 g4 go_ gs_ gp_
    go_wp2_with fail
    go_ret
    exact ⟨rfl, HB2.out⟩
  have dgr_ : decide ((x6.s.length : Int) > 20) = false := decide_eq_false gr_
  have HS : Hid (n2 = 12 ∧ n3 = 12 ∧ n4 ≤ 64) := Lib.hid ⟨by omega, by omega, by omega⟩
  have HFW : Hid (x5.tk.few ∧ x6.tk.few) := Lib.hid (by unfold Tk.few Fd.tk; simp only; omega)
  have bo20 : x5.o.length ≤ 20 ∧ x5.s.length ≤ 20 := ⟨by omega, by omega⟩
  clear g2 g3 g4 go_ gs_ gp_ gr_
  have V2 := Lib.hid (H2.out.1.step HB2.out)
  have V3 := Lib.hid (H3.out.1.step HB2.out)
  have V4 := Lib.hid (H4.out.1.step HB2.out)
  have V5 := Lib.hid (H5.out.1.step HB2.out)
  have V6 := Lib.hid (H5.out.2.step HB2.out)
  go_wp2_with fail
  refine (rings20_any A0 n0 c0 l0 w2 (by exact ⟨(H0.out.1.below HB2.out).1, fun k hk => ((H0.out.1.below HB2.out).2.1 k hk).more HB2.out.size, fun hn => by obtain ⟨b, o, a1, a2, a3⟩ := (H0.out.1.below HB2.out).2.2 hn; exact ⟨b, o, a1, Nat.lt_of_lt_of_le a2 HB2.out.size, a3⟩⟩) (Nat.le_trans H0.out.2.1 H0.out.2.2) HG1.out.2).mono ?_
  rintro e w4 ⟨x, y, rfl, hp⟩
  obtain ⟨s, HS0⟩ : ∃ s, Hid (upR l0 n0 = s) := ⟨_, Lib.hid rfl⟩
  rw [HS0.out] at hp
  have os := Lib.hid hp.ok.1
  obtain ⟨D, hT⟩ := hp.tx
  have T4 := Lib.hid ((hT.arg V2.out H2.out.2.1).arg V3.out H3.out.2.1)
  obtain ⟨⟨L, E⟩, hR⟩ : ∃ r, sealT s x1 l2 l4 x5.tk = r := ⟨_, rfl⟩
  obtain ⟨M, hM⟩ : ∃ M, L.length = M := ⟨_, rfl⟩
  have bM : M ≤ 100 := by have := seal_lenE (q := x1) (n := l2) (c := l4) (f := x5.tk) os.out; rw [hR] at this; rw [← hM]; exact this
  have HR := Lib.hid (And.intro hR hM)
  obtain ⟨⟨L', E'⟩, hR'⟩ : ∃ r, sealT s x1 l3 l4 x6.tk = r := ⟨_, rfl⟩
  obtain ⟨M', hM'⟩ : ∃ M, L'.length = M := ⟨_, rfl⟩
  have bM' : M' ≤ 100 := by have := seal_lenE (q := x1) (n := l3) (c := l4) (f := x6.tk) os.out; rw [hR'] at this; rw [← hM']; exact this
  have HR' := Lib.hid (And.intro hR' hM')
  clear hp hT hR hM hR' hM' cc1 cc2 cc3 cc4
  have q5l := (HC5.out.step T4.out.bel).ld rt_tk
  go_wp2_with fail
  refine (tx_seal 1 0 w2 x y s s D _ _ w4 (by exact T4.out) (by omega) x1 A2 A4 n2 c2 n4 c4 l2 l4 (by simp) (by exact V4.out.step T4.out.bel) (by have := HS.out; omega) (by have := HS.out; omega) x5 (by exact V5.out.step T4.out.bel) M L E HR.out.1 HR.out.2).mono ?_
  rintro e w6 ⟨B6, c6, G6, rfl, _, hT⟩
  have T6 := Lib.hid hT
  clear hT T4 q5l
  have q6l := (HC6.out.step T6.out.bel).ld rt_tk
  go_wp2_with fail
  refine (tx_seal 2 0 w2 x y s s D _ _ w6 (by exact T6.out) (by omega) x1 A3 A4 n3 c3 n4 c4 l3 l4 (by simp) (by exact V4.out.step T6.out.bel) (by have := HS.out; omega) (by have := HS.out; omega) x6 (by exact V6.out.step T6.out.bel) M' L' E' HR'.out.1 HR'.out.2).mono ?_
  rintro e w7 ⟨B7, c7, G7, rfl, _, hT⟩
  have T7 := Lib.hid hT
  clear hT T6 q6l
  cases hv : hasR s x1
  · obtain rfl : E = 17 := by have h := HR.out.1; rw [seal_no hv] at h; injection h with _ h; exact h.symm
    obtain rfl : E' = 17 := by have h := HR'.out.1; rw [seal_no hv] at h; injection h with _ h; exact h.symm
    clear hv
    go_wp2_with fail
    go_ret
    exact ⟨rfl, bel_next HB2.out T7.out.bel⟩
  obtain ⟨hE, hL, hLl, hf1, hn1, hmem, hq⟩ := seal_facts os.out (by rw [H2.out.1.len]; exact HS.out.1) (by rw [H4.out.1.len]; exact HS.out.2.2) HFW.out.1 HR.out.1 hv
  obtain ⟨hE', hL', hLl', hf1', hn1', hmem', hq'⟩ := seal_facts os.out (by rw [H3.out.1.len]; exact HS.out.2.1) (by rw [H4.out.1.len]; exact HS.out.2.2) HFW.out.2 HR'.out.1 hv
  subst hE hE'
  have hap := seal_apart os.out hv (by rw [H2.out.1.len]; exact HS.out.1) (by rw [H3.out.1.len]; exact HS.out.2.1) (by rw [H4.out.1.len]; exact HS.out.2.2) HFW.out.1 HFW.out.2 V5.out.e V6.out.e HR.out.1 HR'.out.1
  have HM : Hid (M = 39 + x5.o.length + x5.s.length ∧ 39 ≤ M') := Lib.hid (by have h := HR.out.2; have h' := HR'.out.2; rw [hLl] at h; rw [hLl'] at h'; simp only [Fd.tk] at h h'; omega)
  have dm : ((M : Int) != 39 + (x5.o.length : Int) + (x5.s.length : Int)) = false := by rw [HM.out.1]; simp
  have r6 : RB w7 w7.heap.size B6 M L := (T7.out.row (B6, M, c6, L) (by simp)).1
  have r7 : RB w7 w7.heap.size B7 M' L' := (T7.out.row (B7, M', c7, L') (by simp)).1
  have hc6 : M ≤ c6 := (T7.out.row (B6, M, c6, L) (by simp)).2.1
  have hc7 : M' ≤ c7 := (T7.out.row (B7, M', c7, L') (by simp)).2.1
  obtain ⟨g6, o6, xb, hB6, hcb, hfx, _, hx255⟩ := fst_at r6 (by have := HM.out.1; omega)
  subst hB6
  rw [hf1] at hfx
  have dq : ((xb.toNat : Int) != x1) = false := by rw [hfx]; simp
  have hM0 : 0 < M := by have := HM.out.1; omega
  have HN1 := Lib.hid (And.intro hn1 hn1')
  have hcu6 : ∀ W : World, (Instr.slice 23 (.slice (some ⟨g6, o6, none⟩) M c6) (some (.int .i64 1)) (some (.int .i64 13)) none).run Tryz.prog W = .ok (.slice (cutA (some ⟨g6, o6, none⟩) c6 1) 12 (c6 - 1)) W := cut_lh (some ⟨g6, o6, none⟩) M c6 1 13 (by omega) (by have := HM.out.1; omega)
  have hcu7 : ∀ W : World, (Instr.slice 23 (.slice B7 M' c7) (some (.int .i64 1)) (some (.int .i64 13)) none).run Tryz.prog W = .ok (.slice (cutA B7 c7 1) 12 (c7 - 1)) W := cut_lh B7 M' c7 1 13 (by omega) (by have := HM.out.2; omega)
  obtain ⟨CA, HCA⟩ : ∃ CA, Hid (cutA (some ⟨g6, o6, none⟩) c6 1 = CA) := ⟨_, Lib.hid rfl⟩
  obtain ⟨CB, HCB⟩ : ∃ CB, Hid (cutA B7 c7 1 = CB) := ⟨_, Lib.hid rfl⟩
  rw [HCA.out] at hcu6
  rw [HCB.out] at hcu7
  have T8 := Lib.hid ((T7.out.view (B' := CA) (n' := 12) (d' := c6 - 1) (l' := l2) (by simp : (some ⟨g6, o6, none⟩, M, c6, L) ∈ _) (by
    have k := RB.part r6 (i := 1) (j := 13) (c := c6) (by omega) (by have := HM.out.1; omega) hc6
    rw [List.drop_take, HN1.out.1, HCA.out] at k
    exact k) (by have := HM.out.1; omega) (fun _ => ⟨hM0, fun g hg => by rw [← HCA.out] at hg; exact Classical.byContradiction (fun hn => blk_cut (S := [g]) (fun a ha hm => hn (by rw [List.mem_singleton] at hm; subst hm; exact ha)) g hg (by simp))⟩)).view (B' := CB) (n' := 12) (d' := c7 - 1) (l' := l3) (by simp : (B7, M', c7, L') ∈ _) (by
    have k := RB.part r7 (i := 1) (j := 13) (c := c7) (by omega) (by have := HM.out.2; omega) hc7
    rw [List.drop_take, HN1.out.2, HCB.out] at k
    exact k) (by have := HM.out.2; omega) (fun _ => ⟨by have := HM.out.2; omega, fun g hg => by rw [← HCB.out] at hg; exact Classical.byContradiction (fun hn => blk_cut (S := [g]) (fun a ha hm => hn (by rw [List.mem_singleton] at hm; subst hm; exact ha)) g hg (by simp))⟩))
  obtain ⟨z, hz⟩ : ∃ z, decide (x5.tk = x6.tk) = z := ⟨_, rfl⟩
  obtain ⟨p, hp⟩ : ∃ p, (l2 == l3) = p := ⟨_, rfl⟩
  obtain ⟨u, hu⟩ : ∃ u, (L == L') = u := ⟨_, rfl⟩
  rw [hz, hp, hu] at hap
  have HZ := Lib.hid (And.intro hz (And.intro hp hu))
  clear hz hp hu r6 r7 hv hL hLl hf1 hn1 hmem hq hL' hLl' hf1' hn1' hmem' hq' T7
  have cc1 := (HC5.out.step T8.out.bel).c1
  have cc2 := (HC5.out.step T8.out.bel).c2
  go_wp2_with fail
  refine (al_same CA A2 12 (c6 - 1) n2 c2 l2 l2 w7 (by exact (T8.out.row (CA, 12, c6 - 1, l2) (by simp)).1) (by exact V2.out.step T8.out.bel) (by unfold maxLen; omega) (by unfold maxLen; have := HS.out; omega) true (by simp)).mono ?_
  rintro e w9 ⟨rfl, hb⟩
  have T9 := Lib.hid (T8.out.step hb)
  clear hb T8 cc1 cc2 hcb
  go_wp2_with fail
  refine (al_same CB A3 12 (c7 - 1) n3 c3 l3 l3 w9 (by exact (T9.out.row (CB, 12, c7 - 1, l3) (by simp)).1) (by exact V3.out.step T9.out.bel) (by unfold maxLen; omega) (by unfold maxLen; have := HS.out; omega) true (by simp)).mono ?_
  rintro e wa ⟨rfl, hb⟩
  have TA := Lib.hid (T9.out.step hb)
  clear hb T9
  go_wp2_with fail
  refine (al_same (some ⟨g6, o6, none⟩) B7 M c6 M' c7 L L' wa (by exact (TA.out.row (some ⟨g6, o6, none⟩, M, c6, L) (by simp)).1) (by exact (TA.out.row (B7, M', c7, L') (by simp)).1) (by unfold maxLen; omega) (by unfold maxLen; omega) u HZ.out.2.2).mono ?_
  rintro e wb ⟨rfl, hb⟩
  have TB2 := Lib.hid (TA.out.step hb)
  clear hb TA
  go_wp2_with fail
  refine (al_same A2 A3 n2 c2 n3 c3 l2 l3 wb (by exact V2.out.step TB2.out.bel) (by exact V3.out.step TB2.out.bel) (by unfold maxLen; have := HS.out; omega) (by unfold maxLen; have := HS.out; omega) p HZ.out.2.1).mono ?_
  rintro e wc ⟨rfl, hb⟩
  have TC := Lib.hid (TB2.out.step hb)
  clear hb TB2
  rcases p with _ | _
  · obtain rfl : u = false := by rw [hap]; rfl
    clear hap
    go_wp2_with fail
    go_ret
    exact ⟨rfl, bel_next HB2.out TC.out.bel⟩
  · obtain rfl : u = z := by rw [hap]; rfl
    have huu : (u == u) = true := by simp
    clear hap
    have p5l := (HC5.out.step TC.out.bel).ld rt_tk
    have p6l := (HC6.out.step TC.out.bel).ld rt_tk
    go_wp2_with fail
    refine (tksame_any x5 x6 wc (by exact V5.out.step TC.out.bel) (by exact V6.out.step TC.out.bel) u HZ.out.1).mono ?_
    rintro e wd ⟨rfl, hb⟩
    have TD := Lib.hid (TC.out.step hb)
    clear hb
    go_wp2_with fail
    go_ret
    exact ⟨rfl, bel_next HB2.out TD.out.bel⟩
end Go.Proofs.YthllaoeioddddaaGreat
