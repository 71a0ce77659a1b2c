/- TokenTexts's walk: texts are what the document says, and tell what it says. Condition: what the arguments hold can be read. -/
import Derived.Test.YthllaoeioddddaaGreatTkO
import Derived.Test.YthllaoeioddddaaGreatOpenTk
namespace Go.Proofs.YthllaoeioddddaaGreat
attribute [local irreducible] wsW keyUpTo keyF lastW turn0 encUp decUp aftL encL tableL blksL blkL strmL putL numL xorL turnAt fstL hkL tagL trnL bB sumG nB sealR openR tagR numS shortS endS untextR textR sealT openT seqT fstT
open Go.RowKit
set_option linter.unusedVariables false
set_option linter.unusedSimpArgs false
attribute [local go_sem ↓] ex_ldF ex_ldFr ex_ldCr
theorem text_small (f : Tk) : (textR f).1.length ≤ 1000 := by
  unfold textR
  split
  · exact Nat.zero_le _
  · rw [rawT_len]; omega
/-- What Seq's answer is, by a token's first byte. -/
theorem seq_cases {w : World} {A : Option Addr} {n : Nat} {l : List UInt8} (h : RB w w.heap.size A n l) : (n = 0 ∧ seqT l = (0, false)) ∨ (0 < n ∧ ∃ x : UInt8, fstT l = (x.toNat : Int) ∧ ((x.toNat < 128 ∧ seqT l = ((x.toNat : Int), true)) ∨ (128 ≤ x.toNat ∧ seqT l = (0, false)))) := by
  rcases Nat.eq_zero_or_pos n with h0 | h0
  · left
    refine ⟨h0, ?_⟩
    unfold seqT
    exact if_neg (fun hh => hh.1 (List.eq_nil_of_length_eq_zero (by rw [h.len]; exact h0)))
  · right
    refine ⟨h0, ?_⟩
    obtain ⟨g, o, x, _, _, hf, _, _⟩ := fst_at h h0
    have hne : l ≠ [] := fun e => by have := h.len; rw [e] at this; simp at this; omega
    refine ⟨x, hf, ?_⟩
    by_cases hx : x.toNat < 128
    · left; refine ⟨hx, ?_⟩; unfold seqT; rw [if_pos ⟨hne, by rw [hf]; omega⟩, hf]
    · right; refine ⟨by omega, ?_⟩; unfold seqT; rw [if_neg (by rw [hf]; omega)]
set_option maxRecDepth 100000 in
set_option maxHeartbeats 32000000 in
theorem TokenTexts_walk (x0 : Fd) (x1 : Fd) (A2 : Option Addr) (n2 c2 : Nat) (l2 : List UInt8) (w : World) (h0 : x0.ok w) (h1 : x1.ok w) (h2 : RB w w.heap.size A2 n2 l2) (m2 : n2 ≤ c2 ∧ c2 ≤ maxLen) :
    Calls Tryz.prog 3 #[x0.val, x1.val, .slice A2 n2 c2] w fun e w' => e = .returned (.bool true) ∧ Below w.heap.size w w' := by
  have b2 : n2 ≤ 9223372036854775807 := by have := m2.1; have := m2.2; unfold maxLen at this; omega
  have H0 := Lib.hid h0
  have H1 := Lib.hid h1
  have H2 := Lib.hid (And.intro h2 m2)
  clear h0 h1 h2 m2
  go_enter Tryz.func3, Tryz.ntmps3
  go_wp2_with (first
    | (with_reducible show wpList _ _ _ (⟨_, .box _ (.tmp 0), _, _, _, none⟩ :: _) _ _; refine wpList_boxF rfl _ (.tmp 0) rfl x0 rfl ?_; intro w01 q0 hc1 hb1 hx1; have HX0 := Lib.hid (And.intro hc1 (hb1)); clear hc1 hb1 hx1)
    | (with_reducible show wpList _ _ _ (⟨_, .box _ (.tmp 1), _, _, _, none⟩ :: _) _ _; refine wpList_boxF rfl _ (.tmp 1) rfl x1 rfl ?_; intro w11 q1 hc1 hb1 hx1; have HX1 := Lib.hid (And.intro hc1 (bel_next HX0.out.2 hb1)); have HY1 := Lib.hid (HX0.out.1.step hb1); clear hc1 hb1 hx1))
  refine (alive20_any _).mono ?_
  rintro e w2 ⟨rfl, hb2⟩
  have HB2 := Lib.hid (bel_next HX1.out.2 hb2)
  have HC0 := Lib.hid ((HY1.out).step hb2)
  have HC1 := Lib.hid ((HX1.out.1).step hb2)
  clear hb2 HX0 HX1 HY1
  have p0l := HC0.out.ld rt_tk
  have p1l := HC1.out.ld rt_tk
  cases hlg : decide (300 < x0.o.length ∨ 300 < x0.s.length)
  case true =>
    go_wp2_with fail
    refine (long20_any x0 w2 (by exact H0.out.step HB2.out) true hlg).mono ?_
    rintro e w3 ⟨rfl, hb⟩
    have HB3 := Lib.hid (bel_next HB2.out hb)
    clear hb
    go_wp2_with fail
    go_ret
    exact ⟨rfl, HB3.out⟩
  have HLG0 : Hid (x0.o.length ≤ 300 ∧ x0.s.length ≤ 300) := Lib.hid (by have := of_decide_eq_false hlg; omega)
  go_wp2_with fail
  refine (long20_any x0 w2 (by exact H0.out.step HB2.out) false hlg).mono ?_
  rintro e w3 ⟨rfl, hb⟩
  have HB3 := Lib.hid (bel_next HB2.out hb)
  have HC30 := Lib.hid (HC0.out.step hb)
  have HC31 := Lib.hid (HC1.out.step hb)
  clear hb hlg p0l p1l HC0 HC1
  have p1l := HC31.out.ld rt_tk
  cases hlg : decide (300 < x1.o.length ∨ 300 < x1.s.length)
  case true =>
    go_wp2_with fail
    refine (long20_any x1 w3 (by exact H1.out.step HB3.out) true hlg).mono ?_
    rintro e w4 ⟨rfl, hb⟩
    have HB4 := Lib.hid (bel_next HB3.out hb)
    clear hb
    go_wp2_with fail
    go_ret
    exact ⟨rfl, HB4.out⟩
  have HLG1 : Hid (x1.o.length ≤ 300 ∧ x1.s.length ≤ 300) := Lib.hid (by have := of_decide_eq_false hlg; omega)
  go_wp2_with fail
  refine (long20_any x1 w3 (by exact H1.out.step HB3.out) false hlg).mono ?_
  rintro e v ⟨rfl, hb⟩
  have HBV := Lib.hid (bel_next HB3.out hb)
  have CV0 := Lib.hid (HC30.out.step hb)
  have CV1 := Lib.hid (HC31.out.step hb)
  clear hb hlg p1l HC30 HC31
  by_cases g2 : (n2 : Int) > 3000
  · have d2 : decide ((n2 : Int) > 3000) = true := decide_eq_true g2
    clear g2
    go_wp2_with fail
    go_ret
    exact ⟨rfl, HBV.out⟩
  have d2 : decide ((n2 : Int) > 3000) = false := decide_eq_false g2
  have hn2 : n2 ≤ 3000 := by omega
  clear g2
  have V0 := Lib.hid (H0.out.step HBV.out)
  have V1 := Lib.hid (H1.out.step HBV.out)
  have V2 := Lib.hid (H2.out.1.step HBV.out)
  have hcap2 := H2.out.2.1
  obtain ⟨⟨L, E⟩, hR⟩ : ∃ r, textR x0.tk = r := ⟨_, rfl⟩
  obtain ⟨M, hM⟩ : ∃ M, L.length = M := ⟨_, rfl⟩
  have bM : M ≤ 1000 := by
    have hl := congrArg (fun r => r.1.length) hR
    simp only at hl
    rw [← hM, ← hl]
    exact text_small x0.tk
  have HR := Lib.hid (And.intro hR hM)
  obtain ⟨⟨U, D⟩, hU⟩ : ∃ r, untextR l2 = r := ⟨_, rfl⟩
  have HU := Lib.hid hU
  have HUS : Hid (U.o.length ≤ 255 ∧ U.s.length ≤ 255) := Lib.hid (by have := untext_small l2; rw [hU] at this; exact this)
  have hEE : (E == E) = true := by simp
  have hEN : (E != E) = false := by simp
  have hDN : (D != D) = false := by simp
  clear hR hM hU
  have p0l := CV0.out.ld rt_tk
  go_wp2_with fail
  refine (text20_any x0 v (by exact V0.out) M L E HR.out.1 HR.out.2).mono ?_
  rintro e w4 ⟨B4, c4, rfl, ho, hb⟩
  have B4b := Lib.hid hb
  have R4 := Lib.hid (And.intro ho.rb ho.cap)
  have p0m := (CV0.out.step hb).ld rt_tk
  clear ho hb p0l
  go_wp2_with fail
  refine (tkof_any x0 w4 (by exact V0.out.step B4b.out) (by have := HLG0.out; omega) (by have := HLG0.out; omega)).mono ?_
  rintro e w5 ⟨j, rfl, hj, hoj, hb⟩
  have HJ := Lib.hid (And.intro hj hoj.ok)
  have B5 := Lib.hid (bel_next B4b.out hb)
  have R5 := Lib.hid (R4.out.1.step hb)
  clear hj hoj hb p0m B4b
  go_wp2_with fail
  refine (rtext20_any j w5 (by exact HJ.out.2) M L E (by rw [HJ.out.1]; exact HR.out.1) HR.out.2).mono ?_
  rintro e w6 ⟨B6, c6, rfl, ho, hb⟩
  have B6b := Lib.hid (bel_next B5.out hb)
  have R6 := Lib.hid (And.intro (R5.out.step hb) ho.rb)
  clear ho hb B5 R5
  go_wp2_with fail
  refine (copy_any A2 n2 c2 0 l2 w6 (by exact V2.out.step B6b.out) (by omega)).mono ?_
  rintro e w7 ⟨B7, c7, rfl, ho, hb⟩
  have B7b := Lib.hid (bel_next B6b.out hb)
  have R7 := Lib.hid (And.intro (R6.out.1.step hb) (And.intro (R6.out.2.step hb) ho.rb))
  have hcap7 := ho.cap.1
  clear ho hb B6b R6
  go_wp2_with fail
  refine (untext20_any B7 n2 c7 l2 w7 (by exact R7.out.2.2) (by omega)).mono ?_
  rw [HU.out]
  rintro e w8 ⟨f, rfl, hft, hfo, hb⟩
  simp only at hft ⊢
  have B8 := Lib.hid (bel_next B7b.out hb)
  have R8 := Lib.hid (And.intro (R7.out.1.step hb) (And.intro (R7.out.2.1.step hb) (R7.out.2.2.step hb)))
  have F8 := Lib.hid hfo.ok
  have HFT := Lib.hid hft
  clear hft hfo hb B7b R7
  go_wp2_with (first
    | (with_reducible show wpList _ _ _ (⟨some 12, .alloc _, _, _, _, none⟩ :: _) _ _; refine wpList_newF rt_tk rfl rfl ?_; intro w9 p12 hc4 hb4 hx4; have HV12 := Lib.hid (And.intro hc4 (And.intro hb4 hx4)); clear hc4 hb4 hx4)
    | (with_reducible show wpList _ _ _ (⟨none, .store _ (.tmp 12) (.tmp 47), _, _, _, none⟩ :: _) _ _; refine wpList_stF rt_tk rfl (.tmp 12) (.tmp 47) rfl p12 rfl f zeroF rfl (by exact HV12.out.1) ?_; intro wa hc5 ho5 hs5; have hb5 := HV12.out.2.1.trans (ho5.below (fun j hj => by rw [List.mem_singleton.1 hj]; exact HV12.out.2.2) HV12.out.2.1.size); have CV12 := Lib.hid hc5; have FA := Lib.hid (F8.out.step hb5); have BA := Lib.hid (bel_next B8.out hb5); have RA := Lib.hid (And.intro (R8.out.1.step hb5) (And.intro (R8.out.2.1.step hb5) (R8.out.2.2.step hb5))); clear hc5 ho5 hs5 hb5 HV12 B8 R8 F8))
  refine (runtext20_any A2 n2 c2 l2 wa (by exact V2.out.step BA.out) (by omega) (by exact H2.out.2)).mono ?_
  rw [HU.out]
  rintro e wb ⟨g, rfl, hgt, hgo, hb⟩
  simp only at hgt ⊢
  have BB := Lib.hid (bel_next BA.out hb)
  have RBb := Lib.hid (And.intro (RA.out.1.step hb) (And.intro (RA.out.2.1.step hb) (RA.out.2.2.step hb)))
  have FB := Lib.hid (FA.out.step hb)
  have C12 := Lib.hid (CV12.out.step hb)
  have GB := Lib.hid hgo.ok
  have HGT := Lib.hid hgt
  clear hgt hgo hb BA RA FA CV12
  go_wp2_with (first
    | (with_reducible show wpList _ _ _ (⟨some 14, .alloc _, _, _, _, none⟩ :: _) _ _; refine wpList_newF rt_rtk rfl rfl ?_; intro wc p14 hc4 hb4 hx4; have HV14 := Lib.hid (And.intro hc4 (And.intro hb4 hx4)); clear hc4 hb4 hx4)
    | (with_reducible show wpList _ _ _ (⟨none, .store _ (.tmp 14) (.tmp 52), _, _, _, none⟩ :: _) _ _; refine wpList_stF rt_rtk rfl (.tmp 14) (.tmp 52) rfl p14 rfl g zeroF rfl (by exact HV14.out.1) ?_; intro wd hc5 ho5 hs5; have hb5 := HV14.out.2.1.trans (ho5.below (fun j hj => by rw [List.mem_singleton.1 hj]; exact HV14.out.2.2) HV14.out.2.1.size); have CV14 := Lib.hid hc5; have FD := Lib.hid (FB.out.step hb5); have D12 := Lib.hid (C12.out.step hb5); have GD := Lib.hid (GB.out.step hb5); have BD := Lib.hid (bel_next BB.out hb5); have RD := Lib.hid (And.intro (RBb.out.1.step hb5) (And.intro (RBb.out.2.1.step hb5) (RBb.out.2.2.step hb5))); clear hc5 ho5 hs5 hb5 HV14 BB RBb FB C12 GB))
  have hcd := D12.out.step (Below.refl _ _).drew
  have hvd := CV14.out.step (Below.refl _ _).drew
  refine wp_region_held_drew (S := fun w' => Fc 25 w' p12 f ∧ Fc 32 w' p14 g) (by kernel_rfl) ⟨hcd, hvd⟩ (fun hHeld => ?_)
  (try dsimp only at hHeld)
  refine wpAnyH_take (i := 0) (v := ?v0_13) rfl (by kernel_rfl) (by kernel_rfl) (by kernel_rfl) (fun _ _ _ h => h) (Or.inl ⟨by rfl, ?hy0_13⟩) hHeld ?_
  case hy0_13 => (intro w hSw; (try dsimp only at hSw); have q0 := hSw.1.ld rt_tk; have q1 := hSw.2.ld rt_rtk; (try simp only [List.getElem_toArray, List.getElem_cons_zero, List.getElem_cons_succ]); go_simp <;> with_reducible rfl)
  (try simp only [Act.put, List.getElem_toArray, List.getElem_cons_zero, List.getElem_cons_succ, List.setIfInBounds_toArray, List.set_cons_zero, List.set_cons_succ])
  refine wpAnyH_take (i := 1) (v := ?v1_14) rfl (by kernel_rfl) (by kernel_rfl) (by kernel_rfl) (fun _ _ _ h => h) (Or.inl ⟨by rfl, ?hy1_14⟩) hHeld ?_
  case hy1_14 => (intro w hSw; (try dsimp only at hSw); have q0 := hSw.1.ld rt_tk; have q1 := hSw.2.ld rt_rtk; (try simp only [List.getElem_toArray, List.getElem_cons_zero, List.getElem_cons_succ]); go_simp <;> with_reducible rfl)
  (try simp only [Act.put, List.getElem_toArray, List.getElem_cons_zero, List.getElem_cons_succ, List.setIfInBounds_toArray, List.set_cons_zero, List.set_cons_succ])
  refine wpAnyH_take (i := 2) (v := ?v2_15) rfl (by kernel_rfl) (by kernel_rfl) (by kernel_rfl) (fun _ _ _ h => h) (Or.inl ⟨by rfl, ?hy2_15⟩) hHeld ?_
  case hy2_15 => (intro w hSw; (try dsimp only at hSw); have q0 := hSw.1.ld rt_tk; have q1 := hSw.2.ld rt_rtk; (try simp only [List.getElem_toArray, List.getElem_cons_zero, List.getElem_cons_succ]); go_simp <;> with_reducible rfl)
  (try simp only [Act.put, List.getElem_toArray, List.getElem_cons_zero, List.getElem_cons_succ, List.setIfInBounds_toArray, List.set_cons_zero, List.set_cons_succ])
  refine wpAnyH_take (i := 3) (v := ?v3_16) rfl (by kernel_rfl) (by kernel_rfl) (by kernel_rfl) (fun _ _ _ h => h) (Or.inl ⟨by rfl, ?hy3_16⟩) hHeld ?_
  case hy3_16 => (intro w hSw; (try dsimp only at hSw); have q0 := hSw.1.ld rt_tk; have q1 := hSw.2.ld rt_rtk; (try simp only [List.getElem_toArray, List.getElem_cons_zero, List.getElem_cons_succ]); go_simp <;> with_reducible rfl)
  (try simp only [Act.put, List.getElem_toArray, List.getElem_cons_zero, List.getElem_cons_succ, List.setIfInBounds_toArray, List.set_cons_zero, List.set_cons_succ])
  refine wpAnyH_take (i := 4) (v := ?v4_17) rfl (by kernel_rfl) (by kernel_rfl) (by kernel_rfl) (fun _ _ _ h => h) (Or.inl ⟨by rfl, ?hy4_17⟩) hHeld ?_
  case hy4_17 => (intro w hSw; (try dsimp only at hSw); have q0 := hSw.1.ld rt_tk; have q1 := hSw.2.ld rt_rtk; (try simp only [List.getElem_toArray, List.getElem_cons_zero, List.getElem_cons_succ]); go_simp <;> with_reducible rfl)
  (try simp only [Act.put, List.getElem_toArray, List.getElem_cons_zero, List.getElem_cons_succ, List.setIfInBounds_toArray, List.set_cons_zero, List.set_cons_succ])
  refine wpAnyH_take (i := 5) (v := ?v5_18) rfl (by kernel_rfl) (by kernel_rfl) (by kernel_rfl) (fun _ _ _ h => h) (Or.inl ⟨by rfl, ?hy5_18⟩) hHeld ?_
  case hy5_18 => (intro w hSw; (try dsimp only at hSw); have q0 := hSw.1.ld rt_tk; have q1 := hSw.2.ld rt_rtk; (try simp only [List.getElem_toArray, List.getElem_cons_zero, List.getElem_cons_succ]); go_simp <;> with_reducible rfl)
  (try simp only [Act.put, List.getElem_toArray, List.getElem_cons_zero, List.getElem_cons_succ, List.setIfInBounds_toArray, List.set_cons_zero, List.set_cons_succ])
  refine wpAnyH_ready (rs := [6]) (by kernel_rfl) (by simp) ?_
  refine AllReadyH.cons rfl (fun K hK => ?_) AllReadyH.nil
  (try simp only [List.getElem_toArray, List.getElem_cons_zero, List.getElem_cons_succ])
  go_simp
  refine (al_same B4 B6 M c4 M c6 L L _ (by exact RD.out.1.step (Below.refl _ _).drew) (by exact RD.out.2.1.step (Below.refl _ _).drew) (by unfold maxLen; omega) (by unfold maxLen; omega) true (by simp)).mono ?_
  rintro e we ⟨rfl, hb⟩
  have hbe := (Below.refl wd.heap.size wd).drew.trans hb
  have BE := Lib.hid (bel_next BD.out hbe)
  have RE := Lib.hid (RD.out.2.2.step hbe)
  have FE := Lib.hid (FD.out.step hbe)
  have GE := Lib.hid (GD.out.step hbe)
  have hce := D12.out.step hbe
  have hve := CV14.out.step hbe
  clear hb hbe
  (try go_wp2_with fail)
  refine hK.out _ _ ⟨hce, hve⟩ (fun hHeld => ?_)
  clear hK K
  (try simp only [Act.put, List.getElem_toArray, List.getElem_cons_zero, List.getElem_cons_succ, List.setIfInBounds_toArray, List.set_cons_zero, List.set_cons_succ])
  refine wpAnyH_take (i := 7) (v := ?v7_19) rfl (by kernel_rfl) (by kernel_rfl) (by kernel_rfl) (fun _ _ _ h => h) (Or.inl ⟨by rfl, ?hy7_19⟩) hHeld ?_
  case hy7_19 => (intro w hSw; (try dsimp only at hSw); have q0 := hSw.1.ld rt_tk; have q1 := hSw.2.ld rt_rtk; (try simp only [List.getElem_toArray, List.getElem_cons_zero, List.getElem_cons_succ]); go_simp <;> with_reducible rfl)
  (try simp only [Act.put, List.getElem_toArray, List.getElem_cons_zero, List.getElem_cons_succ, List.setIfInBounds_toArray, List.set_cons_zero, List.set_cons_succ])
  refine wpAnyH_take (i := 8) (v := ?v8_20) rfl (by kernel_rfl) (by kernel_rfl) (by kernel_rfl) (fun _ _ _ h => h) (Or.inl ⟨by rfl, ?hy8_20⟩) hHeld ?_
  case hy8_20 => (intro w hSw; (try dsimp only at hSw); have q0 := hSw.1.ld rt_tk; have q1 := hSw.2.ld rt_rtk; (try simp only [List.getElem_toArray, List.getElem_cons_zero, List.getElem_cons_succ]); go_simp <;> with_reducible rfl)
  (try simp only [Act.put, List.getElem_toArray, List.getElem_cons_zero, List.getElem_cons_succ, List.setIfInBounds_toArray, List.set_cons_zero, List.set_cons_succ])
  refine wpAnyH_take (i := 9) (v := ?v9_21) rfl (by kernel_rfl) (by kernel_rfl) (by kernel_rfl) (fun _ _ _ h => h) (Or.inl ⟨by rfl, ?hy9_21⟩) hHeld ?_
  case hy9_21 => (intro w hSw; (try dsimp only at hSw); have q0 := hSw.1.ld rt_tk; have q1 := hSw.2.ld rt_rtk; (try simp only [List.getElem_toArray, List.getElem_cons_zero, List.getElem_cons_succ]); go_simp <;> with_reducible rfl)
  (try simp only [Act.put, List.getElem_toArray, List.getElem_cons_zero, List.getElem_cons_succ, List.setIfInBounds_toArray, List.set_cons_zero, List.set_cons_succ])
  refine wpAnyH_take (i := 10) (v := ?v10_22) rfl (by kernel_rfl) (by kernel_rfl) (by kernel_rfl) (fun _ _ _ h => h) (Or.inl ⟨by rfl, ?hy10_22⟩) hHeld ?_
  case hy10_22 => (intro w hSw; (try dsimp only at hSw); have q0 := hSw.1.ld rt_tk; have q1 := hSw.2.ld rt_rtk; (try simp only [List.getElem_toArray, List.getElem_cons_zero, List.getElem_cons_succ]); go_simp <;> with_reducible rfl)
  (try simp only [Act.put, List.getElem_toArray, List.getElem_cons_zero, List.getElem_cons_succ, List.setIfInBounds_toArray, List.set_cons_zero, List.set_cons_succ])
  refine wpAnyH_take (i := 11) (v := ?v11_23) rfl (by kernel_rfl) (by kernel_rfl) (by kernel_rfl) (fun _ _ _ h => h) (Or.inl ⟨by rfl, ?hy11_23⟩) hHeld ?_
  case hy11_23 => (intro w hSw; (try dsimp only at hSw); have q0 := hSw.1.ld rt_tk; have q1 := hSw.2.ld rt_rtk; (try simp only [List.getElem_toArray, List.getElem_cons_zero, List.getElem_cons_succ]); go_simp <;> with_reducible rfl)
  (try simp only [Act.put, List.getElem_toArray, List.getElem_cons_zero, List.getElem_cons_succ, List.setIfInBounds_toArray, List.set_cons_zero, List.set_cons_succ])
  refine wpAnyH_take (i := 12) (v := ?v12_24) rfl (by kernel_rfl) (by kernel_rfl) (by kernel_rfl) (fun _ _ _ h => h) (Or.inl ⟨by rfl, ?hy12_24⟩) hHeld ?_
  case hy12_24 => (intro w hSw; (try dsimp only at hSw); have q0 := hSw.1.ld rt_tk; have q1 := hSw.2.ld rt_rtk; (try simp only [List.getElem_toArray, List.getElem_cons_zero, List.getElem_cons_succ]); go_simp <;> with_reducible rfl)
  (try simp only [Act.put, List.getElem_toArray, List.getElem_cons_zero, List.getElem_cons_succ, List.setIfInBounds_toArray, List.set_cons_zero, List.set_cons_succ])
  refine wpAnyH_take (i := 13) (v := ?v13_25) rfl (by kernel_rfl) (by kernel_rfl) (by kernel_rfl) (fun _ _ _ h => h) (Or.inl ⟨by rfl, ?hy13_25⟩) hHeld ?_
  case hy13_25 => (intro w hSw; (try dsimp only at hSw); have q0 := hSw.1.ld rt_tk; have q1 := hSw.2.ld rt_rtk; (try simp only [List.getElem_toArray, List.getElem_cons_zero, List.getElem_cons_succ]); go_simp <;> with_reducible rfl)
  (try simp only [Act.put, List.getElem_toArray, List.getElem_cons_zero, List.getElem_cons_succ, List.setIfInBounds_toArray, List.set_cons_zero, List.set_cons_succ])
  refine wpAnyH_take (i := 14) (v := ?v14_26) rfl (by kernel_rfl) (by kernel_rfl) (by kernel_rfl) (fun _ _ _ h => h) (Or.inl ⟨by rfl, ?hy14_26⟩) hHeld ?_
  case hy14_26 => (intro w hSw; (try dsimp only at hSw); have q0 := hSw.1.ld rt_tk; have q1 := hSw.2.ld rt_rtk; (try simp only [List.getElem_toArray, List.getElem_cons_zero, List.getElem_cons_succ]); go_simp <;> with_reducible rfl)
  (try simp only [Act.put, List.getElem_toArray, List.getElem_cons_zero, List.getElem_cons_succ, List.setIfInBounds_toArray, List.set_cons_zero, List.set_cons_succ])
  refine wpAnyH_take (i := 15) (v := ?v15_27) rfl (by kernel_rfl) (by kernel_rfl) (by kernel_rfl) (fun _ _ _ h => h) (Or.inl ⟨by rfl, ?hy15_27⟩) hHeld ?_
  case hy15_27 => (intro w hSw; (try dsimp only at hSw); have q0 := hSw.1.ld rt_tk; have q1 := hSw.2.ld rt_rtk; (try simp only [List.getElem_toArray, List.getElem_cons_zero, List.getElem_cons_succ]); go_simp <;> with_reducible rfl)
  (try simp only [Act.put, List.getElem_toArray, List.getElem_cons_zero, List.getElem_cons_succ, List.setIfInBounds_toArray, List.set_cons_zero, List.set_cons_succ])
  refine wpAnyH_take (i := 17) (v := ?v17_28) rfl (by kernel_rfl) (by kernel_rfl) (by kernel_rfl) (fun _ _ _ h => h) (Or.inl ⟨by rfl, ?hy17_28⟩) hHeld ?_
  case hy17_28 => (intro w hSw; (try dsimp only at hSw); have q0 := hSw.1.ld rt_tk; have q1 := hSw.2.ld rt_rtk; (try simp only [List.getElem_toArray, List.getElem_cons_zero, List.getElem_cons_succ]); go_simp <;> with_reducible rfl)
  (try simp only [Act.put, List.getElem_toArray, List.getElem_cons_zero, List.getElem_cons_succ, List.setIfInBounds_toArray, List.set_cons_zero, List.set_cons_succ])
  refine wpAnyH_ready (rs := [16]) (by kernel_rfl) (by simp) ?_
  refine AllReadyH.cons rfl (fun K hK => ?_) AllReadyH.nil
  (try simp only [List.getElem_toArray, List.getElem_cons_zero, List.getElem_cons_succ])
  go_simp
  refine (tkof_any f we (by exact FE.out) (by have := HUS.out; rw [← HFT.out] at this; exact Nat.le_trans this.1 (by omega)) (by have := HUS.out; rw [← HFT.out] at this; exact Nat.le_trans this.2 (by omega))).mono ?_
  rintro e wf ⟨k, rfl, hk, hok, hb⟩
  have HKK := Lib.hid (And.intro hk hok.ok)
  have BF := Lib.hid (bel_next BE.out hb)
  have RF := Lib.hid (RE.out.step hb)
  have GF := Lib.hid (GE.out.step hb)
  have hcf := hce.step hb
  have hvf := hve.step hb
  clear hk hok hb
  (try go_wp2_with fail)
  refine hK.out _ _ ⟨hcf, hvf⟩ (fun hHeld => ?_)
  clear hK K
  (try simp only [Act.put, List.getElem_toArray, List.getElem_cons_zero, List.getElem_cons_succ, List.setIfInBounds_toArray, List.set_cons_zero, List.set_cons_succ])
  refine wpAnyH_ready (rs := [18]) (by kernel_rfl) (by simp) ?_
  refine AllReadyH.cons rfl (fun K hK => ?_) AllReadyH.nil
  (try simp only [List.getElem_toArray, List.getElem_cons_zero, List.getElem_cons_succ])
  go_simp
  refine (rtksame_any k g wf (by exact HKK.out.2) (by exact GF.out) true (by rw [HKK.out.1, HFT.out, HGT.out]; exact decide_eq_true rfl)).mono ?_
  rintro e wg ⟨rfl, hb⟩
  have BG := Lib.hid (bel_next BF.out hb)
  have RG2 := Lib.hid (RF.out.step hb)
  have hcg := hcf.step hb
  have hvg := hvf.step hb
  clear hb
  (try go_wp2_with fail)
  refine hK.out _ _ ⟨hcg, hvg⟩ (fun hHeld => ?_)
  clear hK K
  (try simp only [Act.put, List.getElem_toArray, List.getElem_cons_zero, List.getElem_cons_succ, List.setIfInBounds_toArray, List.set_cons_zero, List.set_cons_succ])
  refine wpAnyH_take (i := 19) (v := ?v19_29) rfl (by kernel_rfl) (by kernel_rfl) (by kernel_rfl) (fun _ _ _ h => h) (Or.inl ⟨by rfl, ?hy19_29⟩) hHeld ?_
  case hy19_29 => (intro w hSw; (try dsimp only at hSw); (try simp only [List.getElem_toArray, List.getElem_cons_zero, List.getElem_cons_succ]); go_simp <;> with_reducible rfl)
  (try simp only [Act.put, List.getElem_toArray, List.getElem_cons_zero, List.getElem_cons_succ, List.setIfInBounds_toArray, List.set_cons_zero, List.set_cons_succ])
  refine wpAnyH_take (i := 20) (v := ?v20_30) rfl (by kernel_rfl) (by kernel_rfl) (by kernel_rfl) (fun _ _ _ h => h) (Or.inl ⟨by rfl, ?hy20_30⟩) hHeld ?_
  case hy20_30 => (intro w hSw; (try dsimp only at hSw); (try simp only [List.getElem_toArray, List.getElem_cons_zero, List.getElem_cons_succ]); go_simp <;> with_reducible rfl)
  (try simp only [Act.put, List.getElem_toArray, List.getElem_cons_zero, List.getElem_cons_succ, List.setIfInBounds_toArray, List.set_cons_zero, List.set_cons_succ])
  refine wpAnyH_take (i := 21) (v := ?v21_31) rfl (by kernel_rfl) (by kernel_rfl) (by kernel_rfl) (fun _ _ _ h => h) (Or.inl ⟨by rfl, ?hy21_31⟩) hHeld ?_
  case hy21_31 => (intro w hSw; (try dsimp only at hSw); (try simp only [List.getElem_toArray, List.getElem_cons_zero, List.getElem_cons_succ]); go_simp <;> with_reducible rfl)
  (try simp only [Act.put, List.getElem_toArray, List.getElem_cons_zero, List.getElem_cons_succ, List.setIfInBounds_toArray, List.set_cons_zero, List.set_cons_succ])
  refine wpAnyH_take (i := 22) (v := ?v22_32) rfl (by kernel_rfl) (by kernel_rfl) (by kernel_rfl) (fun _ _ _ h => h) (Or.inl ⟨by rfl, ?hy22_32⟩) hHeld ?_
  case hy22_32 => (intro w hSw; (try dsimp only at hSw); (try simp only [List.getElem_toArray, List.getElem_cons_zero, List.getElem_cons_succ]); go_simp <;> with_reducible rfl)
  (try simp only [Act.put, List.getElem_toArray, List.getElem_cons_zero, List.getElem_cons_succ, List.setIfInBounds_toArray, List.set_cons_zero, List.set_cons_succ])
  refine wpAnyH_take (i := 23) (v := ?v23_33) rfl (by kernel_rfl) (by kernel_rfl) (by kernel_rfl) (fun _ _ _ h => h) (Or.inl ⟨by rfl, ?hy23_33⟩) hHeld ?_
  case hy23_33 => (intro w hSw; (try dsimp only at hSw); (try simp only [List.getElem_toArray, List.getElem_cons_zero, List.getElem_cons_succ]); go_simp <;> with_reducible rfl)
  (try simp only [Act.put, List.getElem_toArray, List.getElem_cons_zero, List.getElem_cons_succ, List.setIfInBounds_toArray, List.set_cons_zero, List.set_cons_succ])
  refine wpAnyH_ready (rs := [24]) (by kernel_rfl) (by simp) ?_
  refine AllReadyH.cons rfl (fun K hK => ?_) AllReadyH.nil
  (try simp only [List.getElem_toArray, List.getElem_cons_zero, List.getElem_cons_succ])
  go_simp
  refine (al_same B7 A2 n2 c7 n2 c2 l2 l2 wg (by exact RG2.out) (by exact V2.out.step BG.out) (by unfold maxLen; omega) (by unfold maxLen; omega) true (by simp)).mono ?_
  rintro e wh ⟨rfl, hb⟩
  have BH := Lib.hid (bel_next BG.out hb)
  have RH := Lib.hid (RG2.out.step hb)
  have hch := hcg.step hb
  have hvh := hvg.step hb
  clear hb
  (try go_wp2_with fail)
  refine hK.out _ _ ⟨hch, hvh⟩ (fun hHeld => ?_)
  clear hK K
  (try simp only [Act.put, List.getElem_toArray, List.getElem_cons_zero, List.getElem_cons_succ, List.setIfInBounds_toArray, List.set_cons_zero, List.set_cons_succ])
  refine wpAnyH_take (i := 25) (v := ?v25_34) rfl (by kernel_rfl) (by kernel_rfl) (by kernel_rfl) (fun _ _ _ h => h) (Or.inl ⟨by rfl, ?hy25_34⟩) hHeld ?_
  case hy25_34 => (intro w hSw; (try dsimp only at hSw); (try simp only [List.getElem_toArray, List.getElem_cons_zero, List.getElem_cons_succ]); go_simp <;> with_reducible rfl)
  (try simp only [Act.put, List.getElem_toArray, List.getElem_cons_zero, List.getElem_cons_succ, List.setIfInBounds_toArray, List.set_cons_zero, List.set_cons_succ])
  refine wpAnyH_take (i := 26) (v := ?v26_35) rfl (by kernel_rfl) (by kernel_rfl) (by kernel_rfl) (fun _ _ _ h => h) (Or.inl ⟨by rfl, ?hy26_35⟩) hHeld ?_
  case hy26_35 => (intro w hSw; (try dsimp only at hSw); (try simp only [List.getElem_toArray, List.getElem_cons_zero, List.getElem_cons_succ]); go_simp <;> with_reducible rfl)
  (try simp only [Act.put, List.getElem_toArray, List.getElem_cons_zero, List.getElem_cons_succ, List.setIfInBounds_toArray, List.set_cons_zero, List.set_cons_succ])
  refine wpAnyH_done (by kernel_rfl) ?_ _
  clear hHeld hcd hvd hce hve hcf hvf hcg hvg hch hvh BE BF BG RE RF RG2 GE GF FE FD GD BD RD D12 CV14
  go_wp2_with fail
  obtain ⟨⟨z, b⟩, hz⟩ : ∃ r, seqT l2 = r := ⟨_, rfl⟩
  refine (seq20_any B7 n2 c7 l2 wh (by exact RH.out) (by omega) z b hz).mono ?_
  rintro e wi ⟨rfl, rfl⟩
  have hend : Hid (Below w.heap.size w wh) := Lib.hid (bel_next HBV.out BH.out)
  obtain ⟨y, hy⟩ : ∃ y, decide (x0.tk = x1.tk) = y := ⟨_, rfl⟩
  have HYY := Lib.hid hy
  have hyy : (y == y) = true := by simp
  have FIN : Hid (Fc 25 wh.drew q0 x0 ∧ Fc 25 wh.drew q1 x1) := Lib.hid ⟨CV0.out.step BH.out.drew, CV1.out.step BH.out.drew⟩
  clear hy
  rcases seq_cases V2.out with ⟨hn0, hs⟩ | ⟨hn0, xb, hfx, hcase⟩
  · rw [hs] at hz
    injection hz with hz1 hz2
    subst hz1 hz2
    clear hs
    subst hn0
    go_wp2_with fail
    refine wp_region_held_drew (S := fun w' => Fc 25 w' q0 x0 ∧ Fc 25 w' q1 x1) (by kernel_rfl) FIN.out (fun hHeld => ?_)
    (try dsimp only at hHeld)
    refine wpAnyH_take (i := 0) (v := ?v0_36) rfl (by kernel_rfl) (by kernel_rfl) (by kernel_rfl) (fun _ _ _ h => h) (Or.inl ⟨by rfl, ?hy0_36⟩) hHeld ?_
    case hy0_36 => (intro w hSw; (try dsimp only at hSw); have q0 := hSw.1.ld rt_tk; have q1 := hSw.2.ld rt_tk; (try simp only [List.getElem_toArray, List.getElem_cons_zero, List.getElem_cons_succ]); go_simp <;> with_reducible rfl)
    (try simp only [Act.put, List.getElem_toArray, List.getElem_cons_zero, List.getElem_cons_succ, List.setIfInBounds_toArray, List.set_cons_zero, List.set_cons_succ])
    refine wpAnyH_take (i := 1) (v := ?v1_37) rfl (by kernel_rfl) (by kernel_rfl) (by kernel_rfl) (fun _ _ _ h => h) (Or.inl ⟨by rfl, ?hy1_37⟩) hHeld ?_
    case hy1_37 => (intro w hSw; (try dsimp only at hSw); have q0 := hSw.1.ld rt_tk; have q1 := hSw.2.ld rt_tk; (try simp only [List.getElem_toArray, List.getElem_cons_zero, List.getElem_cons_succ]); go_simp <;> with_reducible rfl)
    (try simp only [Act.put, List.getElem_toArray, List.getElem_cons_zero, List.getElem_cons_succ, List.setIfInBounds_toArray, List.set_cons_zero, List.set_cons_succ])
    refine wpAnyH_take (i := 3) (v := ?v3_38) rfl (by kernel_rfl) (by kernel_rfl) (by kernel_rfl) (fun _ _ _ h => h) (Or.inl ⟨by rfl, ?hy3_38⟩) hHeld ?_
    case hy3_38 => (intro w hSw; (try dsimp only at hSw); have q0 := hSw.1.ld rt_tk; have q1 := hSw.2.ld rt_tk; (try simp only [List.getElem_toArray, List.getElem_cons_zero, List.getElem_cons_succ]); go_simp <;> with_reducible rfl)
    (try simp only [Act.put, List.getElem_toArray, List.getElem_cons_zero, List.getElem_cons_succ, List.setIfInBounds_toArray, List.set_cons_zero, List.set_cons_succ])
    refine wpAnyH_take (i := 5) (v := ?v5_39) rfl (by kernel_rfl) (by kernel_rfl) (by kernel_rfl) (fun _ _ _ h => h) (Or.inl ⟨by rfl, ?hy5_39⟩) hHeld ?_
    case hy5_39 => (intro w hSw; (try dsimp only at hSw); have q0 := hSw.1.ld rt_tk; have q1 := hSw.2.ld rt_tk; (try simp only [List.getElem_toArray, List.getElem_cons_zero, List.getElem_cons_succ]); go_simp <;> with_reducible rfl)
    (try simp only [Act.put, List.getElem_toArray, List.getElem_cons_zero, List.getElem_cons_succ, List.setIfInBounds_toArray, List.set_cons_zero, List.set_cons_succ])
    refine wpAnyH_ready (rs := [2]) (by kernel_rfl) (by simp) ?_
    refine AllReadyH.cons rfl (fun K hK => ?_) AllReadyH.nil
    (try simp only [List.getElem_toArray, List.getElem_cons_zero, List.getElem_cons_succ])
    go_simp
    refine (tksame_any x0 x1 _ (by exact V0.out.step BH.out.drew) (by exact V1.out.step BH.out.drew) y HYY.out).mono ?_
    rintro e wj ⟨rfl, hb⟩
    have BJ := Lib.hid (bel_next BH.out.drew hb)
    have CJ := Lib.hid (And.intro (FIN.out.1.step hb) (FIN.out.2.step hb))
    clear hb
    (try go_wp2_with fail)
    refine hK.out _ _ CJ.out (fun hHeld => ?_)
    clear hK K
    (try simp only [Act.put, List.getElem_toArray, List.getElem_cons_zero, List.getElem_cons_succ, List.setIfInBounds_toArray, List.set_cons_zero, List.set_cons_succ])
    refine wpAnyH_ready (rs := [4]) (by kernel_rfl) (by simp) ?_
    refine AllReadyH.cons rfl (fun K hK => ?_) AllReadyH.nil
    (try simp only [List.getElem_toArray, List.getElem_cons_zero, List.getElem_cons_succ])
    go_simp
    refine (tkof_any x0 wj (by exact V0.out.step BJ.out) (by have := HLG0.out; omega) (by have := HLG0.out; omega)).mono ?_
    rintro e wk ⟨k0, rfl, hk, hok, hb⟩
    have HK0 := Lib.hid (And.intro hk hok.ok)
    have BK := Lib.hid (bel_next BJ.out hb)
    have CK := Lib.hid (And.intro (CJ.out.1.step hb) (CJ.out.2.step hb))
    clear hk hok hb
    (try go_wp2_with fail)
    refine hK.out _ _ CK.out (fun hHeld => ?_)
    clear hK K
    (try simp only [Act.put, List.getElem_toArray, List.getElem_cons_zero, List.getElem_cons_succ, List.setIfInBounds_toArray, List.set_cons_zero, List.set_cons_succ])
    refine wpAnyH_ready (rs := [6]) (by kernel_rfl) (by simp) ?_
    refine AllReadyH.cons rfl (fun K hK => ?_) AllReadyH.nil
    (try simp only [List.getElem_toArray, List.getElem_cons_zero, List.getElem_cons_succ])
    go_simp
    refine (tkof_any x1 wk (by exact V1.out.step BK.out) (by have := HLG1.out; omega) (by have := HLG1.out; omega)).mono ?_
    rintro e wl ⟨k1, rfl, hk, hok, hb⟩
    have HK1 := Lib.hid (And.intro hk (And.intro hok.ok (HK0.out.2.step hb)))
    have BL := Lib.hid (bel_next BK.out hb)
    have CL := Lib.hid (And.intro (CK.out.1.step hb) (CK.out.2.step hb))
    clear hk hok hb
    (try go_wp2_with fail)
    refine hK.out _ _ CL.out (fun hHeld => ?_)
    clear hK K
    (try simp only [Act.put, List.getElem_toArray, List.getElem_cons_zero, List.getElem_cons_succ, List.setIfInBounds_toArray, List.set_cons_zero, List.set_cons_succ])
    refine wpAnyH_ready (rs := [7]) (by kernel_rfl) (by simp) ?_
    refine AllReadyH.cons rfl (fun K hK => ?_) AllReadyH.nil
    (try simp only [List.getElem_toArray, List.getElem_cons_zero, List.getElem_cons_succ])
    go_simp
    refine (rtksame_any k0 k1 wl (by exact HK1.out.2.2) (by exact HK1.out.2.1) y (by rw [HK0.out.1, HK1.out.1]; exact HYY.out)).mono ?_
    rintro e wm ⟨rfl, hb⟩
    have BM := Lib.hid (bel_next BL.out hb)
    have CM := Lib.hid (And.intro (CL.out.1.step hb) (CL.out.2.step hb))
    clear hb
    (try go_wp2_with fail)
    refine hK.out _ _ CM.out (fun hHeld => ?_)
    clear hK K
    (try simp only [Act.put, List.getElem_toArray, List.getElem_cons_zero, List.getElem_cons_succ, List.setIfInBounds_toArray, List.set_cons_zero, List.set_cons_succ])
    refine wpAnyH_take (i := 8) (v := ?v8_40) rfl (by kernel_rfl) (by kernel_rfl) (by kernel_rfl) (fun _ _ _ h => h) (Or.inl ⟨by rfl, ?hy8_40⟩) hHeld ?_
    case hy8_40 => (intro w hSw; (try dsimp only at hSw); have q0 := hSw.1.ld rt_tk; have q1 := hSw.2.ld rt_tk; (try simp only [List.getElem_toArray, List.getElem_cons_zero, List.getElem_cons_succ]); go_simp <;> with_reducible rfl)
    (try simp only [Act.put, List.getElem_toArray, List.getElem_cons_zero, List.getElem_cons_succ, List.setIfInBounds_toArray, List.set_cons_zero, List.set_cons_succ])
    refine wpAnyH_take (i := 9) (v := ?v9_41) rfl (by kernel_rfl) (by kernel_rfl) (by kernel_rfl) (fun _ _ _ h => h) (Or.inl ⟨by rfl, ?hy9_41⟩) hHeld ?_
    case hy9_41 => (intro w hSw; (try dsimp only at hSw); have q0 := hSw.1.ld rt_tk; have q1 := hSw.2.ld rt_tk; (try simp only [List.getElem_toArray, List.getElem_cons_zero, List.getElem_cons_succ]); go_simp <;> with_reducible rfl)
    (try simp only [Act.put, List.getElem_toArray, List.getElem_cons_zero, List.getElem_cons_succ, List.setIfInBounds_toArray, List.set_cons_zero, List.set_cons_succ])
    refine wpAnyH_take (i := 10) (v := ?v10_42) rfl (by kernel_rfl) (by kernel_rfl) (by kernel_rfl) (fun _ _ _ h => h) (Or.inl ⟨by rfl, ?hy10_42⟩) hHeld ?_
    case hy10_42 => (intro w hSw; (try dsimp only at hSw); have q0 := hSw.1.ld rt_tk; have q1 := hSw.2.ld rt_tk; (try simp only [List.getElem_toArray, List.getElem_cons_zero, List.getElem_cons_succ]); go_simp <;> with_reducible rfl)
    (try simp only [Act.put, List.getElem_toArray, List.getElem_cons_zero, List.getElem_cons_succ, List.setIfInBounds_toArray, List.set_cons_zero, List.set_cons_succ])
    refine wpAnyH_take (i := 11) (v := ?v11_43) rfl (by kernel_rfl) (by kernel_rfl) (by kernel_rfl) (fun _ _ _ h => h) (Or.inl ⟨by rfl, ?hy11_43⟩) hHeld ?_
    case hy11_43 => (intro w hSw; (try dsimp only at hSw); have q0 := hSw.1.ld rt_tk; have q1 := hSw.2.ld rt_tk; (try simp only [List.getElem_toArray, List.getElem_cons_zero, List.getElem_cons_succ]); go_simp <;> with_reducible rfl)
    (try simp only [Act.put, List.getElem_toArray, List.getElem_cons_zero, List.getElem_cons_succ, List.setIfInBounds_toArray, List.set_cons_zero, List.set_cons_succ])
    refine wpAnyH_ready (rs := [12]) (by kernel_rfl) (by simp) ?_
    refine AllReadyH.cons rfl (fun K hK => ?_) AllReadyH.nil
    (try simp only [List.getElem_toArray, List.getElem_cons_zero, List.getElem_cons_succ])
    go_simp
    refine (tksame_any x0 x0 wm (by exact V0.out.step BM.out) (by exact V0.out.step BM.out) true (decide_eq_true rfl)).mono ?_
    rintro e wn ⟨rfl, hb⟩
    have BN := Lib.hid (bel_next BM.out hb)
    have CN := Lib.hid (And.intro (CM.out.1.step hb) (CM.out.2.step hb))
    clear hb
    (try go_wp2_with fail)
    refine hK.out _ _ CN.out (fun hHeld => ?_)
    clear hK K
    (try simp only [Act.put, List.getElem_toArray, List.getElem_cons_zero, List.getElem_cons_succ, List.setIfInBounds_toArray, List.set_cons_zero, List.set_cons_succ])
    refine wpAnyH_take (i := 13) (v := ?v13_44) rfl (by kernel_rfl) (by kernel_rfl) (by kernel_rfl) (fun _ _ _ h => h) (Or.inl ⟨by rfl, ?hy13_44⟩) hHeld ?_
    case hy13_44 => (intro w hSw; (try dsimp only at hSw); (try simp only [List.getElem_toArray, List.getElem_cons_zero, List.getElem_cons_succ]); go_simp <;> with_reducible rfl)
    (try simp only [Act.put, List.getElem_toArray, List.getElem_cons_zero, List.getElem_cons_succ, List.setIfInBounds_toArray, List.set_cons_zero, List.set_cons_succ])
    refine wpAnyH_take (i := 14) (v := ?v14_45) rfl (by kernel_rfl) (by kernel_rfl) (by kernel_rfl) (fun _ _ _ h => h) (Or.inl ⟨by rfl, ?hy14_45⟩) hHeld ?_
    case hy14_45 => (intro w hSw; (try dsimp only at hSw); (try simp only [List.getElem_toArray, List.getElem_cons_zero, List.getElem_cons_succ]); go_simp <;> with_reducible rfl)
    (try simp only [Act.put, List.getElem_toArray, List.getElem_cons_zero, List.getElem_cons_succ, List.setIfInBounds_toArray, List.set_cons_zero, List.set_cons_succ])
    refine wpAnyH_done (by kernel_rfl) ?_ _
    go_wp2_with fail
    go_ret
    exact ⟨rfl, bel_next HBV.out BN.out⟩
  · obtain ⟨g2, o2, xb2, rfl, hcx, hfx2, _, hx255⟩ := fst_at (V2.out.step BH.out) hn0
    have hxx : (xb2.toNat : Int) = (xb.toNat : Int) := by rw [← hfx2, ← hfx]
    rw [hxx] at hcx hx255
    have dn1 : decide ((n2 : Int) > 0) = true := decide_eq_true (by omega)
    have dn2 : ((n2 : Int) == 0) = false := by rw [beq_eq_false_iff_ne]; omega
    clear hfx hfx2 hxx
    rcases hcase with ⟨hx, hs⟩ | ⟨hx, hs⟩
    · rw [hs] at hz
      injection hz with hz1 hz2
      subst hz1 hz2
      have dx1 : decide ((xb.toNat : Int) < 128) = true := decide_eq_true (by omega)
      have dx2 : decide ((xb.toNat : Int) ≥ 128) = false := decide_eq_false (by omega)
      have dx3 : ((xb.toNat : Int) != (xb.toNat : Int)) = false := by simp
      clear hs hx
      go_wp2_with fail
      refine wp_region_held_drew (S := fun w' => Fc 25 w' q0 x0 ∧ Fc 25 w' q1 x1) (by kernel_rfl) FIN.out (fun hHeld => ?_)
      (try dsimp only at hHeld)
      refine wpAnyH_take (i := 0) (v := ?v0_46) rfl (by kernel_rfl) (by kernel_rfl) (by kernel_rfl) (fun _ _ _ h => h) (Or.inl ⟨by rfl, ?hy0_46⟩) hHeld ?_
      case hy0_46 => (intro w hSw; (try dsimp only at hSw); have q0 := hSw.1.ld rt_tk; have q1 := hSw.2.ld rt_tk; (try simp only [List.getElem_toArray, List.getElem_cons_zero, List.getElem_cons_succ]); go_simp <;> with_reducible rfl)
      (try simp only [Act.put, List.getElem_toArray, List.getElem_cons_zero, List.getElem_cons_succ, List.setIfInBounds_toArray, List.set_cons_zero, List.set_cons_succ])
      refine wpAnyH_take (i := 1) (v := ?v1_47) rfl (by kernel_rfl) (by kernel_rfl) (by kernel_rfl) (fun _ _ _ h => h) (Or.inl ⟨by rfl, ?hy1_47⟩) hHeld ?_
      case hy1_47 => (intro w hSw; (try dsimp only at hSw); have q0 := hSw.1.ld rt_tk; have q1 := hSw.2.ld rt_tk; (try simp only [List.getElem_toArray, List.getElem_cons_zero, List.getElem_cons_succ]); go_simp <;> with_reducible rfl)
      (try simp only [Act.put, List.getElem_toArray, List.getElem_cons_zero, List.getElem_cons_succ, List.setIfInBounds_toArray, List.set_cons_zero, List.set_cons_succ])
      refine wpAnyH_take (i := 3) (v := ?v3_48) rfl (by kernel_rfl) (by kernel_rfl) (by kernel_rfl) (fun _ _ _ h => h) (Or.inl ⟨by rfl, ?hy3_48⟩) hHeld ?_
      case hy3_48 => (intro w hSw; (try dsimp only at hSw); have q0 := hSw.1.ld rt_tk; have q1 := hSw.2.ld rt_tk; (try simp only [List.getElem_toArray, List.getElem_cons_zero, List.getElem_cons_succ]); go_simp <;> with_reducible rfl)
      (try simp only [Act.put, List.getElem_toArray, List.getElem_cons_zero, List.getElem_cons_succ, List.setIfInBounds_toArray, List.set_cons_zero, List.set_cons_succ])
      refine wpAnyH_take (i := 5) (v := ?v5_49) rfl (by kernel_rfl) (by kernel_rfl) (by kernel_rfl) (fun _ _ _ h => h) (Or.inl ⟨by rfl, ?hy5_49⟩) hHeld ?_
      case hy5_49 => (intro w hSw; (try dsimp only at hSw); have q0 := hSw.1.ld rt_tk; have q1 := hSw.2.ld rt_tk; (try simp only [List.getElem_toArray, List.getElem_cons_zero, List.getElem_cons_succ]); go_simp <;> with_reducible rfl)
      (try simp only [Act.put, List.getElem_toArray, List.getElem_cons_zero, List.getElem_cons_succ, List.setIfInBounds_toArray, List.set_cons_zero, List.set_cons_succ])
      refine wpAnyH_ready (rs := [2]) (by kernel_rfl) (by simp) ?_
      refine AllReadyH.cons rfl (fun K hK => ?_) AllReadyH.nil
      (try simp only [List.getElem_toArray, List.getElem_cons_zero, List.getElem_cons_succ])
      go_simp
      refine (tksame_any x0 x1 _ (by exact V0.out.step BH.out.drew) (by exact V1.out.step BH.out.drew) y HYY.out).mono ?_
      rintro e wj ⟨rfl, hb⟩
      have BJ := Lib.hid (bel_next BH.out.drew hb)
      have CJ := Lib.hid (And.intro (FIN.out.1.step hb) (FIN.out.2.step hb))
      clear hb
      (try go_wp2_with fail)
      refine hK.out _ _ CJ.out (fun hHeld => ?_)
      clear hK K
      (try simp only [Act.put, List.getElem_toArray, List.getElem_cons_zero, List.getElem_cons_succ, List.setIfInBounds_toArray, List.set_cons_zero, List.set_cons_succ])
      refine wpAnyH_ready (rs := [4]) (by kernel_rfl) (by simp) ?_
      refine AllReadyH.cons rfl (fun K hK => ?_) AllReadyH.nil
      (try simp only [List.getElem_toArray, List.getElem_cons_zero, List.getElem_cons_succ])
      go_simp
      refine (tkof_any x0 wj (by exact V0.out.step BJ.out) (by have := HLG0.out; omega) (by have := HLG0.out; omega)).mono ?_
      rintro e wk ⟨k0, rfl, hk, hok, hb⟩
      have HK0 := Lib.hid (And.intro hk hok.ok)
      have BK := Lib.hid (bel_next BJ.out hb)
      have CK := Lib.hid (And.intro (CJ.out.1.step hb) (CJ.out.2.step hb))
      clear hk hok hb
      (try go_wp2_with fail)
      refine hK.out _ _ CK.out (fun hHeld => ?_)
      clear hK K
      (try simp only [Act.put, List.getElem_toArray, List.getElem_cons_zero, List.getElem_cons_succ, List.setIfInBounds_toArray, List.set_cons_zero, List.set_cons_succ])
      refine wpAnyH_ready (rs := [6]) (by kernel_rfl) (by simp) ?_
      refine AllReadyH.cons rfl (fun K hK => ?_) AllReadyH.nil
      (try simp only [List.getElem_toArray, List.getElem_cons_zero, List.getElem_cons_succ])
      go_simp
      refine (tkof_any x1 wk (by exact V1.out.step BK.out) (by have := HLG1.out; omega) (by have := HLG1.out; omega)).mono ?_
      rintro e wl ⟨k1, rfl, hk, hok, hb⟩
      have HK1 := Lib.hid (And.intro hk (And.intro hok.ok (HK0.out.2.step hb)))
      have BL := Lib.hid (bel_next BK.out hb)
      have CL := Lib.hid (And.intro (CK.out.1.step hb) (CK.out.2.step hb))
      clear hk hok hb
      (try go_wp2_with fail)
      refine hK.out _ _ CL.out (fun hHeld => ?_)
      clear hK K
      (try simp only [Act.put, List.getElem_toArray, List.getElem_cons_zero, List.getElem_cons_succ, List.setIfInBounds_toArray, List.set_cons_zero, List.set_cons_succ])
      refine wpAnyH_ready (rs := [7]) (by kernel_rfl) (by simp) ?_
      refine AllReadyH.cons rfl (fun K hK => ?_) AllReadyH.nil
      (try simp only [List.getElem_toArray, List.getElem_cons_zero, List.getElem_cons_succ])
      go_simp
      refine (rtksame_any k0 k1 wl (by exact HK1.out.2.2) (by exact HK1.out.2.1) y (by rw [HK0.out.1, HK1.out.1]; exact HYY.out)).mono ?_
      rintro e wm ⟨rfl, hb⟩
      have BM := Lib.hid (bel_next BL.out hb)
      have CM := Lib.hid (And.intro (CL.out.1.step hb) (CL.out.2.step hb))
      clear hb
      (try go_wp2_with fail)
      refine hK.out _ _ CM.out (fun hHeld => ?_)
      clear hK K
      (try simp only [Act.put, List.getElem_toArray, List.getElem_cons_zero, List.getElem_cons_succ, List.setIfInBounds_toArray, List.set_cons_zero, List.set_cons_succ])
      refine wpAnyH_take (i := 8) (v := ?v8_50) rfl (by kernel_rfl) (by kernel_rfl) (by kernel_rfl) (fun _ _ _ h => h) (Or.inl ⟨by rfl, ?hy8_50⟩) hHeld ?_
      case hy8_50 => (intro w hSw; (try dsimp only at hSw); have q0 := hSw.1.ld rt_tk; have q1 := hSw.2.ld rt_tk; (try simp only [List.getElem_toArray, List.getElem_cons_zero, List.getElem_cons_succ]); go_simp <;> with_reducible rfl)
      (try simp only [Act.put, List.getElem_toArray, List.getElem_cons_zero, List.getElem_cons_succ, List.setIfInBounds_toArray, List.set_cons_zero, List.set_cons_succ])
      refine wpAnyH_take (i := 9) (v := ?v9_51) rfl (by kernel_rfl) (by kernel_rfl) (by kernel_rfl) (fun _ _ _ h => h) (Or.inl ⟨by rfl, ?hy9_51⟩) hHeld ?_
      case hy9_51 => (intro w hSw; (try dsimp only at hSw); have q0 := hSw.1.ld rt_tk; have q1 := hSw.2.ld rt_tk; (try simp only [List.getElem_toArray, List.getElem_cons_zero, List.getElem_cons_succ]); go_simp <;> with_reducible rfl)
      (try simp only [Act.put, List.getElem_toArray, List.getElem_cons_zero, List.getElem_cons_succ, List.setIfInBounds_toArray, List.set_cons_zero, List.set_cons_succ])
      refine wpAnyH_take (i := 10) (v := ?v10_52) rfl (by kernel_rfl) (by kernel_rfl) (by kernel_rfl) (fun _ _ _ h => h) (Or.inl ⟨by rfl, ?hy10_52⟩) hHeld ?_
      case hy10_52 => (intro w hSw; (try dsimp only at hSw); have q0 := hSw.1.ld rt_tk; have q1 := hSw.2.ld rt_tk; (try simp only [List.getElem_toArray, List.getElem_cons_zero, List.getElem_cons_succ]); go_simp <;> with_reducible rfl)
      (try simp only [Act.put, List.getElem_toArray, List.getElem_cons_zero, List.getElem_cons_succ, List.setIfInBounds_toArray, List.set_cons_zero, List.set_cons_succ])
      refine wpAnyH_take (i := 11) (v := ?v11_53) rfl (by kernel_rfl) (by kernel_rfl) (by kernel_rfl) (fun _ _ _ h => h) (Or.inl ⟨by rfl, ?hy11_53⟩) hHeld ?_
      case hy11_53 => (intro w hSw; (try dsimp only at hSw); have q0 := hSw.1.ld rt_tk; have q1 := hSw.2.ld rt_tk; (try simp only [List.getElem_toArray, List.getElem_cons_zero, List.getElem_cons_succ]); go_simp <;> with_reducible rfl)
      (try simp only [Act.put, List.getElem_toArray, List.getElem_cons_zero, List.getElem_cons_succ, List.setIfInBounds_toArray, List.set_cons_zero, List.set_cons_succ])
      refine wpAnyH_ready (rs := [12]) (by kernel_rfl) (by simp) ?_
      refine AllReadyH.cons rfl (fun K hK => ?_) AllReadyH.nil
      (try simp only [List.getElem_toArray, List.getElem_cons_zero, List.getElem_cons_succ])
      go_simp
      refine (tksame_any x0 x0 wm (by exact V0.out.step BM.out) (by exact V0.out.step BM.out) true (decide_eq_true rfl)).mono ?_
      rintro e wn ⟨rfl, hb⟩
      have BN := Lib.hid (bel_next BM.out hb)
      have CN := Lib.hid (And.intro (CM.out.1.step hb) (CM.out.2.step hb))
      clear hb
      (try go_wp2_with fail)
      refine hK.out _ _ CN.out (fun hHeld => ?_)
      clear hK K
      (try simp only [Act.put, List.getElem_toArray, List.getElem_cons_zero, List.getElem_cons_succ, List.setIfInBounds_toArray, List.set_cons_zero, List.set_cons_succ])
      refine wpAnyH_take (i := 13) (v := ?v13_54) rfl (by kernel_rfl) (by kernel_rfl) (by kernel_rfl) (fun _ _ _ h => h) (Or.inl ⟨by rfl, ?hy13_54⟩) hHeld ?_
      case hy13_54 => (intro w hSw; (try dsimp only at hSw); (try simp only [List.getElem_toArray, List.getElem_cons_zero, List.getElem_cons_succ]); go_simp <;> with_reducible rfl)
      (try simp only [Act.put, List.getElem_toArray, List.getElem_cons_zero, List.getElem_cons_succ, List.setIfInBounds_toArray, List.set_cons_zero, List.set_cons_succ])
      refine wpAnyH_take (i := 14) (v := ?v14_55) rfl (by kernel_rfl) (by kernel_rfl) (by kernel_rfl) (fun _ _ _ h => h) (Or.inl ⟨by rfl, ?hy14_55⟩) hHeld ?_
      case hy14_55 => (intro w hSw; (try dsimp only at hSw); (try simp only [List.getElem_toArray, List.getElem_cons_zero, List.getElem_cons_succ]); go_simp <;> with_reducible rfl)
      (try simp only [Act.put, List.getElem_toArray, List.getElem_cons_zero, List.getElem_cons_succ, List.setIfInBounds_toArray, List.set_cons_zero, List.set_cons_succ])
      refine wpAnyH_done (by kernel_rfl) ?_ _
      go_wp2_with fail
      go_ret
      exact ⟨rfl, bel_next HBV.out BN.out⟩
    · rw [hs] at hz
      injection hz with hz1 hz2
      subst hz1 hz2
      have dx1 : decide ((xb.toNat : Int) < 128) = false := decide_eq_false (by omega)
      have dx2 : decide ((xb.toNat : Int) ≥ 128) = true := decide_eq_true (by omega)
      clear hs hx
      go_wp2_with fail
      refine wp_region_held_drew (S := fun w' => Fc 25 w' q0 x0 ∧ Fc 25 w' q1 x1) (by kernel_rfl) FIN.out (fun hHeld => ?_)
      (try dsimp only at hHeld)
      refine wpAnyH_take (i := 0) (v := ?v0_56) rfl (by kernel_rfl) (by kernel_rfl) (by kernel_rfl) (fun _ _ _ h => h) (Or.inl ⟨by rfl, ?hy0_56⟩) hHeld ?_
      case hy0_56 => (intro w hSw; (try dsimp only at hSw); have q0 := hSw.1.ld rt_tk; have q1 := hSw.2.ld rt_tk; (try simp only [List.getElem_toArray, List.getElem_cons_zero, List.getElem_cons_succ]); go_simp <;> with_reducible rfl)
      (try simp only [Act.put, List.getElem_toArray, List.getElem_cons_zero, List.getElem_cons_succ, List.setIfInBounds_toArray, List.set_cons_zero, List.set_cons_succ])
      refine wpAnyH_take (i := 1) (v := ?v1_57) rfl (by kernel_rfl) (by kernel_rfl) (by kernel_rfl) (fun _ _ _ h => h) (Or.inl ⟨by rfl, ?hy1_57⟩) hHeld ?_
      case hy1_57 => (intro w hSw; (try dsimp only at hSw); have q0 := hSw.1.ld rt_tk; have q1 := hSw.2.ld rt_tk; (try simp only [List.getElem_toArray, List.getElem_cons_zero, List.getElem_cons_succ]); go_simp <;> with_reducible rfl)
      (try simp only [Act.put, List.getElem_toArray, List.getElem_cons_zero, List.getElem_cons_succ, List.setIfInBounds_toArray, List.set_cons_zero, List.set_cons_succ])
      refine wpAnyH_take (i := 3) (v := ?v3_58) rfl (by kernel_rfl) (by kernel_rfl) (by kernel_rfl) (fun _ _ _ h => h) (Or.inl ⟨by rfl, ?hy3_58⟩) hHeld ?_
      case hy3_58 => (intro w hSw; (try dsimp only at hSw); have q0 := hSw.1.ld rt_tk; have q1 := hSw.2.ld rt_tk; (try simp only [List.getElem_toArray, List.getElem_cons_zero, List.getElem_cons_succ]); go_simp <;> with_reducible rfl)
      (try simp only [Act.put, List.getElem_toArray, List.getElem_cons_zero, List.getElem_cons_succ, List.setIfInBounds_toArray, List.set_cons_zero, List.set_cons_succ])
      refine wpAnyH_take (i := 5) (v := ?v5_59) rfl (by kernel_rfl) (by kernel_rfl) (by kernel_rfl) (fun _ _ _ h => h) (Or.inl ⟨by rfl, ?hy5_59⟩) hHeld ?_
      case hy5_59 => (intro w hSw; (try dsimp only at hSw); have q0 := hSw.1.ld rt_tk; have q1 := hSw.2.ld rt_tk; (try simp only [List.getElem_toArray, List.getElem_cons_zero, List.getElem_cons_succ]); go_simp <;> with_reducible rfl)
      (try simp only [Act.put, List.getElem_toArray, List.getElem_cons_zero, List.getElem_cons_succ, List.setIfInBounds_toArray, List.set_cons_zero, List.set_cons_succ])
      refine wpAnyH_ready (rs := [2]) (by kernel_rfl) (by simp) ?_
      refine AllReadyH.cons rfl (fun K hK => ?_) AllReadyH.nil
      (try simp only [List.getElem_toArray, List.getElem_cons_zero, List.getElem_cons_succ])
      go_simp
      refine (tksame_any x0 x1 _ (by exact V0.out.step BH.out.drew) (by exact V1.out.step BH.out.drew) y HYY.out).mono ?_
      rintro e wj ⟨rfl, hb⟩
      have BJ := Lib.hid (bel_next BH.out.drew hb)
      have CJ := Lib.hid (And.intro (FIN.out.1.step hb) (FIN.out.2.step hb))
      clear hb
      (try go_wp2_with fail)
      refine hK.out _ _ CJ.out (fun hHeld => ?_)
      clear hK K
      (try simp only [Act.put, List.getElem_toArray, List.getElem_cons_zero, List.getElem_cons_succ, List.setIfInBounds_toArray, List.set_cons_zero, List.set_cons_succ])
      refine wpAnyH_ready (rs := [4]) (by kernel_rfl) (by simp) ?_
      refine AllReadyH.cons rfl (fun K hK => ?_) AllReadyH.nil
      (try simp only [List.getElem_toArray, List.getElem_cons_zero, List.getElem_cons_succ])
      go_simp
      refine (tkof_any x0 wj (by exact V0.out.step BJ.out) (by have := HLG0.out; omega) (by have := HLG0.out; omega)).mono ?_
      rintro e wk ⟨k0, rfl, hk, hok, hb⟩
      have HK0 := Lib.hid (And.intro hk hok.ok)
      have BK := Lib.hid (bel_next BJ.out hb)
      have CK := Lib.hid (And.intro (CJ.out.1.step hb) (CJ.out.2.step hb))
      clear hk hok hb
      (try go_wp2_with fail)
      refine hK.out _ _ CK.out (fun hHeld => ?_)
      clear hK K
      (try simp only [Act.put, List.getElem_toArray, List.getElem_cons_zero, List.getElem_cons_succ, List.setIfInBounds_toArray, List.set_cons_zero, List.set_cons_succ])
      refine wpAnyH_ready (rs := [6]) (by kernel_rfl) (by simp) ?_
      refine AllReadyH.cons rfl (fun K hK => ?_) AllReadyH.nil
      (try simp only [List.getElem_toArray, List.getElem_cons_zero, List.getElem_cons_succ])
      go_simp
      refine (tkof_any x1 wk (by exact V1.out.step BK.out) (by have := HLG1.out; omega) (by have := HLG1.out; omega)).mono ?_
      rintro e wl ⟨k1, rfl, hk, hok, hb⟩
      have HK1 := Lib.hid (And.intro hk (And.intro hok.ok (HK0.out.2.step hb)))
      have BL := Lib.hid (bel_next BK.out hb)
      have CL := Lib.hid (And.intro (CK.out.1.step hb) (CK.out.2.step hb))
      clear hk hok hb
      (try go_wp2_with fail)
      refine hK.out _ _ CL.out (fun hHeld => ?_)
      clear hK K
      (try simp only [Act.put, List.getElem_toArray, List.getElem_cons_zero, List.getElem_cons_succ, List.setIfInBounds_toArray, List.set_cons_zero, List.set_cons_succ])
      refine wpAnyH_ready (rs := [7]) (by kernel_rfl) (by simp) ?_
      refine AllReadyH.cons rfl (fun K hK => ?_) AllReadyH.nil
      (try simp only [List.getElem_toArray, List.getElem_cons_zero, List.getElem_cons_succ])
      go_simp
      refine (rtksame_any k0 k1 wl (by exact HK1.out.2.2) (by exact HK1.out.2.1) y (by rw [HK0.out.1, HK1.out.1]; exact HYY.out)).mono ?_
      rintro e wm ⟨rfl, hb⟩
      have BM := Lib.hid (bel_next BL.out hb)
      have CM := Lib.hid (And.intro (CL.out.1.step hb) (CL.out.2.step hb))
      clear hb
      (try go_wp2_with fail)
      refine hK.out _ _ CM.out (fun hHeld => ?_)
      clear hK K
      (try simp only [Act.put, List.getElem_toArray, List.getElem_cons_zero, List.getElem_cons_succ, List.setIfInBounds_toArray, List.set_cons_zero, List.set_cons_succ])
      refine wpAnyH_take (i := 8) (v := ?v8_60) rfl (by kernel_rfl) (by kernel_rfl) (by kernel_rfl) (fun _ _ _ h => h) (Or.inl ⟨by rfl, ?hy8_60⟩) hHeld ?_
      case hy8_60 => (intro w hSw; (try dsimp only at hSw); have q0 := hSw.1.ld rt_tk; have q1 := hSw.2.ld rt_tk; (try simp only [List.getElem_toArray, List.getElem_cons_zero, List.getElem_cons_succ]); go_simp <;> with_reducible rfl)
      (try simp only [Act.put, List.getElem_toArray, List.getElem_cons_zero, List.getElem_cons_succ, List.setIfInBounds_toArray, List.set_cons_zero, List.set_cons_succ])
      refine wpAnyH_take (i := 9) (v := ?v9_61) rfl (by kernel_rfl) (by kernel_rfl) (by kernel_rfl) (fun _ _ _ h => h) (Or.inl ⟨by rfl, ?hy9_61⟩) hHeld ?_
      case hy9_61 => (intro w hSw; (try dsimp only at hSw); have q0 := hSw.1.ld rt_tk; have q1 := hSw.2.ld rt_tk; (try simp only [List.getElem_toArray, List.getElem_cons_zero, List.getElem_cons_succ]); go_simp <;> with_reducible rfl)
      (try simp only [Act.put, List.getElem_toArray, List.getElem_cons_zero, List.getElem_cons_succ, List.setIfInBounds_toArray, List.set_cons_zero, List.set_cons_succ])
      refine wpAnyH_take (i := 10) (v := ?v10_62) rfl (by kernel_rfl) (by kernel_rfl) (by kernel_rfl) (fun _ _ _ h => h) (Or.inl ⟨by rfl, ?hy10_62⟩) hHeld ?_
      case hy10_62 => (intro w hSw; (try dsimp only at hSw); have q0 := hSw.1.ld rt_tk; have q1 := hSw.2.ld rt_tk; (try simp only [List.getElem_toArray, List.getElem_cons_zero, List.getElem_cons_succ]); go_simp <;> with_reducible rfl)
      (try simp only [Act.put, List.getElem_toArray, List.getElem_cons_zero, List.getElem_cons_succ, List.setIfInBounds_toArray, List.set_cons_zero, List.set_cons_succ])
      refine wpAnyH_take (i := 11) (v := ?v11_63) rfl (by kernel_rfl) (by kernel_rfl) (by kernel_rfl) (fun _ _ _ h => h) (Or.inl ⟨by rfl, ?hy11_63⟩) hHeld ?_
      case hy11_63 => (intro w hSw; (try dsimp only at hSw); have q0 := hSw.1.ld rt_tk; have q1 := hSw.2.ld rt_tk; (try simp only [List.getElem_toArray, List.getElem_cons_zero, List.getElem_cons_succ]); go_simp <;> with_reducible rfl)
      (try simp only [Act.put, List.getElem_toArray, List.getElem_cons_zero, List.getElem_cons_succ, List.setIfInBounds_toArray, List.set_cons_zero, List.set_cons_succ])
      refine wpAnyH_ready (rs := [12]) (by kernel_rfl) (by simp) ?_
      refine AllReadyH.cons rfl (fun K hK => ?_) AllReadyH.nil
      (try simp only [List.getElem_toArray, List.getElem_cons_zero, List.getElem_cons_succ])
      go_simp
      refine (tksame_any x0 x0 wm (by exact V0.out.step BM.out) (by exact V0.out.step BM.out) true (decide_eq_true rfl)).mono ?_
      rintro e wn ⟨rfl, hb⟩
      have BN := Lib.hid (bel_next BM.out hb)
      have CN := Lib.hid (And.intro (CM.out.1.step hb) (CM.out.2.step hb))
      clear hb
      (try go_wp2_with fail)
      refine hK.out _ _ CN.out (fun hHeld => ?_)
      clear hK K
      (try simp only [Act.put, List.getElem_toArray, List.getElem_cons_zero, List.getElem_cons_succ, List.setIfInBounds_toArray, List.set_cons_zero, List.set_cons_succ])
      refine wpAnyH_take (i := 13) (v := ?v13_64) rfl (by kernel_rfl) (by kernel_rfl) (by kernel_rfl) (fun _ _ _ h => h) (Or.inl ⟨by rfl, ?hy13_64⟩) hHeld ?_
      case hy13_64 => (intro w hSw; (try dsimp only at hSw); (try simp only [List.getElem_toArray, List.getElem_cons_zero, List.getElem_cons_succ]); go_simp <;> with_reducible rfl)
      (try simp only [Act.put, List.getElem_toArray, List.getElem_cons_zero, List.getElem_cons_succ, List.setIfInBounds_toArray, List.set_cons_zero, List.set_cons_succ])
      refine wpAnyH_take (i := 14) (v := ?v14_65) rfl (by kernel_rfl) (by kernel_rfl) (by kernel_rfl) (fun _ _ _ h => h) (Or.inl ⟨by rfl, ?hy14_65⟩) hHeld ?_
      case hy14_65 => (intro w hSw; (try dsimp only at hSw); (try simp only [List.getElem_toArray, List.getElem_cons_zero, List.getElem_cons_succ]); go_simp <;> with_reducible rfl)
      (try simp only [Act.put, List.getElem_toArray, List.getElem_cons_zero, List.getElem_cons_succ, List.setIfInBounds_toArray, List.set_cons_zero, List.set_cons_succ])
      refine wpAnyH_done (by kernel_rfl) ?_ _
      go_wp2_with fail
      go_ret
      exact ⟨rfl, bel_next HBV.out BN.out⟩
end Go.Proofs.YthllaoeioddddaaGreat
