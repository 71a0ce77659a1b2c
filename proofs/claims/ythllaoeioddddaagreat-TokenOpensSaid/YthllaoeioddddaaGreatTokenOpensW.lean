/- TokenOpens's walk: what is opened is what the document says. Condition: what the arguments hold can be read. -/
import Derived.Test.YthllaoeioddddaaGreatTkO
import Derived.Test.YthllaoeioddddaaGreatOpenTk
import Derived.Test.YthllaoeioddddaaGreatOpenCr
namespace Go.Proofs.YthllaoeioddddaaGreat
attribute [local irreducible] wsW keyUpTo keyF lastW turn0 encUp decUp aftL encL tableL blksL blkL strmL putL numL xorL turnAt fstL hkL tagL trnL bB sumG nB sealR openR tagR numS shortS endS untextR textR sealT openT seqT fstT
open Go.RowKit
set_option linter.unusedVariables false
set_option linter.unusedSimpArgs false
attribute [local go_sem ↓] ex_ldF ex_ldFr ex_ldCr
set_option maxRecDepth 100000 in
set_option maxHeartbeats 16000000 in
theorem TokenOpens_walk (A0 : Option Addr) (n0 c0 : Nat) (l0 : List Cr) (A1 : Option Addr) (n1 c1 : Nat) (l1 : List UInt8) (A2 : Option Addr) (n2 c2 : Nat) (l2 : List UInt8) (x3 : Int) (w : World) (h0 : CRs w w.heap.size A0 n0 l0) (m0 : n0 ≤ c0 ∧ c0 ≤ maxLen) (h1 : RB w w.heap.size A1 n1 l1) (m1 : n1 ≤ c1 ∧ c1 ≤ maxLen) (h2 : RB w w.heap.size A2 n2 l2) (m2 : n2 ≤ c2 ∧ c2 ≤ maxLen) (h3 : (Lit.int .u64 x3).wf = true) :
    Calls Tryz.prog 5 #[.slice A0 n0 c0, .slice A1 n1 c1, .slice A2 n2 c2, .int .u64 x3] w fun e w' => e = .returned (.bool true) ∧ Below w.heap.size w w' := by
  have b1 : n1 ≤ 9223372036854775807 := by have := m1.1; have := m1.2; unfold maxLen at this; omega
  have b2 : n2 ≤ 9223372036854775807 := by have := m2.1; have := m2.2; unfold maxLen at this; omega
  obtain ⟨now, hnow⟩ : ∃ now : Nat, x3 = (now : Int) := ⟨x3.toNat, by have := (bounds_u64 h3).1; omega⟩
  have HNW := Lib.hid hnow
  have H0 := Lib.hid (And.intro h0 m0)
  have H1 := Lib.hid (And.intro h1 m1)
  have H2 := Lib.hid (And.intro h2 m2)
  clear h0 m0 h1 m1 h2 m2 h3 hnow
  go_enter Tryz.func5, Tryz.ntmps5
  go_wp2_with fail
  refine (alive20_any _).mono ?_
  rintro e w2 ⟨rfl, hb2⟩
  have HB2 := Lib.hid hb2
  clear hb2
  go_wp2_with fail
  refine (great19_any A0 n0 c0 l0 w2 (by exact ⟨(H0.out.1.below HB2.out).1, fun k hk => ((H0.out.1.below HB2.out).2.1 k hk).more HB2.out.size, fun hn => by obtain ⟨b, o, a1, a2, a3⟩ := (H0.out.1.below HB2.out).2.2 hn; exact ⟨b, o, a1, Nat.lt_of_lt_of_le a2 HB2.out.size, a3⟩⟩) (Nat.le_trans H0.out.2.1 H0.out.2.2)).mono ?_
  rintro e w9 ⟨v1, rfl, rfl, hv1⟩
  rcases v1 with _ | _
  case true =>
    clear hv1
    go_wp2_with fail
    go_ret
    exact ⟨rfl, HB2.out⟩
  have HG1 := Lib.hid (hv1 rfl)
  clear hv1
  by_cases g1 : (n1 : Int) > 100
  · have dg1 : decide ((n1 : Int) > 100) = true := decide_eq_true g1
    clear g1
    go_wp2_with fail
    go_ret
    exact ⟨rfl, HB2.out⟩
  have dg1 : decide ((n1 : Int) > 100) = false := decide_eq_false g1
  by_cases g2 : (n2 : Int) > 300
  · have dg2 : decide ((n2 : Int) > 300) = true := decide_eq_true g2
    clear g2 g1
    go_wp2_with fail
    go_ret
    exact ⟨rfl, HB2.out⟩
  have dg2 : decide ((n2 : Int) > 300) = false := decide_eq_false g2
  have HS : Hid (n1 ≤ 100 ∧ n2 ≤ 300) := Lib.hid ⟨by omega, by omega⟩
  clear g1 g2
  have V1 := Lib.hid (H1.out.1.step HB2.out)
  have V2 := Lib.hid (H2.out.1.step HB2.out)
  go_wp2_with fail
  refine (rings20_any A0 n0 c0 l0 w2 (by exact ⟨(H0.out.1.below HB2.out).1, fun k hk => ((H0.out.1.below HB2.out).2.1 k hk).more HB2.out.size, fun hn => by obtain ⟨b, o, a1, a2, a3⟩ := (H0.out.1.below HB2.out).2.2 hn; exact ⟨b, o, a1, Nat.lt_of_lt_of_le a2 HB2.out.size, a3⟩⟩) (Nat.le_trans H0.out.2.1 H0.out.2.2) HG1.out.2).mono ?_
  rintro e w4 ⟨x, y, rfl, hp⟩
  obtain ⟨s, HS0⟩ : ∃ s, Hid (upR l0 n0 = s) := ⟨_, Lib.hid rfl⟩
  rw [HS0.out] at hp
  obtain ⟨D, hT⟩ := hp.tx
  have T4 := Lib.hid hT
  obtain ⟨⟨T, E⟩, hR⟩ : ∃ r, openT s l1 l2 now = r := ⟨_, rfl⟩
  have HR := Lib.hid hR
  have hEE : (E == E) = true := by simp
  have HT300 : Hid (T.o.length ≤ 300 ∧ T.s.length ≤ 300) := Lib.hid (open_small hR)
  clear hp hT hR
  go_wp2_with fail
  refine (copy_any A2 n2 c2 0 l2 w4 (by exact V2.out.step T4.out.bel) (by have := HS.out; omega)).mono ?_
  rintro e w5 ⟨A5, c5, rfl, ho, hb⟩
  have T5 := Lib.hid (T4.out.own hb ho)
  clear ho hb T4
  go_wp2_with fail
  refine (tx_open 1 0 w2 x y s s D _ _ w5 (by exact T5.out) (by omega) (by omega) A1 A5 n1 c1 n2 c5 l1 l2 (by exact V1.out.step T5.out.bel) (by simp) (by have := HS.out; omega) (by have := HS.out; omega) now T E HR.out x3 HNW.out).mono ?_
  rintro e w6 ⟨f, G6, rfl, hft, _, hfo, _, hT⟩
  have T6 := Lib.hid hT
  have HFT := Lib.hid hft
  have F6 := Lib.hid hfo
  clear hT T5 hft hfo
  go_wp2_with (first
    | (with_reducible show wpList _ _ _ (⟨some 12, .alloc _, _, _, _, none⟩ :: _) _ _; refine wpList_newF rt_tk rfl rfl ?_; intro w7 p hc4 hb4 hx4; have HV12 := Lib.hid (And.intro hc4 (And.intro hb4 hx4)); clear hc4 hb4 hx4)
    | (with_reducible show wpList _ _ _ (⟨none, .store _ (.tmp 12) (.tmp 45), _, _, _, none⟩ :: _) _ _; refine wpList_stF rt_tk rfl (.tmp 12) (.tmp 45) rfl p rfl f zeroF rfl (by exact HV12.out.1) ?_; intro w8 hc5 ho5 hs5; have hb5 := HV12.out.2.1.trans (ho5.below (fun j hj => by rw [List.mem_singleton.1 hj]; exact HV12.out.2.2) HV12.out.2.1.size); have CV12 := Lib.hid hc5; have T8 := Lib.hid (T6.out.step hb5); have F8 := Lib.hid (F6.out.step hb5); clear hc5 ho5 hs5 hb5 HV12 T6 F6))
  refine (tx_ropen 2 1 w2 x y s s D _ _ w8 (by exact T8.out) A1 A2 n1 c1 n2 c2 l1 l2 (by exact V1.out.step T8.out.bel) (by exact V2.out.step T8.out.bel) H2.out.2.1 (by have := HS.out; omega) (by have := HS.out; omega) now T E HR.out x3 HNW.out).mono ?_
  rintro e w10 ⟨g, rfl, hgt, hgo, hb⟩
  simp only at hgt ⊢
  have TA := Lib.hid (T8.out.step hb)
  have FA := Lib.hid (F8.out.step hb)
  have CA := Lib.hid (CV12.out.step hb)
  have GA := Lib.hid (And.intro hgo.ok hgt)
  clear hb T8 F8 CV12 hgt hgo
  go_wp2_with (first
    | (with_reducible show wpList _ _ _ (⟨some 14, .alloc _, _, _, _, none⟩ :: _) _ _; refine wpList_newF rt_rtk rfl rfl ?_; intro wa r hc4 hb4 hx4; have HV14 := Lib.hid (And.intro hc4 (And.intro hb4 hx4)); clear hc4 hb4 hx4)
    | (with_reducible show wpList _ _ _ (⟨none, .store _ (.tmp 14) (.tmp 53), _, _, _, none⟩ :: _) _ _; refine wpList_stF rt_rtk rfl (.tmp 14) (.tmp 53) rfl r rfl g zeroF rfl (by exact HV14.out.1) ?_; intro wb hc5 ho5 hs5; have hb5 := HV14.out.2.1.trans (ho5.below (fun j hj => by rw [List.mem_singleton.1 hj]; exact HV14.out.2.2) HV14.out.2.1.size); have CV14 := Lib.hid hc5; have TC := Lib.hid (TA.out.step hb5); have FC := Lib.hid (FA.out.step hb5); have CC := Lib.hid (CA.out.step hb5); have GC := Lib.hid (GA.out.1.step hb5); clear hc5 ho5 hs5 hb5 HV14 TA FA CA))
  have hcc := CC.out
  have hcv := CV14.out
  refine wp_region_held_drew (S := fun w' => Fc 25 w' p f ∧ Fc 32 w' r g) (by kernel_rfl) ⟨hcc.step (Below.refl _ _).drew, hcv.step (Below.refl _ _).drew⟩ (fun hHeld => ?_)
  (try dsimp only at hHeld)
  refine wpAnyH_take (i := 0) (v := ?v0_1) rfl (by kernel_rfl) (by kernel_rfl) (by kernel_rfl) (fun _ _ _ h => h) (Or.inl ⟨by rfl, ?hy0_1⟩) hHeld ?_
  case hy0_1 => (intro w hSw; (try dsimp only at hSw); have q0 := hSw.1.ld rt_tk; have q1 := hSw.2.ld rt_rtk; (try simp only [List.getElem_toArray, List.getElem_cons_zero, List.getElem_cons_succ]); go_simp <;> with_reducible rfl)
  (try simp only [Act.put, List.getElem_toArray, List.getElem_cons_zero, List.getElem_cons_succ, List.setIfInBounds_toArray, List.set_cons_zero, List.set_cons_succ])
  refine wpAnyH_take (i := 1) (v := ?v1_2) rfl (by kernel_rfl) (by kernel_rfl) (by kernel_rfl) (fun _ _ _ h => h) (Or.inl ⟨by rfl, ?hy1_2⟩) hHeld ?_
  case hy1_2 => (intro w hSw; (try dsimp only at hSw); have q0 := hSw.1.ld rt_tk; have q1 := hSw.2.ld rt_rtk; (try simp only [List.getElem_toArray, List.getElem_cons_zero, List.getElem_cons_succ]); go_simp <;> with_reducible rfl)
  (try simp only [Act.put, List.getElem_toArray, List.getElem_cons_zero, List.getElem_cons_succ, List.setIfInBounds_toArray, List.set_cons_zero, List.set_cons_succ])
  refine wpAnyH_take (i := 2) (v := ?v2_3) rfl (by kernel_rfl) (by kernel_rfl) (by kernel_rfl) (fun _ _ _ h => h) (Or.inl ⟨by rfl, ?hy2_3⟩) hHeld ?_
  case hy2_3 => (intro w hSw; (try dsimp only at hSw); have q0 := hSw.1.ld rt_tk; have q1 := hSw.2.ld rt_rtk; (try simp only [List.getElem_toArray, List.getElem_cons_zero, List.getElem_cons_succ]); go_simp <;> with_reducible rfl)
  (try simp only [Act.put, List.getElem_toArray, List.getElem_cons_zero, List.getElem_cons_succ, List.setIfInBounds_toArray, List.set_cons_zero, List.set_cons_succ])
  refine wpAnyH_take (i := 3) (v := ?v3_4) rfl (by kernel_rfl) (by kernel_rfl) (by kernel_rfl) (fun _ _ _ h => h) (Or.inl ⟨by rfl, ?hy3_4⟩) hHeld ?_
  case hy3_4 => (intro w hSw; (try dsimp only at hSw); have q0 := hSw.1.ld rt_tk; have q1 := hSw.2.ld rt_rtk; (try simp only [List.getElem_toArray, List.getElem_cons_zero, List.getElem_cons_succ]); go_simp <;> with_reducible rfl)
  (try simp only [Act.put, List.getElem_toArray, List.getElem_cons_zero, List.getElem_cons_succ, List.setIfInBounds_toArray, List.set_cons_zero, List.set_cons_succ])
  refine wpAnyH_take (i := 4) (v := ?v4_5) rfl (by kernel_rfl) (by kernel_rfl) (by kernel_rfl) (fun _ _ _ h => h) (Or.inl ⟨by rfl, ?hy4_5⟩) hHeld ?_
  case hy4_5 => (intro w hSw; (try dsimp only at hSw); have q0 := hSw.1.ld rt_tk; have q1 := hSw.2.ld rt_rtk; (try simp only [List.getElem_toArray, List.getElem_cons_zero, List.getElem_cons_succ]); go_simp <;> with_reducible rfl)
  (try simp only [Act.put, List.getElem_toArray, List.getElem_cons_zero, List.getElem_cons_succ, List.setIfInBounds_toArray, List.set_cons_zero, List.set_cons_succ])
  refine wpAnyH_take (i := 6) (v := ?v6_6) rfl (by kernel_rfl) (by kernel_rfl) (by kernel_rfl) (fun _ _ _ h => h) (Or.inl ⟨by rfl, ?hy6_6⟩) hHeld ?_
  case hy6_6 => (intro w hSw; (try dsimp only at hSw); have q0 := hSw.1.ld rt_tk; have q1 := hSw.2.ld rt_rtk; (try simp only [List.getElem_toArray, List.getElem_cons_zero, List.getElem_cons_succ]); go_simp <;> with_reducible rfl)
  (try simp only [Act.put, List.getElem_toArray, List.getElem_cons_zero, List.getElem_cons_succ, List.setIfInBounds_toArray, List.set_cons_zero, List.set_cons_succ])
  refine wpAnyH_ready (rs := [5]) (by kernel_rfl) (by simp) ?_
  refine AllReadyH.cons rfl (fun K hK => ?_) AllReadyH.nil
  (try simp only [List.getElem_toArray, List.getElem_cons_zero, List.getElem_cons_succ])
  go_simp
  refine (tkof_any f _ (by exact FC.out.step (Below.refl _ _).drew) (by have := HT300.out; rw [← HFT.out] at this; exact Nat.le_trans this.1 (by omega)) (by have := HT300.out; rw [← HFT.out] at this; exact Nat.le_trans this.2 (by omega))).mono ?_
  rintro e wd ⟨j, rfl, hj, hoj, hb⟩
  have hbd := (Below.refl wb.heap.size wb).drew.trans hb
  have TD := Lib.hid (TC.out.step hbd)
  have HJ := Lib.hid (And.intro hj hoj.ok)
  have GD := Lib.hid (GC.out.step hbd)
  have hcd := hcc.step hbd
  have hvd := hcv.step hbd
  clear hj hoj hb hbd
  (try go_wp2_with fail)
  refine hK.out _ _ ⟨hcd, hvd⟩ (fun hHeld => ?_)
  clear hK K
  (try simp only [Act.put, List.getElem_toArray, List.getElem_cons_zero, List.getElem_cons_succ, List.setIfInBounds_toArray, List.set_cons_zero, List.set_cons_succ])
  refine wpAnyH_ready (rs := [7]) (by kernel_rfl) (by simp) ?_
  refine AllReadyH.cons rfl (fun K hK => ?_) AllReadyH.nil
  (try simp only [List.getElem_toArray, List.getElem_cons_zero, List.getElem_cons_succ])
  go_simp
  refine (rtksame_any j g wd (by exact HJ.out.2) (by exact GD.out) true (by rw [HJ.out.1, HFT.out, GA.out.2]; exact decide_eq_true rfl)).mono ?_
  rintro e we ⟨rfl, hb⟩
  have TE := Lib.hid (TD.out.step hb)
  have hce := hcd.step hb
  have hve := hvd.step hb
  clear hb
  (try go_wp2_with fail)
  refine hK.out _ _ ⟨hce, hve⟩ (fun hHeld => ?_)
  clear hK K
  (try simp only [Act.put, List.getElem_toArray, List.getElem_cons_zero, List.getElem_cons_succ, List.setIfInBounds_toArray, List.set_cons_zero, List.set_cons_succ])
  refine wpAnyH_take (i := 8) (v := ?v8_7) rfl (by kernel_rfl) (by kernel_rfl) (by kernel_rfl) (fun _ _ _ h => h) (Or.inl ⟨by rfl, ?hy8_7⟩) hHeld ?_
  case hy8_7 => (intro w hSw; (try dsimp only at hSw); (try simp only [List.getElem_toArray, List.getElem_cons_zero, List.getElem_cons_succ]); go_simp <;> with_reducible rfl)
  (try simp only [Act.put, List.getElem_toArray, List.getElem_cons_zero, List.getElem_cons_succ, List.setIfInBounds_toArray, List.set_cons_zero, List.set_cons_succ])
  refine wpAnyH_take (i := 9) (v := ?v9_8) rfl (by kernel_rfl) (by kernel_rfl) (by kernel_rfl) (fun _ _ _ h => h) (Or.inl ⟨by rfl, ?hy9_8⟩) hHeld ?_
  case hy9_8 => (intro w hSw; (try dsimp only at hSw); (try simp only [List.getElem_toArray, List.getElem_cons_zero, List.getElem_cons_succ]); go_simp <;> with_reducible rfl)
  (try simp only [Act.put, List.getElem_toArray, List.getElem_cons_zero, List.getElem_cons_succ, List.setIfInBounds_toArray, List.set_cons_zero, List.set_cons_succ])
  refine wpAnyH_take (i := 10) (v := ?v10_9) rfl (by kernel_rfl) (by kernel_rfl) (by kernel_rfl) (fun _ _ _ h => h) (Or.inl ⟨by rfl, ?hy10_9⟩) hHeld ?_
  case hy10_9 => (intro w hSw; (try dsimp only at hSw); (try simp only [List.getElem_toArray, List.getElem_cons_zero, List.getElem_cons_succ]); go_simp <;> with_reducible rfl)
  (try simp only [Act.put, List.getElem_toArray, List.getElem_cons_zero, List.getElem_cons_succ, List.setIfInBounds_toArray, List.set_cons_zero, List.set_cons_succ])
  refine wpAnyH_take (i := 11) (v := ?v11_10) rfl (by kernel_rfl) (by kernel_rfl) (by kernel_rfl) (fun _ _ _ h => h) (Or.inl ⟨by rfl, ?hy11_10⟩) hHeld ?_
  case hy11_10 => (intro w hSw; (try dsimp only at hSw); (try simp only [List.getElem_toArray, List.getElem_cons_zero, List.getElem_cons_succ]); go_simp <;> with_reducible rfl)
  (try simp only [Act.put, List.getElem_toArray, List.getElem_cons_zero, List.getElem_cons_succ, List.setIfInBounds_toArray, List.set_cons_zero, List.set_cons_succ])
  refine wpAnyH_ready (rs := [12]) (by kernel_rfl) (by simp) ?_
  refine AllReadyH.cons rfl (fun K hK => ?_) AllReadyH.nil
  (try simp only [List.getElem_toArray, List.getElem_cons_zero, List.getElem_cons_succ])
  go_simp
  refine (al_same A5 A2 n2 c5 n2 c2 l2 l2 we (by exact (TE.out.row (A5, n2, c5, l2) (by simp)).1) (by exact V2.out.step TE.out.bel) (by unfold maxLen; have := HS.out; omega) (by unfold maxLen; have := HS.out; omega) true (by simp)).mono ?_
  rintro e wf ⟨rfl, hb⟩
  have TF := Lib.hid (TE.out.step hb)
  have hcf := hce.step hb
  have hvf := hve.step hb
  clear hb
  (try go_wp2_with fail)
  refine hK.out _ _ ⟨hcf, hvf⟩ (fun hHeld => ?_)
  clear hK K
  (try simp only [Act.put, List.getElem_toArray, List.getElem_cons_zero, List.getElem_cons_succ, List.setIfInBounds_toArray, List.set_cons_zero, List.set_cons_succ])
  refine wpAnyH_take (i := 13) (v := ?v13_11) rfl (by kernel_rfl) (by kernel_rfl) (by kernel_rfl) (fun _ _ _ h => h) (Or.inl ⟨by rfl, ?hy13_11⟩) hHeld ?_
  case hy13_11 => (intro w hSw; (try dsimp only at hSw); (try simp only [List.getElem_toArray, List.getElem_cons_zero, List.getElem_cons_succ]); go_simp <;> with_reducible rfl)
  (try simp only [Act.put, List.getElem_toArray, List.getElem_cons_zero, List.getElem_cons_succ, List.setIfInBounds_toArray, List.set_cons_zero, List.set_cons_succ])
  refine wpAnyH_take (i := 14) (v := ?v14_12) rfl (by kernel_rfl) (by kernel_rfl) (by kernel_rfl) (fun _ _ _ h => h) (Or.inl ⟨by rfl, ?hy14_12⟩) hHeld ?_
  case hy14_12 => (intro w hSw; (try dsimp only at hSw); (try simp only [List.getElem_toArray, List.getElem_cons_zero, List.getElem_cons_succ]); go_simp <;> with_reducible rfl)
  (try simp only [Act.put, List.getElem_toArray, List.getElem_cons_zero, List.getElem_cons_succ, List.setIfInBounds_toArray, List.set_cons_zero, List.set_cons_succ])
  refine wpAnyH_done (by kernel_rfl) ?_ _
  go_wp2_with fail
  go_ret
  exact ⟨rfl, bel_next HB2.out TF.out.bel⟩
end Go.Proofs.YthllaoeioddddaaGreat
