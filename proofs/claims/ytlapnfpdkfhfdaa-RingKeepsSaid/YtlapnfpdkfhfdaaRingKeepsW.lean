/- RingKeeps's walk: a key that is installed and retired leaves the others as they were. Condition: the calls' keys can be read. -/
import Derived.Test.YtlapnfpdkfhfdaaRiW
namespace Go.Proofs.Ytlapnfpdkfhfdaa
open Go.RowKit
set_option linter.unusedVariables false
set_option linter.unusedSimpArgs false
attribute [local go_sem ↓] ex_ldCr
set_option maxRecDepth 100000 in
set_option maxHeartbeats 16000000 in
theorem RingKeeps_walk (A0 : Option Addr) (n0 c0 : Nat) (l0 : List Cr) (x1 : Cr) (w : World) (h0 : CRs w w.heap.size A0 n0 l0) (m0 : n0 ≤ c0 ∧ c0 ≤ maxLen) (h1 : x1.ok w.heap.size w) :
    Calls Try.prog 4 #[.slice A0 n0 c0, x1.val] w fun e w' => e = .returned (.bool true) ∧ Below w.heap.size w w' := by
  have H0 := Lib.hid h0
  have M0 := Lib.hid m0
  have hn0 : n0 ≤ 9223372036854775807 := by have := m0.1; have := m0.2; unfold maxLen at this; omega
  clear h0 m0
  have HZ := Lib.hid h1
  clear h1
  unfold Cr.val
  go_enter Try.func4, Try.ntmps4
  go_wp2_with (first
    | (refine wpList_boxB rfl 25 (.tmp 1) rfl x1.cells rfl ?_; intro w1 bx k1 hb1 hbx; have K1 := Lib.hid k1; have HB1 := Lib.hid (And.intro hb1 hbx); clear k1 hb1 hbx))
  refine (alive19_any _).mono ?_
  rintro e w2 ⟨rfl, hb2⟩
  have HB12 := Lib.hid hb2
  have HB2 : Hid (Below w.heap.size w w2) := Lib.hid (bel_next HB1.out.1 hb2)
  clear hb2
  go_wp2_with fail
  refine (great19_any A0 n0 c0 l0 w2 (by exact ⟨(H0.out.below HB2.out).1, fun k hk => ((H0.out.below HB2.out).2.1 k hk).more HB2.out.size, fun hn => by obtain ⟨b, o, a1, a2, a3⟩ := (H0.out.below HB2.out).2.2 hn; exact ⟨b, o, a1, Nat.lt_of_lt_of_le a2 HB2.out.size, a3⟩⟩) (Nat.le_trans M0.out.1 M0.out.2)).mono ?_
  rintro e w3 ⟨v1, rfl, rfl, hv1⟩
  rcases v1 with _ | _
  case true =>
    clear hv1
    go_wp2_with fail
    go_ret
    exact ⟨rfl, HB2.out⟩
  have HG1 := Lib.hid (hv1 rfl)
  clear hv1
  have K2 := Lib.hid (K1.out.step (w' := w2) HB12.out)
  have ql := ldCr_b K2.out
  go_wp2_with fail
  have OKZ : Hid (x1.ok w2.heap.size w2) := Lib.hid ((HZ.out.below HB2.out).more HB2.out.size)
  refine (great19_any _ 1 1 [x1] _ (by exact CRs.lit w2 x1 OKZ.out _ rfl _) (by unfold maxLen; omega)).mono ?_
  rintro e w3 ⟨v2, rfl, rfl, hv2⟩
  have HB3 : Hid (Below w.heap.size w (w2.alloc (.cells #[.int .i64 x1.t, .int .i64 x1.q, .slice x1.A x1.n x1.c] 25))) := Lib.hid (bel_next HB2.out (below_alloc _ _))
  have K3 := Lib.hid (K2.out.step (below_alloc w2 (.cells #[.int .i64 x1.t, .int .i64 x1.q, .slice x1.A x1.n x1.c] 25)))
  generalize (w2.alloc (.cells #[.int .i64 x1.t, .int .i64 x1.q, .slice x1.A x1.n x1.c] 25)) = w3 at HB3 K3 ⊢
  clear ql K2 K1 OKZ
  rcases v2 with _ | _
  case true =>
    clear hv2
    go_wp2_with fail
    go_ret
    exact ⟨rfl, HB3.out⟩
  have HG2 : Hid (x1.n ≤ 100) := Lib.hid ((hv2 rfl).2 x1 (by simp))
  clear hv2
  have HV0 : Hid (CRs w3 w3.heap.size A0 n0 l0) := Lib.hid ⟨(H0.out.below HB3.out).1, fun k hk => ((H0.out.below HB3.out).2.1 k hk).more HB3.out.size, fun hn => by obtain ⟨b, o, a1, a2, a3⟩ := (H0.out.below HB3.out).2.2 hn; exact ⟨b, o, a1, Nat.lt_of_lt_of_le a2 HB3.out.size, a3⟩⟩
  go_wp2_with fail
  refine (rnew_any w3).mono ?_
  rintro e w4 ⟨x, rfl, hb4, hr4⟩
  have HR4 : Hid (RG w3 x [] [] w4) := Lib.hid ⟨hb4, nil_okR, none, 0, [], hr4, rfl, fun g hg => by cases hg⟩
  clear hb4 hr4
  go_wp2_with fail
  go_loopw [6] (fun i wr => ∃ k : Nat, k ≤ n0 ∧ i = .int .i64 (k : Int) ∧ Hid (RG w3 x (upR l0 k) [] wr)) (fun i _ => n0 - (intOf i).toNat)
  case atStart => exact ⟨0, by omega, rfl, Lib.hid HR4.out⟩
  case round =>
    obtain ⟨k, hk, rfl, HK⟩ := hrel
    by_cases hlt : k < n0
    · obtain ⟨b, o, e0, rfl, he, hok, hrg, _⟩ := (HV0.out.below HK.out.1).at_ hlt
      have HE := Lib.hid (And.intro he (And.intro (HV0.out.2.1 e0 (List.mem_of_getElem? he)) (HG1.out.2 e0 (List.mem_of_getElem? he))))
      have HRG := Lib.hid hrg
      clear he hok hrg
      go_wp2_with (first
        | (refine wpList_boxB rfl 33 (.tmp 34) rfl [.slice none 0 0] rfl ?_; intro w5 y k5 hb5 hy5; have P5 := Lib.hid (HK.out.pr hb5 k5 hy5); have ql := ldCr_r (w := w5) (k := e0) (b := b) (o := o + k * 3) (fun j v hv => by have z := HRG.out j v hv; exact (hb5.cell (p := ⟨b, o + k * 3 + j, none⟩) (World.block_lt_of_cell? wr _ z)).trans z); clear k5 hb5 hy5))
      refine (do19_any w3 x y (upR l0 k) [] w5 (by exact P5.out) e0 (by exact HE.out.2.1) (by exact HE.out.2.2)).mono ?_
      rintro e w6 ⟨rfl, hp⟩
      have P6 : Hid (RG w3 x (upR l0 (k + 1)) [] w6) := Lib.hid (by rw [upR_next HE.out.1]; exact hp.rg)
      clear hp ql
      go_wp2_with fail
      go_roundw
      case rel => exact ⟨k + 1, by omega, by go_num, Lib.hid P6.out⟩
      case measure => simp [intOf]; omega
    · have hkn : k = n0 := by omega
      subst hkn
      obtain ⟨s, HS⟩ : ∃ s, Hid (upR l0 k = s) := ⟨_, Lib.hid rfl⟩
      have R7 : Hid (RG w3 x s [] wr) := Lib.hid (by rw [← HS.out]; exact HK.out)
      obtain ⟨n, HN⟩ : ∃ n, Hid (s.length = n) := ⟨_, Lib.hid rfl⟩
      have hn16 : n ≤ 16 := by rw [← HN.out]; exact R7.out.ok.n
      clear hlt
      have K7 := Lib.hid (K3.out.step R7.out.1)
      go_wp2_with fail
      refine (rg_seqs w3 wr x s _ (by exact R7.out) n HN.out).mono ?_
      rintro e w8 ⟨L, f, rfl, ho, hb⟩
      have R8 := Lib.hid (R7.out.fresh (w' := w8) (blkO L) (fun g hg => ownZ_lt ho g hg) hb)
      have O8 := Lib.hid ho
      have K8 := Lib.hid (K7.out.step hb)
      clear ho hb
      obtain ⟨nq, nb, HNW⟩ : ∃ q b, Hid (newR s = (q, b)) := ⟨_, _, Lib.hid rfl⟩
      go_wp2_with fail
      refine (rg_new w3 w8 x s _ (by exact R8.out) nq nb HNW.out).mono ?_
      rintro e w9 ⟨rfl, hb⟩
      have R9 := Lib.hid (R8.out.step hb)
      have O9 := Lib.hid (O8.out.below hb)
      have K9 := Lib.hid (K8.out.step hb)
      clear hb
      have cq : w9.cell? ⟨bx, 1, none⟩ = some (.int .i64 x1.q) := K9.out.cell 1
      have c2 : w9.cell? ⟨bx, 2, none⟩ = some (.slice x1.A x1.n x1.c) := K9.out.cell 2
      have RK : Hid (RB w9 w9.heap.size x1.A x1.n x1.key) := Lib.hid (by
        have z := ((HZ.out.1.step HB3.out).step R9.out.1)
        exact z)
      obtain ⟨a, HA⟩ : ∃ a, Hid ((instR s x1.q x1.key).2 = a) := ⟨_, Lib.hid rfl⟩
      go_wp2_with fail
      refine (rg_inst w3 w9 x s _ (by exact R9.out) x1.q x1.A x1.n x1.c x1.key (by exact RK.out) HZ.out.2.1).mono ?_
      rw [HA.out]
      rintro e wa ⟨rfl, hr, hk⟩
      have RA := Lib.hid hr
      have OA : Hid (OwnZ wa wr.heap.size L n f (seqsR s)) := Lib.hid (O9.out.kp hk (fun g hg => List.mem_append_left _ hg))
      have KA := Lib.hid (K3.out.step hr.1)
      have cq' : wa.cell? ⟨bx, 1, none⟩ = some (.int .i64 x1.q) := KA.out.cell 1
      clear hr hk cq c2
      by_cases ha : a = 0
      · subst ha
        obtain ⟨e1, e2, e3, e4⟩ := inst_zero HA.out
        have hnew : newR (instR s x1.q x1.key).1 = (x1.q, true) := by rw [e1]; exact new_appR
        have hret : retR (instR s x1.q x1.key).1 x1.q = (s, 0) := inst_ret HA.out
        have HN1 : Hid ((instR s x1.q x1.key).1.length = n + 1) := Lib.hid (by rw [e1, List.length_append, HN.out]; rfl)
        have HNR := Lib.hid (And.intro hnew hret)
        clear e1 e2 e3 e4 hnew hret
        have hqq : (x1.q != x1.q) = false := by simp
        have hnn : ((n : Int) + 1 != (n : Int) + 1) = false := by simp
        go_wp2_with fail
        refine (rg_new w3 wa x _ _ (by exact RA.out) x1.q true HNR.out.1).mono ?_
        rintro e wb ⟨rfl, hb⟩
        have RB' := Lib.hid (RA.out.step hb)
        have OB := Lib.hid (OA.out.below hb)
        have KB := Lib.hid (KA.out.step hb)
        have cqb : wb.cell? ⟨bx, 1, none⟩ = some (.int .i64 x1.q) := KB.out.cell 1
        clear hb cq'
        go_wp2_with fail
        refine (rg_seqs w3 wb x _ _ (by exact RB'.out) (n + 1) HN1.out).mono ?_
        rintro e wc ⟨L1, f1, rfl, _, hb⟩
        have RC := Lib.hid (RB'.out.step hb)
        have OC := Lib.hid (OB.out.below hb)
        have KC := Lib.hid (KB.out.step hb)
        have cqc : wc.cell? ⟨bx, 1, none⟩ = some (.int .i64 x1.q) := KC.out.cell 1
        clear hb cqb
        go_wp2_with fail
        refine (rg_ret w3 wc x _ _ (by exact RC.out) x1.q).mono ?_
        rw [HNR.out.2]
        rintro e wd ⟨rfl, hr, hk⟩
        have RD := Lib.hid hr
        have OD := Lib.hid (OC.out.kp hk (fun g hg => List.mem_append_left _ hg))
        clear hr hk cqc hqq hnn
        go_wp2_with fail
        refine (rg_new w3 wd x s _ (by exact RD.out) nq nb HNW.out).mono ?_
        rintro e wh ⟨rfl, hb⟩
        have RH := Lib.hid (RD.out.step hb)
        have OH := Lib.hid (OD.out.below hb)
        clear hb
        go_wp2_with fail
        refine (rg_seqs w3 wh x s _ (by exact RH.out) n HN.out).mono ?_
        rintro e wi ⟨L2, f2, rfl, ho, hb⟩
        have RI := Lib.hid (RH.out.step hb)
        have OI := Lib.hid (OH.out.below hb)
        have O2 := Lib.hid ho
        clear ho hb
        have hqq : (nq == nq) = true := by simp
        have hbb : (nb == nb) = true := by simp
        have hle : decide ((n : Int) ≤ 16) = true := decide_eq_true (by omega)
        go_wp2_with fail
        refine (al_ints L2 L n f2 n f (seqsR s) (seqsR s) wi (by exact O2.out.zl) (by exact OI.out.zl) (by unfold maxLen; omega) (by unfold maxLen; omega) true (by simp)).mono ?_
        rintro e wj ⟨rfl, hb⟩
        have HBJ := Lib.hid (bel_next HB3.out (RI.out.step hb).1)
        clear hb
        go_wp2_with fail
        go_ret
        exact ⟨rfl, HBJ.out⟩
      · have hs : (instR s x1.q x1.key).1 = s := inst_else (by rw [HA.out]; exact ha)
        have RD : Hid (RG w3 x s (blkO L ++ []) wa) := Lib.hid (by have z := RA.out; rw [hs] at z; exact z)
        have hne : (a == 0) = false := beq_eq_false_iff_ne.2 ha
        clear ha hs cq'
        go_wp2_with fail
        refine (rg_new w3 wa x s _ (by exact RD.out) nq nb HNW.out).mono ?_
        rintro e wh ⟨rfl, hb⟩
        have RH := Lib.hid (RD.out.step hb)
        have OH := Lib.hid (OA.out.below hb)
        clear hb
        go_wp2_with fail
        refine (rg_seqs w3 wh x s _ (by exact RH.out) n HN.out).mono ?_
        rintro e wi ⟨L2, f2, rfl, ho, hb⟩
        have RI := Lib.hid (RH.out.step hb)
        have OI := Lib.hid (OH.out.below hb)
        have O2 := Lib.hid ho
        clear ho hb
        have hqq : (nq == nq) = true := by simp
        have hbb : (nb == nb) = true := by simp
        have hle : decide ((n : Int) ≤ 16) = true := decide_eq_true (by omega)
        go_wp2_with fail
        refine (al_ints L2 L n f2 n f (seqsR s) (seqsR s) wi (by exact O2.out.zl) (by exact OI.out.zl) (by unfold maxLen; omega) (by unfold maxLen; omega) true (by simp)).mono ?_
        rintro e wj ⟨rfl, hb⟩
        have HBJ := Lib.hid (bel_next HB3.out (RI.out.step hb).1)
        clear hb
        go_wp2_with fail
        go_ret
        exact ⟨rfl, HBJ.out⟩
end Go.Proofs.Ytlapnfpdkfhfdaa
