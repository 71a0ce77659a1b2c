/- RingCalls's walk: every row of calls is answered as the document says, and leaves the keys that it says; a clone goes on by itself. Condition: the calls' keys can be read. -/
import Derived.Test.YtlapnfpdkfhfdaaRiW
namespace Go.Proofs.Ytlapnfpdkfhfdaa
open Go.RowKit
set_option linter.unusedVariables false
set_option linter.unusedSimpArgs false
attribute [local go_sem ↓] ex_ldCr
set_option maxRecDepth 100000 in
set_option maxHeartbeats 16000000 in
theorem RingCalls_walk (A0 : Option Addr) (n0 c0 : Nat) (l0 : List Cr) (x1 : Int) (x2 : Cr) (w : World) (h0 : CRs w w.heap.size A0 n0 l0) (m0 : n0 ≤ c0 ∧ c0 ≤ maxLen) (h1 : (Lit.int .i64 x1).wf = true) (h2 : x2.ok w.heap.size w) :
    Calls Try.prog 3 #[.slice A0 n0 c0, .int .i64 x1, x2.val] w fun e w' => e = .returned (.bool true) ∧ Below w.heap.size w w' := by
  have H0 := Lib.hid h0
  have M0 := Lib.hid m0
  have hn0 : n0 ≤ 9223372036854775807 := by have := m0.1; have := m0.2; unfold maxLen at this; omega
  clear h0 m0
  have HZ := Lib.hid h2
  clear h1 h2
  unfold Cr.val
  go_enter Try.func3, Try.ntmps3
  go_wp2_with (first
    | (refine wpList_boxB rfl 25 (.tmp 2) rfl x2.cells rfl ?_; intro w1 bx k1 hb1 hbx; have K1 := Lib.hid k1; have HB1 := Lib.hid (And.intro hb1 hbx); clear k1 hb1 hbx))
  refine (alive19_any _).mono ?_
  rintro e w2 ⟨rfl, hb2⟩
  have HB12 := Lib.hid hb2
  have HB2 : Hid (Below w.heap.size w w2) := Lib.hid (bel_next HB1.out.1 hb2)
  clear hb2
  go_wp2_with fail
  refine (great19_any A0 n0 c0 l0 w2 (by exact ⟨(H0.out.below HB2.out).1, fun k hk => ((H0.out.below HB2.out).2.1 k hk).more HB2.out.size, fun hn => by obtain ⟨b, o, a1, a2, a3⟩ := (H0.out.below HB2.out).2.2 hn; exact ⟨b, o, a1, Nat.lt_of_lt_of_le a2 HB2.out.size, a3⟩⟩) (Nat.le_trans M0.out.1 M0.out.2)).mono ?_
  rintro e w3 ⟨v1, rfl, rfl, hv1⟩
  rcases v1 with _ | _
  case true =>
    clear hv1
    go_wp2_with fail
    go_ret
    exact ⟨rfl, HB2.out⟩
  have HG1 := Lib.hid (hv1 rfl)
  clear hv1
  have K2 := Lib.hid (K1.out.step (w' := w2) HB12.out)
  have ql := ldCr_b K2.out
  go_wp2_with fail
  have OKZ : Hid (x2.ok w2.heap.size w2) := Lib.hid ((HZ.out.below HB2.out).more HB2.out.size)
  refine (great19_any _ 1 1 [x2] _ (by exact CRs.lit w2 x2 OKZ.out _ rfl _) (by unfold maxLen; omega)).mono ?_
  rintro e w3 ⟨v2, rfl, rfl, hv2⟩
  have HB3 : Hid (Below w.heap.size w (w2.alloc (.cells #[.int .i64 x2.t, .int .i64 x2.q, .slice x2.A x2.n x2.c] 25))) := Lib.hid (bel_next HB2.out (below_alloc _ _))
  have K3 := Lib.hid (K2.out.step (below_alloc w2 (.cells #[.int .i64 x2.t, .int .i64 x2.q, .slice x2.A x2.n x2.c] 25)))
  generalize (w2.alloc (.cells #[.int .i64 x2.t, .int .i64 x2.q, .slice x2.A x2.n x2.c] 25)) = w3 at HB3 K3 ⊢
  clear ql K2 K1 OKZ
  rcases v2 with _ | _
  case true =>
    clear hv2
    go_wp2_with fail
    go_ret
    exact ⟨rfl, HB3.out⟩
  have HG2 : Hid (x2.n ≤ 100) := Lib.hid ((hv2 rfl).2 x2 (by simp))
  clear hv2
  have HV0 : Hid (CRs w3 w3.heap.size A0 n0 l0) := Lib.hid ⟨(H0.out.below HB3.out).1, fun k hk => ((H0.out.below HB3.out).2.1 k hk).more HB3.out.size, fun hn => by obtain ⟨b, o, a1, a2, a3⟩ := (H0.out.below HB3.out).2.2 hn; exact ⟨b, o, a1, Nat.lt_of_lt_of_le a2 HB3.out.size, a3⟩⟩
  go_wp2_with fail
  refine (rnew_any w3).mono ?_
  rintro e w4 ⟨x, rfl, hb4, hr4⟩
  have HR4 : Hid (RG w3 x [] [] w4) := Lib.hid ⟨hb4, nil_okR, none, 0, [], hr4, rfl, fun g hg => by cases hg⟩
  clear hb4 hr4
  go_wp2_with (first
    | (refine wpList_boxB rfl 33 (.tmp 25) rfl [.slice none 0 0] rfl ?_; intro w5 y k5 hb5 hy5; have P5 := Lib.hid (HR4.out.pr hb5 k5 hy5); clear k5 hb5 hy5))
  go_loopw [9] (fun i wr => ∃ k : Nat, k ≤ n0 ∧ i = .int .i64 (k : Int) ∧ Hid (PR w3 x y (upR l0 k) (upR l0 k) [] wr)) (fun i _ => n0 - (intOf i).toNat)
  case atStart => exact ⟨0, by omega, rfl, Lib.hid P5.out⟩
  case round =>
    obtain ⟨k, hk, rfl, HK⟩ := hrel
    by_cases hlt : k < n0
    · obtain ⟨b, o, e0, rfl, he, hok, hrg, _⟩ := (HV0.out.below HK.out.bel).at_ hlt
      have HE := Lib.hid (And.intro he (And.intro (HV0.out.2.1 e0 (List.mem_of_getElem? he)) (HG1.out.2 e0 (List.mem_of_getElem? he))))
      have ql := ldCr_r hrg
      clear he hok hrg
      go_wp2_with fail
      refine (do19_any w3 x y (upR l0 k) (upR l0 k) wr (by exact HK.out) e0 (by exact HE.out.2.1) (by exact HE.out.2.2)).mono ?_
      rintro e w6 ⟨he6, hp⟩
      rw [beq_self_eq_true] at he6
      subst he6
      rw [← upR_next HE.out.1] at hp
      have P6 := Lib.hid hp
      obtain ⟨A, c, es, B, d, ks, hq⟩ := hp
      have HAG := Lib.hid (agree19_any w3.heap.size w3.heap.size x y A c es B d ks 1 0 w6 hq.rn hq.rs (by rw [hq.ee, hq.kk]) (by rw [hq.ee]; exact hq.os))
      clear hq ql
      go_wp2_with fail
      refine HAG.out.mono ?_
      rintro e w7 ⟨rfl, hb⟩
      have P7 := Lib.hid (P6.out.step hb)
      clear hb
      go_wp2_with fail
      go_roundw
      case rel => exact ⟨k + 1, by omega, by go_num, Lib.hid P7.out⟩
      case measure => simp [intOf]; omega
    · have hkn : k = n0 := by omega
      subst hkn
      obtain ⟨s, HS⟩ : ∃ s, Hid (upR l0 k = s) := ⟨_, Lib.hid rfl⟩
      have hpr : PR w3 x y s s [] wr := by rw [← HS.out]; exact HK.out
      obtain ⟨A, c, es, B, d, ks, hq⟩ := hpr
      have HQ := Lib.hid hq
      have hl := hq.len
      have HL := Lib.hid (And.intro hl.1 hl.2)
      clear hq hlt hl
      have HKY := rkey_any _ x A c es 1 0 x1 wr HQ.out.rn (by have := HL.out.1; omega)
      rw [HQ.out.ee] at HKY
      cases hv : hasR s x1
      · rw [key_noneR hv, hv] at HKY
        have HKY := Lib.hid HKY
        have HBX := Lib.hid (fun W hb => box_no _ x A c es 1 0 x1 W (HQ.out.rn.step (w' := W) hb) (by have := HL.out.1; omega) (by rw [HQ.out.ee]; exact hv))
        have HFI := Lib.hid (fun W hb => rfind_any _ y B d ks x1 W (HQ.out.rs.step (w' := W) hb) (by have := HL.out.2; omega))
        rw [HQ.out.kk, idx_neg hv] at HFI
        clear hv
        go_wp2_with fail
        refine HKY.out.mono ?_
        intro e w6 hr
        obtain ⟨A7, c7, he7, _, hb⟩ := hr
        rw [show ([] : List UInt8).length = 0 from rfl] at he7
        subst he7
        have HB6 := Lib.hid hb
        clear hb
        go_wp2_with fail
        refine (HBX.out w6 HB6.out).mono ?_
        rintro e w7 ⟨rfl, hb⟩
        have HB7 := Lib.hid (bel_next HB6.out hb)
        clear hb
        go_wp2_with fail
        refine (HFI.out w7 HB7.out).mono ?_
        rintro e w8 ⟨rfl, rfl⟩
        obtain ⟨w8, HW8⟩ : ∃ w8 : World, w8 = w7 := ⟨_, rfl⟩
        subst HW8
        have HB8 := HB7
        have Q8 := Lib.hid (HQ.out.oth (S := []) (Oth.of_below HB8.out) (HB8.out.mono HQ.out.bel.size) (fun g hg => by cases hg))
        have K8 := Lib.hid (K3.out.step Q8.out.bel)
        clear HB8
        go_wp2_with fail
        refine (rclone_any _ x A c es 1 0 w8 (by exact Q8.out.rn) (by have := HL.out.1; omega)).mono ?_
        rintro e w9 ⟨y2, B2, d2, fs, rfl, hb9, hr9, he9⟩
        have B9 := Lib.hid hb9
        have R9 := Lib.hid hr9
        have E9 := Lib.hid (he9.trans Q8.out.ee)
        have K9 := Lib.hid (K8.out.step hb9)
        clear hb9 hr9 he9
        go_wp2_with fail
        refine wp_region_held_drew (S := fun w' => Blk 25 w' bx x2.cells) (by kernel_rfl) K9.out (fun hHeld => ?_)
        (try dsimp only at hHeld)
        refine wpAnyH_take (i := 0) (v := ?v0_1) rfl (by kernel_rfl) (by kernel_rfl) (by kernel_rfl) (fun _ _ _ h => h) (Or.inl ⟨by rfl, ?hy0_1⟩) hHeld ?_
        case hy0_1 => (intro w hSw; (try dsimp only at hSw); (try simp only [List.getElem_toArray, List.getElem_cons_zero, List.getElem_cons_succ]); go_simp <;> with_reducible rfl)
        (try simp only [Act.put, List.getElem_toArray, List.getElem_cons_zero, List.getElem_cons_succ, List.setIfInBounds_toArray, List.set_cons_zero, List.set_cons_succ])
        refine wpAnyH_take (i := 1) (v := ?v1_2) rfl (by kernel_rfl) (by kernel_rfl) (by kernel_rfl) (fun _ _ _ h => h) (Or.inl ⟨by rfl, ?hy1_2⟩) hHeld ?_
        case hy1_2 => (intro w hSw; (try dsimp only at hSw); (try simp only [List.getElem_toArray, List.getElem_cons_zero, List.getElem_cons_succ]); go_simp <;> with_reducible rfl)
        (try simp only [Act.put, List.getElem_toArray, List.getElem_cons_zero, List.getElem_cons_succ, List.setIfInBounds_toArray, List.set_cons_zero, List.set_cons_succ])
        refine wpAnyH_take (i := 2) (v := ?v2_3) rfl (by kernel_rfl) (by kernel_rfl) (by kernel_rfl) (fun _ _ _ h => h) (Or.inl ⟨by rfl, ?hy2_3⟩) hHeld ?_
        case hy2_3 => (intro w hSw; (try dsimp only at hSw); (try simp only [List.getElem_toArray, List.getElem_cons_zero, List.getElem_cons_succ]); go_simp <;> with_reducible rfl)
        (try simp only [Act.put, List.getElem_toArray, List.getElem_cons_zero, List.getElem_cons_succ, List.setIfInBounds_toArray, List.set_cons_zero, List.set_cons_succ])
        refine wpAnyH_take (i := 3) (v := ?v3_4) rfl (by kernel_rfl) (by kernel_rfl) (by kernel_rfl) (fun _ _ _ h => h) (Or.inl ⟨by rfl, ?hy3_4⟩) hHeld ?_
        case hy3_4 => (intro w hSw; (try dsimp only at hSw); (try simp only [List.getElem_toArray, List.getElem_cons_zero, List.getElem_cons_succ]); go_simp <;> with_reducible rfl)
        (try simp only [Act.put, List.getElem_toArray, List.getElem_cons_zero, List.getElem_cons_succ, List.setIfInBounds_toArray, List.set_cons_zero, List.set_cons_succ])
        refine wpAnyH_take (i := 4) (v := ?v4_5) rfl (by kernel_rfl) (by kernel_rfl) (by kernel_rfl) (fun _ _ _ h => h) (Or.inl ⟨by rfl, ?hy4_5⟩) hHeld ?_
        case hy4_5 => (intro w hSw; (try dsimp only at hSw); (try simp only [List.getElem_toArray, List.getElem_cons_zero, List.getElem_cons_succ]); go_simp <;> with_reducible rfl)
        (try simp only [Act.put, List.getElem_toArray, List.getElem_cons_zero, List.getElem_cons_succ, List.setIfInBounds_toArray, List.set_cons_zero, List.set_cons_succ])
        refine wpAnyH_ready (rs := [5]) (by kernel_rfl) (by simp) ?_
        refine AllReadyH.cons rfl (fun K hK => ?_) AllReadyH.nil
        (try simp only [List.getElem_toArray, List.getElem_cons_zero, List.getElem_cons_succ])
        go_simp
        refine (agree19_any w8.heap.size w3.heap.size y2 y B2 d2 fs B d ks 1 0 w9.drew (by exact R9.out.step (Below.refl _ _).drew) (by exact (Q8.out.rs.step B9.out).step (Below.refl _ _).drew) (by rw [E9.out, Q8.out.kk]) (by rw [E9.out]; exact Q8.out.os)).mono ?_
        rintro e w10 ⟨rfl, hb⟩
        have D10 : Hid (Below w9.heap.size w9 w10) := Lib.hid ((Below.refl _ _).drew.trans hb)
        have B10 := Lib.hid (bel_next B9.out D10.out)
        have R10 := Lib.hid (R9.out.step D10.out)
        have K10 := Lib.hid (K9.out.step D10.out)
        clear hb
        (try go_wp2_with fail)
        refine hK.out _ _ K10.out (fun hHeld => ?_)
        clear hK K
        (try simp only [Act.put, List.getElem_toArray, List.getElem_cons_zero, List.getElem_cons_succ, List.setIfInBounds_toArray, List.set_cons_zero, List.set_cons_succ])
        refine wpAnyH_take (i := 6) (v := ?v6_6) rfl (by kernel_rfl) (by kernel_rfl) (by kernel_rfl) (fun _ _ _ h => h) (Or.inl ⟨by rfl, ?hy6_6⟩) hHeld ?_
        case hy6_6 => (intro w hSw; (try dsimp only at hSw); have ql := ldCr_b hSw; (try simp only [List.getElem_toArray, List.getElem_cons_zero, List.getElem_cons_succ]); go_simp <;> with_reducible rfl)
        (try simp only [Act.put, List.getElem_toArray, List.getElem_cons_zero, List.getElem_cons_succ, List.setIfInBounds_toArray, List.set_cons_zero, List.set_cons_succ])
        refine wpAnyH_take (i := 7) (v := ?v7_7) rfl (by kernel_rfl) (by kernel_rfl) (by kernel_rfl) (fun _ _ _ h => h) (Or.inl ⟨by rfl, ?hy7_7⟩) hHeld ?_
        case hy7_7 => (intro w hSw; (try dsimp only at hSw); have ql := ldCr_b hSw; (try simp only [List.getElem_toArray, List.getElem_cons_zero, List.getElem_cons_succ]); go_simp <;> with_reducible rfl)
        (try simp only [Act.put, List.getElem_toArray, List.getElem_cons_zero, List.getElem_cons_succ, List.setIfInBounds_toArray, List.set_cons_zero, List.set_cons_succ])
        refine wpAnyH_take (i := 8) (v := ?v8_8) rfl (by kernel_rfl) (by kernel_rfl) (by kernel_rfl) (fun _ _ _ h => h) (Or.inl ⟨by rfl, ?hy8_8⟩) hHeld ?_
        case hy8_8 => (intro w hSw; (try dsimp only at hSw); have ql := ldCr_b hSw; (try simp only [List.getElem_toArray, List.getElem_cons_zero, List.getElem_cons_succ]); go_simp <;> with_reducible rfl)
        (try simp only [Act.put, List.getElem_toArray, List.getElem_cons_zero, List.getElem_cons_succ, List.setIfInBounds_toArray, List.set_cons_zero, List.set_cons_succ])
        refine wpAnyH_take (i := 9) (v := ?v9_9) rfl (by kernel_rfl) (by kernel_rfl) (by kernel_rfl) (fun _ _ _ h => h) (Or.inl ⟨by rfl, ?hy9_9⟩) hHeld ?_
        case hy9_9 => (intro w hSw; (try dsimp only at hSw); have ql := ldCr_b hSw; (try simp only [List.getElem_toArray, List.getElem_cons_zero, List.getElem_cons_succ]); go_simp <;> with_reducible rfl)
        (try simp only [Act.put, List.getElem_toArray, List.getElem_cons_zero, List.getElem_cons_succ, List.setIfInBounds_toArray, List.set_cons_zero, List.set_cons_succ])
        refine wpAnyH_take (i := 11) (v := ?v11_10) rfl (by kernel_rfl) (by kernel_rfl) (by kernel_rfl) (fun _ _ _ h => h) (Or.inl ⟨by rfl, ?hy11_10⟩) hHeld ?_
        case hy11_10 => (intro w hSw; (try dsimp only at hSw); have ql := ldCr_b hSw; (try simp only [List.getElem_toArray, List.getElem_cons_zero, List.getElem_cons_succ]); go_simp <;> with_reducible rfl)
        (try simp only [Act.put, List.getElem_toArray, List.getElem_cons_zero, List.getElem_cons_succ, List.setIfInBounds_toArray, List.set_cons_zero, List.set_cons_succ])
        refine wpAnyH_ready (rs := [10]) (by kernel_rfl) (by simp) ?_
        refine AllReadyH.cons rfl (fun K hK => ?_) AllReadyH.nil
        (try simp only [List.getElem_toArray, List.getElem_cons_zero, List.getElem_cons_succ])
        go_simp
        refine (rcopy_any _ y B d ks w10 (by exact Q8.out.rs.step B10.out) (by have := HL.out.2; omega)).mono ?_
        rintro e w11 ⟨y3, B3, d3, rfl, hb, hr⟩
        have P11 : Hid (PR w8 y2 y3 s s [] w11) := Lib.hid (PR.pair R10.out B10.out hb hr E9.out Q8.out.kk Q8.out.os Q8.out.os)
        have K11 := Lib.hid (K10.out.step hb)
        clear hb hr
        (try go_wp2_with fail)
        refine hK.out _ _ K11.out (fun hHeld => ?_)
        clear hK K
        (try simp only [Act.put, List.getElem_toArray, List.getElem_cons_zero, List.getElem_cons_succ, List.setIfInBounds_toArray, List.set_cons_zero, List.set_cons_succ])
        refine wpAnyH_ready (rs := [12]) (by kernel_rfl) (by simp) ?_
        refine AllReadyH.cons rfl (fun K hK => ?_) AllReadyH.nil
        (try simp only [List.getElem_toArray, List.getElem_cons_zero, List.getElem_cons_succ])
        go_simp
        refine (do19_any w8 y2 y3 s s w11 (by exact P11.out) x2 (by exact (HZ.out.below (bel_next HB3.out Q8.out.bel)).more (bel_next HB3.out Q8.out.bel).size) (by exact HG2.out)).mono ?_
        rintro e w12 ⟨he12, hp⟩
        rw [beq_self_eq_true] at he12
        subst he12
        have B12 := Lib.hid hp.bel
        have K12 := Lib.hid (K8.out.step hp.bel)
        clear hp
        (try go_wp2_with fail)
        refine hK.out _ _ K12.out (fun hHeld => ?_)
        clear hK K
        (try simp only [Act.put, List.getElem_toArray, List.getElem_cons_zero, List.getElem_cons_succ, List.setIfInBounds_toArray, List.set_cons_zero, List.set_cons_succ])
        refine wpAnyH_take (i := 13) (v := ?v13_11) rfl (by kernel_rfl) (by kernel_rfl) (by kernel_rfl) (fun _ _ _ h => h) (Or.inl ⟨by rfl, ?hy13_11⟩) hHeld ?_
        case hy13_11 => (intro w hSw; (try dsimp only at hSw); (try simp only [List.getElem_toArray, List.getElem_cons_zero, List.getElem_cons_succ]); go_simp <;> with_reducible rfl)
        (try simp only [Act.put, List.getElem_toArray, List.getElem_cons_zero, List.getElem_cons_succ, List.setIfInBounds_toArray, List.set_cons_zero, List.set_cons_succ])
        refine wpAnyH_take (i := 14) (v := ?v14_12) rfl (by kernel_rfl) (by kernel_rfl) (by kernel_rfl) (fun _ _ _ h => h) (Or.inl ⟨by rfl, ?hy14_12⟩) hHeld ?_
        case hy14_12 => (intro w hSw; (try dsimp only at hSw); (try simp only [List.getElem_toArray, List.getElem_cons_zero, List.getElem_cons_succ]); go_simp <;> with_reducible rfl)
        (try simp only [Act.put, List.getElem_toArray, List.getElem_cons_zero, List.getElem_cons_succ, List.setIfInBounds_toArray, List.set_cons_zero, List.set_cons_succ])
        refine wpAnyH_take (i := 15) (v := ?v15_13) rfl (by kernel_rfl) (by kernel_rfl) (by kernel_rfl) (fun _ _ _ h => h) (Or.inl ⟨by rfl, ?hy15_13⟩) hHeld ?_
        case hy15_13 => (intro w hSw; (try dsimp only at hSw); (try simp only [List.getElem_toArray, List.getElem_cons_zero, List.getElem_cons_succ]); go_simp <;> with_reducible rfl)
        (try simp only [Act.put, List.getElem_toArray, List.getElem_cons_zero, List.getElem_cons_succ, List.setIfInBounds_toArray, List.set_cons_zero, List.set_cons_succ])
        refine wpAnyH_take (i := 16) (v := ?v16_14) rfl (by kernel_rfl) (by kernel_rfl) (by kernel_rfl) (fun _ _ _ h => h) (Or.inl ⟨by rfl, ?hy16_14⟩) hHeld ?_
        case hy16_14 => (intro w hSw; (try dsimp only at hSw); (try simp only [List.getElem_toArray, List.getElem_cons_zero, List.getElem_cons_succ]); go_simp <;> with_reducible rfl)
        (try simp only [Act.put, List.getElem_toArray, List.getElem_cons_zero, List.getElem_cons_succ, List.setIfInBounds_toArray, List.set_cons_zero, List.set_cons_succ])
        refine wpAnyH_ready (rs := [17]) (by kernel_rfl) (by simp) ?_
        refine AllReadyH.cons rfl (fun K hK => ?_) AllReadyH.nil
        (try simp only [List.getElem_toArray, List.getElem_cons_zero, List.getElem_cons_succ])
        go_simp
        refine (agree19_any w3.heap.size w3.heap.size x y A c es B d ks 1 0 w12 (by exact Q8.out.rn.step B12.out) (by exact Q8.out.rs.step B12.out) (by rw [Q8.out.ee, Q8.out.kk]) (by rw [Q8.out.ee]; exact Q8.out.os)).mono ?_
        rintro e w13 ⟨rfl, hb⟩
        have K13 := Lib.hid (K12.out.step hb)
        have B13 : Hid (Below w.heap.size w w13) := Lib.hid (bel_next (bel_next (bel_next HB3.out Q8.out.bel) B12.out) hb)
        clear hb
        (try go_wp2_with fail)
        refine hK.out _ _ K13.out (fun hHeld => ?_)
        clear hK K
        (try simp only [Act.put, List.getElem_toArray, List.getElem_cons_zero, List.getElem_cons_succ, List.setIfInBounds_toArray, List.set_cons_zero, List.set_cons_succ])
        refine wpAnyH_take (i := 18) (v := ?v18_15) rfl (by kernel_rfl) (by kernel_rfl) (by kernel_rfl) (fun _ _ _ h => h) (Or.inl ⟨by rfl, ?hy18_15⟩) hHeld ?_
        case hy18_15 => (intro w hSw; (try dsimp only at hSw); (try simp only [List.getElem_toArray, List.getElem_cons_zero, List.getElem_cons_succ]); go_simp <;> with_reducible rfl)
        (try simp only [Act.put, List.getElem_toArray, List.getElem_cons_zero, List.getElem_cons_succ, List.setIfInBounds_toArray, List.set_cons_zero, List.set_cons_succ])
        refine wpAnyH_take (i := 19) (v := ?v19_16) rfl (by kernel_rfl) (by kernel_rfl) (by kernel_rfl) (fun _ _ _ h => h) (Or.inl ⟨by rfl, ?hy19_16⟩) hHeld ?_
        case hy19_16 => (intro w hSw; (try dsimp only at hSw); (try simp only [List.getElem_toArray, List.getElem_cons_zero, List.getElem_cons_succ]); go_simp <;> with_reducible rfl)
        (try simp only [Act.put, List.getElem_toArray, List.getElem_cons_zero, List.getElem_cons_succ, List.setIfInBounds_toArray, List.set_cons_zero, List.set_cons_succ])
        refine wpAnyH_done (by kernel_rfl) ?_ _
        go_wp2_with fail
        go_ret
        exact ⟨rfl, B13.out⟩
      · have h16 := key_lenR HQ.out.os hv
        rw [hv] at HKY
        have HKY := Lib.hid HKY
        obtain ⟨i, hi, _, _⟩ := idx_pos hv
        have hge : decide ((i : Int) ≥ 0) = true := decide_eq_true (by omega)
        have HBX := Lib.hid (fun W hb => box_has _ x A c es 1 0 x1 W (HQ.out.rn.step (w' := W) hb) (by have := HL.out.1; omega) (by rw [HQ.out.ee]; exact hv))
        have HFI := Lib.hid (fun W hb => rfind_any _ y B d ks x1 W (HQ.out.rs.step (w' := W) hb) (by have := HL.out.2; omega))
        rw [HQ.out.kk, hi] at HFI
        clear hv hi
        go_wp2_with fail
        refine HKY.out.mono ?_
        intro e w6 hr
        obtain ⟨A7, c7, he7, _, hb⟩ := hr
        rw [h16] at he7
        subst he7
        have HB6 := Lib.hid hb
        clear hb
        clear h16
        obtain ⟨i7, e7, _, _, _, _, hbx⟩ := HBX.out w6 HB6.out
        go_wp2_with fail
        refine hbx.mono ?_
        rintro e w7 ⟨rfl, hb⟩
        have HB7 := Lib.hid (bel_next HB6.out hb)
        clear hb hbx
        go_wp2_with fail
        refine (HFI.out w7 HB7.out).mono ?_
        rintro e w8 ⟨rfl, rfl⟩
        obtain ⟨w8, HW8⟩ : ∃ w8 : World, w8 = w7 := ⟨_, rfl⟩
        subst HW8
        have HB8 := HB7
        have Q8 := Lib.hid (HQ.out.oth (S := []) (Oth.of_below HB8.out) (HB8.out.mono HQ.out.bel.size) (fun g hg => by cases hg))
        have K8 := Lib.hid (K3.out.step Q8.out.bel)
        clear HB8
        go_wp2_with fail
        refine (rclone_any _ x A c es 1 0 w8 (by exact Q8.out.rn) (by have := HL.out.1; omega)).mono ?_
        rintro e w9 ⟨y2, B2, d2, fs, rfl, hb9, hr9, he9⟩
        have B9 := Lib.hid hb9
        have R9 := Lib.hid hr9
        have E9 := Lib.hid (he9.trans Q8.out.ee)
        have K9 := Lib.hid (K8.out.step hb9)
        clear hb9 hr9 he9
        go_wp2_with fail
        refine wp_region_held_drew (S := fun w' => Blk 25 w' bx x2.cells) (by kernel_rfl) K9.out (fun hHeld => ?_)
        (try dsimp only at hHeld)
        refine wpAnyH_take (i := 0) (v := ?v0_17) rfl (by kernel_rfl) (by kernel_rfl) (by kernel_rfl) (fun _ _ _ h => h) (Or.inl ⟨by rfl, ?hy0_17⟩) hHeld ?_
        case hy0_17 => (intro w hSw; (try dsimp only at hSw); (try simp only [List.getElem_toArray, List.getElem_cons_zero, List.getElem_cons_succ]); go_simp <;> with_reducible rfl)
        (try simp only [Act.put, List.getElem_toArray, List.getElem_cons_zero, List.getElem_cons_succ, List.setIfInBounds_toArray, List.set_cons_zero, List.set_cons_succ])
        refine wpAnyH_take (i := 1) (v := ?v1_18) rfl (by kernel_rfl) (by kernel_rfl) (by kernel_rfl) (fun _ _ _ h => h) (Or.inl ⟨by rfl, ?hy1_18⟩) hHeld ?_
        case hy1_18 => (intro w hSw; (try dsimp only at hSw); (try simp only [List.getElem_toArray, List.getElem_cons_zero, List.getElem_cons_succ]); go_simp <;> with_reducible rfl)
        (try simp only [Act.put, List.getElem_toArray, List.getElem_cons_zero, List.getElem_cons_succ, List.setIfInBounds_toArray, List.set_cons_zero, List.set_cons_succ])
        refine wpAnyH_take (i := 2) (v := ?v2_19) rfl (by kernel_rfl) (by kernel_rfl) (by kernel_rfl) (fun _ _ _ h => h) (Or.inl ⟨by rfl, ?hy2_19⟩) hHeld ?_
        case hy2_19 => (intro w hSw; (try dsimp only at hSw); (try simp only [List.getElem_toArray, List.getElem_cons_zero, List.getElem_cons_succ]); go_simp <;> with_reducible rfl)
        (try simp only [Act.put, List.getElem_toArray, List.getElem_cons_zero, List.getElem_cons_succ, List.setIfInBounds_toArray, List.set_cons_zero, List.set_cons_succ])
        refine wpAnyH_take (i := 3) (v := ?v3_20) rfl (by kernel_rfl) (by kernel_rfl) (by kernel_rfl) (fun _ _ _ h => h) (Or.inl ⟨by rfl, ?hy3_20⟩) hHeld ?_
        case hy3_20 => (intro w hSw; (try dsimp only at hSw); (try simp only [List.getElem_toArray, List.getElem_cons_zero, List.getElem_cons_succ]); go_simp <;> with_reducible rfl)
        (try simp only [Act.put, List.getElem_toArray, List.getElem_cons_zero, List.getElem_cons_succ, List.setIfInBounds_toArray, List.set_cons_zero, List.set_cons_succ])
        refine wpAnyH_take (i := 4) (v := ?v4_21) rfl (by kernel_rfl) (by kernel_rfl) (by kernel_rfl) (fun _ _ _ h => h) (Or.inl ⟨by rfl, ?hy4_21⟩) hHeld ?_
        case hy4_21 => (intro w hSw; (try dsimp only at hSw); (try simp only [List.getElem_toArray, List.getElem_cons_zero, List.getElem_cons_succ]); go_simp <;> with_reducible rfl)
        (try simp only [Act.put, List.getElem_toArray, List.getElem_cons_zero, List.getElem_cons_succ, List.setIfInBounds_toArray, List.set_cons_zero, List.set_cons_succ])
        refine wpAnyH_ready (rs := [5]) (by kernel_rfl) (by simp) ?_
        refine AllReadyH.cons rfl (fun K hK => ?_) AllReadyH.nil
        (try simp only [List.getElem_toArray, List.getElem_cons_zero, List.getElem_cons_succ])
        go_simp
        refine (agree19_any w8.heap.size w3.heap.size y2 y B2 d2 fs B d ks 1 0 w9.drew (by exact R9.out.step (Below.refl _ _).drew) (by exact (Q8.out.rs.step B9.out).step (Below.refl _ _).drew) (by rw [E9.out, Q8.out.kk]) (by rw [E9.out]; exact Q8.out.os)).mono ?_
        rintro e w10 ⟨rfl, hb⟩
        have D10 : Hid (Below w9.heap.size w9 w10) := Lib.hid ((Below.refl _ _).drew.trans hb)
        have B10 := Lib.hid (bel_next B9.out D10.out)
        have R10 := Lib.hid (R9.out.step D10.out)
        have K10 := Lib.hid (K9.out.step D10.out)
        clear hb
        (try go_wp2_with fail)
        refine hK.out _ _ K10.out (fun hHeld => ?_)
        clear hK K
        (try simp only [Act.put, List.getElem_toArray, List.getElem_cons_zero, List.getElem_cons_succ, List.setIfInBounds_toArray, List.set_cons_zero, List.set_cons_succ])
        refine wpAnyH_take (i := 6) (v := ?v6_22) rfl (by kernel_rfl) (by kernel_rfl) (by kernel_rfl) (fun _ _ _ h => h) (Or.inl ⟨by rfl, ?hy6_22⟩) hHeld ?_
        case hy6_22 => (intro w hSw; (try dsimp only at hSw); have ql := ldCr_b hSw; (try simp only [List.getElem_toArray, List.getElem_cons_zero, List.getElem_cons_succ]); go_simp <;> with_reducible rfl)
        (try simp only [Act.put, List.getElem_toArray, List.getElem_cons_zero, List.getElem_cons_succ, List.setIfInBounds_toArray, List.set_cons_zero, List.set_cons_succ])
        refine wpAnyH_take (i := 7) (v := ?v7_23) rfl (by kernel_rfl) (by kernel_rfl) (by kernel_rfl) (fun _ _ _ h => h) (Or.inl ⟨by rfl, ?hy7_23⟩) hHeld ?_
        case hy7_23 => (intro w hSw; (try dsimp only at hSw); have ql := ldCr_b hSw; (try simp only [List.getElem_toArray, List.getElem_cons_zero, List.getElem_cons_succ]); go_simp <;> with_reducible rfl)
        (try simp only [Act.put, List.getElem_toArray, List.getElem_cons_zero, List.getElem_cons_succ, List.setIfInBounds_toArray, List.set_cons_zero, List.set_cons_succ])
        refine wpAnyH_take (i := 8) (v := ?v8_24) rfl (by kernel_rfl) (by kernel_rfl) (by kernel_rfl) (fun _ _ _ h => h) (Or.inl ⟨by rfl, ?hy8_24⟩) hHeld ?_
        case hy8_24 => (intro w hSw; (try dsimp only at hSw); have ql := ldCr_b hSw; (try simp only [List.getElem_toArray, List.getElem_cons_zero, List.getElem_cons_succ]); go_simp <;> with_reducible rfl)
        (try simp only [Act.put, List.getElem_toArray, List.getElem_cons_zero, List.getElem_cons_succ, List.setIfInBounds_toArray, List.set_cons_zero, List.set_cons_succ])
        refine wpAnyH_take (i := 9) (v := ?v9_25) rfl (by kernel_rfl) (by kernel_rfl) (by kernel_rfl) (fun _ _ _ h => h) (Or.inl ⟨by rfl, ?hy9_25⟩) hHeld ?_
        case hy9_25 => (intro w hSw; (try dsimp only at hSw); have ql := ldCr_b hSw; (try simp only [List.getElem_toArray, List.getElem_cons_zero, List.getElem_cons_succ]); go_simp <;> with_reducible rfl)
        (try simp only [Act.put, List.getElem_toArray, List.getElem_cons_zero, List.getElem_cons_succ, List.setIfInBounds_toArray, List.set_cons_zero, List.set_cons_succ])
        refine wpAnyH_take (i := 11) (v := ?v11_26) rfl (by kernel_rfl) (by kernel_rfl) (by kernel_rfl) (fun _ _ _ h => h) (Or.inl ⟨by rfl, ?hy11_26⟩) hHeld ?_
        case hy11_26 => (intro w hSw; (try dsimp only at hSw); have ql := ldCr_b hSw; (try simp only [List.getElem_toArray, List.getElem_cons_zero, List.getElem_cons_succ]); go_simp <;> with_reducible rfl)
        (try simp only [Act.put, List.getElem_toArray, List.getElem_cons_zero, List.getElem_cons_succ, List.setIfInBounds_toArray, List.set_cons_zero, List.set_cons_succ])
        refine wpAnyH_ready (rs := [10]) (by kernel_rfl) (by simp) ?_
        refine AllReadyH.cons rfl (fun K hK => ?_) AllReadyH.nil
        (try simp only [List.getElem_toArray, List.getElem_cons_zero, List.getElem_cons_succ])
        go_simp
        refine (rcopy_any _ y B d ks w10 (by exact Q8.out.rs.step B10.out) (by have := HL.out.2; omega)).mono ?_
        rintro e w11 ⟨y3, B3, d3, rfl, hb, hr⟩
        have P11 : Hid (PR w8 y2 y3 s s [] w11) := Lib.hid (PR.pair R10.out B10.out hb hr E9.out Q8.out.kk Q8.out.os Q8.out.os)
        have K11 := Lib.hid (K10.out.step hb)
        clear hb hr
        (try go_wp2_with fail)
        refine hK.out _ _ K11.out (fun hHeld => ?_)
        clear hK K
        (try simp only [Act.put, List.getElem_toArray, List.getElem_cons_zero, List.getElem_cons_succ, List.setIfInBounds_toArray, List.set_cons_zero, List.set_cons_succ])
        refine wpAnyH_ready (rs := [12]) (by kernel_rfl) (by simp) ?_
        refine AllReadyH.cons rfl (fun K hK => ?_) AllReadyH.nil
        (try simp only [List.getElem_toArray, List.getElem_cons_zero, List.getElem_cons_succ])
        go_simp
        refine (do19_any w8 y2 y3 s s w11 (by exact P11.out) x2 (by exact (HZ.out.below (bel_next HB3.out Q8.out.bel)).more (bel_next HB3.out Q8.out.bel).size) (by exact HG2.out)).mono ?_
        rintro e w12 ⟨he12, hp⟩
        rw [beq_self_eq_true] at he12
        subst he12
        have B12 := Lib.hid hp.bel
        have K12 := Lib.hid (K8.out.step hp.bel)
        clear hp
        (try go_wp2_with fail)
        refine hK.out _ _ K12.out (fun hHeld => ?_)
        clear hK K
        (try simp only [Act.put, List.getElem_toArray, List.getElem_cons_zero, List.getElem_cons_succ, List.setIfInBounds_toArray, List.set_cons_zero, List.set_cons_succ])
        refine wpAnyH_take (i := 13) (v := ?v13_27) rfl (by kernel_rfl) (by kernel_rfl) (by kernel_rfl) (fun _ _ _ h => h) (Or.inl ⟨by rfl, ?hy13_27⟩) hHeld ?_
        case hy13_27 => (intro w hSw; (try dsimp only at hSw); (try simp only [List.getElem_toArray, List.getElem_cons_zero, List.getElem_cons_succ]); go_simp <;> with_reducible rfl)
        (try simp only [Act.put, List.getElem_toArray, List.getElem_cons_zero, List.getElem_cons_succ, List.setIfInBounds_toArray, List.set_cons_zero, List.set_cons_succ])
        refine wpAnyH_take (i := 14) (v := ?v14_28) rfl (by kernel_rfl) (by kernel_rfl) (by kernel_rfl) (fun _ _ _ h => h) (Or.inl ⟨by rfl, ?hy14_28⟩) hHeld ?_
        case hy14_28 => (intro w hSw; (try dsimp only at hSw); (try simp only [List.getElem_toArray, List.getElem_cons_zero, List.getElem_cons_succ]); go_simp <;> with_reducible rfl)
        (try simp only [Act.put, List.getElem_toArray, List.getElem_cons_zero, List.getElem_cons_succ, List.setIfInBounds_toArray, List.set_cons_zero, List.set_cons_succ])
        refine wpAnyH_take (i := 15) (v := ?v15_29) rfl (by kernel_rfl) (by kernel_rfl) (by kernel_rfl) (fun _ _ _ h => h) (Or.inl ⟨by rfl, ?hy15_29⟩) hHeld ?_
        case hy15_29 => (intro w hSw; (try dsimp only at hSw); (try simp only [List.getElem_toArray, List.getElem_cons_zero, List.getElem_cons_succ]); go_simp <;> with_reducible rfl)
        (try simp only [Act.put, List.getElem_toArray, List.getElem_cons_zero, List.getElem_cons_succ, List.setIfInBounds_toArray, List.set_cons_zero, List.set_cons_succ])
        refine wpAnyH_take (i := 16) (v := ?v16_30) rfl (by kernel_rfl) (by kernel_rfl) (by kernel_rfl) (fun _ _ _ h => h) (Or.inl ⟨by rfl, ?hy16_30⟩) hHeld ?_
        case hy16_30 => (intro w hSw; (try dsimp only at hSw); (try simp only [List.getElem_toArray, List.getElem_cons_zero, List.getElem_cons_succ]); go_simp <;> with_reducible rfl)
        (try simp only [Act.put, List.getElem_toArray, List.getElem_cons_zero, List.getElem_cons_succ, List.setIfInBounds_toArray, List.set_cons_zero, List.set_cons_succ])
        refine wpAnyH_ready (rs := [17]) (by kernel_rfl) (by simp) ?_
        refine AllReadyH.cons rfl (fun K hK => ?_) AllReadyH.nil
        (try simp only [List.getElem_toArray, List.getElem_cons_zero, List.getElem_cons_succ])
        go_simp
        refine (agree19_any w3.heap.size w3.heap.size x y A c es B d ks 1 0 w12 (by exact Q8.out.rn.step B12.out) (by exact Q8.out.rs.step B12.out) (by rw [Q8.out.ee, Q8.out.kk]) (by rw [Q8.out.ee]; exact Q8.out.os)).mono ?_
        rintro e w13 ⟨rfl, hb⟩
        have K13 := Lib.hid (K12.out.step hb)
        have B13 : Hid (Below w.heap.size w w13) := Lib.hid (bel_next (bel_next (bel_next HB3.out Q8.out.bel) B12.out) hb)
        clear hb
        (try go_wp2_with fail)
        refine hK.out _ _ K13.out (fun hHeld => ?_)
        clear hK K
        (try simp only [Act.put, List.getElem_toArray, List.getElem_cons_zero, List.getElem_cons_succ, List.setIfInBounds_toArray, List.set_cons_zero, List.set_cons_succ])
        refine wpAnyH_take (i := 18) (v := ?v18_31) rfl (by kernel_rfl) (by kernel_rfl) (by kernel_rfl) (fun _ _ _ h => h) (Or.inl ⟨by rfl, ?hy18_31⟩) hHeld ?_
        case hy18_31 => (intro w hSw; (try dsimp only at hSw); (try simp only [List.getElem_toArray, List.getElem_cons_zero, List.getElem_cons_succ]); go_simp <;> with_reducible rfl)
        (try simp only [Act.put, List.getElem_toArray, List.getElem_cons_zero, List.getElem_cons_succ, List.setIfInBounds_toArray, List.set_cons_zero, List.set_cons_succ])
        refine wpAnyH_take (i := 19) (v := ?v19_32) rfl (by kernel_rfl) (by kernel_rfl) (by kernel_rfl) (fun _ _ _ h => h) (Or.inl ⟨by rfl, ?hy19_32⟩) hHeld ?_
        case hy19_32 => (intro w hSw; (try dsimp only at hSw); (try simp only [List.getElem_toArray, List.getElem_cons_zero, List.getElem_cons_succ]); go_simp <;> with_reducible rfl)
        (try simp only [Act.put, List.getElem_toArray, List.getElem_cons_zero, List.getElem_cons_succ, List.setIfInBounds_toArray, List.set_cons_zero, List.set_cons_succ])
        refine wpAnyH_done (by kernel_rfl) ?_ _
        go_wp2_with fail
        go_ret
        exact ⟨rfl, B13.out⟩
end Go.Proofs.Ytlapnfpdkfhfdaa
