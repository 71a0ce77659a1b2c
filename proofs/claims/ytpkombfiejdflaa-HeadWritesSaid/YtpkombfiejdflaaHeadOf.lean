/- Layer 10's statements' Of: a header as the references have it, its ids copied. Conditions: ids of at most a million bytes. -/
import Derived.Test.YtpkombfiejdflaaHeadRb
namespace Go.Proofs.Ytpkombfiejdflaa
open Go.RowKit
set_option linter.unusedVariables false
set_option linter.unusedSimpArgs false
attribute [local go_sem ↓] ex_ldHd ex_stHd ex_ldHr ex_stHr

set_option maxRecDepth 100000 in
set_option maxHeartbeats 4000000 in
theorem of_any (h : Hd) (w : World) (hk : h.ok w) (ha : h.a.length ≤ 1000000) (hb : h.b.length ≤ 1000000) :
    Calls Try.prog 12 #[h.val] w fun e w' => ∃ g : Hd, e = .returned g.val ∧ g.pl = h.pl ∧ g.own w' w.heap.size ∧ Below w.heap.size w w' := by
  have HK := Lib.hid hk
  have v32 := hk.v32
  clear hk
  go_enter Try.func12, Try.ntmps12
  go_wp2_with (first
    | (with_reducible show wpList _ _ _ (⟨_, .box _ (.tmp 0), _, _, _, none⟩ :: _) _ _; refine wpList_boxN rfl _ (.tmp 0) rfl h rfl ?_; intro w1 q hc1 hb1 hx1; have H1 := Lib.hid (And.intro hc1 (And.intro hb1 hx1)); clear hc1 hb1 hx1)
    | (with_reducible show wpList _ _ _ (⟨_, .alloc _, _, _, _, none⟩ :: _) _ _; refine wpList_allocN ht_ref rfl rfl ?_; intro w2 p hc2 hb2 hx2; have H2 := Lib.hid (And.intro hc2 (And.intro hb2 hx2)); clear hc2 hb2 hx2))
  have hpq : p ≠ q := fun e => by
    have h1 := H1.out.1.lt
    have h2 := H2.out.2.2
    omega
  have HC2 : Hc 27 w2.drew q h := H1.out.1.step H2.out.2.1.drew
  have HP2 : Hid (Hc 31 w2.drew p zeroH) := Lib.hid H2.out.1
  have BL2 : Hid (Below w.heap.size w w2.drew) := Lib.hid (bel_next H1.out.2.1 H2.out.2.1).drew
  have LP : Hid (w.heap.size ≤ p) := Lib.hid (Nat.le_trans H1.out.2.1.size H2.out.2.2)
  clear H1 H2
  refine wp_region_held_drew (S := fun w' => Hc 27 w' q h) (by kernel_rfl) HC2 (fun hHeld => ?_)
  (try dsimp only at hHeld)
  refine wpAnyH_take (i := 0) (v := ?v0_1) rfl (by kernel_rfl) (by kernel_rfl) (by kernel_rfl) (fun _ _ _ h => h) (Or.inl ⟨by rfl, ?hy0_1⟩) hHeld ?_
  case hy0_1 => (intro w hSw; (try dsimp only at hSw); have q0 := hSw.c0; have q1 := hSw.c1; have q2 := hSw.c2; have q3 := hSw.c3; (try simp only [List.getElem_toArray, List.getElem_cons_zero, List.getElem_cons_succ]); go_simp <;> with_reducible rfl)
  (try simp only [Act.put, List.getElem_toArray, List.getElem_cons_zero, List.getElem_cons_succ, List.setIfInBounds_toArray, List.set_cons_zero, List.set_cons_succ])
  refine wpAnyH_take (i := 1) (v := ?v1_2) rfl (by kernel_rfl) (by kernel_rfl) (by kernel_rfl) (fun _ _ _ h => h) (Or.inl ⟨by rfl, ?hy1_2⟩) hHeld ?_
  case hy1_2 => (intro w hSw; (try dsimp only at hSw); have q0 := hSw.c0; have q1 := hSw.c1; have q2 := hSw.c2; have q3 := hSw.c3; (try simp only [List.getElem_toArray, List.getElem_cons_zero, List.getElem_cons_succ]); go_simp <;> with_reducible rfl)
  (try simp only [Act.put, List.getElem_toArray, List.getElem_cons_zero, List.getElem_cons_succ, List.setIfInBounds_toArray, List.set_cons_zero, List.set_cons_succ])
  refine wpAnyH_take (i := 2) (v := ?v2_3) rfl (by kernel_rfl) (by kernel_rfl) (by kernel_rfl) (fun _ _ _ h => h) (Or.inl ⟨by rfl, ?hy2_3⟩) hHeld ?_
  case hy2_3 => (intro w hSw; (try dsimp only at hSw); have q0 := hSw.c0; have q1 := hSw.c1; have q2 := hSw.c2; have q3 := hSw.c3; (try simp only [List.getElem_toArray, List.getElem_cons_zero, List.getElem_cons_succ]); go_simp <;> with_reducible rfl)
  (try simp only [Act.put, List.getElem_toArray, List.getElem_cons_zero, List.getElem_cons_succ, List.setIfInBounds_toArray, List.set_cons_zero, List.set_cons_succ])
  refine wpAnyH_take (i := 3) (v := ?v3_4) rfl (by kernel_rfl) (by kernel_rfl) (by kernel_rfl) (fun _ _ _ h => h) (Or.inl ⟨by rfl, ?hy3_4⟩) hHeld ?_
  case hy3_4 => (intro w hSw; (try dsimp only at hSw); have q0 := hSw.c0; have q1 := hSw.c1; have q2 := hSw.c2; have q3 := hSw.c3; (try simp only [List.getElem_toArray, List.getElem_cons_zero, List.getElem_cons_succ]); go_simp <;> with_reducible rfl)
  (try simp only [Act.put, List.getElem_toArray, List.getElem_cons_zero, List.getElem_cons_succ, List.setIfInBounds_toArray, List.set_cons_zero, List.set_cons_succ])
  refine wpAnyH_take (i := 4) (v := ?v4_5) rfl (by kernel_rfl) (by kernel_rfl) (by kernel_rfl) (fun _ _ _ h => h) (Or.inl ⟨by rfl, ?hy4_5⟩) hHeld ?_
  case hy4_5 => (intro w hSw; (try dsimp only at hSw); have q0 := hSw.c0; have q1 := hSw.c1; have q2 := hSw.c2; have q3 := hSw.c3; (try simp only [List.getElem_toArray, List.getElem_cons_zero, List.getElem_cons_succ]); go_simp <;> with_reducible rfl)
  (try simp only [Act.put, List.getElem_toArray, List.getElem_cons_zero, List.getElem_cons_succ, List.setIfInBounds_toArray, List.set_cons_zero, List.set_cons_succ])
  refine wpAnyH_take (i := 5) (v := ?v5_6) rfl (by kernel_rfl) (by kernel_rfl) (by kernel_rfl) (fun _ _ _ h => h) (Or.inl ⟨by rfl, ?hy5_6⟩) hHeld ?_
  case hy5_6 => (intro w hSw; (try dsimp only at hSw); have q0 := hSw.c0; have q1 := hSw.c1; have q2 := hSw.c2; have q3 := hSw.c3; (try simp only [List.getElem_toArray, List.getElem_cons_zero, List.getElem_cons_succ]); go_simp <;> with_reducible rfl)
  (try simp only [Act.put, List.getElem_toArray, List.getElem_cons_zero, List.getElem_cons_succ, List.setIfInBounds_toArray, List.set_cons_zero, List.set_cons_succ])
  refine wpAnyH_take (i := 7) (v := ?v7_7) rfl (by kernel_rfl) (by kernel_rfl) (by kernel_rfl) (fun _ _ _ h => h) (Or.inl ⟨by rfl, ?hy7_7⟩) hHeld ?_
  case hy7_7 => (intro w hSw; (try dsimp only at hSw); have q0 := hSw.c0; have q1 := hSw.c1; have q2 := hSw.c2; have q3 := hSw.c3; (try simp only [List.getElem_toArray, List.getElem_cons_zero, List.getElem_cons_succ]); go_simp <;> with_reducible rfl)
  (try simp only [Act.put, List.getElem_toArray, List.getElem_cons_zero, List.getElem_cons_succ, List.setIfInBounds_toArray, List.set_cons_zero, List.set_cons_succ])
  refine wpAnyH_take (i := 8) (v := ?v8_8) rfl (by kernel_rfl) (by kernel_rfl) (by kernel_rfl) (fun _ _ _ h => h) (Or.inl ⟨by rfl, ?hy8_8⟩) hHeld ?_
  case hy8_8 => (intro w hSw; (try dsimp only at hSw); have q0 := hSw.c0; have q1 := hSw.c1; have q2 := hSw.c2; have q3 := hSw.c3; (try simp only [List.getElem_toArray, List.getElem_cons_zero, List.getElem_cons_succ]); go_simp <;> with_reducible rfl)
  (try simp only [Act.put, List.getElem_toArray, List.getElem_cons_zero, List.getElem_cons_succ, List.setIfInBounds_toArray, List.set_cons_zero, List.set_cons_succ])
  refine wpAnyH_ready (rs := [6]) (by kernel_rfl) (by simp) ?_
  refine AllReadyH.cons rfl (fun K hK => ?_) AllReadyH.nil
  (try simp only [List.getElem_toArray, List.getElem_cons_zero, List.getElem_cons_succ])
  go_simp
  refine (copy_any h.A h.a.length h.c 0 h.a _ (by exact HK.out.a.step BL2.out) (by omega)).mono ?_
  rintro e w3 ⟨A3, c3, rfl, ho, hb3⟩
  have O3 := Lib.hid (ho.base_le BL2.out.size)
  have BL3 := Lib.hid (bel_next BL2.out hb3)
  have HP3 := Lib.hid (HP2.out.step hb3)
  have HC3 := HC2.step hb3
  clear ho hb3
  (try go_wp2_with fail)
  refine hK.out _ _ HC3 (fun hHeld => ?_)
  clear hK K
  (try simp only [Act.put, List.getElem_toArray, List.getElem_cons_zero, List.getElem_cons_succ, List.setIfInBounds_toArray, List.set_cons_zero, List.set_cons_succ])
  refine wpAnyH_ready (rs := [9]) (by kernel_rfl) (by simp) ?_
  refine AllReadyH.cons rfl (fun K hK => ?_) AllReadyH.nil
  (try simp only [List.getElem_toArray, List.getElem_cons_zero, List.getElem_cons_succ])
  go_simp
  refine (copy_any h.B h.b.length h.d 0 h.b _ (by exact HK.out.b.step BL3.out) (by omega)).mono ?_
  rintro e w4 ⟨A4, c4, rfl, ho, hb4⟩
  have O4 := Lib.hid (ho.base_le BL3.out.size)
  have O3' := Lib.hid (O3.out.below hb4)
  have BL4 := Lib.hid (bel_next BL3.out hb4)
  have HP4 := Lib.hid (HP3.out.step hb4)
  have HC4 := HC3.step hb4
  clear ho hb4
  (try go_wp2_with fail)
  refine hK.out _ _ HC4 (fun hHeld => ?_)
  clear hK K
  (try simp only [Act.put, List.getElem_toArray, List.getElem_cons_zero, List.getElem_cons_succ, List.setIfInBounds_toArray, List.set_cons_zero, List.set_cons_succ])
  refine wpAnyH_take (i := 10) (v := ?v10_9) rfl (by kernel_rfl) (by kernel_rfl) (by kernel_rfl) (fun _ _ _ h => h) (Or.inl ⟨by rfl, ?hy10_9⟩) hHeld ?_
  case hy10_9 => (intro w hSw; (try dsimp only at hSw); have q0 := hSw.c0; have q1 := hSw.c1; have q2 := hSw.c2; have q3 := hSw.c3; (try simp only [List.getElem_toArray, List.getElem_cons_zero, List.getElem_cons_succ]); go_simp <;> with_reducible rfl)
  (try simp only [Act.put, List.getElem_toArray, List.getElem_cons_zero, List.getElem_cons_succ, List.setIfInBounds_toArray, List.set_cons_zero, List.set_cons_succ])
  obtain ⟨H9, HV9⟩ : ∃ H9 : Hd, Hid (H9 = ⟨h.f, h.v, A3, c3, h.a, A4, c4, h.b⟩) := ⟨_, Lib.hid rfl⟩
  have e9 : H9.val = .agg #[.int .u8 (h.f.toNat : Int), .int .u32 (h.v : Int), .slice A3 h.a.length c3, .slice A4 h.b.length c4] := by rw [HV9.out]; rfl
  have hpl : H9.pl = h.pl := by rw [HV9.out]; rfl
  have own9 : H9.own w4 w.heap.size := by rw [HV9.out]; exact ⟨O3'.out, O4.out, v32⟩
  have HO9 := Lib.hid (And.intro hpl own9)
  have qs := stHd_m ht_ref HP4.out H9
  have E9 := Lib.hid e9
  rw [e9] at qs
  clear hpl own9 e9
  refine wpAnyH_ready (rs := [11]) (by kernel_rfl) (by simp) ?_
  refine AllReadyH.cons rfl (fun K hK => ?_) AllReadyH.nil
  (try simp only [List.getElem_toArray, List.getElem_cons_zero, List.getElem_cons_succ])
  go_simp
  refine hK.out _ _ (HC4.oth (oth_setCells p _ _ _ _ (Oth.refl _ _)) (by simpa using hpq.symm)) (fun hHeld => ?_)
  clear hK K
  (try simp only [Act.put, List.getElem_toArray, List.getElem_cons_zero, List.getElem_cons_succ, List.setIfInBounds_toArray, List.set_cons_zero, List.set_cons_succ])
  refine wpAnyH_done (by kernel_rfl) ?_ _
  go_wp2_with fail
  have hX : Oth [p] w4 (w4.setCells p 0 H9.cells) := oth_setCells p _ _ _ _ (Oth.refl _ _)
  have hnp : NoB [p] w4 := HP4.out.nob (by decide)
  exact bodyPost_ret (v := H9.val) (res_hd ht_ref rfl _ _ p H9 rfl (HP4.out.whole _)) rfl ⟨H9, rfl, HO9.out.1, HO9.out.2.off hX hnp, BL4.out.trans (hX.below (fun j hj => by rw [List.mem_singleton.1 hj]; exact LP.out) BL4.out.size)⟩
end Go.Proofs.Ytpkombfiejdflaa
