/- Layer 12's reference: Same; the statements' of. Conditions: rows of at most a million bytes for Of. -/
import Derived.Test.YtdkdgcpknephnaaGreatStP
namespace Go.Proofs.YtdkdgcpknephnaaGreat
open Go.RowKit
set_option linter.unusedVariables false
set_option linter.unusedSimpArgs false
attribute [local go_sem ↓] ex_ldHd ex_stHd ex_ldHr ex_stHr ex_ldS ex_ldSr ex_stS ex_stSr
set_option maxRecDepth 100000 in
set_option maxHeartbeats 1000000 in
theorem rssame_any (i j : In) (w : World) (hi : i.ok w) (hj : j.ok w) (v : Bool) (hv : decide (i.pl = j.pl) = v) :
    Calls Tryz.prog 16 #[i.val, j.val] w fun e w' => e = .returned (.bool v) ∧ Below w.heap.size w w' := by
  obtain ⟨v1, e1⟩ : ∃ v1, decide (i.h.pl = j.h.pl) = v1 := ⟨_, rfl⟩
  obtain ⟨v2, e2⟩ : ∃ v1, (i.t == j.t) = v1 := ⟨_, rfl⟩
  obtain ⟨v3, e3⟩ : ∃ v1, (i.r == j.r) = v1 := ⟨_, rfl⟩
  obtain rfl : v = (v1 && v2 && v3) := by
    rw [← hv, ← e1, ← e2, ← e3, Bool.eq_iff_iff]
    simp only [In.pl, decide_eq_true_eq, Bool.and_eq_true, beq_iff_eq, Prod.mk.injEq]
    exact ⟨fun ⟨a, b, c⟩ => ⟨⟨a, b⟩, c⟩, fun ⟨⟨a, b⟩, c⟩ => ⟨a, b, c⟩⟩
  have HI := Lib.hid hi
  have HJ := Lib.hid hj
  have E1 := Lib.hid e1
  have E2 := Lib.hid e2
  have E3 := Lib.hid e3
  have s2 := (strL_beq i.t j.t).trans e2
  have s3 := (strL_beq i.r j.r).trans e3
  clear hi hj hv e1 e2 e3
  rcases v1 with _ | _
  · go_enter Tryz.func16, Tryz.ntmps16
    go_wp2_with (first
      | (with_reducible show wpList _ _ _ (⟨_, .box _ (.tmp 0), _, _, _, none⟩ :: _) _ _; refine wpList_boxI rfl _ (.tmp 0) rfl i rfl ?_; intro w1 q hc1 hb1 hx1; have H1 := Lib.hid (And.intro hc1 hb1); clear hc1 hb1 hx1)
      | (with_reducible show wpList _ _ _ (⟨_, .box _ (.tmp 1), _, _, _, none⟩ :: _) _ _; refine wpList_boxI rfl _ (.tmp 1) rfl j rfl ?_; intro w2 p hc2 hb2 hx2; have H2 := Lib.hid (And.intro (H1.out.1.step hb2) (And.intro hc2 (bel_next H1.out.2 hb2))); clear hc2 hb2 hx2 H1)
      | (refine wpList_ldIh ht_ref rfl (.tmp 5) rfl q rfl i (by exact H2.out.1) ?_)
      | (refine wpList_ldIh ht_ref rfl (.tmp 7) rfl p rfl j (by exact H2.out.2.1) ?_))
    refine (rhsame_any i.h j.h _ (by exact HI.out.h.step H2.out.2.2) (by exact HJ.out.h.step H2.out.2.2) _ E1.out).mono ?_
    rintro e w3 ⟨rfl, hb3⟩
    have B3 := Lib.hid (bel_next H2.out.2.2 hb3)
    have a4 := (H2.out.1.step hb3).c4
    have a5 := (H2.out.1.step hb3).c5
    have b4 := (H2.out.2.1.step hb3).c4
    have b5 := (H2.out.2.1.step hb3).c5
    have RT := Lib.hid (And.intro (HI.out.step B3.out) (HJ.out.step B3.out))
    have t1 := run_str RT.out.1.t i.e
    have t2 := run_str RT.out.2.t j.e
    have t3 := run_str RT.out.1.r i.g
    have t4 := run_str RT.out.2.r j.g
    clear hb3 H2
    go_wp2_with fail
    go_ret
    exact ⟨rfl, B3.out⟩
  rcases v2 with _ | _
  · go_enter Tryz.func16, Tryz.ntmps16
    go_wp2_with (first
      | (with_reducible show wpList _ _ _ (⟨_, .box _ (.tmp 0), _, _, _, none⟩ :: _) _ _; refine wpList_boxI rfl _ (.tmp 0) rfl i rfl ?_; intro w1 q hc1 hb1 hx1; have H1 := Lib.hid (And.intro hc1 hb1); clear hc1 hb1 hx1)
      | (with_reducible show wpList _ _ _ (⟨_, .box _ (.tmp 1), _, _, _, none⟩ :: _) _ _; refine wpList_boxI rfl _ (.tmp 1) rfl j rfl ?_; intro w2 p hc2 hb2 hx2; have H2 := Lib.hid (And.intro (H1.out.1.step hb2) (And.intro hc2 (bel_next H1.out.2 hb2))); clear hc2 hb2 hx2 H1)
      | (refine wpList_ldIh ht_ref rfl (.tmp 5) rfl q rfl i (by exact H2.out.1) ?_)
      | (refine wpList_ldIh ht_ref rfl (.tmp 7) rfl p rfl j (by exact H2.out.2.1) ?_))
    refine (rhsame_any i.h j.h _ (by exact HI.out.h.step H2.out.2.2) (by exact HJ.out.h.step H2.out.2.2) _ E1.out).mono ?_
    rintro e w3 ⟨rfl, hb3⟩
    have B3 := Lib.hid (bel_next H2.out.2.2 hb3)
    have a4 := (H2.out.1.step hb3).c4
    have a5 := (H2.out.1.step hb3).c5
    have b4 := (H2.out.2.1.step hb3).c4
    have b5 := (H2.out.2.1.step hb3).c5
    have RT := Lib.hid (And.intro (HI.out.step B3.out) (HJ.out.step B3.out))
    have t1 := run_str RT.out.1.t i.e
    have t2 := run_str RT.out.2.t j.e
    have t3 := run_str RT.out.1.r i.g
    have t4 := run_str RT.out.2.r j.g
    clear hb3 H2
    go_wp2_with fail
    go_ret
    exact ⟨rfl, B3.out⟩
  rcases v3 with _ | _
  · go_enter Tryz.func16, Tryz.ntmps16
    go_wp2_with (first
      | (with_reducible show wpList _ _ _ (⟨_, .box _ (.tmp 0), _, _, _, none⟩ :: _) _ _; refine wpList_boxI rfl _ (.tmp 0) rfl i rfl ?_; intro w1 q hc1 hb1 hx1; have H1 := Lib.hid (And.intro hc1 hb1); clear hc1 hb1 hx1)
      | (with_reducible show wpList _ _ _ (⟨_, .box _ (.tmp 1), _, _, _, none⟩ :: _) _ _; refine wpList_boxI rfl _ (.tmp 1) rfl j rfl ?_; intro w2 p hc2 hb2 hx2; have H2 := Lib.hid (And.intro (H1.out.1.step hb2) (And.intro hc2 (bel_next H1.out.2 hb2))); clear hc2 hb2 hx2 H1)
      | (refine wpList_ldIh ht_ref rfl (.tmp 5) rfl q rfl i (by exact H2.out.1) ?_)
      | (refine wpList_ldIh ht_ref rfl (.tmp 7) rfl p rfl j (by exact H2.out.2.1) ?_))
    refine (rhsame_any i.h j.h _ (by exact HI.out.h.step H2.out.2.2) (by exact HJ.out.h.step H2.out.2.2) _ E1.out).mono ?_
    rintro e w3 ⟨rfl, hb3⟩
    have B3 := Lib.hid (bel_next H2.out.2.2 hb3)
    have a4 := (H2.out.1.step hb3).c4
    have a5 := (H2.out.1.step hb3).c5
    have b4 := (H2.out.2.1.step hb3).c4
    have b5 := (H2.out.2.1.step hb3).c5
    have RT := Lib.hid (And.intro (HI.out.step B3.out) (HJ.out.step B3.out))
    have t1 := run_str RT.out.1.t i.e
    have t2 := run_str RT.out.2.t j.e
    have t3 := run_str RT.out.1.r i.g
    have t4 := run_str RT.out.2.r j.g
    clear hb3 H2
    go_wp2_with fail
    go_ret
    exact ⟨rfl, B3.out⟩
  · go_enter Tryz.func16, Tryz.ntmps16
    go_wp2_with (first
      | (with_reducible show wpList _ _ _ (⟨_, .box _ (.tmp 0), _, _, _, none⟩ :: _) _ _; refine wpList_boxI rfl _ (.tmp 0) rfl i rfl ?_; intro w1 q hc1 hb1 hx1; have H1 := Lib.hid (And.intro hc1 hb1); clear hc1 hb1 hx1)
      | (with_reducible show wpList _ _ _ (⟨_, .box _ (.tmp 1), _, _, _, none⟩ :: _) _ _; refine wpList_boxI rfl _ (.tmp 1) rfl j rfl ?_; intro w2 p hc2 hb2 hx2; have H2 := Lib.hid (And.intro (H1.out.1.step hb2) (And.intro hc2 (bel_next H1.out.2 hb2))); clear hc2 hb2 hx2 H1)
      | (refine wpList_ldIh ht_ref rfl (.tmp 5) rfl q rfl i (by exact H2.out.1) ?_)
      | (refine wpList_ldIh ht_ref rfl (.tmp 7) rfl p rfl j (by exact H2.out.2.1) ?_))
    refine (rhsame_any i.h j.h _ (by exact HI.out.h.step H2.out.2.2) (by exact HJ.out.h.step H2.out.2.2) _ E1.out).mono ?_
    rintro e w3 ⟨rfl, hb3⟩
    have B3 := Lib.hid (bel_next H2.out.2.2 hb3)
    have a4 := (H2.out.1.step hb3).c4
    have a5 := (H2.out.1.step hb3).c5
    have b4 := (H2.out.2.1.step hb3).c4
    have b5 := (H2.out.2.1.step hb3).c5
    have RT := Lib.hid (And.intro (HI.out.step B3.out) (HJ.out.step B3.out))
    have t1 := run_str RT.out.1.t i.e
    have t2 := run_str RT.out.2.t j.e
    have t3 := run_str RT.out.1.r i.g
    have t4 := run_str RT.out.2.r j.g
    clear hb3 H2
    go_wp2_with fail
    go_ret
    exact ⟨rfl, B3.out⟩
set_option maxRecDepth 100000 in
set_option maxHeartbeats 4000000 in
theorem sof_any (i : In) (w : World) (hk : i.ok w) (ha : i.h.a.length ≤ 1000000) (hb : i.h.b.length ≤ 1000000) (ht : i.t.length ≤ 1000000) (hr : i.r.length ≤ 1000000) :
    Calls Tryz.prog 17 #[i.val] w fun e w' => ∃ j : In, e = .returned j.val ∧ j.pl = i.pl ∧ j.own w' w.heap.size ∧ Below w.heap.size w w' := by
  have HK := Lib.hid hk
  clear hk
  go_enter Tryz.func17, Tryz.ntmps17
  go_wp2_with (first
    | (with_reducible show wpList _ _ _ (⟨_, .box _ (.tmp 0), _, _, _, none⟩ :: _) _ _; refine wpList_boxI rfl _ (.tmp 0) rfl i rfl ?_; intro w1 q hc1 hb1 hx1; have H1 := Lib.hid (And.intro hc1 (And.intro hb1 hx1)); clear hc1 hb1 hx1)
    | (with_reducible show wpList _ _ _ (⟨_, .alloc _, _, _, _, none⟩ :: _) _ _; refine wpList_newI rt_sr rfl rfl ?_; intro w2 p hc2 hb2 hx2; have H2 := Lib.hid (And.intro hc2 (And.intro hb2 hx2)); clear hc2 hb2 hx2))
  have hpq : p ≠ q := fun e => by
    have h1 := H1.out.1.blk.lt
    have h2 := H2.out.2.2
    omega
  have HC2 : Ic 35 w2.drew q i := H1.out.1.step H2.out.2.1.drew
  have HP2 : Hid (Ic 40 w2.drew p zeroI) := Lib.hid H2.out.1
  have BL2 : Hid (Below w.heap.size w w2.drew) := Lib.hid (bel_next H1.out.2.1 H2.out.2.1).drew
  have LP : Hid (w.heap.size ≤ p) := Lib.hid (Nat.le_trans H1.out.2.1.size H2.out.2.2)
  clear H1 H2
  refine wp_region_held_drew (S := fun w' => Ic 35 w' q i) (by kernel_rfl) HC2 (fun hHeld => ?_)
  (try dsimp only at hHeld)
  refine wpAnyH_take (i := 0) (v := ?v0_1) rfl (by kernel_rfl) (by kernel_rfl) (by kernel_rfl) (fun _ _ _ h => h) (Or.inl ⟨by rfl, ?hy0_1⟩) hHeld ?_
  case hy0_1 => (intro w hSw; (try dsimp only at hSw); have q0 := hSw.c4; have q1 := hSw.c5; have q2 := hSw.ldh ht_head; (try simp only [List.getElem_toArray, List.getElem_cons_zero, List.getElem_cons_succ]); go_simp <;> with_reducible rfl)
  (try simp only [Act.put, List.getElem_toArray, List.getElem_cons_zero, List.getElem_cons_succ, List.setIfInBounds_toArray, List.set_cons_zero, List.set_cons_succ])
  refine wpAnyH_take (i := 1) (v := ?v1_2) rfl (by kernel_rfl) (by kernel_rfl) (by kernel_rfl) (fun _ _ _ h => h) (Or.inl ⟨by rfl, ?hy1_2⟩) hHeld ?_
  case hy1_2 => (intro w hSw; (try dsimp only at hSw); have q0 := hSw.c4; have q1 := hSw.c5; have q2 := hSw.ldh ht_head; (try simp only [List.getElem_toArray, List.getElem_cons_zero, List.getElem_cons_succ]); go_simp <;> with_reducible rfl)
  (try simp only [Act.put, List.getElem_toArray, List.getElem_cons_zero, List.getElem_cons_succ, List.setIfInBounds_toArray, List.set_cons_zero, List.set_cons_succ])
  refine wpAnyH_take (i := 3) (v := ?v3_3) rfl (by kernel_rfl) (by kernel_rfl) (by kernel_rfl) (fun _ _ _ h => h) (Or.inl ⟨by rfl, ?hy3_3⟩) hHeld ?_
  case hy3_3 => (intro w hSw; (try dsimp only at hSw); have q0 := hSw.c4; have q1 := hSw.c5; have q2 := hSw.ldh ht_head; (try simp only [List.getElem_toArray, List.getElem_cons_zero, List.getElem_cons_succ]); go_simp <;> with_reducible rfl)
  (try simp only [Act.put, List.getElem_toArray, List.getElem_cons_zero, List.getElem_cons_succ, List.setIfInBounds_toArray, List.set_cons_zero, List.set_cons_succ])
  refine wpAnyH_take (i := 4) (v := ?v4_4) rfl (by kernel_rfl) (by kernel_rfl) (by kernel_rfl) (fun _ _ _ h => h) (Or.inl ⟨by rfl, ?hy4_4⟩) hHeld ?_
  case hy4_4 => (intro w hSw; (try dsimp only at hSw); have q0 := hSw.c4; have q1 := hSw.c5; have q2 := hSw.ldh ht_head; (try simp only [List.getElem_toArray, List.getElem_cons_zero, List.getElem_cons_succ]); go_simp <;> with_reducible rfl)
  (try simp only [Act.put, List.getElem_toArray, List.getElem_cons_zero, List.getElem_cons_succ, List.setIfInBounds_toArray, List.set_cons_zero, List.set_cons_succ])
  refine wpAnyH_take (i := 6) (v := ?v6_5) rfl (by kernel_rfl) (by kernel_rfl) (by kernel_rfl) (fun _ _ _ h => h) (Or.inl ⟨by rfl, ?hy6_5⟩) hHeld ?_
  case hy6_5 => (intro w hSw; (try dsimp only at hSw); have q0 := hSw.c4; have q1 := hSw.c5; have q2 := hSw.ldh ht_head; (try simp only [List.getElem_toArray, List.getElem_cons_zero, List.getElem_cons_succ]); go_simp <;> with_reducible rfl)
  (try simp only [Act.put, List.getElem_toArray, List.getElem_cons_zero, List.getElem_cons_succ, List.setIfInBounds_toArray, List.set_cons_zero, List.set_cons_succ])
  refine wpAnyH_take (i := 7) (v := ?v7_6) rfl (by kernel_rfl) (by kernel_rfl) (by kernel_rfl) (fun _ _ _ h => h) (Or.inl ⟨by rfl, ?hy7_6⟩) hHeld ?_
  case hy7_6 => (intro w hSw; (try dsimp only at hSw); have q0 := hSw.c4; have q1 := hSw.c5; have q2 := hSw.ldh ht_head; (try simp only [List.getElem_toArray, List.getElem_cons_zero, List.getElem_cons_succ]); go_simp <;> with_reducible rfl)
  (try simp only [Act.put, List.getElem_toArray, List.getElem_cons_zero, List.getElem_cons_succ, List.setIfInBounds_toArray, List.set_cons_zero, List.set_cons_succ])
  refine wpAnyH_ready (rs := [2]) (by kernel_rfl) (by simp) ?_
  refine AllReadyH.cons rfl (fun K hK => ?_) AllReadyH.nil
  (try simp only [List.getElem_toArray, List.getElem_cons_zero, List.getElem_cons_succ])
  go_simp
  refine (hof_any i.h _ (by exact HK.out.h.step BL2.out) ha hb).mono ?_
  rintro e w3 ⟨g, rfl, hg, ho, hb3⟩
  rw [show g.val = Value.agg #[.int .u8 (g.f.toNat : Int), .int .u32 (g.v : Int), .slice g.A g.a.length g.c, .slice g.B g.b.length g.d] from rfl]
  have HG := Lib.hid hg
  have O3 := Lib.hid (ho.base_le BL2.out.size)
  have BL3 := Lib.hid (bel_next BL2.out hb3)
  have HP3 := Lib.hid (HP2.out.step hb3)
  have HC3 := HC2.step hb3
  clear ho hb3 hg
  (try go_wp2_with fail)
  refine hK.out _ _ HC3 (fun hHeld => ?_)
  clear hK K
  (try simp only [Act.put, List.getElem_toArray, List.getElem_cons_zero, List.getElem_cons_succ, List.setIfInBounds_toArray, List.set_cons_zero, List.set_cons_succ])
  refine wpAnyH_ready (rs := [5]) (by kernel_rfl) (by simp) ?_
  refine AllReadyH.cons rfl (fun K hK => ?_) AllReadyH.nil
  (try simp only [List.getElem_toArray, List.getElem_cons_zero, List.getElem_cons_succ])
  go_simp
  refine (copy_any i.T i.t.length i.e 0 i.t _ (by exact HK.out.t.step BL3.out) (by omega)).mono ?_
  rintro e w4 ⟨A4, c4, rfl, ho, hb4⟩
  have O4 := Lib.hid (ho.base_le BL3.out.size)
  have O3' := Lib.hid (O3.out.step hb4)
  have BL4 := Lib.hid (bel_next BL3.out hb4)
  have HP4 := Lib.hid (HP3.out.step hb4)
  have HC4 := HC3.step hb4
  clear ho hb4 O3
  (try go_wp2_with fail)
  refine hK.out _ _ HC4 (fun hHeld => ?_)
  clear hK K
  (try simp only [Act.put, List.getElem_toArray, List.getElem_cons_zero, List.getElem_cons_succ, List.setIfInBounds_toArray, List.set_cons_zero, List.set_cons_succ])
  refine wpAnyH_ready (rs := [8]) (by kernel_rfl) (by simp) ?_
  refine AllReadyH.cons rfl (fun K hK => ?_) AllReadyH.nil
  (try simp only [List.getElem_toArray, List.getElem_cons_zero, List.getElem_cons_succ])
  go_simp
  refine (copy_any i.R i.r.length i.g 0 i.r _ (by exact HK.out.r.step BL4.out) (by omega)).mono ?_
  rintro e w5 ⟨A5, c5, rfl, ho, hb5⟩
  have O5 := Lib.hid (And.intro (O3'.out.step hb5) (And.intro (O4.out.below hb5) (ho.base_le BL4.out.size)))
  have BL5 := Lib.hid (bel_next BL4.out hb5)
  have HP5 := Lib.hid (HP4.out.step hb5)
  have HC5 := HC4.step hb5
  clear ho hb5 O3' O4
  (try go_wp2_with fail)
  refine hK.out _ _ HC5 (fun hHeld => ?_)
  clear hK K
  (try simp only [Act.put, List.getElem_toArray, List.getElem_cons_zero, List.getElem_cons_succ, List.setIfInBounds_toArray, List.set_cons_zero, List.set_cons_succ])
  refine wpAnyH_take (i := 9) (v := ?v9_7) rfl (by kernel_rfl) (by kernel_rfl) (by kernel_rfl) (fun _ _ _ h => h) (Or.inl ⟨by rfl, ?hy9_7⟩) hHeld ?_
  case hy9_7 => (intro w hSw; (try dsimp only at hSw); have q0 := hSw.c4; have q1 := hSw.c5; have q2 := hSw.ldh ht_head; (try simp only [List.getElem_toArray, List.getElem_cons_zero, List.getElem_cons_succ]); go_simp <;> with_reducible rfl)
  (try simp only [Act.put, List.getElem_toArray, List.getElem_cons_zero, List.getElem_cons_succ, List.setIfInBounds_toArray, List.set_cons_zero, List.set_cons_succ])
  obtain ⟨J, HV⟩ : ∃ J : In, Hid (J = ⟨g, A4, c4, i.t, A5, c5, i.r⟩) := ⟨_, Lib.hid rfl⟩
  have e9 : J.val = .agg #[.int .u8 (g.f.toNat : Int), .int .u32 (g.v : Int), .slice g.A g.a.length g.c, .slice g.B g.b.length g.d, .slice A4 i.t.length c4, .slice A5 i.r.length c5] := by rw [HV.out]; rfl
  have hpl : J.pl = i.pl := by rw [HV.out]; show (g.pl, _, _) = _; rw [HG.out]; rfl
  have own9 : J.own w5 w.heap.size := by rw [HV.out]; exact ⟨O5.out.1, O5.out.2.1, O5.out.2.2⟩
  have HO9 := Lib.hid (And.intro hpl own9)
  have qs := HP5.out.st rt_sr J
  have E9 := Lib.hid e9
  rw [e9] at qs
  clear hpl own9 e9
  refine wpAnyH_ready (rs := [10]) (by kernel_rfl) (by simp) ?_
  refine AllReadyH.cons rfl (fun K hK => ?_) AllReadyH.nil
  (try simp only [List.getElem_toArray, List.getElem_cons_zero, List.getElem_cons_succ])
  go_simp
  refine hK.out _ _ (HC5.oth (oth_setCells p _ _ _ _ (Oth.refl _ _)) (by simpa using hpq.symm)) (fun hHeld => ?_)
  clear hK K
  (try simp only [Act.put, List.getElem_toArray, List.getElem_cons_zero, List.getElem_cons_succ, List.setIfInBounds_toArray, List.set_cons_zero, List.set_cons_succ])
  refine wpAnyH_done (by kernel_rfl) ?_ _
  go_wp2_with fail
  have hX : Oth [p] w5 (w5.setCells p 0 J.cells) := oth_setCells p _ _ _ _ (Oth.refl _ _)
  have hnp : NoB [p] w5 := HP5.out.blk.nob (by decide)
  exact bodyPost_ret (v := J.val) (res_rec rt_sr rfl _ _ p J.cells rfl (HP5.out.whole _) rfl) rfl ⟨J, rfl, HO9.out.1, HO9.out.2.off hX hnp, BL5.out.trans (hX.below (fun j hj => by rw [List.mem_singleton.1 hj]; exact LP.out) BL5.out.size)⟩
end Go.Proofs.YtdkdgcpknephnaaGreat
