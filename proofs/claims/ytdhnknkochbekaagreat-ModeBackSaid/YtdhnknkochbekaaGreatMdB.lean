/- Layer 16: Bytes. Condition: the key has sixteen bytes, the numbers are words. -/
import Derived.Test.YtdhnknkochbekaaGreatMdA
import Derived.Test.YtdhnknkochbekaaGreatOctAll
import Derived.Test.YtdhnknkochbekaaGreatRowsIn
namespace Go.Proofs.YtdhnknkochbekaaGreat
open Go.RowKit
set_option linter.unusedVariables false
set_option linter.unusedSimpArgs false
attribute [local irreducible] Cfg.val Cfg.cells rtB Rt zK sizeC AV bytC rawC
attribute [local go_sem ↓] ex_ldC ex_ldR ex_ldK

theorem w8 (x : UInt8) : IntKind.u8.wrap (x.toNat : Int) = (x.toNat : Int) := by
  rw [IntKind.wrap_u8]
  have := x.toNat_lt
  omega
set_option maxRecDepth 100000 in
set_option maxHeartbeats 4000000 in
theorem mbytes_any (c : Cfg) (h : c.ok) (w : World) :
    Calls Tryz.prog 17 #[c.val] w (RetB (bytC c).length (bytC c) w) := by
  have HC := Lib.hid h
  cases hr : rtB c
  · have HE : Hid (bytC c = []) := Lib.hid (byt_no hr)
    have HR := Lib.hid (fun u => mright_any c h false hr u)
    clear h hr
    go_enter Tryz.func17, Tryz.ntmps17
    go_wp2_with (first | (refine wpList_boxB rfl 24 (.tmp 0) rfl c.cells (val_agg c) ?_; intro w1 q hc1 hb1 hx1; have K1 := Lib.hid (And.intro hc1 (And.intro hb1 hx1)); have c0 := cf0 (K1.out.1); have c1 := cf1 (K1.out.1); have c2 := cf2 (K1.out.1); have ql := ld_cfg rt_cfg (K1.out.1) HC.out; have qk := ld_key (K1.out.1) HC.out; clear hc1 hb1 hx1))
    refine (HR.out _).mono ?_
    rintro e w2 ⟨rfl, hb⟩
    have K2 := Lib.hid (bel_next K1.out.2.1 hb)
    clear hb
    go_wp2_with fail
    go_ret
    rw [HE.out]
    exact ⟨none, 0, rfl, OwnB.nil_ _ _, K2.out⟩
  · have HE : Hid (bytC c = rawC c) := Lib.hid (byt_ok hr)
    have HL : Hid ((rawC c).length = 20) := Lib.hid (raw_len h.k)
    obtain ⟨r1, r2, r3, r4, _, _⟩ := rt_unf (rt_of hr)
    have E0 : Hid (c.m = ((b8 c.m).toNat : Int)) := Lib.hid (b8_nat r1.1 (by omega)).symm
    have E1 : Hid (c.s = ((b8 c.s).toNat : Int)) := Lib.hid (b8_nat (by omega) (by omega)).symm
    have E2 : Hid (c.n = ((b8 c.n).toNat : Int)) := Lib.hid (b8_nat (by omega) (by omega)).symm
    have HRW : Hid ([b8 c.m, b8 c.s, b8 c.n, 0] ++ c.k = rawC c) := Lib.hid (by unfold rawC; rfl)
    obtain ⟨x0, hx0⟩ : ∃ x, b8 c.m = x := ⟨_, rfl⟩
    obtain ⟨x1, hx1⟩ : ∃ x, b8 c.s = x := ⟨_, rfl⟩
    obtain ⟨x2, hx2⟩ : ∃ x, b8 c.n = x := ⟨_, rfl⟩
    rw [hx0] at E0 HRW
    rw [hx1] at E1 HRW
    rw [hx2] at E2 HRW
    have l0 := byte_lt x0
    have l1 := byte_lt x1
    have l2 := byte_lt x2
    have HR := Lib.hid (fun u => mright_any c h true hr u)
    clear h hr r1 r2 r3 r4 hx0 hx1 hx2
    go_enter Tryz.func17, Tryz.ntmps17
    go_wp2_with (first | (refine wpList_boxB rfl 24 (.tmp 0) rfl c.cells (val_agg c) ?_; intro w1 q hc1 hb1 hx1; have K1 := Lib.hid (And.intro hc1 (And.intro hb1 hx1)); have c0 := cf0 (K1.out.1); have c1 := cf1 (K1.out.1); have c2 := cf2 (K1.out.1); have ql := ld_cfg rt_cfg (K1.out.1) HC.out; have qk := ld_key (K1.out.1) HC.out; clear hc1 hb1 hx1))
    refine (HR.out _).mono ?_
    rintro e w2 ⟨rfl, hb⟩
    have K2 := Lib.hid (And.intro (K1.out.1.step hb) (bel_next K1.out.2.1 hb))
    clear hb c0 c1 c2 ql qk
    go_wp2_with fail
    have HD : Blk 24 w2.drew q c.cells := K2.out.1
    refine wp_region_held_drew (S := fun w' => Blk 24 w' q c.cells) (by kernel_rfl) HD (fun hHeld => ?_)
    (try dsimp only at hHeld)
    refine wpAnyH_take (i := 0) (v := ?v0_1) rfl (by kernel_rfl) (by kernel_rfl) (by kernel_rfl) (fun _ _ _ h => h) (Or.inl ⟨by rfl, ?hy0_1⟩) hHeld ?_
    case hy0_1 => (intro w hSw; (try dsimp only at hSw); have q0 := cf0 hSw; have q1 := cf1 hSw; have q2 := cf2 hSw; rw [E0.out] at q0; rw [E1.out] at q1; rw [E2.out] at q2; have q3 := key_slice q w; (try simp only [List.getElem_toArray, List.getElem_cons_zero, List.getElem_cons_succ]); go_simp <;> with_reducible rfl)
    (try simp only [Act.put, List.getElem_toArray, List.getElem_cons_zero, List.getElem_cons_succ, List.setIfInBounds_toArray, List.set_cons_zero, List.set_cons_succ])
    refine wpAnyH_take (i := 1) (v := ?v1_2) rfl (by kernel_rfl) (by kernel_rfl) (by kernel_rfl) (fun _ _ _ h => h) (Or.inl ⟨by rfl, ?hy1_2⟩) hHeld ?_
    case hy1_2 => (intro w hSw; (try dsimp only at hSw); have q0 := cf0 hSw; have q1 := cf1 hSw; have q2 := cf2 hSw; rw [E0.out] at q0; rw [E1.out] at q1; rw [E2.out] at q2; have q3 := key_slice q w; (try simp only [List.getElem_toArray, List.getElem_cons_zero, List.getElem_cons_succ]); go_simp <;> with_reducible rfl)
    (try simp only [Act.put, List.getElem_toArray, List.getElem_cons_zero, List.getElem_cons_succ, List.setIfInBounds_toArray, List.set_cons_zero, List.set_cons_succ])
    refine wpAnyH_take (i := 2) (v := ?v2_3) rfl (by kernel_rfl) (by kernel_rfl) (by kernel_rfl) (fun _ _ _ h => h) (Or.inl ⟨by rfl, ?hy2_3⟩) hHeld ?_
    case hy2_3 => (intro w hSw; (try dsimp only at hSw); have q0 := cf0 hSw; have q1 := cf1 hSw; have q2 := cf2 hSw; rw [E0.out] at q0; rw [E1.out] at q1; rw [E2.out] at q2; have q3 := key_slice q w; (try simp only [List.getElem_toArray, List.getElem_cons_zero, List.getElem_cons_succ]); go_simp <;> with_reducible rfl)
    (try simp only [Act.put, List.getElem_toArray, List.getElem_cons_zero, List.getElem_cons_succ, List.setIfInBounds_toArray, List.set_cons_zero, List.set_cons_succ])
    refine wpAnyH_take (i := 3) (v := ?v3_4) rfl (by kernel_rfl) (by kernel_rfl) (by kernel_rfl) (fun _ _ _ h => h) (Or.inl ⟨by rfl, ?hy3_4⟩) hHeld ?_
    case hy3_4 => (intro w hSw; (try dsimp only at hSw); have q0 := cf0 hSw; have q1 := cf1 hSw; have q2 := cf2 hSw; rw [E0.out] at q0; rw [E1.out] at q1; rw [E2.out] at q2; have q3 := key_slice q w; (try simp only [List.getElem_toArray, List.getElem_cons_zero, List.getElem_cons_succ]); go_simp <;> with_reducible rfl)
    (try simp only [Act.put, List.getElem_toArray, List.getElem_cons_zero, List.getElem_cons_succ, List.setIfInBounds_toArray, List.set_cons_zero, List.set_cons_succ])
    refine wpAnyH_take (i := 4) (v := ?v4_5) rfl (by kernel_rfl) (by kernel_rfl) (by kernel_rfl) (fun _ _ _ h => h) (Or.inl ⟨by rfl, ?hy4_5⟩) hHeld ?_
    case hy4_5 => (intro w hSw; (try dsimp only at hSw); have q0 := cf0 hSw; have q1 := cf1 hSw; have q2 := cf2 hSw; rw [E0.out] at q0; rw [E1.out] at q1; rw [E2.out] at q2; have q3 := key_slice q w; (try simp only [List.getElem_toArray, List.getElem_cons_zero, List.getElem_cons_succ]); go_simp <;> with_reducible rfl)
    (try simp only [Act.put, List.getElem_toArray, List.getElem_cons_zero, List.getElem_cons_succ, List.setIfInBounds_toArray, List.set_cons_zero, List.set_cons_succ])
    refine wpAnyH_take (i := 5) (v := ?v5_6) rfl (by kernel_rfl) (by kernel_rfl) (by kernel_rfl) (fun _ _ _ h => h) (Or.inl ⟨by rfl, ?hy5_6⟩) hHeld ?_
    case hy5_6 => (intro w hSw; (try dsimp only at hSw); have q0 := cf0 hSw; have q1 := cf1 hSw; have q2 := cf2 hSw; rw [E0.out] at q0; rw [E1.out] at q1; rw [E2.out] at q2; have q3 := key_slice q w; (try simp only [List.getElem_toArray, List.getElem_cons_zero, List.getElem_cons_succ]); go_simp <;> with_reducible rfl)
    (try simp only [Act.put, List.getElem_toArray, List.getElem_cons_zero, List.getElem_cons_succ, List.setIfInBounds_toArray, List.set_cons_zero, List.set_cons_succ])
    refine wpAnyH_take (i := 6) (v := ?v6_7) rfl (by kernel_rfl) (by kernel_rfl) (by kernel_rfl) (fun _ _ _ h => h) (Or.inl ⟨by rfl, ?hy6_7⟩) hHeld ?_
    case hy6_7 => (intro w hSw; (try dsimp only at hSw); have q0 := cf0 hSw; have q1 := cf1 hSw; have q2 := cf2 hSw; rw [E0.out] at q0; rw [E1.out] at q1; rw [E2.out] at q2; have q3 := key_slice q w; (try simp only [List.getElem_toArray, List.getElem_cons_zero, List.getElem_cons_succ]); go_simp <;> with_reducible rfl)
    (try simp only [Act.put, List.getElem_toArray, List.getElem_cons_zero, List.getElem_cons_succ, List.setIfInBounds_toArray, List.set_cons_zero, List.set_cons_succ])
    refine wpAnyH_take (i := 7) (v := ?v7_8) rfl (by kernel_rfl) (by kernel_rfl) (by kernel_rfl) (fun _ _ _ h => h) (Or.inl ⟨by rfl, ?hy7_8⟩) hHeld ?_
    case hy7_8 => (intro w hSw; (try dsimp only at hSw); have q0 := cf0 hSw; have q1 := cf1 hSw; have q2 := cf2 hSw; rw [E0.out] at q0; rw [E1.out] at q1; rw [E2.out] at q2; have q3 := key_slice q w; (try simp only [List.getElem_toArray, List.getElem_cons_zero, List.getElem_cons_succ]); go_simp <;> with_reducible rfl)
    (try simp only [Act.put, List.getElem_toArray, List.getElem_cons_zero, List.getElem_cons_succ, List.setIfInBounds_toArray, List.set_cons_zero, List.set_cons_succ])
    refine wpAnyH_take (i := 8) (v := ?v8_9) rfl (by kernel_rfl) (by kernel_rfl) (by kernel_rfl) (fun _ _ _ h => h) (Or.inl ⟨by rfl, ?hy8_9⟩) hHeld ?_
    case hy8_9 => (intro w hSw; (try dsimp only at hSw); have q0 := cf0 hSw; have q1 := cf1 hSw; have q2 := cf2 hSw; rw [E0.out] at q0; rw [E1.out] at q1; rw [E2.out] at q2; have q3 := key_slice q w; (try simp only [List.getElem_toArray, List.getElem_cons_zero, List.getElem_cons_succ]); go_simp <;> with_reducible rfl)
    (try simp only [Act.put, List.getElem_toArray, List.getElem_cons_zero, List.getElem_cons_succ, List.setIfInBounds_toArray, List.set_cons_zero, List.set_cons_succ])
    refine wpAnyH_take (i := 10) (v := ?v10_10) rfl (by kernel_rfl) (by kernel_rfl) (by kernel_rfl) (fun _ _ _ h => h) (Or.inl ⟨by rfl, ?hy10_10⟩) hHeld ?_
    case hy10_10 => (intro w hSw; (try dsimp only at hSw); have q0 := cf0 hSw; have q1 := cf1 hSw; have q2 := cf2 hSw; rw [E0.out] at q0; rw [E1.out] at q1; rw [E2.out] at q2; have q3 := key_slice q w; (try simp only [List.getElem_toArray, List.getElem_cons_zero, List.getElem_cons_succ]); go_simp <;> with_reducible rfl)
    (try simp only [Act.put, List.getElem_toArray, List.getElem_cons_zero, List.getElem_cons_succ, List.setIfInBounds_toArray, List.set_cons_zero, List.set_cons_succ])
    refine wpAnyH_take (i := 11) (v := ?v11_11) rfl (by kernel_rfl) (by kernel_rfl) (by kernel_rfl) (fun _ _ _ h => h) (Or.inl ⟨by rfl, ?hy11_11⟩) hHeld ?_
    case hy11_11 => (intro w hSw; (try dsimp only at hSw); have q0 := cf0 hSw; have q1 := cf1 hSw; have q2 := cf2 hSw; rw [E0.out] at q0; rw [E1.out] at q1; rw [E2.out] at q2; have q3 := key_slice q w; (try simp only [List.getElem_toArray, List.getElem_cons_zero, List.getElem_cons_succ]); go_simp <;> with_reducible rfl)
    (try simp only [Act.put, List.getElem_toArray, List.getElem_cons_zero, List.getElem_cons_succ, List.setIfInBounds_toArray, List.set_cons_zero, List.set_cons_succ])
    refine wpAnyH_ready (rs := [9]) (by kernel_rfl) (by simp) ?_
    refine AllReadyH.cons rfl (fun K hK => ?_) AllReadyH.nil
    (try simp only [List.getElem_toArray, List.getElem_cons_zero, List.getElem_cons_succ])
    go_simp
    rw [w8 x0, w8 x1, w8 x2]
    obtain ⟨w3, HW3⟩ : ∃ w3, Hid (w3 = w2.alloc (.cells #[.int .u8 (x0.toNat : Int), .int .u8 (x1.toNat : Int), .int .u8 (x2.toNat : Int), .int .u8 0] 5)) := ⟨_, Lib.hid rfl⟩
    have R3 : Hid (RB w3 w3.heap.size (some ⟨w2.heap.size, 0, none⟩) 4 [x0, x1, x2, 0]) := Lib.hid (by rw [HW3.out]; exact RB.lit w2 [x0, x1, x2, 0] _ 4 _ rfl rfl rfl)
    have B3 : Hid (Blk 24 w3 q c.cells ∧ Below w.heap.size w w3) := Lib.hid (by rw [HW3.out]; exact ⟨K2.out.1.step (below_alloc w2 _), bel_next K2.out.2 (below_alloc w2 _)⟩)
    obtain ⟨g, hg⟩ : ∃ g, w2.heap.size = g := ⟨_, rfl⟩
    rw [← HW3.out, hg]
    rw [hg] at R3
    clear hg HW3
    refine hK.out _ _ B3.out.1 (fun hHeld => ?_)
    clear hK K
    (try simp only [Act.put, List.getElem_toArray, List.getElem_cons_zero, List.getElem_cons_succ, List.setIfInBounds_toArray, List.set_cons_zero, List.set_cons_succ])
    refine wpAnyH_ready (rs := [12]) (by kernel_rfl) (by simp) ?_
    refine AllReadyH.cons rfl (fun K hK => ?_) AllReadyH.nil
    (try simp only [List.getElem_toArray, List.getElem_cons_zero, List.getElem_cons_succ])
    go_simp
    have R4 := Lib.hid (RR.lit w3 [(some ⟨g, 0, none⟩, 4, [x0, x1, x2, 0]), (some ⟨q, 3, none⟩, 16, c.k)] #[.slice (some ⟨g, 0, none⟩) 4 4, .slice (some ⟨q, 3, none⟩) 16 16] 25 2 w3.heap.size (by simp [HC.out.k]) rfl rfl (fun r hr => by
      simp only [List.mem_cons, List.not_mem_nil, or_false] at hr
      rcases hr with rfl | rfl
      · exact R3.out
      · simp only [HC.out.k]; exact cf_rb B3.out.1 HC.out.k))
    have B4 := Lib.hid (below_alloc w3 (.cells #[.slice (some ⟨g, 0, none⟩) 4 4, .slice (some ⟨q, 3, none⟩) 16 16] 25)).drew
    refine hK.out _ _ (B3.out.1.step B4.out) (fun hHeld => ?_)
    clear hK K
    (try simp only [Act.put, List.getElem_toArray, List.getElem_cons_zero, List.getElem_cons_succ, List.setIfInBounds_toArray, List.set_cons_zero, List.set_cons_succ])
    refine wpAnyH_ready (rs := [13]) (by kernel_rfl) (by simp) ?_
    refine AllReadyH.cons rfl (fun K hK => ?_) AllReadyH.nil
    (try simp only [List.getElem_toArray, List.getElem_cons_zero, List.getElem_cons_succ])
    go_simp
    refine (join_any _ 2 2 _ _ (by exact R4.out) (by decide) (by simp [totL, HC.out.k])).mono ?_
    rintro e w5 ⟨A5, c5, rfl, ho, hb⟩
    have hto : totL (List.map (fun r : Option Addr × Nat × List UInt8 => r.2.2) [(some ⟨g, 0, none⟩, 4, [x0, x1, x2, 0]), (some ⟨q, 3, none⟩, 16, c.k)]) = 20 := by simp [totL, HC.out.k]
    have hfl : (List.map (fun r : Option Addr × Nat × List UInt8 => r.2.2) [(some ⟨g, 0, none⟩, 4, [x0, x1, x2, 0]), (some ⟨q, 3, none⟩, 16, c.k)]).flatten = rawC c := by rw [← HRW.out]; simp
    rw [hto, hfl] at ho
    rw [hto]
    have BB := Lib.hid (bel_next B3.out.2 B4.out)
    have K5 := Lib.hid (And.intro (ho.base_le BB.out.size) (bel_next BB.out hb))
    have K6 := Lib.hid ((B3.out.1.step B4.out).step hb)
    clear ho hb hto hfl R4
    (try go_wp2_with fail)
    refine hK.out _ _ K6.out (fun hHeld => ?_)
    clear hK K
    (try simp only [Act.put, List.getElem_toArray, List.getElem_cons_zero, List.getElem_cons_succ, List.setIfInBounds_toArray, List.set_cons_zero, List.set_cons_succ])
    refine wpAnyH_take (i := 14) (v := ?v14_12) rfl (by kernel_rfl) (by kernel_rfl) (by kernel_rfl) (fun _ _ _ h => h) (Or.inl ⟨by rfl, ?hy14_12⟩) hHeld ?_
    case hy14_12 => (intro w hSw; (try dsimp only at hSw); have q0 := cf0 hSw; have q1 := cf1 hSw; have q2 := cf2 hSw; rw [E0.out] at q0; rw [E1.out] at q1; rw [E2.out] at q2; have q3 := key_slice q w; (try simp only [List.getElem_toArray, List.getElem_cons_zero, List.getElem_cons_succ]); go_simp <;> with_reducible rfl)
    (try simp only [Act.put, List.getElem_toArray, List.getElem_cons_zero, List.getElem_cons_succ, List.setIfInBounds_toArray, List.set_cons_zero, List.set_cons_succ])
    refine wpAnyH_done (by kernel_rfl) ?_ _
    go_wp2_with fail
    go_ret
    rw [HE.out, HL.out]
    exact ⟨A5, c5, rfl, K5.out.1, K5.out.2⟩

end Go.Proofs.YtdhnknkochbekaaGreat
