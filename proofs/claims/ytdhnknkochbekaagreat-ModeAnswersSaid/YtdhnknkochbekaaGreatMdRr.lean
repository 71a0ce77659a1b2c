/- Layer 16: the reference's Read. Condition: the slice's cells are readable, it has at most a million bytes. -/
import Derived.Test.YtdhnknkochbekaaGreatMdR
import Derived.Test.YtdhnknkochbekaaGreatMdAr
namespace Go.Proofs.YtdhnknkochbekaaGreat
open Go.RowKit
set_option linter.unusedVariables false
set_option linter.unusedSimpArgs false
attribute [local irreducible] Cfg.val Cfg.cells rtB Rt zK sizeC AV bytC rawC zeroC keyTo
attribute [local go_sem ↓] ex_ldC ex_ldR ex_ldK ex_stC ex_stR
set_option maxRecDepth 100000 in
set_option maxHeartbeats 4000000 in
theorem rmread_any (A : Option Addr) (n c : Nat) (l : List UInt8) (w : World) (h : RB w w.heap.size A n l) (hc : n ≤ c) (hn : n ≤ 1000000) :
    Calls Tryz.prog 10 #[.slice A n c] w fun e w' => e = .returned (.tuple #[(readC l).1.val, .int .i64 (readC l).2]) ∧ Below w.heap.size w w' := by
  have HL := Lib.hid h.len
  have H := Lib.hid h
  have HNC := Lib.hid hc
  by_cases h20 : n < 20
  · have HE := Lib.hid (read_end (l := l) (by rw [HL.out]; exact h20))
    clear h hc
    go_enter Tryz.func10, Tryz.ntmps10
    go_wp2_with (first
      | (refine wpList_newB rt_rcfg rfl rfl ?_; intro w1 q hc1 hb1 hx1; have K1 := Lib.hid (And.intro hc1 (And.intro hb1 hx1)); clear hc1 hb1 hx1)
      | (refine wpList_stB rt_rcfg rfl (.tmp 2) (.tmp 9) rfl q 0 rfl zeroC.cells zeroC.cells zero_lit (cells_one zeroC) rfl (by exact K1.out.1) (by rw [zeroC_len]; decide) ?_; intro w2 hc2 ho2 hs2; have K2 := Lib.hid (And.intro hc2 (bel_oth1 K1.out.2.1 ho2 K1.out.2.2)); clear hc2 ho2 hs2))
    rw [HE.out]
    refine bodyPost_ret (res_rec2 rt_rcfg rfl _ _ q zeroC.cells (.int .i64 12) rfl rfl (by have := K2.out.1; rwa [puts_whole _ _ rfl] at this) rfl) rfl ⟨by rw [val_agg], K2.out.2⟩
  · have h20' : 20 ≤ n := by omega
    obtain ⟨g, o, rfl, hg, hcell⟩ := h.2 (by omega)
    have HCELL := Lib.hid hcell
    obtain ⟨x0, hx0⟩ : ∃ x, l[0]? = some x := ⟨_, List.getElem?_eq_getElem (by rw [HL.out]; omega)⟩
    obtain ⟨x1, hx1⟩ : ∃ x, l[1]? = some x := ⟨_, List.getElem?_eq_getElem (by rw [HL.out]; omega)⟩
    obtain ⟨x2, hx2⟩ : ∃ x, l[2]? = some x := ⟨_, List.getElem?_eq_getElem (by rw [HL.out]; omega)⟩
    have i0 : 0 < n := by omega
    have l0 := byte_lt x0
    have l1 := byte_lt x1
    have l2 := byte_lt x2
    have HX := Lib.hid (And.intro hx0 (And.intro hx1 hx2))
    have HG := Lib.hid hg
    clear h hc hx0 hx1 hx2 hcell h20
    go_enter Tryz.func10, Tryz.ntmps10
    go_wp2_with (first
      | (refine wpList_newB rt_rcfg rfl rfl ?_; intro w1 q hc1 hb1 hx1; have K1 := Lib.hid (And.intro hc1 (And.intro hb1 hx1)); clear hc1 hb1 hx1))
    have R1 := Lib.hid (H.out.step K1.out.2.1)
    have HC0 : Hid (∀ (v : World), Below w1.heap.size w1 v → v.cell? ⟨g, o + 0, none⟩ = some (.int .u8 (x0.toNat : Int)) ∧ v.cell? ⟨g, o + 1, none⟩ = some (.int .u8 (x1.toNat : Int)) ∧ v.cell? ⟨g, o + 2, none⟩ = some (.int .u8 (x2.toNat : Int))) := Lib.hid (fun v hv => by
      obtain ⟨g', o', e, _, hcc⟩ := (R1.out.step hv).2 (by omega)
      injection e with e
      injection e with e1 e2
      subst e1
      subst e2
      have a0 := (List.getElem?_eq_some_iff.1 HX.out.1)
      have a1 := (List.getElem?_eq_some_iff.1 HX.out.2.1)
      have a2 := (List.getElem?_eq_some_iff.1 HX.out.2.2)
      obtain ⟨b0, e0⟩ := a0
      obtain ⟨b1, e1⟩ := a1
      obtain ⟨b2, e2⟩ := a2
      refine ⟨?_, ?_, ?_⟩
      · rw [hcc 0 b0, e0]; rfl
      · rw [hcc 1 b1, e1]; rfl
      · rw [hcc 2 b2, e2]; rfl)
    have HD : Below w1.heap.size w1 w1.drew := (Below.refl _ _).drew
    refine wp_region_held_drew (S := fun w' => Below w1.heap.size w1 w') (by kernel_rfl) HD (fun hHeld => ?_)
    (try dsimp only at hHeld)
    refine wpAnyH_take (i := 0) (v := ?v0_18) rfl (by kernel_rfl) (by kernel_rfl) (by kernel_rfl) (fun _ _ _ h => h) (Or.inl ⟨by rfl, ?hy0_18⟩) hHeld ?_
    case hy0_18 => (intro w hSw; (try dsimp only at hSw); have i1 : (1 : Int) < (n : Int) := (by omega); have i2 : (2 : Int) < (n : Int) := (by omega); obtain ⟨q0, q1, q2⟩ := HC0.out w hSw; rw [Nat.add_zero] at q0; (try simp only [List.getElem_toArray, List.getElem_cons_zero, List.getElem_cons_succ]); go_simp <;> with_reducible rfl)
    (try simp only [Act.put, List.getElem_toArray, List.getElem_cons_zero, List.getElem_cons_succ, List.setIfInBounds_toArray, List.set_cons_zero, List.set_cons_succ])
    refine wpAnyH_take (i := 1) (v := ?v1_19) rfl (by kernel_rfl) (by kernel_rfl) (by kernel_rfl) (fun _ _ _ h => h) (Or.inl ⟨by rfl, ?hy1_19⟩) hHeld ?_
    case hy1_19 => (intro w hSw; (try dsimp only at hSw); have i1 : (1 : Int) < (n : Int) := (by omega); have i2 : (2 : Int) < (n : Int) := (by omega); obtain ⟨q0, q1, q2⟩ := HC0.out w hSw; rw [Nat.add_zero] at q0; (try simp only [List.getElem_toArray, List.getElem_cons_zero, List.getElem_cons_succ]); go_simp <;> with_reducible rfl)
    (try simp only [Act.put, List.getElem_toArray, List.getElem_cons_zero, List.getElem_cons_succ, List.setIfInBounds_toArray, List.set_cons_zero, List.set_cons_succ])
    refine wpAnyH_take (i := 2) (v := ?v2_20) rfl (by kernel_rfl) (by kernel_rfl) (by kernel_rfl) (fun _ _ _ h => h) (Or.inl ⟨by rfl, ?hy2_20⟩) hHeld ?_
    case hy2_20 => (intro w hSw; (try dsimp only at hSw); have i1 : (1 : Int) < (n : Int) := (by omega); have i2 : (2 : Int) < (n : Int) := (by omega); obtain ⟨q0, q1, q2⟩ := HC0.out w hSw; rw [Nat.add_zero] at q0; (try simp only [List.getElem_toArray, List.getElem_cons_zero, List.getElem_cons_succ]); go_simp <;> with_reducible rfl)
    (try simp only [Act.put, List.getElem_toArray, List.getElem_cons_zero, List.getElem_cons_succ, List.setIfInBounds_toArray, List.set_cons_zero, List.set_cons_succ])
    refine wpAnyH_take (i := 3) (v := ?v3_21) rfl (by kernel_rfl) (by kernel_rfl) (by kernel_rfl) (fun _ _ _ h => h) (Or.inl ⟨by rfl, ?hy3_21⟩) hHeld ?_
    case hy3_21 => (intro w hSw; (try dsimp only at hSw); have i1 : (1 : Int) < (n : Int) := (by omega); have i2 : (2 : Int) < (n : Int) := (by omega); obtain ⟨q0, q1, q2⟩ := HC0.out w hSw; rw [Nat.add_zero] at q0; (try simp only [List.getElem_toArray, List.getElem_cons_zero, List.getElem_cons_succ]); go_simp <;> with_reducible rfl)
    (try simp only [Act.put, List.getElem_toArray, List.getElem_cons_zero, List.getElem_cons_succ, List.setIfInBounds_toArray, List.set_cons_zero, List.set_cons_succ])
    refine wpAnyH_take (i := 4) (v := ?v4_22) rfl (by kernel_rfl) (by kernel_rfl) (by kernel_rfl) (fun _ _ _ h => h) (Or.inl ⟨by rfl, ?hy4_22⟩) hHeld ?_
    case hy4_22 => (intro w hSw; (try dsimp only at hSw); have i1 : (1 : Int) < (n : Int) := (by omega); have i2 : (2 : Int) < (n : Int) := (by omega); obtain ⟨q0, q1, q2⟩ := HC0.out w hSw; rw [Nat.add_zero] at q0; (try simp only [List.getElem_toArray, List.getElem_cons_zero, List.getElem_cons_succ]); go_simp <;> with_reducible rfl)
    (try simp only [Act.put, List.getElem_toArray, List.getElem_cons_zero, List.getElem_cons_succ, List.setIfInBounds_toArray, List.set_cons_zero, List.set_cons_succ])
    refine wpAnyH_take (i := 5) (v := ?v5_23) rfl (by kernel_rfl) (by kernel_rfl) (by kernel_rfl) (fun _ _ _ h => h) (Or.inl ⟨by rfl, ?hy5_23⟩) hHeld ?_
    case hy5_23 => (intro w hSw; (try dsimp only at hSw); have i1 : (1 : Int) < (n : Int) := (by omega); have i2 : (2 : Int) < (n : Int) := (by omega); obtain ⟨q0, q1, q2⟩ := HC0.out w hSw; rw [Nat.add_zero] at q0; (try simp only [List.getElem_toArray, List.getElem_cons_zero, List.getElem_cons_succ]); go_simp <;> with_reducible rfl)
    (try simp only [Act.put, List.getElem_toArray, List.getElem_cons_zero, List.getElem_cons_succ, List.setIfInBounds_toArray, List.set_cons_zero, List.set_cons_succ])
    refine wpAnyH_take (i := 6) (v := ?v6_24) rfl (by kernel_rfl) (by kernel_rfl) (by kernel_rfl) (fun _ _ _ h => h) (Or.inl ⟨by rfl, ?hy6_24⟩) hHeld ?_
    case hy6_24 => (intro w hSw; (try dsimp only at hSw); have i1 : (1 : Int) < (n : Int) := (by omega); have i2 : (2 : Int) < (n : Int) := (by omega); obtain ⟨q0, q1, q2⟩ := HC0.out w hSw; rw [Nat.add_zero] at q0; (try simp only [List.getElem_toArray, List.getElem_cons_zero, List.getElem_cons_succ]); go_simp <;> with_reducible rfl)
    (try simp only [Act.put, List.getElem_toArray, List.getElem_cons_zero, List.getElem_cons_succ, List.setIfInBounds_toArray, List.set_cons_zero, List.set_cons_succ])
    refine wpAnyH_take (i := 7) (v := ?v7_25) rfl (by kernel_rfl) (by kernel_rfl) (by kernel_rfl) (fun _ _ _ h => h) (Or.inl ⟨by rfl, ?hy7_25⟩) hHeld ?_
    case hy7_25 => (intro w hSw; (try dsimp only at hSw); have i1 : (1 : Int) < (n : Int) := (by omega); have i2 : (2 : Int) < (n : Int) := (by omega); obtain ⟨q0, q1, q2⟩ := HC0.out w hSw; rw [Nat.add_zero] at q0; (try simp only [List.getElem_toArray, List.getElem_cons_zero, List.getElem_cons_succ]); go_simp <;> with_reducible rfl)
    (try simp only [Act.put, List.getElem_toArray, List.getElem_cons_zero, List.getElem_cons_succ, List.setIfInBounds_toArray, List.set_cons_zero, List.set_cons_succ])
    refine wpAnyH_take (i := 8) (v := ?v8_26) rfl (by kernel_rfl) (by kernel_rfl) (by kernel_rfl) (fun _ _ _ h => h) (Or.inl ⟨by rfl, ?hy8_26⟩) hHeld ?_
    case hy8_26 => (intro w hSw; (try dsimp only at hSw); have i1 : (1 : Int) < (n : Int) := (by omega); have i2 : (2 : Int) < (n : Int) := (by omega); obtain ⟨q0, q1, q2⟩ := HC0.out w hSw; rw [Nat.add_zero] at q0; (try simp only [List.getElem_toArray, List.getElem_cons_zero, List.getElem_cons_succ]); go_simp <;> with_reducible rfl)
    (try simp only [Act.put, List.getElem_toArray, List.getElem_cons_zero, List.getElem_cons_succ, List.setIfInBounds_toArray, List.set_cons_zero, List.set_cons_succ])
    refine wpAnyH_take (i := 9) (v := ?v9_27) rfl (by kernel_rfl) (by kernel_rfl) (by kernel_rfl) (fun _ _ _ h => h) (Or.inl ⟨by rfl, ?hy9_27⟩) hHeld ?_
    case hy9_27 => (intro w hSw; (try dsimp only at hSw); have i1 : (1 : Int) < (n : Int) := (by omega); have i2 : (2 : Int) < (n : Int) := (by omega); obtain ⟨q0, q1, q2⟩ := HC0.out w hSw; rw [Nat.add_zero] at q0; (try simp only [List.getElem_toArray, List.getElem_cons_zero, List.getElem_cons_succ]); go_simp <;> with_reducible rfl)
    (try simp only [Act.put, List.getElem_toArray, List.getElem_cons_zero, List.getElem_cons_succ, List.setIfInBounds_toArray, List.set_cons_zero, List.set_cons_succ])
    refine wpAnyH_take (i := 10) (v := ?v10_28) rfl (by kernel_rfl) (by kernel_rfl) (by kernel_rfl) (fun _ _ _ h => h) (Or.inl ⟨by rfl, ?hy10_28⟩) hHeld ?_
    case hy10_28 => (intro w hSw; (try dsimp only at hSw); have i1 : (1 : Int) < (n : Int) := (by omega); have i2 : (2 : Int) < (n : Int) := (by omega); obtain ⟨q0, q1, q2⟩ := HC0.out w hSw; rw [Nat.add_zero] at q0; (try simp only [List.getElem_toArray, List.getElem_cons_zero, List.getElem_cons_succ]); go_simp <;> with_reducible rfl)
    (try simp only [Act.put, List.getElem_toArray, List.getElem_cons_zero, List.getElem_cons_succ, List.setIfInBounds_toArray, List.set_cons_zero, List.set_cons_succ])
    refine wpAnyH_take (i := 11) (v := ?v11_29) rfl (by kernel_rfl) (by kernel_rfl) (by kernel_rfl) (fun _ _ _ h => h) (Or.inl ⟨by rfl, ?hy11_29⟩) hHeld ?_
    case hy11_29 => (intro w hSw; (try dsimp only at hSw); have i1 : (1 : Int) < (n : Int) := (by omega); have i2 : (2 : Int) < (n : Int) := (by omega); obtain ⟨q0, q1, q2⟩ := HC0.out w hSw; rw [Nat.add_zero] at q0; (try simp only [List.getElem_toArray, List.getElem_cons_zero, List.getElem_cons_succ]); go_simp <;> with_reducible rfl)
    (try simp only [Act.put, List.getElem_toArray, List.getElem_cons_zero, List.getElem_cons_succ, List.setIfInBounds_toArray, List.set_cons_zero, List.set_cons_succ])
    rw [wi x0, wi x1, wi x2]
    refine wpAnyH_take (i := 12) (v := ?v12_30) rfl (by kernel_rfl) (by kernel_rfl) (by kernel_rfl) (fun _ _ _ h => h) (Or.inl ⟨by rfl, ?hy12_30⟩) hHeld ?_
    case hy12_30 => (intro w hSw; (try dsimp only at hSw); (try simp only [List.getElem_toArray, List.getElem_cons_zero, List.getElem_cons_succ]); go_simp <;> with_reducible rfl)
    (try simp only [Act.put, List.getElem_toArray, List.getElem_cons_zero, List.getElem_cons_succ, List.setIfInBounds_toArray, List.set_cons_zero, List.set_cons_succ])
    rw [three_lit]
    have hz := fun W => rt_rcfg.zero W
    refine wpAnyH_ready (rs := [13]) (by kernel_rfl) (by simp) ?_
    refine AllReadyH.cons rfl (fun K hK => ?_) AllReadyH.nil
    (try simp only [List.getElem_toArray, List.getElem_cons_zero, List.getElem_cons_succ])
    go_simp
    obtain ⟨w2, HW2⟩ : ∃ w2, Hid (w2 = w1.alloc (.cells zeroC.cells.toArray 31)) := ⟨_, Lib.hid rfl⟩
    obtain ⟨q2, HQ2⟩ : ∃ q2, Hid (q2 = w1.heap.size) := ⟨_, Lib.hid rfl⟩
    have N2 : Hid (Blk 31 w2 q2 zeroC.cells ∧ Below w1.heap.size w1 w2 ∧ w1.heap.size ≤ q2) := Lib.hid ⟨by rw [HW2.out, HQ2.out]; exact blk_new _ _, by rw [HW2.out]; exact below_alloc _ _, by rw [HQ2.out]; exact Nat.le_refl _⟩
    rw [← HW2.out, ← HQ2.out]
    clear HW2 HQ2 hz
    refine hK.out _ _ N2.out.2.1.drew (fun hHeld => ?_)
    clear hK K
    (try simp only [Act.put, List.getElem_toArray, List.getElem_cons_zero, List.getElem_cons_succ, List.setIfInBounds_toArray, List.set_cons_zero, List.set_cons_succ])
    have qs := st_cfg rt_rcfg (w := w2.drew) (q := q2) N2.out.1 zeroC_ok (three_ok x0 x1 x2 zK zK_len)
    refine wpAnyH_ready (rs := [14]) (by kernel_rfl) (by simp) ?_
    refine AllReadyH.cons rfl (fun K hK => ?_) AllReadyH.nil
    (try simp only [List.getElem_toArray, List.getElem_cons_zero, List.getElem_cons_succ])
    go_simp
    obtain ⟨w3, HW3⟩ : ∃ w3, Hid (w3 = w2.drew.setCells q2 0 (Cfg.cells ⟨(x0.toNat : Int), (x1.toNat : Int), (x2.toNat : Int), zK⟩)) := ⟨_, Lib.hid rfl⟩
    have N3 : Hid (Blk 31 w3 q2 (Cfg.cells ⟨(x0.toNat : Int), (x1.toNat : Int), (x2.toNat : Int), zK⟩) ∧ Below w1.heap.size w1 w3) := Lib.hid ⟨by rw [HW3.out]; exact blk_put (w := w2.drew) N2.out.1 zeroC_ok (three_ok x0 x1 x2 zK zK_len), by rw [HW3.out]; exact bel_oth2 N2.out.2.1.drew (oth_setCells q2 _ 0 w2.drew w2.drew (Oth.refl _ _)) N2.out.2.2⟩
    have NQ : Hid (w1.heap.size ≤ q2) := Lib.hid N2.out.2.2
    rw [← HW3.out]
    clear HW3 qs
    refine hK.out _ _ N3.out.2 (fun hHeld => ?_)
    clear hK K
    (try simp only [Act.put, List.getElem_toArray, List.getElem_cons_zero, List.getElem_cons_succ, List.setIfInBounds_toArray, List.set_cons_zero, List.set_cons_succ])
    refine wpAnyH_done (by kernel_rfl) ?_ _
    clear hHeld HD N2 HC0 i0
    have HLC : Hid (n ≤ 1000000) := Lib.hid hn
    go_wp2_with fail
    go_loopw [5] (fun i wr => ∃ k : Nat, k ≤ 16 ∧ i = .int .i64 k ∧ Hid (Blk 31 wr q2 (Cfg.cells ⟨(x0.toNat : Int), (x1.toNat : Int), (x2.toNat : Int), keyTo l k⟩)) ∧ Hid (Below w1.heap.size w1 wr)) (fun i _ => 16 - (intOf i).toNat)
    case atStart => exact ⟨0, by omega, rfl, Lib.hid (by rw [keyTo_0]; exact N3.out.1), Lib.hid N3.out.2⟩
    case round =>
      clear N3
      obtain ⟨k, hk, rfl, N, B⟩ := hrel
      by_cases hlt : k < 16
      · have hlk : 4 + k < l.length := by rw [HL.out]; omega
        obtain ⟨x, hx⟩ : ∃ x, l[4 + k]? = some x := ⟨_, List.getElem?_eq_getElem hlk⟩
        have HX4 := Lib.hid hx
        have hcx : wr.cell? ⟨g, o + (4 + k), none⟩ = some (.int .u8 (x.toNat : Int)) := by
          have hb := K1.out.2.1.trans (B.out.mono K1.out.2.1.size)
          rw [hb.cell (p := ⟨g, o + (4 + k), none⟩) HG.out, HCELL.out (4 + k) hlk, (List.getElem?_eq_some_iff.1 hx).2]
          rfl
        have HKN : Hid ((Cfg.cells ⟨(x0.toNat : Int), (x1.toNat : Int), (x2.toNat : Int), keyTo l k⟩).length = 19) := Lib.hid (Cfg.cells_len (three_ok x0 x1 x2 _ (keyTo_len l k (by rw [HL.out]; omega) (by omega))))
        have hin : 4 + k < n := by omega
        clear hx hlk
        go_wp2_with (first
          | (refine wpList_stC (ty := 5) (by kernel_rfl) rfl (.tmp 34) (.tmp 32) rfl q2 (3 + k) rfl (bv x) rfl rfl _ (by exact N.out) (by rw [HKN.out]; omega) ?_; intro w5 hc5 ho5 hs5; rw [set_key] at hc5; have N5 := Lib.hid (And.intro hc5 (bel_oth2 B.out ho5 NQ.out)); clear hc5 ho5 hs5))
        go_roundw
        case rel => exact ⟨k + 1, by omega, by go_num, Lib.hid (by have h := N5.out.1; rwa [keyTo_set (by rw [HL.out]; omega) hlt HX4.out] at h), Lib.hid N5.out.2⟩
        case measure => simp [intOf]; omega
      · obtain rfl : k = 16 := by omega
        have HOK : Hid ((headC l).ok) := Lib.hid (headC_ok (by rw [HL.out]; omega))
        have N4 : Hid (Blk 31 wr q2 (headC l).cells) := Lib.hid (by rw [head_at HX.out.1 HX.out.2.1 HX.out.2.2, ← keyTo_16]; exact N.out)
        have BW := Lib.hid (K1.out.2.1.trans (B.out.mono K1.out.2.1.size))
        have Q5 := Lib.hid (K1.out.1.step B.out)
        clear hlt hk N
        by_cases h21 : 20 < n
        · have HE : Hid (readC l = (zeroC, 10)) := Lib.hid (read_no (by rw [HL.out]; exact h20') (fun e => by have := e.1; rw [HL.out] at this; omega))
          have d1 : decide ((20 : Int) < (n : Int)) = true := decide_eq_true (by omega)
          go_wp2_with (first
            | (refine wpList_stB rt_rcfg rfl (.tmp 2) (.tmp 49) rfl q 0 rfl zeroC.cells zeroC.cells zero_lit (cells_one zeroC) (by exact (Cfg.cells_len zeroC_ok).trans zeroC_len.symm) (by exact Q5.out) (by rw [zeroC_len]; decide) ?_; intro w7 hc2 ho2 hs2; have K7 := Lib.hid (And.intro hc2 (bel_oth1 BW.out ho2 K1.out.2.2)); clear hc2 ho2 hs2))
          rw [HE.out]
          refine bodyPost_ret (res_rec2 rt_rcfg rfl _ _ q zeroC.cells (.int .i64 10) rfl rfl (by have := K7.out.1; rwa [puts_whole _ _ ((Cfg.cells_len zeroC_ok).trans zeroC_len.symm)] at this) ((Cfg.cells_len zeroC_ok).trans zeroC_len.symm)) rfl ⟨by rw [val_agg], K7.out.2⟩
        · obtain rfl : n = 20 := by omega
          obtain ⟨x3, hx3⟩ : ∃ x, l[3]? = some x := ⟨_, List.getElem?_eq_getElem (by rw [HL.out]; omega)⟩
          have HX3 : Hid (l.getD 3 0 = x3) := Lib.hid (by simp [List.getD, hx3])
          have hcx : wr.cell? ⟨g, o + 3, none⟩ = some (.int .u8 (x3.toNat : Int)) := by
            rw [BW.out.cell (p := ⟨g, o + 3, none⟩) HG.out, HCELL.out 3 (by rw [HL.out]; omega), (List.getElem?_eq_some_iff.1 hx3).2]
            rfl
          by_cases hz : x3 = 0
          · subst hz
            have hcz : wr.cell? ⟨g, o + 3, none⟩ = some (.int .u8 0) := hcx
            clear hcx
            have ql := ld_cfg rt_rcfg N4.out HOK.out
            cases hv : rtB (headC l)
            · have HE : Hid (readC l = (zeroC, 10)) := Lib.hid (read_no (by rw [HL.out]; exact h20') (fun e => by rw [hv] at e; exact absurd e.2.2 (by decide)))
              have HRT := Lib.hid (fun u => rmright_any (headC l) HOK.out false hv u)
              obtain ⟨D, hD⟩ : ∃ D, headC l = D := ⟨_, rfl⟩
              (try rw [hD] at HE)
              rw [hD] at HRT N4 HOK ql
              clear hv hD hx3
              go_wp2_with fail
              refine (HRT.out _).mono ?_
              rintro e w5 ⟨rfl, hb⟩
              have B5 := Lib.hid (bel_next BW.out hb)
              have N5 := Lib.hid (N4.out.step hb)
              have Q6 := Lib.hid (Q5.out.step hb)
              clear hb ql
              have ql := ld_cfg rt_rcfg N5.out HOK.out
              go_wp2_with (first
                | (refine wpList_stB rt_rcfg rfl (.tmp 2) (.tmp 49) rfl q 0 rfl zeroC.cells zeroC.cells zero_lit (cells_one zeroC) (by exact (Cfg.cells_len zeroC_ok).trans zeroC_len.symm) (by exact Q6.out) (by rw [zeroC_len]; decide) ?_; intro w7 hc2 ho2 hs2; have K7 := Lib.hid (And.intro hc2 (bel_oth1 B5.out ho2 K1.out.2.2)); clear hc2 ho2 hs2))
              rw [HE.out]
              refine bodyPost_ret (res_rec2 rt_rcfg rfl _ _ q zeroC.cells (.int .i64 10) rfl rfl (by have := K7.out.1; rwa [puts_whole _ _ ((Cfg.cells_len zeroC_ok).trans zeroC_len.symm)] at this) ((Cfg.cells_len zeroC_ok).trans zeroC_len.symm)) rfl ⟨by rw [val_agg], K7.out.2⟩
            · have HE : Hid (readC l = (headC l, 0)) := Lib.hid (read_ok HL.out HX3.out hv)
              have HRT := Lib.hid (fun u => rmright_any (headC l) HOK.out true hv u)
              obtain ⟨D, hD⟩ : ∃ D, headC l = D := ⟨_, rfl⟩
              (try rw [hD] at HE)
              rw [hD] at HRT N4 HOK ql
              clear hv hD hx3
              go_wp2_with fail
              refine (HRT.out _).mono ?_
              rintro e w5 ⟨rfl, hb⟩
              have B5 := Lib.hid (bel_next BW.out hb)
              have N5 := Lib.hid (N4.out.step hb)
              have Q6 := Lib.hid (Q5.out.step hb)
              clear hb ql
              have ql := ld_cfg rt_rcfg N5.out HOK.out
              go_wp2_with (first
                | (refine wpList_stB rt_rcfg rfl (.tmp 2) (.tmp 50) rfl q 0 rfl zeroC.cells D.cells (val_agg D) (cells_one D) (by exact (Cfg.cells_len HOK.out).trans zeroC_len.symm) (by exact Q6.out) (by rw [zeroC_len]; decide) ?_; intro w7 hc2 ho2 hs2; have K7 := Lib.hid (And.intro hc2 (bel_oth1 B5.out ho2 K1.out.2.2)); clear hc2 ho2 hs2))
              rw [HE.out]
              refine bodyPost_ret (res_rec2 rt_rcfg rfl _ _ q D.cells (.int .i64 0) rfl rfl (by have := K7.out.1; rwa [puts_whole _ _ ((Cfg.cells_len HOK.out).trans zeroC_len.symm)] at this) ((Cfg.cells_len HOK.out).trans zeroC_len.symm)) rfl ⟨by rw [val_agg], K7.out.2⟩
          · have HE : Hid (readC l = (zeroC, 10)) := Lib.hid (read_no (by rw [HL.out]; exact h20') (fun e => by rw [HX3.out] at e; exact hz e.2.1))
            have d3 : ((x3.toNat : Int) != 0) = true := by
              rw [bne_iff_ne]
              intro e
              exact hz (UInt8.toNat_inj.1 (by have z0 : (0 : UInt8).toNat = 0 := rfl; omega))
            clear hz hx3
            go_wp2_with (first
              | (refine wpList_stB rt_rcfg rfl (.tmp 2) (.tmp 49) rfl q 0 rfl zeroC.cells zeroC.cells zero_lit (cells_one zeroC) (by exact (Cfg.cells_len zeroC_ok).trans zeroC_len.symm) (by exact Q5.out) (by rw [zeroC_len]; decide) ?_; intro w7 hc2 ho2 hs2; have K7 := Lib.hid (And.intro hc2 (bel_oth1 BW.out ho2 K1.out.2.2)); clear hc2 ho2 hs2))
            rw [HE.out]
            refine bodyPost_ret (res_rec2 rt_rcfg rfl _ _ q zeroC.cells (.int .i64 10) rfl rfl (by have := K7.out.1; rwa [puts_whole _ _ ((Cfg.cells_len zeroC_ok).trans zeroC_len.symm)] at this) ((Cfg.cells_len zeroC_ok).trans zeroC_len.symm)) rfl ⟨by rw [val_agg], K7.out.2⟩
end Go.Proofs.YtdhnknkochbekaaGreat
