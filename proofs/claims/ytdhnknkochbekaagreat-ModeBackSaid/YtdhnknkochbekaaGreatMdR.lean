/- Layer 16: Read. Condition: the slice's cells are readable, it has at most a million bytes. -/
import Derived.Test.YtdhnknkochbekaaGreatMdS
import Derived.Test.YtdhnknkochbekaaGreatMdB
namespace Go.Proofs.YtdhnknkochbekaaGreat
open Go.RowKit
set_option linter.unusedVariables false
set_option linter.unusedSimpArgs false
attribute [local irreducible] Cfg.val Cfg.cells rtB Rt zK sizeC AV bytC rawC zeroC keyTo
attribute [local go_sem ↓] ex_ldC ex_ldR ex_ldK ex_stC ex_stR
theorem bel_oth2 {w w1 w2 : World} {q B : Nat} (h : Below B w w1) (ho : Oth [q] w1 w2) (hq : B ≤ q) (hB : B ≤ w.heap.size := by exact Nat.le_refl _) : Below B w w2 :=
  h.trans (ho.below (fun k hk => by rw [List.mem_singleton.1 hk]; exact hq) (Nat.le_trans hB h.size))
theorem wi (x : UInt8) : IntKind.i64.wrap (x.toNat : Int) = (x.toNat : Int) := IntWalk.i64_in _ (by have := x.toNat_lt; omega)
theorem bel_oth1 {w w1 w2 : World} {q : Nat} (h : Below w.heap.size w w1) (ho : Oth [q] w1 w2) (hq : w.heap.size ≤ q) : Below w.heap.size w w2 :=
  h.trans (ho.below (fun k hk => by rw [List.mem_singleton.1 hk]; exact hq) h.size)
set_option maxRecDepth 100000 in
set_option maxHeartbeats 4000000 in
theorem mread_any (A : Option Addr) (n c : Nat) (l : List UInt8) (w : World) (h : RB w w.heap.size A n l) (hc : n ≤ c) (hn : n ≤ 1000000) :
    Calls Tryz.prog 9 #[.slice A n c] w fun e w' => e = .returned (.tuple #[(readC l).1.val, .int .i64 (readC l).2]) ∧ Below w.heap.size w w' := by
  have HL := Lib.hid h.len
  have H := Lib.hid h
  have HNC := Lib.hid hc
  by_cases h20 : n < 20
  · have HE := Lib.hid (read_end (l := l) (by rw [HL.out]; exact h20))
    clear h hc
    go_enter Tryz.func9, Tryz.ntmps9
    go_wp2_with (first
      | (refine wpList_newB rt_cfg rfl rfl ?_; intro w1 q hc1 hb1 hx1; have K1 := Lib.hid (And.intro hc1 (And.intro hb1 hx1)); clear hc1 hb1 hx1)
      | (refine wpList_stB rt_cfg rfl (.tmp 2) (.tmp 8) rfl q 0 rfl zeroC.cells zeroC.cells zero_lit (cells_one zeroC) rfl (by exact K1.out.1) (by rw [zeroC_len]; decide) ?_; intro w2 hc2 ho2 hs2; have K2 := Lib.hid (And.intro hc2 (bel_oth1 K1.out.2.1 ho2 K1.out.2.2)); clear hc2 ho2 hs2))
    rw [HE.out]
    refine bodyPost_ret (res_rec2 rt_cfg rfl _ _ q zeroC.cells (.int .i64 12) rfl rfl (by have := K2.out.1; rwa [puts_whole _ _ rfl] at this) rfl) rfl ⟨by rw [val_agg], K2.out.2⟩
  · have h20' : 20 ≤ n := by omega
    obtain ⟨g, o, rfl, hg, hcell⟩ := h.2 (by omega)
    have HCELL := Lib.hid hcell
    obtain ⟨x0, hx0⟩ : ∃ x, l[0]? = some x := ⟨_, List.getElem?_eq_getElem (by rw [HL.out]; omega)⟩
    obtain ⟨x1, hx1⟩ : ∃ x, l[1]? = some x := ⟨_, List.getElem?_eq_getElem (by rw [HL.out]; omega)⟩
    obtain ⟨x2, hx2⟩ : ∃ x, l[2]? = some x := ⟨_, List.getElem?_eq_getElem (by rw [HL.out]; omega)⟩
    have i0 : 0 < n := by omega
    have l0 := byte_lt x0
    have l1 := byte_lt x1
    have l2 := byte_lt x2
    have HX := Lib.hid (And.intro hx0 (And.intro hx1 hx2))
    have HG := Lib.hid hg
    clear h hc hx0 hx1 hx2 hcell h20
    go_enter Tryz.func9, Tryz.ntmps9
    go_wp2_with (first
      | (refine wpList_newB rt_cfg rfl rfl ?_; intro w1 q hc1 hb1 hx1; have K1 := Lib.hid (And.intro hc1 (And.intro hb1 hx1)); clear hc1 hb1 hx1))
    have R1 := Lib.hid (H.out.step K1.out.2.1)
    have HC0 : Hid (∀ (v : World), Below w1.heap.size w1 v → v.cell? ⟨g, o + 0, none⟩ = some (.int .u8 (x0.toNat : Int)) ∧ v.cell? ⟨g, o + 1, none⟩ = some (.int .u8 (x1.toNat : Int)) ∧ v.cell? ⟨g, o + 2, none⟩ = some (.int .u8 (x2.toNat : Int))) := Lib.hid (fun v hv => by
      obtain ⟨g', o', e, _, hcc⟩ := (R1.out.step hv).2 (by omega)
      injection e with e
      injection e with e1 e2
      subst e1
      subst e2
      have a0 := (List.getElem?_eq_some_iff.1 HX.out.1)
      have a1 := (List.getElem?_eq_some_iff.1 HX.out.2.1)
      have a2 := (List.getElem?_eq_some_iff.1 HX.out.2.2)
      obtain ⟨b0, e0⟩ := a0
      obtain ⟨b1, e1⟩ := a1
      obtain ⟨b2, e2⟩ := a2
      refine ⟨?_, ?_, ?_⟩
      · rw [hcc 0 b0, e0]; rfl
      · rw [hcc 1 b1, e1]; rfl
      · rw [hcc 2 b2, e2]; rfl)
    have HD : Below w1.heap.size w1 w1.drew := (Below.refl _ _).drew
    refine wp_region_held_drew (S := fun w' => Below w1.heap.size w1 w') (by kernel_rfl) HD (fun hHeld => ?_)
    (try dsimp only at hHeld)
    refine wpAnyH_take (i := 0) (v := ?v0_1) rfl (by kernel_rfl) (by kernel_rfl) (by kernel_rfl) (fun _ _ _ h => h) (Or.inl ⟨by rfl, ?hy0_1⟩) hHeld ?_
    case hy0_1 => (intro w hSw; (try dsimp only at hSw); have i1 : (1 : Int) < (n : Int) := (by omega); have i2 : (2 : Int) < (n : Int) := (by omega); obtain ⟨q0, q1, q2⟩ := HC0.out w hSw; rw [Nat.add_zero] at q0; (try simp only [List.getElem_toArray, List.getElem_cons_zero, List.getElem_cons_succ]); go_simp <;> with_reducible rfl)
    (try simp only [Act.put, List.getElem_toArray, List.getElem_cons_zero, List.getElem_cons_succ, List.setIfInBounds_toArray, List.set_cons_zero, List.set_cons_succ])
    refine wpAnyH_take (i := 1) (v := ?v1_2) rfl (by kernel_rfl) (by kernel_rfl) (by kernel_rfl) (fun _ _ _ h => h) (Or.inl ⟨by rfl, ?hy1_2⟩) hHeld ?_
    case hy1_2 => (intro w hSw; (try dsimp only at hSw); have i1 : (1 : Int) < (n : Int) := (by omega); have i2 : (2 : Int) < (n : Int) := (by omega); obtain ⟨q0, q1, q2⟩ := HC0.out w hSw; rw [Nat.add_zero] at q0; (try simp only [List.getElem_toArray, List.getElem_cons_zero, List.getElem_cons_succ]); go_simp <;> with_reducible rfl)
    (try simp only [Act.put, List.getElem_toArray, List.getElem_cons_zero, List.getElem_cons_succ, List.setIfInBounds_toArray, List.set_cons_zero, List.set_cons_succ])
    refine wpAnyH_take (i := 2) (v := ?v2_3) rfl (by kernel_rfl) (by kernel_rfl) (by kernel_rfl) (fun _ _ _ h => h) (Or.inl ⟨by rfl, ?hy2_3⟩) hHeld ?_
    case hy2_3 => (intro w hSw; (try dsimp only at hSw); have i1 : (1 : Int) < (n : Int) := (by omega); have i2 : (2 : Int) < (n : Int) := (by omega); obtain ⟨q0, q1, q2⟩ := HC0.out w hSw; rw [Nat.add_zero] at q0; (try simp only [List.getElem_toArray, List.getElem_cons_zero, List.getElem_cons_succ]); go_simp <;> with_reducible rfl)
    (try simp only [Act.put, List.getElem_toArray, List.getElem_cons_zero, List.getElem_cons_succ, List.setIfInBounds_toArray, List.set_cons_zero, List.set_cons_succ])
    refine wpAnyH_take (i := 3) (v := ?v3_4) rfl (by kernel_rfl) (by kernel_rfl) (by kernel_rfl) (fun _ _ _ h => h) (Or.inl ⟨by rfl, ?hy3_4⟩) hHeld ?_
    case hy3_4 => (intro w hSw; (try dsimp only at hSw); have i1 : (1 : Int) < (n : Int) := (by omega); have i2 : (2 : Int) < (n : Int) := (by omega); obtain ⟨q0, q1, q2⟩ := HC0.out w hSw; rw [Nat.add_zero] at q0; (try simp only [List.getElem_toArray, List.getElem_cons_zero, List.getElem_cons_succ]); go_simp <;> with_reducible rfl)
    (try simp only [Act.put, List.getElem_toArray, List.getElem_cons_zero, List.getElem_cons_succ, List.setIfInBounds_toArray, List.set_cons_zero, List.set_cons_succ])
    refine wpAnyH_take (i := 4) (v := ?v4_5) rfl (by kernel_rfl) (by kernel_rfl) (by kernel_rfl) (fun _ _ _ h => h) (Or.inl ⟨by rfl, ?hy4_5⟩) hHeld ?_
    case hy4_5 => (intro w hSw; (try dsimp only at hSw); have i1 : (1 : Int) < (n : Int) := (by omega); have i2 : (2 : Int) < (n : Int) := (by omega); obtain ⟨q0, q1, q2⟩ := HC0.out w hSw; rw [Nat.add_zero] at q0; (try simp only [List.getElem_toArray, List.getElem_cons_zero, List.getElem_cons_succ]); go_simp <;> with_reducible rfl)
    (try simp only [Act.put, List.getElem_toArray, List.getElem_cons_zero, List.getElem_cons_succ, List.setIfInBounds_toArray, List.set_cons_zero, List.set_cons_succ])
    refine wpAnyH_take (i := 5) (v := ?v5_6) rfl (by kernel_rfl) (by kernel_rfl) (by kernel_rfl) (fun _ _ _ h => h) (Or.inl ⟨by rfl, ?hy5_6⟩) hHeld ?_
    case hy5_6 => (intro w hSw; (try dsimp only at hSw); have i1 : (1 : Int) < (n : Int) := (by omega); have i2 : (2 : Int) < (n : Int) := (by omega); obtain ⟨q0, q1, q2⟩ := HC0.out w hSw; rw [Nat.add_zero] at q0; (try simp only [List.getElem_toArray, List.getElem_cons_zero, List.getElem_cons_succ]); go_simp <;> with_reducible rfl)
    (try simp only [Act.put, List.getElem_toArray, List.getElem_cons_zero, List.getElem_cons_succ, List.setIfInBounds_toArray, List.set_cons_zero, List.set_cons_succ])
    refine wpAnyH_take (i := 6) (v := ?v6_7) rfl (by kernel_rfl) (by kernel_rfl) (by kernel_rfl) (fun _ _ _ h => h) (Or.inl ⟨by rfl, ?hy6_7⟩) hHeld ?_
    case hy6_7 => (intro w hSw; (try dsimp only at hSw); have i1 : (1 : Int) < (n : Int) := (by omega); have i2 : (2 : Int) < (n : Int) := (by omega); obtain ⟨q0, q1, q2⟩ := HC0.out w hSw; rw [Nat.add_zero] at q0; (try simp only [List.getElem_toArray, List.getElem_cons_zero, List.getElem_cons_succ]); go_simp <;> with_reducible rfl)
    (try simp only [Act.put, List.getElem_toArray, List.getElem_cons_zero, List.getElem_cons_succ, List.setIfInBounds_toArray, List.set_cons_zero, List.set_cons_succ])
    refine wpAnyH_take (i := 7) (v := ?v7_8) rfl (by kernel_rfl) (by kernel_rfl) (by kernel_rfl) (fun _ _ _ h => h) (Or.inl ⟨by rfl, ?hy7_8⟩) hHeld ?_
    case hy7_8 => (intro w hSw; (try dsimp only at hSw); have i1 : (1 : Int) < (n : Int) := (by omega); have i2 : (2 : Int) < (n : Int) := (by omega); obtain ⟨q0, q1, q2⟩ := HC0.out w hSw; rw [Nat.add_zero] at q0; (try simp only [List.getElem_toArray, List.getElem_cons_zero, List.getElem_cons_succ]); go_simp <;> with_reducible rfl)
    (try simp only [Act.put, List.getElem_toArray, List.getElem_cons_zero, List.getElem_cons_succ, List.setIfInBounds_toArray, List.set_cons_zero, List.set_cons_succ])
    refine wpAnyH_take (i := 8) (v := ?v8_9) rfl (by kernel_rfl) (by kernel_rfl) (by kernel_rfl) (fun _ _ _ h => h) (Or.inl ⟨by rfl, ?hy8_9⟩) hHeld ?_
    case hy8_9 => (intro w hSw; (try dsimp only at hSw); have i1 : (1 : Int) < (n : Int) := (by omega); have i2 : (2 : Int) < (n : Int) := (by omega); obtain ⟨q0, q1, q2⟩ := HC0.out w hSw; rw [Nat.add_zero] at q0; (try simp only [List.getElem_toArray, List.getElem_cons_zero, List.getElem_cons_succ]); go_simp <;> with_reducible rfl)
    (try simp only [Act.put, List.getElem_toArray, List.getElem_cons_zero, List.getElem_cons_succ, List.setIfInBounds_toArray, List.set_cons_zero, List.set_cons_succ])
    refine wpAnyH_take (i := 9) (v := ?v9_10) rfl (by kernel_rfl) (by kernel_rfl) (by kernel_rfl) (fun _ _ _ h => h) (Or.inl ⟨by rfl, ?hy9_10⟩) hHeld ?_
    case hy9_10 => (intro w hSw; (try dsimp only at hSw); have i1 : (1 : Int) < (n : Int) := (by omega); have i2 : (2 : Int) < (n : Int) := (by omega); obtain ⟨q0, q1, q2⟩ := HC0.out w hSw; rw [Nat.add_zero] at q0; (try simp only [List.getElem_toArray, List.getElem_cons_zero, List.getElem_cons_succ]); go_simp <;> with_reducible rfl)
    (try simp only [Act.put, List.getElem_toArray, List.getElem_cons_zero, List.getElem_cons_succ, List.setIfInBounds_toArray, List.set_cons_zero, List.set_cons_succ])
    refine wpAnyH_take (i := 10) (v := ?v10_11) rfl (by kernel_rfl) (by kernel_rfl) (by kernel_rfl) (fun _ _ _ h => h) (Or.inl ⟨by rfl, ?hy10_11⟩) hHeld ?_
    case hy10_11 => (intro w hSw; (try dsimp only at hSw); have i1 : (1 : Int) < (n : Int) := (by omega); have i2 : (2 : Int) < (n : Int) := (by omega); obtain ⟨q0, q1, q2⟩ := HC0.out w hSw; rw [Nat.add_zero] at q0; (try simp only [List.getElem_toArray, List.getElem_cons_zero, List.getElem_cons_succ]); go_simp <;> with_reducible rfl)
    (try simp only [Act.put, List.getElem_toArray, List.getElem_cons_zero, List.getElem_cons_succ, List.setIfInBounds_toArray, List.set_cons_zero, List.set_cons_succ])
    refine wpAnyH_take (i := 11) (v := ?v11_12) rfl (by kernel_rfl) (by kernel_rfl) (by kernel_rfl) (fun _ _ _ h => h) (Or.inl ⟨by rfl, ?hy11_12⟩) hHeld ?_
    case hy11_12 => (intro w hSw; (try dsimp only at hSw); have i1 : (1 : Int) < (n : Int) := (by omega); have i2 : (2 : Int) < (n : Int) := (by omega); obtain ⟨q0, q1, q2⟩ := HC0.out w hSw; rw [Nat.add_zero] at q0; (try simp only [List.getElem_toArray, List.getElem_cons_zero, List.getElem_cons_succ]); go_simp <;> with_reducible rfl)
    (try simp only [Act.put, List.getElem_toArray, List.getElem_cons_zero, List.getElem_cons_succ, List.setIfInBounds_toArray, List.set_cons_zero, List.set_cons_succ])
    rw [wi x0, wi x1, wi x2]
    refine wpAnyH_take (i := 12) (v := ?v12_13) rfl (by kernel_rfl) (by kernel_rfl) (by kernel_rfl) (fun _ _ _ h => h) (Or.inl ⟨by rfl, ?hy12_13⟩) hHeld ?_
    case hy12_13 => (intro w hSw; (try dsimp only at hSw); (try simp only [List.getElem_toArray, List.getElem_cons_zero, List.getElem_cons_succ]); go_simp <;> with_reducible rfl)
    (try simp only [Act.put, List.getElem_toArray, List.getElem_cons_zero, List.getElem_cons_succ, List.setIfInBounds_toArray, List.set_cons_zero, List.set_cons_succ])
    rw [three_lit]
    have hz := fun W => rt_cfg.zero W
    refine wpAnyH_ready (rs := [13]) (by kernel_rfl) (by simp) ?_
    refine AllReadyH.cons rfl (fun K hK => ?_) AllReadyH.nil
    (try simp only [List.getElem_toArray, List.getElem_cons_zero, List.getElem_cons_succ])
    go_simp
    obtain ⟨w2, HW2⟩ : ∃ w2, Hid (w2 = w1.alloc (.cells zeroC.cells.toArray 24)) := ⟨_, Lib.hid rfl⟩
    obtain ⟨q2, HQ2⟩ : ∃ q2, Hid (q2 = w1.heap.size) := ⟨_, Lib.hid rfl⟩
    have N2 : Hid (Blk 24 w2 q2 zeroC.cells ∧ Below w1.heap.size w1 w2 ∧ w1.heap.size ≤ q2) := Lib.hid ⟨by rw [HW2.out, HQ2.out]; exact blk_new _ _, by rw [HW2.out]; exact below_alloc _ _, by rw [HQ2.out]; exact Nat.le_refl _⟩
    rw [← HW2.out, ← HQ2.out]
    clear HW2 HQ2 hz
    refine hK.out _ _ N2.out.2.1.drew (fun hHeld => ?_)
    clear hK K
    (try simp only [Act.put, List.getElem_toArray, List.getElem_cons_zero, List.getElem_cons_succ, List.setIfInBounds_toArray, List.set_cons_zero, List.set_cons_succ])
    have qs := st_cfg rt_cfg (w := w2.drew) (q := q2) N2.out.1 zeroC_ok (three_ok x0 x1 x2 zK zK_len)
    refine wpAnyH_ready (rs := [14]) (by kernel_rfl) (by simp) ?_
    refine AllReadyH.cons rfl (fun K hK => ?_) AllReadyH.nil
    (try simp only [List.getElem_toArray, List.getElem_cons_zero, List.getElem_cons_succ])
    go_simp
    obtain ⟨w3, HW3⟩ : ∃ w3, Hid (w3 = w2.drew.setCells q2 0 (Cfg.cells ⟨(x0.toNat : Int), (x1.toNat : Int), (x2.toNat : Int), zK⟩)) := ⟨_, Lib.hid rfl⟩
    have N3 : Hid (Blk 24 w3 q2 (Cfg.cells ⟨(x0.toNat : Int), (x1.toNat : Int), (x2.toNat : Int), zK⟩) ∧ Below w1.heap.size w1 w3 ∧ w1.heap.size ≤ q2) := Lib.hid ⟨by rw [HW3.out]; exact blk_put (w := w2.drew) N2.out.1 zeroC_ok (three_ok x0 x1 x2 zK zK_len), by rw [HW3.out]; exact bel_oth2 N2.out.2.1.drew (oth_setCells q2 _ 0 w2.drew w2.drew (Oth.refl _ _)) N2.out.2.2, N2.out.2.2⟩
    rw [← HW3.out]
    clear HW3 qs
    refine hK.out _ _ N3.out.2.1 (fun hHeld => ?_)
    clear hK K
    (try simp only [Act.put, List.getElem_toArray, List.getElem_cons_zero, List.getElem_cons_succ, List.setIfInBounds_toArray, List.set_cons_zero, List.set_cons_succ])
    refine wpAnyH_done (by kernel_rfl) ?_ _
    clear hHeld HD N2
    obtain ⟨k16, hk16⟩ : ∃ k, (l.drop 4).take 16 = k := ⟨_, rfl⟩
    have HKL : Hid (k16.length = 16) := Lib.hid (by rw [← hk16]; simp; rw [HL.out]; omega)
    have HE4 : Hid (headC l = ⟨(x0.toNat : Int), (x1.toNat : Int), (x2.toNat : Int), k16⟩) := Lib.hid (by rw [head_at HX.out.1 HX.out.2.1 HX.out.2.2, hk16])
    have HOK : Hid ((headC l).ok) := Lib.hid (headC_ok (by rw [HL.out]; omega))
    obtain ⟨w4, HW4⟩ : ∃ w4, Hid (w4 = w3.drew.setCells q2 3 (bvs k16)) := ⟨_, Lib.hid rfl⟩
    have hcp : (Builtin.copy_ #[25, 25] 3 #[.slice (some ⟨q2, 3, none⟩) 16 16, .slice (some ⟨g, o + 4, none⟩) (n - 4) (c - 4)]).run Tryz.prog w3.drew = .ok (.int .i64 16) w4 := by
      rw [HW4.out]
      have h := run_copy_cells (P := Tryz.prog) w3.drew 25 25 3 5 q2 3 16 16 ⟨g, o + 4, none⟩ (n - 4) (c - 4) (bvs k16) Tryz.underlying25 (by kernel_rfl) (by rw [bvs_length, HKL.out]; show 16 = min (n - 4) 16; omega) (fun j v hv => by
        rw [bvs_at', ← hk16] at hv
        have hj : j < 16 := by
          rcases Nat.lt_or_ge j 16 with h | h
          · exact h
          · rw [List.getElem?_eq_none (by simp; omega)] at hv; simp at hv
        rw [List.getElem?_take, if_pos hj, List.getElem?_drop] at hv
        have hlj : 4 + j < l.length := by rw [HL.out]; omega
        rw [List.getElem?_eq_getElem hlj] at hv
        injection hv with hv
        rw [← hv, Addr.add_mid, Nat.add_assoc, World.cell?_drew]
        rw [← HCELL.out (4 + j) hlj]
        exact (K1.out.2.1.trans (N3.out.2.1.mono K1.out.2.1.size)).cell (p := ⟨g, o + (4 + j), none⟩) HG.out) (fun j hj => ?_) (fun j hj => ?_) (bvs_one _)
      · rw [h, bvs_length, HKL.out]; rfl
      · rw [bvs_length, HKL.out] at hj
        rw [World.cell?_drew]
        have := cf_key N3.out.1 (i := j) (x := zK[j]'(by rw [zK_len]; exact hj)) (List.getElem?_eq_getElem _)
        rw [this]; rfl
      · rw [World.frozen?_drew]; exact N3.out.1.free _
    have N4 : Hid (Blk 24 w4 q2 (headC l).cells ∧ Below w1.heap.size w1 w4) := Lib.hid ⟨by
      rw [HW4.out, HE4.out, ← puts_key _ _ _ zK k16 (by rw [HKL.out, zK_len])]
      exact Blk.puts (w := w3.drew) _ _ _ N3.out.1, by rw [HW4.out]; exact bel_oth2 N3.out.2.1.drew (oth_setCells q2 _ 3 w3.drew w3.drew (Oth.refl _ _)) N3.out.2.2⟩
    clear HW4
    go_wp2_with fail
    have HD : Below w1.heap.size w1 w3.drew := N3.out.2.1.drew
    refine wp_region_held_drew (S := fun w' => Below w1.heap.size w1 w') (by kernel_rfl) HD (fun hHeld => ?_)
    (try dsimp only at hHeld)
    refine wpAnyH_take (i := 0) (v := ?v0_14) rfl (by kernel_rfl) (by kernel_rfl) (by kernel_rfl) (fun _ _ _ h => h) (Or.inl ⟨by rfl, ?hy0_14⟩) hHeld ?_
    case hy0_14 => (intro w hSw; (try dsimp only at hSw); have q3 := key_slice q2 w; have i4 : (4 : Int) ≤ (n : Int) := (by omega); have i5 : (4 : Int) ≤ (c : Int) := (by have := HNC.out; omega); (try simp only [List.getElem_toArray, List.getElem_cons_zero, List.getElem_cons_succ]); go_simp <;> with_reducible rfl)
    (try simp only [Act.put, List.getElem_toArray, List.getElem_cons_zero, List.getElem_cons_succ, List.setIfInBounds_toArray, List.set_cons_zero, List.set_cons_succ])
    refine wpAnyH_take (i := 1) (v := ?v1_15) rfl (by kernel_rfl) (by kernel_rfl) (by kernel_rfl) (fun _ _ _ h => h) (Or.inl ⟨by rfl, ?hy1_15⟩) hHeld ?_
    case hy1_15 => (intro w hSw; (try dsimp only at hSw); have q3 := key_slice q2 w; have i4 : (4 : Int) ≤ (n : Int) := (by omega); have i5 : (4 : Int) ≤ (c : Int) := (by have := HNC.out; omega); (try simp only [List.getElem_toArray, List.getElem_cons_zero, List.getElem_cons_succ]); go_simp <;> with_reducible rfl)
    (try simp only [Act.put, List.getElem_toArray, List.getElem_cons_zero, List.getElem_cons_succ, List.setIfInBounds_toArray, List.set_cons_zero, List.set_cons_succ])
    refine wpAnyH_take (i := 2) (v := ?v2_16) rfl (by kernel_rfl) (by kernel_rfl) (by kernel_rfl) (fun _ _ _ h => h) (Or.inl ⟨by rfl, ?hy2_16⟩) hHeld ?_
    case hy2_16 => (intro w hSw; (try dsimp only at hSw); have q3 := key_slice q2 w; have i4 : (4 : Int) ≤ (n : Int) := (by omega); have i5 : (4 : Int) ≤ (c : Int) := (by have := HNC.out; omega); (try simp only [List.getElem_toArray, List.getElem_cons_zero, List.getElem_cons_succ]); go_simp <;> with_reducible rfl)
    (try simp only [Act.put, List.getElem_toArray, List.getElem_cons_zero, List.getElem_cons_succ, List.setIfInBounds_toArray, List.set_cons_zero, List.set_cons_succ])
    refine wpAnyH_take (i := 3) (v := ?v3_17) rfl (by kernel_rfl) (by kernel_rfl) (by kernel_rfl) (fun _ _ _ h => h) (Or.inl ⟨by rfl, ?hy3_17⟩) hHeld ?_
    case hy3_17 => (intro w hSw; (try dsimp only at hSw); have q3 := key_slice q2 w; have i4 : (4 : Int) ≤ (n : Int) := (by omega); have i5 : (4 : Int) ≤ (c : Int) := (by have := HNC.out; omega); (try simp only [List.getElem_toArray, List.getElem_cons_zero, List.getElem_cons_succ]); go_simp <;> with_reducible rfl)
    (try simp only [Act.put, List.getElem_toArray, List.getElem_cons_zero, List.getElem_cons_succ, List.setIfInBounds_toArray, List.set_cons_zero, List.set_cons_succ])
    refine wpAnyH_ready (rs := [4]) (by kernel_rfl) (by simp) ?_
    refine AllReadyH.cons rfl (fun K hK => ?_) AllReadyH.nil
    (try simp only [List.getElem_toArray, List.getElem_cons_zero, List.getElem_cons_succ])
    go_simp
    rw [if_neg (show ¬ c = 4 by have := HNC.out; omega), hcp]
    go_simp
    refine hK.out _ _ N4.out.2 (fun hHeld => ?_)
    clear hK K
    (try simp only [Act.put, List.getElem_toArray, List.getElem_cons_zero, List.getElem_cons_succ, List.setIfInBounds_toArray, List.set_cons_zero, List.set_cons_succ])
    refine wpAnyH_done (by kernel_rfl) ?_ _
    clear hHeld HD hcp N3 HC0
    have BW := Lib.hid (K1.out.2.1.trans (N4.out.2.mono K1.out.2.1.size))
    obtain ⟨v, hv⟩ : ∃ v, (bytC (headC l) == l) = v := ⟨_, rfl⟩
    have HQE := Lib.hid (fun (A5 : Option Addr) (n5 c5 B5 B6 : Nat) (u : World) (h5 : RB u B5 A5 n5 (bytC (headC l))) (h6 : RB u B6 (some ⟨g, o, none⟩) n l) => equal_any A5 (some ⟨g, o, none⟩) n5 c5 n c B5 B6 (bytC (headC l)) l u h5 h6)
    rw [hv] at HQE
    have ql := ld_cfg rt_cfg N4.out.1 HOK.out
    have HRE := Lib.hid (read_eq (l := l) (by rw [HL.out]; exact h20'))
    have HMB := Lib.hid (fun u => mbytes_any (headC l) HOK.out u)
    obtain ⟨D, hD⟩ : ∃ D, headC l = D := ⟨_, rfl⟩
    have HBL : Hid (∃ B, bytC D = B) := Lib.hid ⟨_, rfl⟩
    obtain ⟨B, hB⟩ := HBL.out
    rw [hD] at N4 HOK ql HQE HMB
    rw [hB] at HQE HMB
    cases v
    · have HE : Hid (readC l = (zeroC, 10)) := Lib.hid (read_no (by rw [HL.out]; exact h20') (fun e => by have := HRE.out.2 e; rw [hv] at this; cases this))
      clear hv hD hB HRE HBL HX HE4 HKL hk16 HCELL
      go_wp2_with fail
      refine (HMB.out _).mono ?_
      rintro e w5 ⟨A5, c5, rfl, ho, hb⟩
      have K5 := Lib.hid (And.intro ho.rb (bel_next BW.out hb))
      have N5 := Lib.hid (N4.out.1.step hb)
      have Q5 := Lib.hid (K1.out.1.step ((N4.out.2).trans (hb.mono N4.out.2.size)))
      clear ho hb ql
      go_wp2_with fail
      refine (HQE.out _ _ _ _ _ _ K5.out.1 (by exact H.out.step K5.out.2)).mono ?_
      rintro e w6 ⟨rfl, rfl⟩
      have ql := ld_cfg rt_cfg N5.out HOK.out
      go_wp2_with (first
        | (refine wpList_stB rt_cfg rfl (.tmp 2) (.tmp 32) rfl q 0 rfl zeroC.cells zeroC.cells zero_lit (cells_one zeroC) (by exact (Cfg.cells_len zeroC_ok).trans zeroC_len.symm) (by exact Q5.out) (by rw [zeroC_len]; decide) ?_; intro w7 hc2 ho2 hs2; have K7 := Lib.hid (And.intro hc2 (bel_oth1 K5.out.2 ho2 K1.out.2.2)); clear hc2 ho2 hs2))
      rw [HE.out]
      refine bodyPost_ret (res_rec2 rt_cfg rfl _ _ q zeroC.cells (.int .i64 10) rfl rfl (by have := K7.out.1; rwa [puts_whole _ _ ((Cfg.cells_len zeroC_ok).trans zeroC_len.symm)] at this) ((Cfg.cells_len zeroC_ok).trans zeroC_len.symm)) rfl ⟨by rw [val_agg], K7.out.2⟩
    · have HE : Hid (readC l = (D, 0)) := Lib.hid (by have h := HRE.out.1 hv; rw [read_ok h.1 h.2.1 h.2.2, hD])
      clear hv hD hB HRE HBL HX HE4 HKL hk16 HCELL
      go_wp2_with fail
      refine (HMB.out _).mono ?_
      rintro e w5 ⟨A5, c5, rfl, ho, hb⟩
      have K5 := Lib.hid (And.intro ho.rb (bel_next BW.out hb))
      have N5 := Lib.hid (N4.out.1.step hb)
      have Q5 := Lib.hid (K1.out.1.step ((N4.out.2).trans (hb.mono N4.out.2.size)))
      clear ho hb ql
      go_wp2_with fail
      refine (HQE.out _ _ _ _ _ _ K5.out.1 (by exact H.out.step K5.out.2)).mono ?_
      rintro e w6 ⟨rfl, rfl⟩
      have ql := ld_cfg rt_cfg N5.out HOK.out
      go_wp2_with (first
        | (refine wpList_stB rt_cfg rfl (.tmp 2) (.tmp 33) rfl q 0 rfl zeroC.cells D.cells (val_agg D) (cells_one D) (by exact (Cfg.cells_len HOK.out).trans zeroC_len.symm) (by exact Q5.out) (by rw [zeroC_len]; decide) ?_; intro w7 hc2 ho2 hs2; have K7 := Lib.hid (And.intro hc2 (bel_oth1 K5.out.2 ho2 K1.out.2.2)); clear hc2 ho2 hs2))
      rw [HE.out]
      refine bodyPost_ret (res_rec2 rt_cfg rfl _ _ q D.cells (.int .i64 0) rfl rfl (by have := K7.out.1; rwa [puts_whole _ _ ((Cfg.cells_len HOK.out).trans zeroC_len.symm)] at this) ((Cfg.cells_len HOK.out).trans zeroC_len.symm)) rfl ⟨by rw [val_agg], K7.out.2⟩
end Go.Proofs.YtdhnknkochbekaaGreat
