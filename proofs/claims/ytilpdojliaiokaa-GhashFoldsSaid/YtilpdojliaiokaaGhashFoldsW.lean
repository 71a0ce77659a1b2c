/- The walk of GhashFolds: Fold and Times answer as the reference does. Conditions: the arguments are as they come in. -/
import Derived.Test.YtilpdojliaiokaaGhWalks
namespace Go.Proofs.Ytilpdojliaiokaa
open Go.RowKit
set_option linter.unusedVariables false
set_option linter.unusedSimpArgs false
/-- A slice of two rows of coefficients that a call lays. -/
theorem run_twoP (w : World) (l m : List Bool) (hl : l.length = 128) (hm : m.length = 128) : (Instr.buildSlice 31 2 #[(0, BV l), (1, BV m)]).run Try.prog w = .ok (.slice (some ⟨w.heap.size, 0, none⟩) 2 2) (w.alloc (.cells (tvs l ++ tvs m).toArray 43)) := by
  obtain ⟨z, h1, h2⟩ := poly_info
  obtain ⟨i0, hi0, hz0, hz1, hz2⟩ := info_parts h1
  have hb : (BV l).cells = (tvs l).toArray := rfl
  have hc : (BV m).cells = (tvs m).toArray := rfl
  refine run_buildSlice w _ 43 2 _ (tvs l ++ tvs m).toArray i0 z Try.underlying31 hi0 hz0 (by rw [hz1]; omega) (by rw [hz1]; omega) ?_
  have h := Great.fill_whole (s := 128) (by omega) [BV l, BV m] ((Array.range (2 * 128)).map (z.cells[· % z.cells.size]!)) (fun v hv => by
    simp only [List.mem_cons, List.not_mem_nil, or_false] at hv
    rcases hv with rfl | rfl
    · rw [hb]; simp [tvs_length, hl]
    · rw [hc]; simp [tvs_length, hm]) (by simp)
  rw [hz1]
  simpa [hb, hc] using h
noncomputable def twP (u v : Value) (w : World) : Result Next := Sem.run Try.prog (do let r ← Instr.buildSlice 31 2 #[(0, u), (1, v)]; pure (Next.value r)) w
theorem ex_twP (ev : Operand → Value) (x y : Operand) (d : Option Tmp) (ty : TypeId) (ps : String) (af : Array Edge) (g : Option (Nat × Bool)) (w : World) : (execOp ev ⟨d, .buildSlice 31 2 #[(0, x), (1, y)], ty, ps, af, g⟩).run Try.prog w = twP (ev x) (ev y) w := by
  unfold twP execOp
  simp only [List.map_toArray, List.map_cons, List.map_nil]
theorem twP_co (x y : Nat) (w : World) : twP (BV (co x)) (BV (co y)) w = .ok (.value (.slice (some ⟨w.heap.size, 0, none⟩) 2 2)) (w.alloc (.cells (tvs (co x) ++ tvs (co y)).toArray 43)) := by
  unfold twP
  simp only [Sem.run_bind, run_twoP w (co x) (co y) (co_len x) (co_len y), Result.andThen_ok, Sem.run_pure]
theorem two_xp (x y : Nat) (hx : x < 2 ^ 128) (hy : y < 2 ^ 128) (w : World) : XP (w.alloc (.cells (tvs (co x) ++ tvs (co y)).toArray 43)) (w.heap.size + 1) (some ⟨w.heap.size, 0, none⟩) 2 [x, y] := by
  refine ⟨rfl, fun i v hv => ?_, fun _ => ⟨w.heap.size, 0, rfl, Nat.lt_succ_self _, fun i v hv j u hu => ?_⟩⟩
  · match i, hv with
    | 0, hv => injection hv with hv; rw [← hv]; exact hx
    | 1, hv => injection hv with hv; rw [← hv]; exact hy
  · rw [cell_of_row (w.alloc (.cells (tvs (co x) ++ tvs (co y)).toArray 43)) w.heap.size _ _ 43 (0, 0) (heap_alloc_new w _)]
    have hj : j < 128 := by have := (List.getElem?_eq_some_iff.1 hu).1; rwa [tvs_length, co_len] at this
    match i, hv with
    | 0, hv =>
      injection hv with hv
      rw [← hv] at hu
      rw [List.getElem?_toArray, show 0 + 0 * 128 + j = j by omega, List.getElem?_append_left (by rw [tvs_length, co_len]; exact hj)]
      exact hu
    | 1, hv =>
      injection hv with hv
      rw [← hv] at hu
      rw [List.getElem?_toArray, show 0 + 1 * 128 + j = 128 + j by omega, List.getElem?_append_right (by rw [tvs_length, co_len]; omega), tvs_length, co_len, Nat.add_sub_cancel_left]
      exact hu
attribute [local go_sem ↓] ex_twP
attribute [local go_sem] twP_co
attribute [local irreducible] PE gMul gFold Ho bks longL bB sumG nB ldP stP bsP osP gNext K2 X2 hl co tvs zP bitsOf gldB gstB twP BV

set_option maxRecDepth 100000 in
set_option maxHeartbeats 4000000 in
theorem GhashFolds_walk (A0 : Option Addr) (n0 c0 : Nat) (l0 : List UInt8) (x1 : Nat) (A2 : Option Addr) (n2 c2 : Nat) (l2 : List Nat) (w : World) (h0 : RB w w.heap.size A0 n0 l0) (m0 : n0 ≤ c0 ∧ c0 ≤ maxLen) (h1 : x1 < 2 ^ 128) (h2 : XE w w.heap.size A2 n2 l2) (m2 : n2 ≤ c2 ∧ c2 ≤ maxLen) :
    Calls Try.prog 4 #[.slice A0 n0 c0, PE x1, .slice A2 n2 c2] w fun e w' => e = .returned (.bool true) ∧ Below w.heap.size w w' := by
  unfold maxLen at m0 m2
  have H0 := Lib.hid h0
  have H2 := Lib.hid h2
  have e0 := h0.len
  have e2 := h2.1
  have HX := Lib.hid h1
  clear h0 h1 h2
  obtain ⟨zz, hXX⟩ := cells_co
  have HXX := Lib.hid hXX
  clear hXX
  have hz := zero_poly
  obtain ⟨G, HG⟩ : ∃ G, Hid (G = w.heap.size) := ⟨_, Lib.hid rfl⟩
  go_enter Try.func4, Try.ntmps4
  go_wp2_with (refine wpList_boxX rfl _ (.tmp 1) rfl x1 rfl ?_)
  refine (alive_any _).mono ?_
  rintro e w1 ⟨rfl, hb1⟩
  have HXW : Hid (Xw w1 G x1) := Lib.hid (by rw [HG.out]; exact Xw.keep (Ew.new w _ _ _ rfl) hb1)
  have HB1 : Hid (Below w.heap.size w w1) := Lib.hid ((below_alloc w _).trans (hb1.mono (by simp)))
  have hG1 : G < w1.heap.size := Ew.lt HXW.out
  clear hb1
  have hwG : w.heap.size ≤ G := by rw [HG.out]; exact Nat.le_refl _
  rw [← HG.out]
  by_cases h16 : n0 = 16
  · subst h16
    by_cases h2' : n2 ≤ 30
    · have hg2 : decide ((n2 : Int) > 30) = false := decide_eq_false (by omega)
      obtain ⟨h, HH⟩ : ∃ h, Hid (h = nB l0 ∧ h < 2 ^ 128) := ⟨_, Lib.hid ⟨rfl, nB_lt l0 e0⟩⟩
      have HKB : Hid (bitsOf l0 = co h) := Lib.hid (by rw [HH.out.1]; exact nB_bits l0 e0)
      go_wp2_with fail
      refine (new_k w w1 A0 16 c0 h l0 rfl m0.1 H0.out HB1.out HH.out.1).mono ?_
      rintro e v0 ⟨b, rfl, hb1, hbl, k0⟩
      have K0 := Lib.hid k0
      have Y0 := Lib.hid (Xw.keep HXW.out hbl)
      have hbG : G < b := by omega
      clear hb1 hbl k0 HXW
      obtain ⟨B0, HB0⟩ : ∃ B0, Hid (B0 = v0.heap.size) := ⟨_, Lib.hid rfl⟩
      have hbB : b < B0 := by rw [HB0.out]; exact K0.out.ho.lt
      have hwB : w.heap.size ≤ B0 := by rw [HB0.out]; exact K0.out.bel.size
      have HO0 : Hid (OwnP (v0.alloc (.cells #[] 43)) B0 (some ⟨B0, 0, none⟩) 0 0 (l2.take 0)) := Lib.hid (by rw [HB0.out, List.take_zero]; exact OwnX.lit0 _ _ _ v0 _ (Nat.le_refl _))
      have K5 := Lib.hid (K0.out.keep (below_alloc v0 (.cells #[] 43)))
      have Y5 := Lib.hid (Xw.keep Y0.out (below_alloc v0 (.cells #[] 43)))
      have hB5 : B0 ≤ (v0.alloc (.cells #[] 43)).heap.size := by rw [HB0.out]; simp
      have hn30 : n2 ≤ 30 := h2'
      go_wp2_with fail
      rw [← HB0.out]
      go_loopw [9, 10] (fun v i wr => ∃ q c1 g1 : Nat, q ≤ n2 ∧ i = .int .i64 q ∧ v = .slice (some ⟨g1, 0, none⟩) q c1 ∧ Hid (OwnP wr B0 (some ⟨g1, 0, none⟩) q c1 (l2.take q)) ∧ Hid (K2 w b h false wr) ∧ Hid (Xw wr G x1) ∧ B0 ≤ wr.heap.size) (fun _ i _ => n2 - (intOf i).toNat)
      case atStart => exact ⟨0, 0, B0, by omega, rfl, rfl, HO0, K5, Y5, hB5⟩
      case round =>
        obtain ⟨q, c1, g1, hq, rfl, rfl, ho, hk, hy, hB⟩ := hrel
        clear HO0 K5 Y5 hB5 K0 Y0
        by_cases hlt : q < n2
        · obtain ⟨ga, oa, rfl, hga, hca⟩ := H2.out.2.2 (by omega)
          obtain ⟨x, hx⟩ : ∃ x, l2[q]? = some x := ⟨_, List.getElem?_eq_getElem (by omega)⟩
          have HLX := Lib.hid (H2.out.2.1 q x hx)
          have HTK : Hid (l2.take (q + 1) = l2.take q ++ [x]) := Lib.hid (by rw [List.take_add_one, hx]; rfl)
          have HCX : Hid (wr.rangeAt ga (oa + q * 2) (es (x / 2 ^ 64) (x % 2 ^ 64))) := Lib.hid (fun j v hv => (hk.out.bel.cell (p := ⟨ga, oa + q * 2 + j, none⟩) hga).trans (hca q x hx j v hv))
          have HNB : Hid (bitsOf (bB x) = co x) := Lib.hid (bB_bits x HLX.out)
          clear hca hx
          go_wp2_with (first | (refine wpList_ldM rfl (.tmp 45) rfl ga (oa + q * 2) rfl x (by exact HCX.out) ?_) | (go_at_call 18; refine (bytes_pe x _ HLX.out).mono ?_; rintro e v1 ⟨A1, d1, rfl, ho1, hb1⟩; have HO1 := Lib.hid ho1; have HB1' := Lib.hid hb1; clear ho1 hb1) | (go_at_call 17; refine (pof_any A1 d1 (bB x) _ (by exact HO1.out.rb)).mono ?_; rw [HNB.out]; rintro e v2 ⟨rfl, hb2⟩; have HB2 := Lib.hid (bel_next HB1'.out hb2); clear hb2) | (refine wpList_oneP rfl (.tmp 48) rfl (co x) (co_len x) rfl ?_) | (at_builtin; refine wpList_appX HXX.out rfl (.tmp 42) (.tmp 49) rfl B0 (some ⟨g1, 0, none⟩) q c1 (l2.take q) rfl (by exact OwnX.below (OwnX.below ho.out HB2.out) (below_alloc _ _)) v2.heap.size 1 1 [x] rfl rfl (by intro j u hu; have hu2 : (tvs (co x))[j]? = some u := (by simpa using hu); have := (Br.new v2 (co x) 43).1 j u hu2; rw [Nat.zero_add] at this; exact this) (by unfold maxLen; omega) (by omega) (by have h2 := HB2.out.size; rw [World.size_alloc]; omega) ?_; intro A7 c7 w7 ho7 hb7; obtain ⟨g7, rfl⟩ := OwnX.form ho7 (by omega); have HO7 := Lib.hid ho7; have K7 := Lib.hid (K2.below ((hk.out.keep HB2.out).keep (below_alloc v2 (.cells (tvs (co x)).toArray 43))) hb7 hwB hbB); have Y7 : Hid (Xw w7 G x1) := Lib.hid (Ew.below (Xw.keep (Xw.keep hy.out HB2.out) (below_alloc _ _)) hb7 (by omega)); have hB7 : B0 ≤ w7.heap.size := Nat.le_trans (Nat.le_trans hB HB2.out.size) (by have := hb7.size; rw [World.size_alloc] at this; omega); clear ho7 hb7))
          go_roundw
          case rel => exact ⟨q + 1, c7, g7, by omega, by go_num, rfl, Lib.hid (by rw [HTK.out]; exact HO7.out), K7, Y7, hB7⟩
          case measure => simp [intOf]; omega
        · have hqn : q = n2 := by omega
          subst hqn
          have HO : Hid (OwnP wr B0 (some ⟨g1, 0, none⟩) q c1 l2) := Lib.hid (by have := ho.out; rw [List.take_of_length_le (by omega)] at this; exact this)
          have HL2 := Lib.hid H2.out.2.1
          obtain ⟨F, HF⟩ : ∃ F, Hid (F = gFold h x1 l2 ∧ F < 2 ^ 128) := ⟨_, Lib.hid ⟨rfl, gFold_lt h HH.out.2 _ _ HX.out H2.out.2.1⟩⟩
          obtain ⟨M, HM⟩ : ∃ M, Hid (M = gMul h x1 ∧ M < 2 ^ 128) := ⟨_, Lib.hid ⟨rfl, gMul_lt _ _ HH.out.2⟩⟩
          have HMC : Hid (M = gMul x1 h) := Lib.hid (by rw [HM.out.1]; exact gMul_comm h x1 HH.out.2 HX.out)
          have HNB : Hid (bitsOf (bB x1) = co x1) := Lib.hid (bB_bits x1 HX.out)
          clear ho
          go_wp2_with fail
          refine (pof_any A0 c0 l0 _ (hk.out.rb H0.out)).mono ?_
          rw [HKB.out]
          rintro e v8 ⟨rfl, hb8⟩
          obtain ⟨VK, HVK⟩ : ∃ V, Hid (V = v8.heap.size) := ⟨_, Lib.hid rfl⟩
          obtain ⟨v9, HW9⟩ : ∃ v9, Hid (v9 = (v8.alloc (.cells (tvs zP).toArray 43)).setCells v8.heap.size 0 (tvs (co h))) := ⟨_, Lib.hid rfl⟩
          have hb9 : Below v8.heap.size v8 v9 := by rw [HW9.out]; exact below_setCells (below_alloc _ _) (Nat.le_refl _) _ _
          have hbw9 : Below wr.heap.size wr v9 := bel_next hb8 hb9
          have K9 := Lib.hid (hk.out.keep hbw9)
          have Y9 := Lib.hid (Xw.keep hy.out hbw9)
          have O9 := Lib.hid (OwnX.below HO.out hbw9)
          have hBV : B0 ≤ VK := by rw [HVK.out]; exact Nat.le_trans hB hb8.size
          have R9 : Hid (Br v9 VK 0 (co h)) := Lib.hid (by rw [HW9.out, HVK.out]; exact (Br.new v8 zP _).whole (co h) (by rw [co_len, zP_len]))
          clear hb8 hb9 hbw9 HO
          go_wp2_with (first | (refine wpList_stT rfl _ (.tmp 11) (.tmp 52) rfl v8.heap.size 0 rfl (co h) zP rfl (by exact Br.new v8 zP _) (by rw [co_len, zP_len]) (by rw [co_len]; exact sz_poly) ?_; show wpList _ _ _ _ _ ((v8.alloc (.cells (tvs zP).toArray 43)).setCells v8.heap.size 0 (tvs (co h))); rw [← HW9.out, ← HVK.out]; clear HW9) | (refine wpList_ldX rfl (.tmp 4) rfl G rfl x1 (by exact Y9.out) ?_))
          refine (bytes_pe x1 _ HX.out).mono ?_
          rintro e v10 ⟨A10, d10, rfl, ho10, hb10⟩
          have HO10 := Lib.hid ho10
          have HB10 := Lib.hid hb10
          clear ho10 hb10
          go_wp2_with fail
          refine (pof_any A10 d10 (bB x1) _ HO10.out.rb).mono ?_
          rw [HNB.out]
          rintro e v11 ⟨rfl, hb11⟩
          have HB11 := Lib.hid (bel_next HB10.out hb11)
          clear hb11 HO10 HB10
          obtain ⟨VF, HVF⟩ : ∃ V, Hid (V = v11.heap.size) := ⟨_, Lib.hid rfl⟩
          obtain ⟨v12, HW12⟩ : ∃ v12, Hid (v12 = (v11.alloc (.cells (tvs zP).toArray 43)).setCells v11.heap.size 0 (tvs (co x1))) := ⟨_, Lib.hid rfl⟩
          have hb12 : Below v9.heap.size v9 v12 := bel_next HB11.out (by rw [HW12.out]; exact below_setCells (below_alloc _ _) (Nat.le_refl _) _ _)
          have K12 := Lib.hid ((K9.out.keep hb12).drew)
          have Y12 := Lib.hid (Xw.keep (Xw.keep Y9.out hb12) (Below.refl _ _).drew)
          have O12 := Lib.hid ((OwnX.below O9.out hb12).drew)
          have R12 : Hid (Br v12.drew VK 0 (co h)) := Lib.hid (R9.out.keep1 (by rw [co_len]; omega) hb12).drew
          have S12 : Hid (Br v12.drew VF 0 (co x1)) := Lib.hid (by rw [HW12.out, HVF.out]; exact ((Br.new v11 zP _).whole (co x1) (by rw [co_len, zP_len])).drew)
          clear hb12 K9 Y9 O9 R9
          go_wp2_with (refine wpList_stT rfl _ (.tmp 12) (.tmp 55) rfl v11.heap.size 0 rfl (co x1) zP rfl (by exact Br.new v11 zP _) (by rw [co_len, zP_len]) (by rw [co_len]; exact sz_poly) ?_; show wpList _ _ _ _ _ ((v11.alloc (.cells (tvs zP).toArray 43)).setCells v11.heap.size 0 (tvs (co x1))); rw [← HW12.out, ← HVF.out]; clear HW12)
          have HSD := Lib.hid (⟨gldB_r R12.out.1, gldB_r S12.out.1⟩ : _ ∧ _)
          refine wp_region_held_drew (S := fun w' => gldB (.pointer (some ⟨VK, 0, none⟩)) w' = .ok (.value (BV (co h))) w' ∧ gldB (.pointer (some ⟨VF, 0, none⟩)) w' = .ok (.value (BV (co x1))) w') (by kernel_rfl) HSD.out (fun hHeld => ?_)
          (try dsimp only at hHeld)
          refine wpAnyH_take (i := 0) (v := ?v0_1) rfl (by kernel_rfl) (by kernel_rfl) (by kernel_rfl) (fun _ _ _ h => h) (Or.inl ⟨by rfl, ?hy0_1⟩) hHeld ?_
          case hy0_1 => (intro w hSw; (try dsimp only at hSw); obtain ⟨hSw1, hSw2⟩ := hSw; (try simp only [List.getElem_toArray, List.getElem_cons_zero, List.getElem_cons_succ]); go_simp <;> with_reducible rfl)
          (try simp only [Act.put, List.getElem_toArray, List.getElem_cons_zero, List.getElem_cons_succ, List.setIfInBounds_toArray, List.set_cons_zero, List.set_cons_succ])
          refine wpAnyH_take (i := 1) (v := ?v1_2) rfl (by kernel_rfl) (by kernel_rfl) (by kernel_rfl) (fun _ _ _ h => h) (Or.inl ⟨by rfl, ?hy1_2⟩) hHeld ?_
          case hy1_2 => (intro w hSw; (try dsimp only at hSw); obtain ⟨hSw1, hSw2⟩ := hSw; (try simp only [List.getElem_toArray, List.getElem_cons_zero, List.getElem_cons_succ]); go_simp <;> with_reducible rfl)
          (try simp only [Act.put, List.getElem_toArray, List.getElem_cons_zero, List.getElem_cons_succ, List.setIfInBounds_toArray, List.set_cons_zero, List.set_cons_succ])
          refine wpAnyH_take (i := 2) (v := ?v2_3) rfl (by kernel_rfl) (by kernel_rfl) (by kernel_rfl) (fun _ _ _ h => h) (Or.inl ⟨by rfl, ?hy2_3⟩) hHeld ?_
          case hy2_3 => (intro w hSw; (try dsimp only at hSw); obtain ⟨hSw1, hSw2⟩ := hSw; (try simp only [List.getElem_toArray, List.getElem_cons_zero, List.getElem_cons_succ]); go_simp <;> with_reducible rfl)
          (try simp only [Act.put, List.getElem_toArray, List.getElem_cons_zero, List.getElem_cons_succ, List.setIfInBounds_toArray, List.set_cons_zero, List.set_cons_succ])
          refine wpAnyH_take (i := 4) (v := ?v4_4) rfl (by kernel_rfl) (by kernel_rfl) (by kernel_rfl) (fun _ _ _ h => h) (Or.inl ⟨by rfl, ?hy4_4⟩) hHeld ?_
          case hy4_4 => (intro w hSw; (try dsimp only at hSw); obtain ⟨hSw1, hSw2⟩ := hSw; (try simp only [List.getElem_toArray, List.getElem_cons_zero, List.getElem_cons_succ]); go_simp <;> with_reducible rfl)
          (try simp only [Act.put, List.getElem_toArray, List.getElem_cons_zero, List.getElem_cons_succ, List.setIfInBounds_toArray, List.set_cons_zero, List.set_cons_succ])
          refine wpAnyH_take (i := 5) (v := ?v5_5) rfl (by kernel_rfl) (by kernel_rfl) (by kernel_rfl) (fun _ _ _ h => h) (Or.inl ⟨by rfl, ?hy5_5⟩) hHeld ?_
          case hy5_5 => (intro w hSw; (try dsimp only at hSw); obtain ⟨hSw1, hSw2⟩ := hSw; (try simp only [List.getElem_toArray, List.getElem_cons_zero, List.getElem_cons_succ]); go_simp <;> with_reducible rfl)
          (try simp only [Act.put, List.getElem_toArray, List.getElem_cons_zero, List.getElem_cons_succ, List.setIfInBounds_toArray, List.set_cons_zero, List.set_cons_succ])
          refine wpAnyH_ready (rs := [3]) (by kernel_rfl) (by simp) ?_
          refine AllReadyH.cons rfl (fun K hK => ?_) AllReadyH.nil
          (try simp only [List.getElem_toArray, List.getElem_cons_zero, List.getElem_cons_succ])
          go_simp
          refine (rfold_any h x1 (some ⟨g1, 0, none⟩) q c1 l2 _ HH.out.2 HX.out (by unfold maxLen; omega) (OwnP.xp O12.out HL2.out)).mono ?_
          rw [← HF.out.1]
          rintro e v13 ⟨rfl, hb⟩
          have K13 := Lib.hid (K12.out.keep hb)
          have Y13 := Lib.hid (Xw.keep Y12.out hb)
          have R13 := Lib.hid (R12.out.keep1 (by rw [co_len]; omega) hb)
          have S13 := Lib.hid (S12.out.keep1 (by rw [co_len]; omega) hb)
          clear hb
          (try go_wp2_with fail)
          refine hK.out _ _ ⟨gldB_r R13.out.1, gldB_r S13.out.1⟩ (fun hHeld => ?_)
          clear hK K
          (try simp only [Act.put, List.getElem_toArray, List.getElem_cons_zero, List.getElem_cons_succ, List.setIfInBounds_toArray, List.set_cons_zero, List.set_cons_succ])
          refine wpAnyH_ready (rs := [6]) (by kernel_rfl) (by simp) ?_
          refine AllReadyH.cons rfl (fun K hK => ?_) AllReadyH.nil
          (try simp only [List.getElem_toArray, List.getElem_cons_zero, List.getElem_cons_succ])
          go_simp
          refine (pmul_co h x1 _ HH.out.2 HX.out).mono ?_
          rw [← HM.out.1]
          rintro e v14 ⟨rfl, hb⟩
          have K14 := Lib.hid (K13.out.keep hb)
          have Y14 := Lib.hid (Xw.keep Y13.out hb)
          have R14 := Lib.hid (R13.out.keep1 (by rw [co_len]; omega) hb)
          have S14 := Lib.hid (S13.out.keep1 (by rw [co_len]; omega) hb)
          clear hb
          (try go_wp2_with fail)
          refine hK.out _ _ ⟨gldB_r R14.out.1, gldB_r S14.out.1⟩ (fun hHeld => ?_)
          clear hK K
          (try simp only [Act.put, List.getElem_toArray, List.getElem_cons_zero, List.getElem_cons_succ, List.setIfInBounds_toArray, List.set_cons_zero, List.set_cons_succ])
          refine wpAnyH_ready (rs := [7]) (by kernel_rfl) (by simp) ?_
          refine AllReadyH.cons rfl (fun K hK => ?_) AllReadyH.nil
          (try simp only [List.getElem_toArray, List.getElem_cons_zero, List.getElem_cons_succ])
          go_simp
          refine hK.out _ _ ⟨gldB_r (R14.out.keep1 (by rw [co_len]; omega) (below_alloc _ _)).1, gldB_r (S14.out.keep1 (by rw [co_len]; omega) (below_alloc _ _)).1⟩ (fun hHeld => ?_)
          clear hK K
          (try simp only [Act.put, List.getElem_toArray, List.getElem_cons_zero, List.getElem_cons_succ, List.setIfInBounds_toArray, List.set_cons_zero, List.set_cons_succ])
          refine wpAnyH_ready (rs := [8]) (by kernel_rfl) (by simp) ?_
          refine AllReadyH.cons rfl (fun K hK => ?_) AllReadyH.nil
          (try simp only [List.getElem_toArray, List.getElem_cons_zero, List.getElem_cons_succ])
          go_simp
          refine (elems_any (some ⟨v14.heap.size, 0, none⟩) 2 2 [F, M] _ (by omega) (by rw [World.size_alloc]; exact two_xp F M HF.out.2 HM.out.2 v14)).mono ?_
          rintro e v15 ⟨gx, cx, rfl, ho15, hb⟩
          have hb' : Below v14.heap.size v14 v15 := (below_alloc v14 _).trans (hb.mono (by rw [World.size_alloc]; omega))
          have K15 := Lib.hid (K14.out.keep hb')
          have Y15 := Lib.hid (Xw.keep Y14.out hb')
          have R15 := Lib.hid (R14.out.keep1 (by rw [co_len]; omega) hb')
          have S15 := Lib.hid (S14.out.keep1 (by rw [co_len]; omega) hb')
          have hbx : b < v14.heap.size := K14.out.ho.lt
          have hgx := OwnX.apart ho15 (show b < (v14.alloc (.cells (tvs (co F) ++ tvs (co M)).toArray 43)).heap.size by rw [World.size_alloc]; omega) gx 0 rfl
          have X0 : Hid (v15.rangeAt gx 0 (es (F / 2 ^ 64) (F % 2 ^ 64)) ∧ v15.rangeAt gx 2 (es (M / 2 ^ 64) (M % 2 ^ 64)) ∧ gx < v15.heap.size) := Lib.hid (by
            obtain ⟨g2, e, h1, h2, h3⟩ := OwnX.at_ (i := 0) (x := F) ho15 (fun x => rfl) rfl
            obtain ⟨g3, e', _, _, h4⟩ := OwnX.at_ (i := 1) (x := M) ho15 (fun x => rfl) rfl
            injection e with e
            injection e with e
            injection e' with e'
            injection e' with e'
            subst e
            subst e'
            exact ⟨h3, h4, h2⟩)
          clear hb hb' ho15 hbx
          (try go_wp2_with fail)
          refine hK.out _ _ ⟨gldB_r R15.out.1, gldB_r S15.out.1⟩ (fun hHeld => ?_)
          clear hK K
          (try simp only [Act.put, List.getElem_toArray, List.getElem_cons_zero, List.getElem_cons_succ, List.setIfInBounds_toArray, List.set_cons_zero, List.set_cons_succ])
          refine wpAnyH_ready (rs := [9]) (by kernel_rfl) (by simp) ?_
          refine AllReadyH.cons rfl (fun K hK => ?_) AllReadyH.nil
          (try simp only [List.getElem_toArray, List.getElem_cons_zero, List.getElem_cons_succ])
          go_simp
          refine hK.out _ _ ⟨gldB_r R15.out.1, gldB_r S15.out.1⟩ (fun _ => ?_)
          clear hK K
          (try simp only [Act.put, List.getElem_toArray, List.getElem_cons_zero, List.getElem_cons_succ, List.setIfInBounds_toArray, List.set_cons_zero, List.set_cons_succ])
          refine wpAnyH_done (by kernel_rfl) ?_ _
          clear R15 S15 R14 S14 R13 S13 R12 S12 K14 K13 K12 Y14 Y13 Y12 O12 HSD hz
          have HLD : Hid (∀ W, Xw W G x1 → W.rangeAt gx 0 (es (F / 2 ^ 64) (F % 2 ^ 64)) ∧ W.rangeAt gx 2 (es (M / 2 ^ 64) (M % 2 ^ 64)) ∧ gx < W.heap.size → ldP (.pointer (some ⟨G, 0, none⟩)) W = .ok (.value (PE x1)) W ∧ ldP (.pointer (some ⟨gx, 0, none⟩)) W = .ok (.value (PE F)) W ∧ ldP (.pointer (some ⟨gx, 2, none⟩)) W = .ok (.value (PE M)) W) := Lib.hid (fun W h1 h2 => ⟨ldP_x h1, ldP_m h2.1, ldP_m h2.2.1⟩)
          have HXB : Hid (∀ W W', But b W W' → W.rangeAt gx 0 (es (F / 2 ^ 64) (F % 2 ^ 64)) ∧ W.rangeAt gx 2 (es (M / 2 ^ 64) (M % 2 ^ 64)) ∧ gx < W.heap.size → W'.rangeAt gx 0 (es (F / 2 ^ 64) (F % 2 ^ 64)) ∧ W'.rangeAt gx 2 (es (M / 2 ^ 64) (M % 2 ^ 64)) ∧ gx < W'.heap.size) := Lib.hid (fun W W' hb h2 => ⟨fun j v hv => (hb.cell (p := ⟨gx, 0 + j, none⟩) h2.2.2 hgx).trans (h2.1 j v hv), fun j v hv => (hb.cell (p := ⟨gx, 2 + j, none⟩) h2.2.2 hgx).trans (h2.2.1 j v hv), Nat.lt_of_lt_of_le h2.2.2 hb.size⟩)
          have K16 := Lib.hid K15.out.drew
          have Y16 := Lib.hid (Xw.keep Y15.out (Below.refl _ _).drew)
          have X16 := Lib.hid (HXB.out _ _ ((But.refl b v15).drew) X0.out)
          have HSD := Lib.hid (HLD.out _ Y16.out X16.out)
          go_wp2_with fail
          refine wp_region_held_drew (S := fun w' => ldP (.pointer (some ⟨G, 0, none⟩)) w' = .ok (.value (PE x1)) w' ∧ ldP (.pointer (some ⟨gx, 0, none⟩)) w' = .ok (.value (PE F)) w' ∧ ldP (.pointer (some ⟨gx, 2, none⟩)) w' = .ok (.value (PE M)) w') (by kernel_rfl) HSD.out (fun hHeld => ?_)
          (try dsimp only at hHeld)
          refine wpAnyH_take (i := 0) (v := ?v0_6) rfl (by kernel_rfl) (by kernel_rfl) (by kernel_rfl) (fun _ _ _ h => h) (Or.inl ⟨by rfl, ?hy0_6⟩) hHeld ?_
          case hy0_6 => (intro w hSw; (try dsimp only at hSw); obtain ⟨hSw1, hSw2, hSw3⟩ := hSw; (try simp only [List.getElem_toArray, List.getElem_cons_zero, List.getElem_cons_succ]); go_simp <;> with_reducible rfl)
          (try simp only [Act.put, List.getElem_toArray, List.getElem_cons_zero, List.getElem_cons_succ, List.setIfInBounds_toArray, List.set_cons_zero, List.set_cons_succ])
          refine wpAnyH_take (i := 1) (v := ?v1_7) rfl (by kernel_rfl) (by kernel_rfl) (by kernel_rfl) (fun _ _ _ h => h) (Or.inl ⟨by rfl, ?hy1_7⟩) hHeld ?_
          case hy1_7 => (intro w hSw; (try dsimp only at hSw); obtain ⟨hSw1, hSw2, hSw3⟩ := hSw; (try simp only [List.getElem_toArray, List.getElem_cons_zero, List.getElem_cons_succ]); go_simp <;> with_reducible rfl)
          (try simp only [Act.put, List.getElem_toArray, List.getElem_cons_zero, List.getElem_cons_succ, List.setIfInBounds_toArray, List.set_cons_zero, List.set_cons_succ])
          refine wpAnyH_take (i := 2) (v := ?v2_8) rfl (by kernel_rfl) (by kernel_rfl) (by kernel_rfl) (fun _ _ _ h => h) (Or.inl ⟨by rfl, ?hy2_8⟩) hHeld ?_
          case hy2_8 => (intro w hSw; (try dsimp only at hSw); obtain ⟨hSw1, hSw2, hSw3⟩ := hSw; (try simp only [List.getElem_toArray, List.getElem_cons_zero, List.getElem_cons_succ]); go_simp <;> with_reducible rfl)
          (try simp only [Act.put, List.getElem_toArray, List.getElem_cons_zero, List.getElem_cons_succ, List.setIfInBounds_toArray, List.set_cons_zero, List.set_cons_succ])
          refine wpAnyH_take (i := 4) (v := ?v4_9) rfl (by kernel_rfl) (by kernel_rfl) (by kernel_rfl) (fun _ _ _ h => h) (Or.inl ⟨by rfl, ?hy4_9⟩) hHeld ?_
          case hy4_9 => (intro w hSw; (try dsimp only at hSw); obtain ⟨hSw1, hSw2, hSw3⟩ := hSw; (try simp only [List.getElem_toArray, List.getElem_cons_zero, List.getElem_cons_succ]); go_simp <;> with_reducible rfl)
          (try simp only [Act.put, List.getElem_toArray, List.getElem_cons_zero, List.getElem_cons_succ, List.setIfInBounds_toArray, List.set_cons_zero, List.set_cons_succ])
          refine wpAnyH_take (i := 5) (v := ?v5_10) rfl (by kernel_rfl) (by kernel_rfl) (by kernel_rfl) (fun _ _ _ h => h) (Or.inl ⟨by rfl, ?hy5_10⟩) hHeld ?_
          case hy5_10 => (intro w hSw; (try dsimp only at hSw); obtain ⟨hSw1, hSw2, hSw3⟩ := hSw; (try simp only [List.getElem_toArray, List.getElem_cons_zero, List.getElem_cons_succ]); go_simp <;> with_reducible rfl)
          (try simp only [Act.put, List.getElem_toArray, List.getElem_cons_zero, List.getElem_cons_succ, List.setIfInBounds_toArray, List.set_cons_zero, List.set_cons_succ])
          refine wpAnyH_take (i := 6) (v := ?v6_11) rfl (by kernel_rfl) (by kernel_rfl) (by kernel_rfl) (fun _ _ _ h => h) (Or.inl ⟨by rfl, ?hy6_11⟩) hHeld ?_
          case hy6_11 => (intro w hSw; (try dsimp only at hSw); obtain ⟨hSw1, hSw2, hSw3⟩ := hSw; (try simp only [List.getElem_toArray, List.getElem_cons_zero, List.getElem_cons_succ]); go_simp <;> with_reducible rfl)
          (try simp only [Act.put, List.getElem_toArray, List.getElem_cons_zero, List.getElem_cons_succ, List.setIfInBounds_toArray, List.set_cons_zero, List.set_cons_succ])
          refine wpAnyH_ready (rs := [3]) (by kernel_rfl) (by simp) ?_
          refine AllReadyH.cons rfl (fun K hK => ?_) AllReadyH.nil
          (try simp only [List.getElem_toArray, List.getElem_cons_zero, List.getElem_cons_succ])
          go_simp
          refine (fold_k K16.out x1 F A2 q c2 l2 HX.out (by omega) (K16.out.xe H2.out) (XE.apart H2.out K16.out.lo) HF.out.1).mono ?_
          rintro e v17 ⟨rfl, ⟨d17, k⟩, hb⟩
          have K17 := Lib.hid k
          have Y17 := Lib.hid (Xw.but Y16.out hb (by omega))
          have X17 := Lib.hid (HXB.out _ _ hb X16.out)
          clear k hb
          (try go_wp2_with fail)
          refine hK.out _ _ (HLD.out _ Y17.out X17.out) (fun hHeld => ?_)
          clear hK K
          (try simp only [Act.put, List.getElem_toArray, List.getElem_cons_zero, List.getElem_cons_succ, List.setIfInBounds_toArray, List.set_cons_zero, List.set_cons_succ])
          refine wpAnyH_take (i := 7) (v := ?v7_12) rfl (by kernel_rfl) (by kernel_rfl) (by kernel_rfl) (fun _ _ _ h => h) (Or.inl ⟨by rfl, ?hy7_12⟩) hHeld ?_
          case hy7_12 => (intro w hSw; (try dsimp only at hSw); obtain ⟨hSw1, hSw2, hSw3⟩ := hSw; (try simp only [List.getElem_toArray, List.getElem_cons_zero, List.getElem_cons_succ]); go_simp <;> with_reducible rfl)
          (try simp only [Act.put, List.getElem_toArray, List.getElem_cons_zero, List.getElem_cons_succ, List.setIfInBounds_toArray, List.set_cons_zero, List.set_cons_succ])
          refine wpAnyH_take (i := 8) (v := ?v8_13) rfl (by kernel_rfl) (by kernel_rfl) (by kernel_rfl) (fun _ _ _ h => h) (Or.inl ⟨by rfl, ?hy8_13⟩) hHeld ?_
          case hy8_13 => (intro w hSw; (try dsimp only at hSw); obtain ⟨hSw1, hSw2, hSw3⟩ := hSw; (try simp only [List.getElem_toArray, List.getElem_cons_zero, List.getElem_cons_succ]); go_simp <;> with_reducible rfl)
          (try simp only [Act.put, List.getElem_toArray, List.getElem_cons_zero, List.getElem_cons_succ, List.setIfInBounds_toArray, List.set_cons_zero, List.set_cons_succ])
          refine wpAnyH_take (i := 9) (v := ?v9_14) rfl (by kernel_rfl) (by kernel_rfl) (by kernel_rfl) (fun _ _ _ h => h) (Or.inl ⟨by rfl, ?hy9_14⟩) hHeld ?_
          case hy9_14 => (intro w hSw; (try dsimp only at hSw); obtain ⟨hSw1, hSw2, hSw3⟩ := hSw; (try simp only [List.getElem_toArray, List.getElem_cons_zero, List.getElem_cons_succ]); go_simp <;> with_reducible rfl)
          (try simp only [Act.put, List.getElem_toArray, List.getElem_cons_zero, List.getElem_cons_succ, List.setIfInBounds_toArray, List.set_cons_zero, List.set_cons_succ])
          refine wpAnyH_take (i := 10) (v := ?v10_15) rfl (by kernel_rfl) (by kernel_rfl) (by kernel_rfl) (fun _ _ _ h => h) (Or.inl ⟨by rfl, ?hy10_15⟩) hHeld ?_
          case hy10_15 => (intro w hSw; (try dsimp only at hSw); obtain ⟨hSw1, hSw2, hSw3⟩ := hSw; (try simp only [List.getElem_toArray, List.getElem_cons_zero, List.getElem_cons_succ]); go_simp <;> with_reducible rfl)
          (try simp only [Act.put, List.getElem_toArray, List.getElem_cons_zero, List.getElem_cons_succ, List.setIfInBounds_toArray, List.set_cons_zero, List.set_cons_succ])
          refine wpAnyH_take (i := 12) (v := ?v12_16) rfl (by kernel_rfl) (by kernel_rfl) (by kernel_rfl) (fun _ _ _ h => h) (Or.inl ⟨by rfl, ?hy12_16⟩) hHeld ?_
          case hy12_16 => (intro w hSw; (try dsimp only at hSw); obtain ⟨hSw1, hSw2, hSw3⟩ := hSw; (try simp only [List.getElem_toArray, List.getElem_cons_zero, List.getElem_cons_succ]); go_simp <;> with_reducible rfl)
          (try simp only [Act.put, List.getElem_toArray, List.getElem_cons_zero, List.getElem_cons_succ, List.setIfInBounds_toArray, List.set_cons_zero, List.set_cons_succ])
          refine wpAnyH_take (i := 13) (v := ?v13_17) rfl (by kernel_rfl) (by kernel_rfl) (by kernel_rfl) (fun _ _ _ h => h) (Or.inl ⟨by rfl, ?hy13_17⟩) hHeld ?_
          case hy13_17 => (intro w hSw; (try dsimp only at hSw); obtain ⟨hSw1, hSw2, hSw3⟩ := hSw; (try simp only [List.getElem_toArray, List.getElem_cons_zero, List.getElem_cons_succ]); go_simp <;> with_reducible rfl)
          (try simp only [Act.put, List.getElem_toArray, List.getElem_cons_zero, List.getElem_cons_succ, List.setIfInBounds_toArray, List.set_cons_zero, List.set_cons_succ])
          refine wpAnyH_take (i := 14) (v := ?v14_18) rfl (by kernel_rfl) (by kernel_rfl) (by kernel_rfl) (fun _ _ _ h => h) (Or.inl ⟨by rfl, ?hy14_18⟩) hHeld ?_
          case hy14_18 => (intro w hSw; (try dsimp only at hSw); obtain ⟨hSw1, hSw2, hSw3⟩ := hSw; (try simp only [List.getElem_toArray, List.getElem_cons_zero, List.getElem_cons_succ]); go_simp <;> with_reducible rfl)
          (try simp only [Act.put, List.getElem_toArray, List.getElem_cons_zero, List.getElem_cons_succ, List.setIfInBounds_toArray, List.set_cons_zero, List.set_cons_succ])
          refine wpAnyH_ready (rs := [11]) (by kernel_rfl) (by simp) ?_
          refine AllReadyH.cons rfl (fun K hK => ?_) AllReadyH.nil
          (try simp only [List.getElem_toArray, List.getElem_cons_zero, List.getElem_cons_succ])
          go_simp
          refine (times_k K17.out x1 M HX.out HMC.out).mono ?_
          rintro e v18 ⟨rfl, k, hb⟩
          have K18 := Lib.hid k
          have Y18 := Lib.hid (Xw.but Y17.out hb (by omega))
          have X18 := Lib.hid (HXB.out _ _ hb X17.out)
          clear k hb
          (try go_wp2_with fail)
          refine hK.out _ _ (HLD.out _ Y18.out X18.out) (fun hHeld => ?_)
          clear hK K
          (try simp only [Act.put, List.getElem_toArray, List.getElem_cons_zero, List.getElem_cons_succ, List.setIfInBounds_toArray, List.set_cons_zero, List.set_cons_succ])
          refine wpAnyH_take (i := 15) (v := ?v15_19) rfl (by kernel_rfl) (by kernel_rfl) (by kernel_rfl) (fun _ _ _ h => h) (Or.inl ⟨by rfl, ?hy15_19⟩) hHeld ?_
          case hy15_19 => (intro w hSw; (try dsimp only at hSw); obtain ⟨hSw1, hSw2, hSw3⟩ := hSw; (try simp only [List.getElem_toArray, List.getElem_cons_zero, List.getElem_cons_succ]); go_simp <;> with_reducible rfl)
          (try simp only [Act.put, List.getElem_toArray, List.getElem_cons_zero, List.getElem_cons_succ, List.setIfInBounds_toArray, List.set_cons_zero, List.set_cons_succ])
          refine wpAnyH_take (i := 16) (v := ?v16_20) rfl (by kernel_rfl) (by kernel_rfl) (by kernel_rfl) (fun _ _ _ h => h) (Or.inl ⟨by rfl, ?hy16_20⟩) hHeld ?_
          case hy16_20 => (intro w hSw; (try dsimp only at hSw); obtain ⟨hSw1, hSw2, hSw3⟩ := hSw; (try simp only [List.getElem_toArray, List.getElem_cons_zero, List.getElem_cons_succ]); go_simp <;> with_reducible rfl)
          (try simp only [Act.put, List.getElem_toArray, List.getElem_cons_zero, List.getElem_cons_succ, List.setIfInBounds_toArray, List.set_cons_zero, List.set_cons_succ])
          refine wpAnyH_ready (rs := [17]) (by kernel_rfl) (by simp) ?_
          refine AllReadyH.cons rfl (fun K hK => ?_) AllReadyH.nil
          (try simp only [List.getElem_toArray, List.getElem_cons_zero, List.getElem_cons_succ])
          go_simp
          refine hK.out _ _ (HLD.out _ Y18.out X18.out) (fun _ => ?_)
          clear hK K
          (try simp only [Act.put, List.getElem_toArray, List.getElem_cons_zero, List.getElem_cons_succ, List.setIfInBounds_toArray, List.set_cons_zero, List.set_cons_succ])
          refine wpAnyH_done (by kernel_rfl) ?_ _
          go_wp2_with fail
          go_ret
          exact ⟨rfl, K18.out.bel⟩
    · have hg2 : decide ((n2 : Int) > 30) = true := decide_eq_true (by omega)
      go_wp2_with fail
      go_ret
      exact ⟨rfl, HB1.out⟩
  · have hn : ((n0 : Int) != 16) = true := by simp; omega
    go_wp2_with fail
    go_ret
    exact ⟨rfl, HB1.out⟩
end Go.Proofs.Ytilpdojliaiokaa
