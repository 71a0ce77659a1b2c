/- Layer 23: cmp.Compare, cmp.Or, and the program's compare of Ids with scores. Conditions: none but that what is read is readable. -/
import Derived.Test.YtocbdgkehgmahaaRkJ
import Derived.Sort.Grow
namespace Go.Proofs.Ytocbdgkehgmahaa
open Go.RowKit Go.Maps
set_option linter.unusedVariables false
set_option linter.unusedSimpArgs false
theorem nan64_any (x : Int) (w : World) : Calls Try.prog 49 #[.int .u64 x] w fun r w' => r = .returned (.bool false) ∧ w = w' := by
  go_enter Try.func49, Try.ntmps49
  go_wp2_with fail
  go_ret
  exact ⟨ret1b (by simp), rfl⟩
theorem cmp64_any (x y : Int) (w : World) : Calls Try.prog 37 #[.int .u64 x, .int .u64 y] w fun r w' => r = .returned (.int .i64 (cmpI x y)) ∧ w = w' := by
  have HN := Lib.hid (fun z W => nan64_any z W)
  obtain ⟨v, HV⟩ : ∃ v, Hid (v = cmpI x y) := ⟨_, Lib.hid rfl⟩
  rw [← HV.out]
  have key : ∀ (P : Prop), (x < y → v = -1 → P) → (¬ x < y → ¬ x > y → v = 0 → P) → (¬ x < y → x > y → v = 1 → P) → P := by
    intro P h1 h2 h3
    have hv := HV.out
    rcases cmpI_cases x y with ⟨a, b⟩ | ⟨a, b⟩ | ⟨a, b⟩ <;> rw [b] at hv
    · exact h1 a hv
    · exact h2 (by omega) (by omega) hv
    · exact h3 (by omega) (by omega) hv
  clear HV
  apply key
  all_goals (
    clear key
    intros
    subst v
    go_enter Try.func37, Try.ntmps37
    go_wp2_with (go_at_call 49; refine (HN.out _ _).mono ?_; rintro r w1 ⟨rfl, rfl⟩)
    go_ret
    exact ⟨rfl, rfl⟩)
theorem nani_any (x : Int) (w : World) : Calls Try.prog 50 #[.int .i64 x] w fun r w' => r = .returned (.bool false) ∧ w = w' := by
  go_enter Try.func50, Try.ntmps50
  go_wp2_with fail
  go_ret
  exact ⟨ret1b (by simp), rfl⟩
theorem cmpi_any (x y : Int) (w : World) : Calls Try.prog 38 #[.int .i64 x, .int .i64 y] w fun r w' => r = .returned (.int .i64 (cmpI x y)) ∧ w = w' := by
  have HN := Lib.hid (fun z W => nani_any z W)
  obtain ⟨v, HV⟩ : ∃ v, Hid (v = cmpI x y) := ⟨_, Lib.hid rfl⟩
  rw [← HV.out]
  have key : ∀ (P : Prop), (x < y → v = -1 → P) → (¬ x < y → ¬ x > y → v = 0 → P) → (¬ x < y → x > y → v = 1 → P) → P := by
    intro P h1 h2 h3
    have hv := HV.out
    rcases cmpI_cases x y with ⟨a, b⟩ | ⟨a, b⟩ | ⟨a, b⟩ <;> rw [b] at hv
    · exact h1 a hv
    · exact h2 (by omega) (by omega) hv
    · exact h3 (by omega) (by omega) hv
  clear HV
  apply key
  all_goals (
    clear key
    intros
    subst v
    go_enter Try.func38, Try.ntmps38
    go_wp2_with (go_at_call 50; refine (HN.out _ _).mono ?_; rintro r w1 ⟨rfl, rfl⟩)
    go_ret
    exact ⟨rfl, rfl⟩)
/-- The first of two that is not 0. -/
def orI (a b : Int) : Int := if a = 0 then b else a
theorem or_any (A : Option Addr) (c : Nat) (a b : Int) (w : World) (h : ZL w w.heap.size A 2 [a, b]) :
    Calls Try.prog 36 #[.slice A (2 : Nat) c] w fun r w' => r = .returned (.int .i64 (orI a b)) ∧ w = w' := by
  obtain ⟨g, o, rfl, hg, hc⟩ := h.2.1 (by decide)
  have c0 := hc 0 (by simp)
  have c1 := hc 1 (by simp)
  simp only [List.getElem_cons_zero, List.getElem_cons_succ, Nat.add_zero] at c0 c1
  clear h hc
  obtain ⟨v, HV⟩ : ∃ v, Hid (v = orI a b) := ⟨_, Lib.hid rfl⟩
  rw [← HV.out]
  have H1 : Hid (a ≠ 0 → v = a) := Lib.hid fun h => by rw [HV.out]; exact if_neg h
  have H2 : Hid (a = 0 → v = b) := Lib.hid fun h => by rw [HV.out]; exact if_pos h
  clear HV
  go_enter Try.func36, Try.ntmps36
  go_wp2_with fail
  go_loopw [5, 8] (fun _ i wr => ∃ k : Nat, k ≤ 2 ∧ i = .int .i64 k ∧ wr = w ∧ Hid (0 < k → a = 0) ∧ Hid (1 < k → b = 0)) (fun _ i _ => 2 - (intOf i).toNat)
  case atStart => exact ⟨0, Nat.zero_le _, rfl, rfl, Lib.hid (fun h => absurd h (by decide)), Lib.hid (fun h => absurd h (by decide))⟩
  case round =>
    obtain ⟨k, hk, rfl, rfl, ha, hb⟩ := hrel
    match k, hk with
    | 0, _ =>
      by_cases h0 : a = 0
      · have HA := Lib.hid h0
        subst h0
        go_wp2_with fail
        go_roundw
        case rel => exact ⟨1, by decide, rfl, by trivial, Lib.hid (by simp), Lib.hid (fun h => absurd h (by decide))⟩
        case measure => simp [intOf]
      · have hv := H1.out h0
        subst hv
        go_wp2_with fail
        go_ret
        exact ⟨rfl, rfl⟩
    | 1, _ =>
      have hv := H2.out (ha.out (by decide))
      have HA := Lib.hid (ha.out (by decide))
      clear ha hb H1 H2
      subst hv
      by_cases h0 : v = 0
      · subst h0
        go_wp2_with fail
        go_roundw
        case rel => exact ⟨2, by decide, rfl, by trivial, Lib.hid (fun _ => HA.out), Lib.hid (by simp)⟩
        case measure => simp [intOf]
      · go_wp2_with fail
        go_ret
        exact ⟨rfl, rfl⟩
    | 2, _ =>
      have hv := (H2.out (ha.out (by decide))).trans (hb.out (by decide))
      subst hv
      go_wp2_with fail
      go_ret
      exact ⟨rfl, rfl⟩
theorem cmpS_or (a b : Int × Int) : orI (cmpI b.2 a.2) (cmpI a.1 b.1) = cmpS a b := rfl
theorem cmpI_i64 (x y : Int) : -9223372036854775808 ≤ cmpI x y ∧ cmpI x y ≤ 9223372036854775807 := by
  rcases cmpI_cases x y with ⟨_, h⟩ | ⟨_, h⟩ | ⟨_, h⟩ <;> rw [h] <;> decide
attribute [local irreducible] cmpI cmpS orI
set_option maxRecDepth 100000 in
set_option maxHeartbeats 2000000 in
theorem compare_any (a b : Int × Int) (w : World) :
    Calls Try.prog 27 #[scoV a, scoV b] w fun r w' => r = .returned (.int .i64 (cmpS a b)) ∧ ∃ q os, w' = Go.Sort.grow (w.drewN q) os := by
  have HC := Lib.hid (fun W => cmp64_any b.2 a.2 W)
  have HD := Lib.hid (fun W => cmpi_any a.1 b.1 W)
  obtain ⟨u, HU⟩ : ∃ u, Hid (u = cmpI b.2 a.2) := ⟨_, Lib.hid rfl⟩
  obtain ⟨v, HV⟩ : ∃ v, Hid (v = cmpI a.1 b.1) := ⟨_, Lib.hid rfl⟩
  obtain ⟨z, HZ⟩ : ∃ z, Hid (z = cmpS a b) := ⟨_, Lib.hid rfl⟩
  have HO : Hid (orI u v = z) := Lib.hid (by rw [HU.out, HV.out, HZ.out]; exact cmpS_or a b)
  have HW : Hid (∀ x ∈ [u, v], -9223372036854775808 ≤ x ∧ x ≤ 9223372036854775807) := Lib.hid (fun x hx => by
    simp only [List.mem_cons, List.not_mem_nil, or_false] at hx
    rcases hx with rfl | rfl
    · rw [HU.out]; exact cmpI_i64 _ _
    · rw [HV.out]; exact cmpI_i64 _ _)
  rw [← HU.out] at HC
  rw [← HV.out] at HD
  rw [← HZ.out]
  clear HU HV HZ
  obtain ⟨ai, sa⟩ := a
  obtain ⟨bi, sb⟩ := b
  unfold scoV
  simp only at HC HD
  go_enter Try.func27, Try.ntmps27
  go_wp2_with fail
  have KA : Blk 61 ((w.alloc (.cells #[.int .i64 ai, .int .u64 sa] 61)).alloc (.cells #[.int .i64 bi, .int .u64 sb] 61)) w.heap.size [.int .i64 ai, .int .u64 sa] := (Blk.new w _ [.int .i64 ai, .int .u64 sa] _ rfl).step (below_alloc _ _)
  have KB : Blk 61 ((w.alloc (.cells #[.int .i64 ai, .int .u64 sa] 61)).alloc (.cells #[.int .i64 bi, .int .u64 sb] 61)) (w.heap.size + 1) [.int .i64 bi, .int .u64 sb] := Blk.new _ _ [.int .i64 bi, .int .u64 sb] _ (by rw [World.size_alloc])
  have a0 := KA.cell 0
  have a1 := KA.cell 1
  have b0 := KB.cell 0
  have b1 := KB.cell 1
  simp only [List.getElem?_cons_zero, List.getElem?_cons_succ] at a0 a1 b0 b1
  have hsz : ((w.alloc (.cells #[.int .i64 ai, .int .u64 sa] 61)).alloc (.cells #[.int .i64 bi, .int .u64 sb] 61)).heap.size = w.heap.size + 2 := by rw [World.size_alloc, World.size_alloc]
  have HE : Hid ((w.alloc (.cells #[.int .i64 ai, .int .u64 sa] 61)).alloc (.cells #[.int .i64 bi, .int .u64 sb] 61) = Go.Sort.grow w (#[.cells #[.int .i64 ai, .int .u64 sa] 61] ++ #[.cells #[.int .i64 bi, .int .u64 sb] 61])) := Lib.hid (by rw [Go.Sort.alloc_eq_grow, Go.Sort.alloc_eq_grow, Go.Sort.grow_grow])
  generalize (w.alloc (.cells #[.int .i64 ai, .int .u64 sa] 61)).alloc (.cells #[.int .i64 bi, .int .u64 sb] 61) = w2 at *
  have HSZ := Lib.hid hsz
  clear KA KB hsz
  refine wp_region_held_drew (S := fun w' => w'.cell? ⟨w.heap.size, 0, none⟩ = some (.int .i64 ai) ∧ w'.cell? ⟨w.heap.size, 1, none⟩ = some (.int .u64 sa) ∧ w'.cell? ⟨w.heap.size + 1, 0, none⟩ = some (.int .i64 bi) ∧ w'.cell? ⟨w.heap.size + 1, 1, none⟩ = some (.int .u64 sb)) (by kernel_rfl) ⟨a0, a1, b0, b1⟩ (fun hHeld => ?_)
  (try dsimp only at hHeld)
  refine wpAnyH_take (i := 0) (v := ?v0_1) rfl (by kernel_rfl) (by kernel_rfl) (by kernel_rfl) (fun _ _ _ h => h) (Or.inl ⟨by rfl, ?hy0_1⟩) hHeld ?_
  case hy0_1 => (intro w hSw; (try dsimp only at hSw); obtain ⟨e1, e2, e3, e4⟩ := hSw; (try simp only [List.getElem_toArray, List.getElem_cons_zero, List.getElem_cons_succ]); go_simp <;> with_reducible rfl)
  (try simp only [Act.put, List.getElem_toArray, List.getElem_cons_zero, List.getElem_cons_succ, List.setIfInBounds_toArray, List.set_cons_zero, List.set_cons_succ])
  refine wpAnyH_take (i := 1) (v := ?v1_2) rfl (by kernel_rfl) (by kernel_rfl) (by kernel_rfl) (fun _ _ _ h => h) (Or.inl ⟨by rfl, ?hy1_2⟩) hHeld ?_
  case hy1_2 => (intro w hSw; (try dsimp only at hSw); obtain ⟨e1, e2, e3, e4⟩ := hSw; (try simp only [List.getElem_toArray, List.getElem_cons_zero, List.getElem_cons_succ]); go_simp <;> with_reducible rfl)
  (try simp only [Act.put, List.getElem_toArray, List.getElem_cons_zero, List.getElem_cons_succ, List.setIfInBounds_toArray, List.set_cons_zero, List.set_cons_succ])
  refine wpAnyH_take (i := 2) (v := ?v2_3) rfl (by kernel_rfl) (by kernel_rfl) (by kernel_rfl) (fun _ _ _ h => h) (Or.inl ⟨by rfl, ?hy2_3⟩) hHeld ?_
  case hy2_3 => (intro w hSw; (try dsimp only at hSw); obtain ⟨e1, e2, e3, e4⟩ := hSw; (try simp only [List.getElem_toArray, List.getElem_cons_zero, List.getElem_cons_succ]); go_simp <;> with_reducible rfl)
  (try simp only [Act.put, List.getElem_toArray, List.getElem_cons_zero, List.getElem_cons_succ, List.setIfInBounds_toArray, List.set_cons_zero, List.set_cons_succ])
  refine wpAnyH_take (i := 3) (v := ?v3_4) rfl (by kernel_rfl) (by kernel_rfl) (by kernel_rfl) (fun _ _ _ h => h) (Or.inl ⟨by rfl, ?hy3_4⟩) hHeld ?_
  case hy3_4 => (intro w hSw; (try dsimp only at hSw); obtain ⟨e1, e2, e3, e4⟩ := hSw; (try simp only [List.getElem_toArray, List.getElem_cons_zero, List.getElem_cons_succ]); go_simp <;> with_reducible rfl)
  (try simp only [Act.put, List.getElem_toArray, List.getElem_cons_zero, List.getElem_cons_succ, List.setIfInBounds_toArray, List.set_cons_zero, List.set_cons_succ])
  refine wpAnyH_take (i := 5) (v := ?v5_5) rfl (by kernel_rfl) (by kernel_rfl) (by kernel_rfl) (fun _ _ _ h => h) (Or.inl ⟨by rfl, ?hy5_5⟩) hHeld ?_
  case hy5_5 => (intro w hSw; (try dsimp only at hSw); obtain ⟨e1, e2, e3, e4⟩ := hSw; (try simp only [List.getElem_toArray, List.getElem_cons_zero, List.getElem_cons_succ]); go_simp <;> with_reducible rfl)
  (try simp only [Act.put, List.getElem_toArray, List.getElem_cons_zero, List.getElem_cons_succ, List.setIfInBounds_toArray, List.set_cons_zero, List.set_cons_succ])
  refine wpAnyH_take (i := 6) (v := ?v6_6) rfl (by kernel_rfl) (by kernel_rfl) (by kernel_rfl) (fun _ _ _ h => h) (Or.inl ⟨by rfl, ?hy6_6⟩) hHeld ?_
  case hy6_6 => (intro w hSw; (try dsimp only at hSw); obtain ⟨e1, e2, e3, e4⟩ := hSw; (try simp only [List.getElem_toArray, List.getElem_cons_zero, List.getElem_cons_succ]); go_simp <;> with_reducible rfl)
  (try simp only [Act.put, List.getElem_toArray, List.getElem_cons_zero, List.getElem_cons_succ, List.setIfInBounds_toArray, List.set_cons_zero, List.set_cons_succ])
  refine wpAnyH_take (i := 7) (v := ?v7_7) rfl (by kernel_rfl) (by kernel_rfl) (by kernel_rfl) (fun _ _ _ h => h) (Or.inl ⟨by rfl, ?hy7_7⟩) hHeld ?_
  case hy7_7 => (intro w hSw; (try dsimp only at hSw); obtain ⟨e1, e2, e3, e4⟩ := hSw; (try simp only [List.getElem_toArray, List.getElem_cons_zero, List.getElem_cons_succ]); go_simp <;> with_reducible rfl)
  (try simp only [Act.put, List.getElem_toArray, List.getElem_cons_zero, List.getElem_cons_succ, List.setIfInBounds_toArray, List.set_cons_zero, List.set_cons_succ])
  refine wpAnyH_take (i := 8) (v := ?v8_8) rfl (by kernel_rfl) (by kernel_rfl) (by kernel_rfl) (fun _ _ _ h => h) (Or.inl ⟨by rfl, ?hy8_8⟩) hHeld ?_
  case hy8_8 => (intro w hSw; (try dsimp only at hSw); obtain ⟨e1, e2, e3, e4⟩ := hSw; (try simp only [List.getElem_toArray, List.getElem_cons_zero, List.getElem_cons_succ]); go_simp <;> with_reducible rfl)
  (try simp only [Act.put, List.getElem_toArray, List.getElem_cons_zero, List.getElem_cons_succ, List.setIfInBounds_toArray, List.set_cons_zero, List.set_cons_succ])
  refine wpAnyH_ready (rs := [4]) (by kernel_rfl) (by simp) ?_
  refine AllReadyH.cons rfl (fun K hK => ?_) AllReadyH.nil
  (try simp only [List.getElem_toArray, List.getElem_cons_zero, List.getElem_cons_succ])
  go_simp
  refine (HC.out _).mono ?_
  rintro r w3 ⟨rfl, rfl⟩
  refine hK.out _ _ ⟨a0, a1, b0, b1⟩ (fun hHeld => ?_)
  clear hK K
  (try simp only [Act.put, List.getElem_toArray, List.getElem_cons_zero, List.getElem_cons_succ, List.setIfInBounds_toArray, List.set_cons_zero, List.set_cons_succ])
  refine wpAnyH_ready (rs := [9]) (by kernel_rfl) (by simp) ?_
  refine AllReadyH.cons rfl (fun K hK => ?_) AllReadyH.nil
  (try simp only [List.getElem_toArray, List.getElem_cons_zero, List.getElem_cons_succ])
  go_simp
  refine (HD.out _).mono ?_
  rintro r w3 ⟨rfl, rfl⟩
  refine hK.out _ _ ⟨a0, a1, b0, b1⟩ (fun hHeld => ?_)
  clear hK K
  (try simp only [Act.put, List.getElem_toArray, List.getElem_cons_zero, List.getElem_cons_succ, List.setIfInBounds_toArray, List.set_cons_zero, List.set_cons_succ])
  refine wpAnyH_ready (rs := [10]) (by kernel_rfl) (by simp) ?_
  refine AllReadyH.cons rfl (fun K hK => ?_) AllReadyH.nil
  (try simp only [List.getElem_toArray, List.getElem_cons_zero, List.getElem_cons_succ])
  go_simp
  have HBL := Lib.hid (below_alloc w2 (.cells #[.int .i64 u, .int .i64 v] 3))
  have d0 := (HBL.out.cell (p := ⟨w.heap.size, 0, none⟩) (by have := HSZ.out; show w.heap.size < _; omega)).trans a0
  have d1 := (HBL.out.cell (p := ⟨w.heap.size, 1, none⟩) (by have := HSZ.out; show w.heap.size < _; omega)).trans a1
  have d2 := (HBL.out.cell (p := ⟨w.heap.size + 1, 0, none⟩) (by have := HSZ.out; show w.heap.size + 1 < _; omega)).trans b0
  have d3 := (HBL.out.cell (p := ⟨w.heap.size + 1, 1, none⟩) (by have := HSZ.out; show w.heap.size + 1 < _; omega)).trans b1
  refine hK.out _ _ ⟨d0, d1, d2, d3⟩ (fun hHeld => ?_)
  clear hK K
  (try simp only [Act.put, List.getElem_toArray, List.getElem_cons_zero, List.getElem_cons_succ, List.setIfInBounds_toArray, List.set_cons_zero, List.set_cons_succ])
  refine wpAnyH_ready (rs := [11]) (by kernel_rfl) (by simp) ?_
  refine AllReadyH.cons rfl (fun K hK => ?_) AllReadyH.nil
  (try simp only [List.getElem_toArray, List.getElem_cons_zero, List.getElem_cons_succ])
  go_simp
  refine (or_any (some ⟨w2.heap.size, 0, none⟩) 2 u v _ (by exact ((ZL.lit w2 [u, v] _ 2 w2.heap.size 3 rfl rfl rfl HW.out).below ((Below.refl _ _).drew)).more (by simp))).mono ?_
  rintro r w3 ⟨rfl, rfl⟩
  rw [HO.out]
  refine hK.out _ _ ⟨d0, d1, d2, d3⟩ (fun hHeld => ?_)
  clear hK K
  (try simp only [Act.put, List.getElem_toArray, List.getElem_cons_zero, List.getElem_cons_succ, List.setIfInBounds_toArray, List.set_cons_zero, List.set_cons_succ])
  refine wpAnyH_take (i := 12) (v := ?v12_9) rfl (by kernel_rfl) (by kernel_rfl) (by kernel_rfl) (fun _ _ _ h => h) (Or.inl ⟨by rfl, ?hy12_9⟩) hHeld ?_
  case hy12_9 => (intro w hSw; (try dsimp only at hSw); obtain ⟨e1, e2, e3, e4⟩ := hSw; (try simp only [List.getElem_toArray, List.getElem_cons_zero, List.getElem_cons_succ]); go_simp <;> with_reducible rfl)
  (try simp only [Act.put, List.getElem_toArray, List.getElem_cons_zero, List.getElem_cons_succ, List.setIfInBounds_toArray, List.set_cons_zero, List.set_cons_succ])
  refine wpAnyH_done (by kernel_rfl) ?_ _
  go_wp2_with fail
  go_ret
  exact ⟨rfl, 1, _, by rw [HE.out, Go.Sort.alloc_eq_grow, Go.Sort.grow_grow]; rfl⟩
end Go.Proofs.Ytocbdgkehgmahaa
