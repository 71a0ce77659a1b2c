/- PolyAnswers' walk. Conditions: elements are elements; the slice's cells are readable. -/
import Derived.Test.YtdhgofolcggleaaPolyRun
import Derived.Test.YtdhgofolcggleaaOpen
namespace Go.Proofs.Ytdhgofolcggleaa
open Go.RowKit
set_option linter.unusedVariables false
set_option linter.unusedSimpArgs false

theorem of_pe (x : Nat) (w : World) (hx : x < 2 ^ 128) : Calls Try.prog 10 #[PE x] w (RetT (co x) w) := by
  have h1 := pe_lt x hx
  have h := of_any (x / 2 ^ 64) (x % 2 ^ 64) w h1.1 h1.2
  rw [show x / 2 ^ 64 * 2 ^ 64 + x % 2 ^ 64 = x by omega] at h
  exact h
theorem add_co (x y : Nat) (w : World) : Calls Try.prog 9 #[BV (co x), BV (co y)] w (RetT (co (x ^^^ y)) w) := by
  have h := padd_any (co x) (co y) w (co_len x) (co_len y)
  rw [addT_co] at h
  exact h
theorem Br.keep0 {W W1 : World} {g : Nat} {l : List Bool} (h : Br W g 0 l) (hl : 0 < l.length) (hb : Below W.heap.size W W1) : Br W1 g 0 l := h.below hb (h.lt hl)
theorem ldP_o {w : World} {g o x : Nat} (h : w.rangeAt g o (es (x / 2 ^ 64) (x % 2 ^ 64))) : ldP (.pointer (some ⟨g, o, none⟩)) w = .ok (.value (PE x)) w := by
  obtain ⟨d, hu, hd⟩ := row_elem
  have := run_loadAt_mid (P := Try.prog) w g o 24 (es (x / 2 ^ 64) (x % 2 ^ 64)) d h hu hd sz_elem
  unfold ldP
  simp only [Sem.run_bind, this, Result.andThen_ok, Sem.run_pure]
  rfl
noncomputable def stB (v x : Value) (w : World) : Result Next := Sem.run Try.prog (do Instr.storeAt 28 v x; pure Next.skip) w
theorem ex_stB (ev : Operand → Value) (x y : Operand) (d : Option Tmp) (ty : TypeId) (ps : String) (af : Array Edge) (g : Option (Nat × Bool)) (w : World) : (execOp ev ⟨d, .store 28 x y, ty, ps, af, g⟩).run Try.prog w = stB (ev x) (ev y) w := rfl
theorem stB_x {w : World} {g : Nat} {l m : List Bool} (h : Br w g 0 l) (hl : l.length = 128) (hm : m.length = 128) : stB (.pointer (some ⟨g, 0, none⟩)) (BV m) w = .ok .skip (w.setCells g 0 (tvs m)) := by
  have ht : w.there g 0 128 := by have := h.2; rw [tvs_length, hl] at this; exact this
  have := run_storeAt_mid (P := Try.prog) w g 0 28 (tvs m).toArray (by simpa [tvs_length, hm] using ht) (by simpa [tvs_length, hm] using sz_poly) (all_tvs m)
  unfold stB BV
  simp only [Sem.run_bind, this, Result.andThen_ok, Sem.run_pure]
attribute [go_sem ↓] ex_stB
/-- Which answer a call gives. -/
structure OfF (u : Value) (l : List Bool) : Prop where out : ∃ x, u = PE x ∧ x < 2 ^ 128 ∧ l = co x
structure MlF (u v : Value) (l : List Bool) : Prop where out : ∃ x y, u = BV (co x) ∧ v = BV (co y) ∧ x < 2 ^ 128 ∧ y < 2 ^ 128 ∧ l = co (gMul x y)
theorem of_t (u : Value) (l : List Bool) (w : World) (h : OfF u l) : Calls Try.prog 10 #[u] w fun e w' => e = .returned (BV l) ∧ Below w.heap.size w w' := by
  obtain ⟨x, rfl, hx, rfl⟩ := h.out
  exact of_pe x w hx
theorem mul_t (u v : Value) (l : List Bool) (w : World) (h : MlF u v l) : Calls Try.prog 12 #[u, v] w fun e w' => e = .returned (BV l) ∧ Below w.heap.size w w' := by
  obtain ⟨x, y, rfl, rfl, hx, hy, rfl⟩ := h.out
  exact pmul_co x y w hx hy
theorem ans_times (x y z : Nat) (w : World) (hx : x < 2 ^ 128) (hy : y < 2 ^ 128) (hz : z = gMul x y) : Calls Try.prog 11 #[PE x, PE y] w fun e w' => e = .returned (PE z) ∧ Below w.heap.size w w' := by subst hz; exact times_pe x y w hx hy
theorem ans_next (x z : Nat) (w : World) (hx : x < 2 ^ 128) (hz : z = gNext x) : Calls Try.prog 13 #[PE x] w fun e w' => e = .returned (PE z) ∧ Below w.heap.size w w' := by subst hz; exact next_pe x w hx
theorem ans_sum (A : Option Addr) (n c : Nat) (xs : List Nat) (s : Nat) (w : World) (hn : n ≤ maxLen) (h : XE w w.heap.size A n xs) (hs : s = gSum xs 0) : Calls Try.prog 14 #[.slice A n c] w fun e w' => e = .returned (PE s) ∧ Below w.heap.size w w' := by subst hs; exact sum_any A n c xs w hn h
attribute [local irreducible] gMul PE gNext es co gSum tvs zP

set_option maxRecDepth 100000 in
set_option maxHeartbeats 8000000 in
theorem PolyAnswers_walk (x0 : Nat) (x1 : Nat) (A2 : Option Addr) (n2 c2 : Nat) (l2 : List Nat) (w : World) (h0 : x0 < 2 ^ 128) (h1 : x1 < 2 ^ 128) (h2 : XE w w.heap.size A2 n2 l2) (m2 : n2 ≤ c2 ∧ c2 ≤ maxLen) :
    Calls Try.prog 3 #[PE x0, PE x1, .slice A2 n2 c2] w fun e w' => e = .returned (.bool true) ∧ Below w.heap.size w w' := by
  have hn2 : n2 ≤ 9223372036854775807 := by have := m2; unfold maxLen at this; omega
  have L0 := Lib.hid h0
  have L1 := Lib.hid h1
  have HXE := Lib.hid h2
  have hz := zero_poly
  obtain ⟨G, HG⟩ : ∃ G, Hid (G = w.heap.size) := ⟨_, Lib.hid rfl⟩
  clear h0 h1 h2 m2
  go_enter Try.func3, Try.ntmps3
  go_wp2_with (first | (refine wpList_boxX rfl _ (.tmp 0) rfl x0 rfl ?_) | (refine wpList_boxX rfl _ (.tmp 1) rfl x1 rfl ?_))
  refine (alive_any _).mono ?_
  rintro e w1 ⟨rfl, hb1⟩
  have HC : Hid (C3 w G (G + 1) (G + 1) x0 x1 x1 w1) := Lib.hid (by
    rw [HG.out]
    refine C3.keep ⟨?_, ?_, ?_, ?_⟩ hb1
    · exact Ew.alloc (Ew.new w _ _ _ rfl) _
    · exact Ew.new _ _ _ _ (by simp)
    · exact Ew.new _ _ _ _ (by simp)
    · exact (below_alloc w _).alloc (by simp) _)
  clear hb1
  rw [← HG.out]
  by_cases h60 : (60 : Int) < (n2 : Int)
  · go_wp2_with fail
    go_ret
    exact ⟨rfl, HC.out.2.2.2⟩
  · have HN0 : Hid (Br (w1.alloc (.cells (tvs zP).toArray 28)) w1.heap.size 0 zP) := Lib.hid (Br.new w1 zP _)
    obtain ⟨W2, HW2⟩ : ∃ W2, Hid (W2 = (w1.alloc (.cells (tvs zP).toArray 28)).setCells w1.heap.size 0 (tvs zP)) := ⟨_, Lib.hid rfl⟩
    have HX2 : Hid (Br W2 w1.heap.size 0 zP) := Lib.hid (by rw [HW2.out]; exact HN0.out.whole zP rfl)
    have hc0 : W2.cell? ⟨w1.heap.size, 1, none⟩ = some (.bool false) := by
      have := HX2.out.cell (j := 1) (x := false) (by unfold zP; rfl)
      simpa [tv] using this
    have hf0 : W2.frozen? ⟨w1.heap.size, 1, none⟩ = false := by
      have := HX2.out.free (j := 1) (by rw [zP_len]; omega)
      simpa using this
    go_wp2_with (first | (refine wpList_built0 rfl _ rfl zP poly_built ?_) | (refine wpList_stT rfl _ (.tmp 7) (.tmp 15) rfl w1.heap.size 0 rfl zP zP rfl (by exact HN0.out) rfl (by rw [zP_len]; exact sz_poly) ?_; rw [← HW2.out]) | (refine wpList_stT rfl _ (.tmp 8) (.tmp 17) rfl W2.heap.size 0 rfl zP zP rfl (by exact Br.new1 _ _ (by simp) zP _) rfl (by rw [zP_len]; exact sz_poly) ?_))
    try dsimp only [Act.put]
    obtain ⟨X, HX⟩ : ∃ X, Hid (X = w1.heap.size) := ⟨_, Lib.hid rfl⟩
    obtain ⟨Y, HY⟩ : ∃ Y, Hid (Y = W2.heap.size) := ⟨_, Lib.hid rfl⟩
    have hwG : w.heap.size ≤ G := by rw [← HG.out]; exact Nat.le_refl _
    have hGX : G + 1 < X := by rw [HX.out]; exact Ew.lt HC.out.2.1
    have hXY : X < Y := by rw [HY.out, HW2.out, size_setCells, World.size_alloc, HX.out]; exact Nat.lt_succ_self _
    obtain ⟨W3, HW3⟩ : ∃ W3, Hid (W3 = W2.setCell ⟨w1.heap.size, 1, none⟩ (.bool true)) := ⟨_, Lib.hid rfl⟩
    obtain ⟨W4, HW4⟩ : ∃ W4, Hid (W4 = (W3.alloc (.cells (tvs zP).toArray 28)).setCells W2.heap.size 0 (tvs zP)) := ⟨_, Lib.hid rfl⟩
    have hs3 : W3.heap.size = W2.heap.size := by rw [HW3.out]; simp
    have HX3 : Br W3 X 0 (co (gE 1)) := by
      have h := HX2.out.set (k := 1) (by rw [zP_len]; omega) true
      rw [x_co, Nat.zero_add] at h
      rw [HW3.out, HX.out]; exact h
    have HC3 : C3 w G (G + 1) (G + 1) x0 x1 x1 W3 := by
      have k := HC.out
      rw [HW3.out, HW2.out]
      exact ⟨Ew.setCell (Ew.setCells (Ew.alloc k.1 _) (by rw [← HX.out]; omega) _ _) (by show w1.heap.size ≠ G; rw [← HX.out]; omega) _, Ew.setCell (Ew.setCells (Ew.alloc k.2.1 _) (by rw [← HX.out]; omega) _ _) (by show w1.heap.size ≠ G + 1; rw [← HX.out]; omega) _, Ew.setCell (Ew.setCells (Ew.alloc k.2.1 _) (by rw [← HX.out]; omega) _ _) (by show w1.heap.size ≠ G + 1; rw [← HX.out]; omega) _, (below_setCells (k.2.2.2.alloc k.2.2.2.size _) k.2.2.2.size _ _).setCell (p := ⟨w1.heap.size, 1, none⟩) k.2.2.2.size _⟩
    have HC4 : Hid (C3 w G (G + 1) (G + 1) x0 x1 x1 W4) := Lib.hid (by
      have k := HC3.alloc (.cells (tvs zP).toArray 28)
      rw [HW4.out, ← HY.out]
      exact ⟨Ew.setCells k.1 (by omega) _ _, Ew.setCells k.2.1 (by omega) _ _, Ew.setCells k.2.1 (by omega) _ _, below_setCells k.2.2.2 (by omega) _ _⟩)
    have HX4 : Hid (Br W4 X 0 (co (gE 1))) := Lib.hid (by rw [HW4.out, ← HY.out]; exact (HX3.alloc (by rw [hs3, ← HY.out]; exact hXY) _).setCells (by omega) _ _)
    have HY4 : Hid (Br W4 Y 0 (co 0)) := Lib.hid (by
      have h := Br.new W3 zP 28
      rw [hs3, ← HY.out] at h
      rw [HW4.out, ← HY.out, ← zP_co]
      exact h.whole zP rfl)
    rw [← HW3.out, ← HW4.out, ← HX.out, ← HY.out]
    clear HX3 HC3 hs3 HW4 HW3 HX2 hc0 hf0 HN0 HC HW2 HX HY
    go_loopw [9] (fun t wr => ∃ i s : Nat, i ≤ n2 ∧ t = .int .i64 i ∧ Hid (s = gSum (l2.take i) 0 ∧ s < 2 ^ 128) ∧ Hid (C3 w G (G + 1) (G + 1) x0 x1 x1 wr) ∧ Hid (Br wr X 0 (co (gE 1))) ∧ Hid (Br wr Y 0 (co s))) (fun t _ => n2 - (intOf t).toNat)
    case atStart => exact ⟨0, 0, by omega, rfl, Lib.hid ⟨by rw [List.take_zero]; exact (gSum_nil 0).symm, by omega⟩, HC4, HX4, HY4⟩
    case round =>
      obtain ⟨i, s, hi, rfl, hv, hc, hx, hy⟩ := hrel
      clear HC4 HX4 HY4
      by_cases hlt : i < n2
      · obtain ⟨g, o, rfl, hg, hcx⟩ := HXE.out.2.2 (by omega)
        obtain ⟨x, hx2⟩ : ∃ x, l2[i]? = some x := ⟨_, List.getElem?_eq_getElem (by rw [HXE.out.1]; exact hlt)⟩
        have HLX := Lib.hid (HXE.out.2.1 i x hx2)
        obtain ⟨s', HS⟩ : ∃ s', Hid (s' = s ^^^ x ∧ s' < 2 ^ 128) := ⟨_, Lib.hid ⟨rfl, Nat.xor_lt_two_pow hv.out.2 HLX.out⟩⟩
        have HV : Hid (s' = gSum (l2.take (i + 1)) 0) := Lib.hid (by rw [HS.out.1, hv.out.1, List.take_add_one, hx2]; exact (gSum_snoc _ x 0).symm)
        have HCE : Hid (∀ W : World, Below w.heap.size w W → ldP (.pointer (some ⟨g, o + i * 2, none⟩)) W = .ok (.value (PE x)) W) := Lib.hid (fun W hW => ldP_o (fun j v hv => (hW.cell (p := ⟨g, o + i * 2 + j, none⟩) hg).trans (hcx i x hx2 j v hv)))
        have q2 : ldB (.pointer (some ⟨Y, 0, none⟩)) wr.drew = .ok (.value (BV (co s))) wr.drew := ldB_x hy.out.drew (co_len s)
        have HOF : Hid (∀ v, Calls Try.prog 10 #[PE x] v (RetT (co x) v)) := Lib.hid (fun v => of_pe x v HLX.out)
        have HAD : Hid (∀ v, Calls Try.prog 9 #[BV (co s), BV (co x)] v (RetT (co s') v)) := Lib.hid (fun v => by rw [HS.out.1]; exact add_co s x v)
        clear hx2 hcx
        go_wp2_with fail
        refine wp_region_held_drew (S := fun w' => ldP (.pointer (some ⟨g, o + i * 2, none⟩)) w' = .ok (.value (PE x)) w') (by kernel_rfl) (HCE.out _ (hc.out.2.2.2.drew)) (fun hHeld => ?_)
        (try dsimp only at hHeld)
        refine wpAnyH_take (i := 1) (v := ?v1) rfl (by kernel_rfl) (by kernel_rfl) (by kernel_rfl) (fun _ _ _ h => h) (Or.inl ⟨by rfl, ?hy1⟩) hHeld ?_
        case hy1 => (intro w hSw; (try dsimp only at hSw); (try simp only [List.getElem_toArray, List.getElem_cons_zero, List.getElem_cons_succ]); go_simp <;> with_reducible rfl)
        (try simp only [Act.put, List.setIfInBounds_toArray, List.set_cons_zero, List.set_cons_succ])
        refine wpAnyH_take (i := 2) (v := ?v2) rfl (by kernel_rfl) (by kernel_rfl) (by kernel_rfl) (fun _ _ _ h => h) (Or.inl ⟨by rfl, ?hy2⟩) hHeld ?_
        case hy2 => (intro w hSw; (try dsimp only at hSw); (try simp only [List.getElem_toArray, List.getElem_cons_zero, List.getElem_cons_succ]); go_simp <;> with_reducible rfl)
        (try simp only [Act.put, List.setIfInBounds_toArray, List.set_cons_zero, List.set_cons_succ])
        refine wpAnyH_take (i := 3) (v := ?v3) rfl (by kernel_rfl) (by kernel_rfl) (by kernel_rfl) (fun _ _ _ h => h) (Or.inl ⟨by rfl, ?hy3⟩) hHeld ?_
        case hy3 => (intro w hSw; (try dsimp only at hSw); (try simp only [List.getElem_toArray, List.getElem_cons_zero, List.getElem_cons_succ]); go_simp <;> with_reducible rfl)
        (try simp only [Act.put, List.setIfInBounds_toArray, List.set_cons_zero, List.set_cons_succ])
        refine wpAnyH_take (i := 4) (v := ?v4) rfl (by kernel_rfl) (by kernel_rfl) (by kernel_rfl) (fun _ _ _ h => h) (Or.inl ⟨by rfl, ?hy4⟩) hHeld ?_
        case hy4 => (intro w hSw; (try dsimp only at hSw); (try simp only [List.getElem_toArray, List.getElem_cons_zero, List.getElem_cons_succ]); go_simp <;> with_reducible rfl)
        (try simp only [Act.put, List.setIfInBounds_toArray, List.set_cons_zero, List.set_cons_succ])
        refine wpAnyH_ready (rs := [0, 5]) (by kernel_rfl) (by simp) ?_
        refine AllReadyH.cons rfl (fun K hK => ?_) (AllReadyH.cons rfl (fun K hK => ?_) AllReadyH.nil)
        · (try simp only [List.getElem_toArray, List.getElem_cons_zero, List.getElem_cons_succ])
          go_simp
          refine hK.out _ _ hHeld (fun hHeld => ?_)
          clear hK K
          (try simp only [Act.put, List.setIfInBounds_toArray, List.set_cons_zero, List.set_cons_succ])
          refine wpAnyH_ready (rs := [5]) (by kernel_rfl) (by simp) ?_
          refine AllReadyH.cons rfl (fun K hK => ?_) AllReadyH.nil
          (try simp only [List.getElem_toArray, List.getElem_cons_zero, List.getElem_cons_succ])
          go_simp
          refine (HOF.out _).mono ?_
          rintro e w5 ⟨rfl, hb5⟩
          have HB5 : Hid (Below wr.heap.size wr w5) := Lib.hid ((Below.refl wr.heap.size wr).drew.trans (show Below wr.heap.size wr.drew w5 from hb5))
          clear hb5
          have hc5 := Lib.hid (hc.out.keep HB5.out)
          have q3 : ldB (.pointer (some ⟨Y, 0, none⟩)) w5 = .ok (.value (BV (co s))) w5 := ldB_x (hy.out.keep0 (by rw [co_len]; omega) HB5.out) (co_len s)
          (try go_wp2_with fail)
          refine hK.out _ _ (HCE.out _ hc5.out.2.2.2) (fun hHeld => ?_)
          clear hK K
          (try simp only [Act.put, List.setIfInBounds_toArray, List.set_cons_zero, List.set_cons_succ])
          refine wpAnyH_ready (rs := [6]) (by kernel_rfl) (by simp) ?_
          refine AllReadyH.cons rfl (fun K hK => ?_) AllReadyH.nil
          (try simp only [List.getElem_toArray, List.getElem_cons_zero, List.getElem_cons_succ])
          go_simp
          refine (HAD.out _).mono ?_
          rintro e w6 ⟨rfl, hb6⟩
          have HB6 : Hid (Below wr.heap.size wr w6) := Lib.hid (HB5.out.trans (hb6.mono HB5.out.size))
          clear hb6
          have hc6 := Lib.hid (hc.out.keep HB6.out)
          have hy6 := Lib.hid (hy.out.keep0 (by rw [co_len]; omega) HB6.out)
          have hx6 := Lib.hid (hx.out.keep0 (by rw [co_len]; omega) HB6.out)
          have q4 := stB_x hy6.out (co_len s) (co_len s')
          (try go_wp2_with fail)
          refine hK.out _ _ (HCE.out _ hc6.out.2.2.2) (fun hHeld => ?_)
          clear hK K
          (try simp only [Act.put, List.setIfInBounds_toArray, List.set_cons_zero, List.set_cons_succ])
          refine wpAnyH_ready (rs := [7]) (by kernel_rfl) (by simp) ?_
          refine AllReadyH.cons rfl (fun K hK => ?_) AllReadyH.nil
          (try simp only [List.getElem_toArray, List.getElem_cons_zero, List.getElem_cons_succ])
          go_simp
          refine hK.out _ _ (HCE.out _ (below_setCells hc6.out.2.2.2 (by omega) _ _)) (fun _ => ?_)
          clear hK K
          (try simp only [Act.put, List.setIfInBounds_toArray, List.set_cons_zero, List.set_cons_succ])
          refine wpAnyH_done (by kernel_rfl) ?_ _
          go_wp2_with fail
          go_roundw
          case rel => exact ⟨i + 1, s', by omega, by go_num, Lib.hid ⟨HV.out, HS.out.2⟩, Lib.hid ⟨Ew.setCells hc6.out.1 (by omega) _ _, Ew.setCells hc6.out.2.1 (by omega) _ _, Ew.setCells hc6.out.2.1 (by omega) _ _, below_setCells hc6.out.2.2.2 (by omega) _ _⟩, Lib.hid (hx6.out.setCells (by omega) _ _), Lib.hid (hy6.out.whole (co s') (by rw [co_len, co_len]))⟩
          case measure => simp [intOf]; omega
        · (try simp only [List.getElem_toArray, List.getElem_cons_zero, List.getElem_cons_succ])
          go_simp
          refine (HOF.out _).mono ?_
          rintro e w5 ⟨rfl, hb5⟩
          have HB5 : Hid (Below wr.heap.size wr w5) := Lib.hid ((Below.refl wr.heap.size wr).drew.trans (show Below wr.heap.size wr.drew w5 from hb5))
          clear hb5
          have hc5 := Lib.hid (hc.out.keep HB5.out)
          have q3 : ldB (.pointer (some ⟨Y, 0, none⟩)) w5 = .ok (.value (BV (co s))) w5 := ldB_x (hy.out.keep0 (by rw [co_len]; omega) HB5.out) (co_len s)
          (try go_wp2_with fail)
          refine hK.out _ _ (HCE.out _ hc5.out.2.2.2) (fun hHeld => ?_)
          clear hK K
          (try simp only [Act.put, List.setIfInBounds_toArray, List.set_cons_zero, List.set_cons_succ])
          refine wpAnyH_ready (rs := [0]) (by kernel_rfl) (by simp) ?_
          refine AllReadyH.cons rfl (fun K hK => ?_) AllReadyH.nil
          (try simp only [List.getElem_toArray, List.getElem_cons_zero, List.getElem_cons_succ])
          go_simp
          refine hK.out _ _ hHeld (fun hHeld => ?_)
          clear hK K
          (try simp only [Act.put, List.setIfInBounds_toArray, List.set_cons_zero, List.set_cons_succ])
          refine wpAnyH_ready (rs := [6]) (by kernel_rfl) (by simp) ?_
          refine AllReadyH.cons rfl (fun K hK => ?_) AllReadyH.nil
          (try simp only [List.getElem_toArray, List.getElem_cons_zero, List.getElem_cons_succ])
          go_simp
          refine (HAD.out _).mono ?_
          rintro e w6 ⟨rfl, hb6⟩
          have HB6 : Hid (Below wr.heap.size wr w6) := Lib.hid (HB5.out.trans (hb6.mono HB5.out.size))
          clear hb6
          have hc6 := Lib.hid (hc.out.keep HB6.out)
          have hy6 := Lib.hid (hy.out.keep0 (by rw [co_len]; omega) HB6.out)
          have hx6 := Lib.hid (hx.out.keep0 (by rw [co_len]; omega) HB6.out)
          have q4 := stB_x hy6.out (co_len s) (co_len s')
          (try go_wp2_with fail)
          refine hK.out _ _ (HCE.out _ hc6.out.2.2.2) (fun hHeld => ?_)
          clear hK K
          (try simp only [Act.put, List.setIfInBounds_toArray, List.set_cons_zero, List.set_cons_succ])
          refine wpAnyH_ready (rs := [7]) (by kernel_rfl) (by simp) ?_
          refine AllReadyH.cons rfl (fun K hK => ?_) AllReadyH.nil
          (try simp only [List.getElem_toArray, List.getElem_cons_zero, List.getElem_cons_succ])
          go_simp
          refine hK.out _ _ (HCE.out _ (below_setCells hc6.out.2.2.2 (by omega) _ _)) (fun _ => ?_)
          clear hK K
          (try simp only [Act.put, List.setIfInBounds_toArray, List.set_cons_zero, List.set_cons_succ])
          refine wpAnyH_done (by kernel_rfl) ?_ _
          go_wp2_with fail
          go_roundw
          case rel => exact ⟨i + 1, s', by omega, by go_num, Lib.hid ⟨HV.out, HS.out.2⟩, Lib.hid ⟨Ew.setCells hc6.out.1 (by omega) _ _, Ew.setCells hc6.out.2.1 (by omega) _ _, Ew.setCells hc6.out.2.1 (by omega) _ _, below_setCells hc6.out.2.2.2 (by omega) _ _⟩, Lib.hid (hx6.out.setCells (by omega) _ _), Lib.hid (hy6.out.whole (co s') (by rw [co_len, co_len]))⟩
          case measure => simp [intOf]; omega
      · have he60 : i = n2 := by omega
        subst he60
        obtain ⟨wo, ewo⟩ : ∃ wo : World, wo = wr := ⟨_, rfl⟩
        subst ewo
        have HSV : Hid (s = gSum l2 0) := Lib.hid (by have h := hv.out.1; rw [List.take_of_length_le (by rw [HXE.out.1]; omega)] at h; exact h)
        obtain ⟨ab, HAB⟩ : ∃ ab, Hid (ab = gMul x0 x1 ∧ ab < 2 ^ 128) := ⟨_, Lib.hid ⟨rfl, gMul_lt _ _ L0.out⟩⟩
        obtain ⟨na, HNA⟩ : ∃ na, Hid (na = gNext x0 ∧ na < 2 ^ 128) := ⟨_, Lib.hid ⟨rfl, gNext_lt _ L0.out⟩⟩
        have O1 : OfF (PE ab) (co ab) := ⟨ab, rfl, HAB.out.2, rfl⟩
        have O2 : OfF (PE x0) (co x0) := ⟨x0, rfl, L0.out, rfl⟩
        have O3 : OfF (PE x1) (co x1) := ⟨x1, rfl, L1.out, rfl⟩
        have O4 : OfF (PE na) (co na) := ⟨na, rfl, HNA.out.2, rfl⟩
        have O5 : OfF (PE s) (co s) := ⟨s, rfl, hv.out.2, rfl⟩
        have M1 : MlF (BV (co x0)) (BV (co x1)) (co ab) := ⟨x0, x1, rfl, rfl, L0.out, L1.out, by rw [HAB.out.1]⟩
        have M2 : MlF (BV (co x0)) (BV (co (gE 1))) (co na) := ⟨x0, gE 1, rfl, rfl, L0.out, gE_lt 1, by rw [HNA.out.1, gMul_x x0 L0.out]⟩
        have E1 := eql_co ab
        have E2 := eql_co na
        have E3 := eql_co s
        have ld0 : ∀ (d : Nat) (os : Array Obj), ldP (.pointer (some ⟨G, 0, none⟩)) (Sort.grow (redrawn wo d) os) = .ok (.value (PE x0)) (Sort.grow (redrawn wo d) os) := fun d os => (C3.s (hc.out.keep (below_regrown wo d os))).1
        have ld1 : ∀ (d : Nat) (os : Array Obj), ldP (.pointer (some ⟨G + 1, 0, none⟩)) (Sort.grow (redrawn wo d) os) = .ok (.value (PE x1)) (Sort.grow (redrawn wo d) os) := fun d os => (C3.s (hc.out.keep (below_regrown wo d os))).2.1
        have ld2 : ∀ (d : Nat) (os : Array Obj), ldB (.pointer (some ⟨X, 0, none⟩)) (Sort.grow (redrawn wo d) os) = .ok (.value (BV (co (gE 1)))) (Sort.grow (redrawn wo d) os) := fun d os => ldB_x (hx.out.keep0 (by rw [co_len]; omega) (below_regrown wo d os)) (co_len _)
        have ld3 : ∀ (d : Nat) (os : Array Obj), ldB (.pointer (some ⟨Y, 0, none⟩)) (Sort.grow (redrawn wo d) os) = .ok (.value (BV (co s))) (Sort.grow (redrawn wo d) os) := fun d os => ldB_x (hy.out.keep0 (by rw [co_len]; omega) (below_regrown wo d os)) (co_len _)
        have HSUM : Hid (∀ (d : Nat) (os : Array Obj), Calls Try.prog 14 #[.slice A2 i c2] (Sort.grow (redrawn wo d) os) fun e w' => e = .returned (PE s) ∧ Below (Sort.grow (redrawn wo d) os).heap.size (Sort.grow (redrawn wo d) os) w') := Lib.hid (fun d os => by
          have hb := hc.out.2.2.2.trans ((below_regrown wo d os).mono hc.out.2.2.2.size)
          exact ans_sum A2 i c2 l2 s _ (by unfold maxLen; omega) ((HXE.out.step hb).lt hb.size) HSV.out)
        go_wp2_with fail
        refine wp_region_quiet_below (by kernel_rfl) (by kernel_rfl) ?_
        repeat (go_big_quiet_step ((first
          | (go_at_call 11; exact Calls.regrown_of (ans_times x0 x1 ab _ L0.out L1.out HAB.out.1))
          | (go_at_call 13; exact Calls.regrown_of (ans_next x0 na _ L0.out HNA.out.1))
          | (go_at_call 14; exact Calls.regrown_of (HSUM.out _ _))
          | (go_at_call 10; exact Calls.regrown_of (of_t _ _ _ (by first | exact O1 | exact O2 | exact O3 | exact O4 | exact O5)))
          | (go_at_call 12; exact Calls.regrown_of (mul_t _ _ _ _ (by first | exact M1 | exact M2))))))
        refine wpQuiet_nil ?_
        intro _ hw'
        obtain ⟨⟨dq, osq⟩, hw''⟩ := hw'
        subst hw''
        have hb3 := hc.out.2.2.2.trans ((below_regrown wo dq osq).mono hc.out.2.2.2.size)
        generalize Sort.grow (redrawn wo dq) osq = w9 at hb3 ⊢
        go_wp2_with fail
        go_ret
        exact ⟨by simp, hb3⟩
end Go.Proofs.Ytdhgofolcggleaa
