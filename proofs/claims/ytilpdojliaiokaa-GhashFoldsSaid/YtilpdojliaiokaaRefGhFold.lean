/- The reference of layer 5 (ghash): blocks, folded. Condition: the slice's cells are readable. -/
import Derived.Test.YtilpdojliaiokaaRefPolyPow
import Derived.Test.YtilpdojliaiokaaEqT
import Derived.Test.YtilpdojliaiokaaGfHL
import Derived.Test.YtilpdojliaiokaaRowsX
import Derived.Deep.RegionHeld3
namespace Go.Proofs.Ytilpdojliaiokaa
open Go.RowKit
set_option linter.unusedVariables false
set_option linter.unusedSimpArgs false

/-- Blocks, folded. -/
def gFold (h : Nat) : Nat → List Nat → Nat | f, [] => f | f, b :: l => gFold h (gMul (f ^^^ b) h) l
theorem gFold_snoc (h : Nat) (x : Nat) : ∀ (l : List Nat) (f : Nat), gFold h f (l ++ [x]) = gMul (gFold h f l ^^^ x) h
  | [], f => rfl
  | b :: l, f => gFold_snoc h x l (gMul (f ^^^ b) h)
theorem gFold_lt (h : Nat) (hh : h < 2 ^ 128) : ∀ (l : List Nat) (f : Nat), f < 2 ^ 128 → (∀ (i b : Nat), l[i]? = some b → b < 2 ^ 128) → gFold h f l < 2 ^ 128
  | [], f, hf, _ => hf
  | b :: l, f, hf, hl => gFold_lt h hh l _ (gMul_lt _ h (Nat.xor_lt_two_pow hf (hl 0 b rfl))) (fun i x hx => hl (i + 1) x hx)
theorem gFold_app (h : Nat) (m : List Nat) : ∀ (l : List Nat) (f : Nat), gFold h f (l ++ m) = gFold h (gFold h f l) m
  | [], f => rfl
  | b :: l, f => gFold_app h m l _
/-- The slice (A, n, _) reads as rows of coefficients of the numbers xs, below block B. -/
def XP (w : World) (B : Nat) (A : Option Addr) (n : Nat) (xs : List Nat) : Prop :=
  xs.length = n ∧ (∀ (i x : Nat), xs[i]? = some x → x < 2 ^ 128) ∧ (0 < n → ∃ g o, A = some ⟨g, o, none⟩ ∧ g < B ∧ ∀ (i x : Nat), xs[i]? = some x → w.rangeAt g (o + i * 128) (tvs (co x)))
theorem XP.step {w w' : World} {B : Nat} {A : Option Addr} {n : Nat} {xs : List Nat} (h : XP w B A n xs) (hb : Below B w w') : XP w' B A n xs := by
  refine ⟨h.1, h.2.1, fun hn => ?_⟩
  obtain ⟨g, o, hA, hg, hc⟩ := h.2.2 hn
  exact ⟨g, o, hA, hg, fun i x hx j v hv => (hb.cell (p := ⟨g, o + i * 128 + j, none⟩) hg).trans (hc i x hx j v hv)⟩
theorem XP.lt {w : World} {B B' : Nat} {A : Option Addr} {n : Nat} {xs : List Nat} (h : XP w B A n xs) (hB : B ≤ B') : XP w B' A n xs := by
  refine ⟨h.1, h.2.1, fun hn => ?_⟩
  obtain ⟨g, o, hA, hg, hc⟩ := h.2.2 hn
  exact ⟨g, o, hA, by omega, hc⟩
theorem gadd_co (x y : Nat) (w : World) : Calls Try.prog 35 #[BV (co x), BV (co y)] w (RetT (co (x ^^^ y)) w) := by
  have h := padd_any (co x) (co y) w (co_len x) (co_len y)
  rw [addT_co] at h
  exact h
noncomputable def gldB (v : Value) (w : World) : Result Next := Sem.run Try.prog (do let r ← Instr.loadAt 43 v; pure (Next.value r)) w
theorem ex_gldB (ev : Operand → Value) (x : Operand) (d : Option Tmp) (ty : TypeId) (ps : String) (af : Array Edge) (g : Option (Nat × Bool)) (w : World) : (execOp ev ⟨d, .load 43 x, ty, ps, af, g⟩).run Try.prog w = gldB (ev x) w := rfl
theorem gldB_r {w : World} {g o x : Nat} (h : w.rangeAt g o (tvs (co x))) : gldB (.pointer (some ⟨g, o, none⟩)) w = .ok (.value (BV (co x))) w := by
  have := run_loadAt_mid (P := Try.prog) w g o 43 (tvs (co x)) _ h up_poly rfl (by simpa [tvs_length, co_len] using sz_poly)
  unfold gldB
  simp only [Sem.run_bind, this, Result.andThen_ok, Sem.run_pure]
  rfl
noncomputable def gstB (v x : Value) (w : World) : Result Next := Sem.run Try.prog (do Instr.storeAt 43 v x; pure Next.skip) w
theorem ex_gstB (ev : Operand → Value) (x y : Operand) (d : Option Tmp) (ty : TypeId) (ps : String) (af : Array Edge) (g : Option (Nat × Bool)) (w : World) : (execOp ev ⟨d, .store 43 x y, ty, ps, af, g⟩).run Try.prog w = gstB (ev x) (ev y) w := rfl
theorem gstB_x {w : World} {g : Nat} {l m : List Bool} (h : Br w g 0 l) (hl : l.length = 128) (hm : m.length = 128) : gstB (.pointer (some ⟨g, 0, none⟩)) (BV m) w = .ok .skip (w.setCells g 0 (tvs m)) := by
  have ht : w.there g 0 128 := by have := h.2; rw [tvs_length, hl] at this; exact this
  have := run_storeAt_mid (P := Try.prog) w g 0 43 (tvs m).toArray (by simpa [tvs_length, hm] using ht) (by simpa [tvs_length, hm] using sz_poly) (all_tvs m)
  unfold gstB BV
  simp only [Sem.run_bind, this, Result.andThen_ok, Sem.run_pure]
theorem Br.keep1 {W W1 : World} {g : Nat} {l : List Bool} (h : Br W g 0 l) (hl : 0 < l.length) (hb : Below W.heap.size W W1) : Br W1 g 0 l := h.below hb (h.lt hl)
attribute [go_sem ↓] ex_gldB ex_gstB
attribute [local irreducible] gMul co tvs zP gFold

set_option maxRecDepth 100000 in
set_option maxHeartbeats 4000000 in
theorem rfold_any (h f : Nat) (A : Option Addr) (n c : Nat) (xs : List Nat) (w : World) (hh : h < 2 ^ 128) (hf : f < 2 ^ 128) (hn : n ≤ maxLen) (hX : XP w w.heap.size A n xs) :
    Calls Try.prog 19 #[BV (co h), BV (co f), .slice A n c] w (RetT (co (gFold h f xs)) w) := by
  obtain ⟨R, HR⟩ : ∃ R, Hid (R = co (gFold h f xs)) := ⟨_, Lib.hid rfl⟩
  rw [← HR.out]
  have hn2 : n ≤ 9223372036854775807 := by unfold maxLen at hn; omega
  have HH := Lib.hid hh
  have HF := Lib.hid hf
  have HX := Lib.hid hX
  have hz := zero_poly
  obtain ⟨G, HG⟩ : ∃ G, Hid (G = w.heap.size) := ⟨_, Lib.hid rfl⟩
  have HA0 := Lib.hid (v3_0 (co h) (co f) zP 43 w)
  have HB0 := Lib.hid (v3_1 (co h) (co f) zP 43 w)
  have HC0 := Lib.hid (v3_2 (co h) (co f) zP 43 w)
  have HBL := Lib.hid (v3_below (co h) (co f) zP 43 w)
  obtain ⟨W0, HW0⟩ : ∃ W0, Hid (W0 = V3 (co h) (co f) zP 43 w) := ⟨_, Lib.hid rfl⟩
  rw [← HW0.out, ← HG.out] at HA0 HB0 HC0
  rw [← HW0.out] at HBL
  clear hh hf hX hn
  unfold V3 at HW0
  go_enter Try.func19, Try.ntmps19
  go_wp2_with (first | (refine wpList_boxT rfl _ (.tmp 0) rfl (co h) rfl ?_) | (refine wpList_boxT rfl _ (.tmp 1) rfl (co f) rfl ?_))
  show Code.wp _ _ _ _ (((w.alloc (.cells (tvs (co h)).toArray 43)).alloc (.cells (tvs (co f)).toArray 43)).alloc (.cells (tvs zP).toArray 43))
  rw [← HW0.out, ← HG.out]
  clear HW0
  have hwG : w.heap.size ≤ G := by rw [← HG.out]; exact Nat.le_refl _
  go_loopw [7] (fun t wr => ∃ i q : Nat, i ≤ n ∧ t = .int .i64 i ∧ Hid (q = gFold h f (xs.take i) ∧ q < 2 ^ 128) ∧ Hid (Br wr G 0 (co h)) ∧ Hid (Br wr (G + 1) 0 (co q)) ∧ Hid (Br wr (G + 1 + 1) 0 zP) ∧ Hid (Below w.heap.size w wr)) (fun t _ => n - (intOf t).toNat)
  case atStart => exact ⟨0, f, by omega, rfl, Lib.hid ⟨by rw [List.take_zero]; unfold gFold; rfl, HF.out⟩, HA0, HB0, HC0, HBL⟩
  case round =>
    obtain ⟨i, q, hi, rfl, hv, ha, hq, hd, hb⟩ := hrel
    clear HA0 HB0 HC0 HBL
    by_cases hlt : i < n
    · obtain ⟨g, o, rfl, hg, hcx⟩ := HX.out.2.2 (by omega)
      obtain ⟨x, hx2⟩ : ∃ x, xs[i]? = some x := ⟨_, List.getElem?_eq_getElem (by rw [HX.out.1]; exact hlt)⟩
      have HLX := Lib.hid (HX.out.2.1 i x hx2)
      obtain ⟨u, HU⟩ : ∃ u, Hid (u = q ^^^ x ∧ u < 2 ^ 128) := ⟨_, Lib.hid ⟨rfl, Nat.xor_lt_two_pow hv.out.2 HLX.out⟩⟩
      obtain ⟨s, HS⟩ : ∃ s, Hid (s = gMul u h ∧ s < 2 ^ 128) := ⟨_, Lib.hid ⟨rfl, gMul_lt _ _ HU.out.2⟩⟩
      have HV : Hid (s = gFold h f (xs.take (i + 1))) := Lib.hid (by rw [HS.out.1, HU.out.1, hv.out.1, List.take_add_one, hx2]; exact (gFold_snoc h x _ f).symm)
      have HCE : Hid (∀ W : World, Below w.heap.size w W → gldB (.pointer (some ⟨g, o + i * 128, none⟩)) W = .ok (.value (BV (co x))) W) := Lib.hid (fun W hW => gldB_r (fun j v hv => (hW.cell (p := ⟨g, o + i * 128 + j, none⟩) hg).trans (hcx i x hx2 j v hv)))
      have q2 : gldB (.pointer (some ⟨G + 1, 0, none⟩)) wr.drew = .ok (.value (BV (co q))) wr.drew := gldB_r hq.out.drew.1
      have q3 : gldB (.pointer (some ⟨G, 0, none⟩)) wr.drew = .ok (.value (BV (co h))) wr.drew := gldB_r ha.out.drew.1
      have HAD : Hid (∀ v, Calls Try.prog 35 #[BV (co q), BV (co x)] v (RetT (co u) v)) := Lib.hid (fun v => by rw [HU.out.1]; exact gadd_co q x v)
      have HMU : Hid (∀ v, Calls Try.prog 20 #[BV (co u), BV (co h)] v (RetT (co s) v)) := Lib.hid (fun v => by rw [HS.out.1]; exact pmul_co u h v HU.out.2 HH.out)
      clear hx2 hcx
      go_wp2_with fail
      refine wp_region_held_drew (S := fun w' => gldB (.pointer (some ⟨g, o + i * 128, none⟩)) w' = .ok (.value (BV (co x))) w' ∧ gldB (.pointer (some ⟨G, 0, none⟩)) w' = .ok (.value (BV (co h))) w') (by kernel_rfl) ⟨HCE.out _ hb.out.drew, q3⟩ (fun hHeld => ?_)
      (try dsimp only at hHeld)
      refine wpAnyH_take (i := 1) (v := ?v1) rfl (by kernel_rfl) (by kernel_rfl) (by kernel_rfl) (fun _ _ _ h => h) (Or.inl ⟨by rfl, ?hy1⟩) hHeld ?_
      case hy1 => (intro w hSw; (try dsimp only at hSw); obtain ⟨hSw1, hSw2⟩ := hSw; (try simp only [List.getElem_toArray, List.getElem_cons_zero, List.getElem_cons_succ]); go_simp <;> with_reducible rfl)
      (try simp only [Act.put, List.setIfInBounds_toArray, List.set_cons_zero, List.set_cons_succ])
      refine wpAnyH_take (i := 2) (v := ?v2) rfl (by kernel_rfl) (by kernel_rfl) (by kernel_rfl) (fun _ _ _ h => h) (Or.inl ⟨by rfl, ?hy2⟩) hHeld ?_
      case hy2 => (intro w hSw; (try dsimp only at hSw); obtain ⟨hSw1, hSw2⟩ := hSw; (try simp only [List.getElem_toArray, List.getElem_cons_zero, List.getElem_cons_succ]); go_simp <;> with_reducible rfl)
      (try simp only [Act.put, List.setIfInBounds_toArray, List.set_cons_zero, List.set_cons_succ])
      refine wpAnyH_take (i := 3) (v := ?v3) rfl (by kernel_rfl) (by kernel_rfl) (by kernel_rfl) (fun _ _ _ h => h) (Or.inl ⟨by rfl, ?hy3⟩) hHeld ?_
      case hy3 => (intro w hSw; (try dsimp only at hSw); obtain ⟨hSw1, hSw2⟩ := hSw; (try simp only [List.getElem_toArray, List.getElem_cons_zero, List.getElem_cons_succ]); go_simp <;> with_reducible rfl)
      (try simp only [Act.put, List.setIfInBounds_toArray, List.set_cons_zero, List.set_cons_succ])
      refine wpAnyH_take (i := 4) (v := ?v4) rfl (by kernel_rfl) (by kernel_rfl) (by kernel_rfl) (fun _ _ _ h => h) (Or.inl ⟨by rfl, ?hy4⟩) hHeld ?_
      case hy4 => (intro w hSw; (try dsimp only at hSw); obtain ⟨hSw1, hSw2⟩ := hSw; (try simp only [List.getElem_toArray, List.getElem_cons_zero, List.getElem_cons_succ]); go_simp <;> with_reducible rfl)
      (try simp only [Act.put, List.setIfInBounds_toArray, List.set_cons_zero, List.set_cons_succ])
      refine wpAnyH_take (i := 6) (v := ?v6) rfl (by kernel_rfl) (by kernel_rfl) (by kernel_rfl) (fun _ _ _ h => h) (Or.inl ⟨by rfl, ?hy6⟩) hHeld ?_
      case hy6 => (intro w hSw; (try dsimp only at hSw); obtain ⟨hSw1, hSw2⟩ := hSw; (try simp only [List.getElem_toArray, List.getElem_cons_zero, List.getElem_cons_succ]); go_simp <;> with_reducible rfl)
      (try simp only [Act.put, List.setIfInBounds_toArray, List.set_cons_zero, List.set_cons_succ])
      refine wpAnyH_ready (rs := [0]) (by kernel_rfl) (by simp) ?_
      refine AllReadyH.cons rfl (fun K hK => ?_) AllReadyH.nil
      (try simp only [List.getElem_toArray, List.getElem_cons_zero, List.getElem_cons_succ])
      go_simp
      refine hK.out _ _ hHeld (fun hHeld => ?_)
      clear hK K
      (try simp only [Act.put, List.setIfInBounds_toArray, List.set_cons_zero, List.set_cons_succ])
      refine wpAnyH_ready (rs := [5]) (by kernel_rfl) (by simp) ?_
      refine AllReadyH.cons rfl (fun K hK => ?_) AllReadyH.nil
      (try simp only [List.getElem_toArray, List.getElem_cons_zero, List.getElem_cons_succ])
      go_simp
      refine (HAD.out _).mono ?_
      rintro e w5 ⟨rfl, hb5⟩
      have HB5 : Hid (Below wr.heap.size wr w5) := Lib.hid ((Below.refl wr.heap.size wr).drew.trans (show Below wr.heap.size wr.drew w5 from hb5))
      clear hb5
      have hb5 := Lib.hid (hb.out.trans (HB5.out.mono hb.out.size))
      have ha5 := Lib.hid (ha.out.keep1 (by rw [co_len]; omega) HB5.out)
      (try go_wp2_with fail)
      refine hK.out _ _ ⟨HCE.out _ hb5.out, gldB_r ha5.out.1⟩ (fun hHeld => ?_)
      clear hK K
      (try simp only [Act.put, List.setIfInBounds_toArray, List.set_cons_zero, List.set_cons_succ])
      refine wpAnyH_ready (rs := [7]) (by kernel_rfl) (by simp) ?_
      refine AllReadyH.cons rfl (fun K hK => ?_) AllReadyH.nil
      (try simp only [List.getElem_toArray, List.getElem_cons_zero, List.getElem_cons_succ])
      go_simp
      refine (HMU.out _).mono ?_
      rintro e w6 ⟨rfl, hb6⟩
      have HB6 : Hid (Below wr.heap.size wr w6) := Lib.hid (HB5.out.trans (hb6.mono HB5.out.size))
      clear hb6
      have hb6 := Lib.hid (hb.out.trans (HB6.out.mono hb.out.size))
      have ha6 := Lib.hid (ha.out.keep1 (by rw [co_len]; omega) HB6.out)
      have hq6 := Lib.hid (hq.out.keep1 (by rw [co_len]; omega) HB6.out)
      have hd6 := Lib.hid (hd.out.keep1 (by rw [zP_len]; omega) HB6.out)
      have q4 := gstB_x hq6.out (co_len q) (co_len s)
      (try go_wp2_with fail)
      refine hK.out _ _ ⟨HCE.out _ hb6.out, gldB_r ha6.out.1⟩ (fun hHeld => ?_)
      clear hK K
      (try simp only [Act.put, List.setIfInBounds_toArray, List.set_cons_zero, List.set_cons_succ])
      refine wpAnyH_ready (rs := [8]) (by kernel_rfl) (by simp) ?_
      refine AllReadyH.cons rfl (fun K hK => ?_) AllReadyH.nil
      (try simp only [List.getElem_toArray, List.getElem_cons_zero, List.getElem_cons_succ])
      go_simp
      refine hK.out _ _ ⟨HCE.out _ (below_setCells hb6.out (by omega) _ _), gldB_r (ha6.out.setCells (by omega) _ _).1⟩ (fun _ => ?_)
      clear hK K
      (try simp only [Act.put, List.setIfInBounds_toArray, List.set_cons_zero, List.set_cons_succ])
      refine wpAnyH_done (by kernel_rfl) ?_ _
      go_wp2_with fail
      go_roundw
      case rel => exact ⟨i + 1, s, by omega, by go_num, Lib.hid ⟨HV.out, HS.out.2⟩, Lib.hid (ha6.out.setCells (by omega) _ _), Lib.hid (hq6.out.whole (co s) (by rw [co_len, co_len])), Lib.hid (hd6.out.setCells (by omega) _ _), Lib.hid (below_setCells hb6.out (by omega) _ _)⟩
      case measure => simp [intOf]; omega
    · have he60 : i = n := by omega
      subst he60
      have HRQ : Hid (R = co q) := Lib.hid (by have h1 := hv.out.1; rw [List.take_of_length_le (by rw [HX.out.1]; omega)] at h1; rw [HR.out, h1])
      go_wp2_with (first | (refine wpList_ldT rfl _ (.tmp 4) rfl (G + 1) 0 128 _ rfl (co q) (by exact hq.out) up_poly (by rw [co_len]; exact sz_poly) ?_) | (refine wpList_stT rfl _ (.tmp 6) (.tmp 22) rfl (G + 1 + 1) 0 rfl (co q) zP rfl (by exact hd.out) (by rw [co_len, zP_len]) (by rw [co_len]; exact sz_poly) ?_))
      rw [HRQ.out]
      refine bodyPost_ret (v := BV (co q)) (res_cellT rfl _ _ (G + 1 + 1) 128 _ (co q) rfl (hd.out.whole (co q) (by rw [co_len, zP_len])) up_poly (by rw [co_len]; exact sz_poly)) rfl ⟨rfl, ?_⟩
      exact below_setCells hb.out (by omega) 0 (tvs (co q))
end Go.Proofs.Ytilpdojliaiokaa
