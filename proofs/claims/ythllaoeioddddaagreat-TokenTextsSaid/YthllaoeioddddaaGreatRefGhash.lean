/- The reference of layer 5 (ghash): a length in bits, in eight bytes. Condition: the length is small. -/
import Derived.Test.YthllaoeioddddaaGreatOctAll
import Derived.Test.YthllaoeioddddaaGreatPolyMath
import Derived.Test.YthllaoeioddddaaGreatRowsNew
import Derived.Deep.RegionHeld3
import Derived.Test.YthllaoeioddddaaGreatPolyOb
import Derived.Great.BuildSlice
import Derived.Great.FillDense
namespace Go.Proofs.YthllaoeioddddaaGreat
open Go.RowKit
set_option linter.unusedVariables false

/-- Eight bytes of n bytes' bits. -/
def longL (n : Nat) : List UInt8 := putL (n * 8) 8
theorem longL_len (n : Nat) : (longL n).length = 8 := putL_len _ _
attribute [local irreducible] putAt
set_option maxHeartbeats 1000000 in
theorem glong_any (n : Nat) (w : World) (hn : n ≤ 1000000000000) :
    Calls Tryz.prog 115 #[.int .i64 (n : Int)] w (RetB 8 (longL n) w) := by
  obtain ⟨N, HN⟩ : ∃ N, Hid (N = n * 8 ∧ N ≤ 8000000000000) := ⟨_, Lib.hid ⟨rfl, by omega⟩⟩
  have hw : IntKind.i64.wrap ((n : Int) * 8) = (N : Int) := by rw [IntWalk.i64_in _ (by omega), HN.out.1]; omega
  have hz : putAt N 8 8 = List.replicate 8 0 := putAt_full N 8
  have hl : longL n = putL N 8 := by unfold longL; rw [HN.out.1]
  rw [hl]
  go_enter Tryz.func115, Tryz.ntmps115
  go_wp2_with (at_make; refine wpList_mk rfl _ _ rfl w.heap.size .i64 .i64 _ _ 8 rfl rfl rfl rfl (by omega) (Nat.le_refl _) ?_; intro w1 hown1 hs1 hb1)
  go_loopw [0, 4] (fun v i wr => ∃ j : Nat, j ≤ 8 ∧ i = .int .i64 ((j : Int) - 1) ∧ v = .int .i64 (downL N (8 - j) : Int) ∧ OwnB wr w.heap.size (some ⟨w.heap.size, 0, none⟩) 8 8 (putAt N 8 j) ∧ Below w.heap.size w wr) (fun _ i _ => (intOf i + 1).toNat)
  case atStart => exact ⟨8, Nat.le_refl _, rfl, by simp [downL], by rw [hz]; exact hown1, hb1⟩
  case round =>
    obtain ⟨j, hj, rfl, rfl, hown, hbel⟩ := hrel
    have hdl := downL_le N (8 - j)
    rcases j with _ | j
    · rw [show ((0 : Nat) : Int) - 1 = -1 from rfl, Nat.sub_zero]
      rw [putAt_zero] at hown
      go_wp2
      go_ret
      exact ⟨_, _, rfl, hown, hbel⟩
    · have e : ((j + 1 : Nat) : Int) - 1 = (j : Int) := by omega
      rw [e]
      clear e
      have hc0 := hown.cellAt (putAt_get N 8 j)
      have hf0 := hown.freeAt j
      obtain ⟨m, HM⟩ : ∃ m, Hid (m = downL N (8 - (j + 1))) := ⟨_, Lib.hid rfl⟩
      rw [← HM.out] at hdl ⊢
      have hm2 : m ≤ 8000000000000 := by have := HN.out.2; omega
      go_wp2
      go_roundw
      case rel =>
        refine ⟨j, by omega, rfl, ?_, ?_, hbel.setCell (Nat.le_refl _) _⟩
        · rw [show 8 - j = (8 - (j + 1)) + 1 from by omega, downL_succ, ← HM.out]
          go_num
        · rw [← putAt_next N 8 j (by omega)]
          exact hown.stored j _ _ (by unfold bv; rw [convert_u8, show 8 - 1 - j = 8 - (j + 1) from by omega, ← HM.out])
      case measure => simp [intOf]
end Go.Proofs.YthllaoeioddddaaGreat

/- The reference of layer 5 (ghash): blocks, folded. Condition: the slice's cells are readable. -/
namespace Go.Proofs.YthllaoeioddddaaGreat
open Go.RowKit
set_option linter.unusedVariables false
set_option linter.unusedSimpArgs false

/-- Blocks, folded. -/
def gFold (h : Nat) : Nat → List Nat → Nat | f, [] => f | f, b :: l => gFold h (gMul (f ^^^ b) h) l
theorem gFold_snoc (h : Nat) (x : Nat) : ∀ (l : List Nat) (f : Nat), gFold h f (l ++ [x]) = gMul (gFold h f l ^^^ x) h
  | [], f => rfl
  | b :: l, f => gFold_snoc h x l (gMul (f ^^^ b) h)
theorem gFold_lt (h : Nat) (hh : h < 2 ^ 128) : ∀ (l : List Nat) (f : Nat), f < 2 ^ 128 → (∀ (i b : Nat), l[i]? = some b → b < 2 ^ 128) → gFold h f l < 2 ^ 128
  | [], f, hf, _ => hf
  | b :: l, f, hf, hl => gFold_lt h hh l _ (gMul_lt _ h (Nat.xor_lt_two_pow hf (hl 0 b rfl))) (fun i x hx => hl (i + 1) x hx)
theorem gFold_app (h : Nat) (m : List Nat) : ∀ (l : List Nat) (f : Nat), gFold h f (l ++ m) = gFold h (gFold h f l) m
  | [], f => rfl
  | b :: l, f => gFold_app h m l _
/-- The slice (A, n, _) reads as rows of coefficients of the numbers xs, below block B. -/
def XP (w : World) (B : Nat) (A : Option Addr) (n : Nat) (xs : List Nat) : Prop :=
  xs.length = n ∧ (∀ (i x : Nat), xs[i]? = some x → x < 2 ^ 128) ∧ (0 < n → ∃ g o, A = some ⟨g, o, none⟩ ∧ g < B ∧ ∀ (i x : Nat), xs[i]? = some x → w.rangeAt g (o + i * 128) (tvs (co x)))
theorem XP.step {w w' : World} {B : Nat} {A : Option Addr} {n : Nat} {xs : List Nat} (h : XP w B A n xs) (hb : Below B w w') : XP w' B A n xs := by
  refine ⟨h.1, h.2.1, fun hn => ?_⟩
  obtain ⟨g, o, hA, hg, hc⟩ := h.2.2 hn
  exact ⟨g, o, hA, hg, fun i x hx j v hv => (hb.cell (p := ⟨g, o + i * 128 + j, none⟩) hg).trans (hc i x hx j v hv)⟩
theorem XP.lt {w : World} {B B' : Nat} {A : Option Addr} {n : Nat} {xs : List Nat} (h : XP w B A n xs) (hB : B ≤ B') : XP w B' A n xs := by
  refine ⟨h.1, h.2.1, fun hn => ?_⟩
  obtain ⟨g, o, hA, hg, hc⟩ := h.2.2 hn
  exact ⟨g, o, hA, by omega, hc⟩
theorem gadd_co (x y : Nat) (w : World) : Calls Tryz.prog 142 #[BV (co x), BV (co y)] w (RetT (co (x ^^^ y)) w) := by
  have h := padd_any (co x) (co y) w (co_len x) (co_len y)
  rw [addT_co] at h
  exact h
noncomputable def gldB (v : Value) (w : World) : Result Next := Sem.run Tryz.prog (do let r ← Instr.loadAt 167 v; pure (Next.value r)) w
theorem ex_gldB (ev : Operand → Value) (x : Operand) (d : Option Tmp) (ty : TypeId) (ps : String) (af : Array Edge) (g : Option (Nat × Bool)) (w : World) : (execOp ev ⟨d, .load 167 x, ty, ps, af, g⟩).run Tryz.prog w = gldB (ev x) w := rfl
theorem gldB_r {w : World} {g o x : Nat} (h : w.rangeAt g o (tvs (co x))) : gldB (.pointer (some ⟨g, o, none⟩)) w = .ok (.value (BV (co x))) w := by
  have := run_loadAt_mid (P := Tryz.prog) w g o 167 (tvs (co x)) _ h up_poly rfl (by simpa [tvs_length, co_len] using sz_poly)
  unfold gldB
  simp only [Sem.run_bind, this, Result.andThen_ok, Sem.run_pure]
  rfl
noncomputable def gstB (v x : Value) (w : World) : Result Next := Sem.run Tryz.prog (do Instr.storeAt 167 v x; pure Next.skip) w
theorem ex_gstB (ev : Operand → Value) (x y : Operand) (d : Option Tmp) (ty : TypeId) (ps : String) (af : Array Edge) (g : Option (Nat × Bool)) (w : World) : (execOp ev ⟨d, .store 167 x y, ty, ps, af, g⟩).run Tryz.prog w = gstB (ev x) (ev y) w := rfl
theorem gstB_x {w : World} {g : Nat} {l m : List Bool} (h : Br w g 0 l) (hl : l.length = 128) (hm : m.length = 128) : gstB (.pointer (some ⟨g, 0, none⟩)) (BV m) w = .ok .skip (w.setCells g 0 (tvs m)) := by
  have ht : w.there g 0 128 := by have := h.2; rw [tvs_length, hl] at this; exact this
  have := run_storeAt_mid (P := Tryz.prog) w g 0 167 (tvs m).toArray (by simpa [tvs_length, hm] using ht) (by simpa [tvs_length, hm] using sz_poly) (all_tvs m)
  unfold gstB BV
  simp only [Sem.run_bind, this, Result.andThen_ok, Sem.run_pure]
theorem Br.keep1 {W W1 : World} {g : Nat} {l : List Bool} (h : Br W g 0 l) (hl : 0 < l.length) (hb : Below W.heap.size W W1) : Br W1 g 0 l := h.below hb (h.lt hl)
attribute [go_sem ↓] ex_gldB ex_gstB
attribute [local irreducible] gMul co tvs zP gFold

set_option maxRecDepth 100000 in
set_option maxHeartbeats 4000000 in
theorem rfold_any (h f : Nat) (A : Option Addr) (n c : Nat) (xs : List Nat) (w : World) (hh : h < 2 ^ 128) (hf : f < 2 ^ 128) (hn : n ≤ maxLen) (hX : XP w w.heap.size A n xs) :
    Calls Tryz.prog 117 #[BV (co h), BV (co f), .slice A n c] w (RetT (co (gFold h f xs)) w) := by
  obtain ⟨R, HR⟩ : ∃ R, Hid (R = co (gFold h f xs)) := ⟨_, Lib.hid rfl⟩
  rw [← HR.out]
  have hn2 : n ≤ 9223372036854775807 := by unfold maxLen at hn; omega
  have HH := Lib.hid hh
  have HF := Lib.hid hf
  have HX := Lib.hid hX
  have hz := zero_poly
  obtain ⟨G, HG⟩ : ∃ G, Hid (G = w.heap.size) := ⟨_, Lib.hid rfl⟩
  have HA0 := Lib.hid (v3_0 (co h) (co f) zP 167 w)
  have HB0 := Lib.hid (v3_1 (co h) (co f) zP 167 w)
  have HC0 := Lib.hid (v3_2 (co h) (co f) zP 167 w)
  have HBL := Lib.hid (v3_below (co h) (co f) zP 167 w)
  obtain ⟨W0, HW0⟩ : ∃ W0, Hid (W0 = V3 (co h) (co f) zP 167 w) := ⟨_, Lib.hid rfl⟩
  rw [← HW0.out, ← HG.out] at HA0 HB0 HC0
  rw [← HW0.out] at HBL
  clear hh hf hX hn
  unfold V3 at HW0
  go_enter Tryz.func117, Tryz.ntmps117
  go_wp2_with (first | (refine wpList_boxT rfl _ (.tmp 0) rfl (co h) rfl ?_) | (refine wpList_boxT rfl _ (.tmp 1) rfl (co f) rfl ?_))
  show Code.wp _ _ _ _ (((w.alloc (.cells (tvs (co h)).toArray 167)).alloc (.cells (tvs (co f)).toArray 167)).alloc (.cells (tvs zP).toArray 167))
  rw [← HW0.out, ← HG.out]
  clear HW0
  have hwG : w.heap.size ≤ G := by rw [← HG.out]; exact Nat.le_refl _
  go_loopw [7] (fun t wr => ∃ i q : Nat, i ≤ n ∧ t = .int .i64 i ∧ Hid (q = gFold h f (xs.take i) ∧ q < 2 ^ 128) ∧ Hid (Br wr G 0 (co h)) ∧ Hid (Br wr (G + 1) 0 (co q)) ∧ Hid (Br wr (G + 1 + 1) 0 zP) ∧ Hid (Below w.heap.size w wr)) (fun t _ => n - (intOf t).toNat)
  case atStart => exact ⟨0, f, by omega, rfl, Lib.hid ⟨by rw [List.take_zero]; unfold gFold; rfl, HF.out⟩, HA0, HB0, HC0, HBL⟩
  case round =>
    obtain ⟨i, q, hi, rfl, hv, ha, hq, hd, hb⟩ := hrel
    clear HA0 HB0 HC0 HBL
    by_cases hlt : i < n
    · obtain ⟨g, o, rfl, hg, hcx⟩ := HX.out.2.2 (by omega)
      obtain ⟨x, hx2⟩ : ∃ x, xs[i]? = some x := ⟨_, List.getElem?_eq_getElem (by rw [HX.out.1]; exact hlt)⟩
      have HLX := Lib.hid (HX.out.2.1 i x hx2)
      obtain ⟨u, HU⟩ : ∃ u, Hid (u = q ^^^ x ∧ u < 2 ^ 128) := ⟨_, Lib.hid ⟨rfl, Nat.xor_lt_two_pow hv.out.2 HLX.out⟩⟩
      obtain ⟨s, HS⟩ : ∃ s, Hid (s = gMul u h ∧ s < 2 ^ 128) := ⟨_, Lib.hid ⟨rfl, gMul_lt _ _ HU.out.2⟩⟩
      have HV : Hid (s = gFold h f (xs.take (i + 1))) := Lib.hid (by rw [HS.out.1, HU.out.1, hv.out.1, List.take_add_one, hx2]; exact (gFold_snoc h x _ f).symm)
      have HCE : Hid (∀ W : World, Below w.heap.size w W → gldB (.pointer (some ⟨g, o + i * 128, none⟩)) W = .ok (.value (BV (co x))) W) := Lib.hid (fun W hW => gldB_r (fun j v hv => (hW.cell (p := ⟨g, o + i * 128 + j, none⟩) hg).trans (hcx i x hx2 j v hv)))
      have q2 : gldB (.pointer (some ⟨G + 1, 0, none⟩)) wr.drew = .ok (.value (BV (co q))) wr.drew := gldB_r hq.out.drew.1
      have q3 : gldB (.pointer (some ⟨G, 0, none⟩)) wr.drew = .ok (.value (BV (co h))) wr.drew := gldB_r ha.out.drew.1
      have HAD : Hid (∀ v, Calls Tryz.prog 142 #[BV (co q), BV (co x)] v (RetT (co u) v)) := Lib.hid (fun v => by rw [HU.out.1]; exact gadd_co q x v)
      have HMU : Hid (∀ v, Calls Tryz.prog 141 #[BV (co u), BV (co h)] v (RetT (co s) v)) := Lib.hid (fun v => by rw [HS.out.1]; exact pmul_co u h v HU.out.2 HH.out)
      clear hx2 hcx
      go_wp2_with fail
      refine wp_region_held_drew (S := fun w' => gldB (.pointer (some ⟨g, o + i * 128, none⟩)) w' = .ok (.value (BV (co x))) w' ∧ gldB (.pointer (some ⟨G, 0, none⟩)) w' = .ok (.value (BV (co h))) w') (by kernel_rfl) ⟨HCE.out _ hb.out.drew, q3⟩ (fun hHeld => ?_)
      (try dsimp only at hHeld)
      refine wpAnyH_take (i := 1) (v := ?v1) rfl (by kernel_rfl) (by kernel_rfl) (by kernel_rfl) (fun _ _ _ h => h) (Or.inl ⟨by rfl, ?hy1⟩) hHeld ?_
      case hy1 => (intro w hSw; (try dsimp only at hSw); obtain ⟨hSw1, hSw2⟩ := hSw; (try simp only [List.getElem_toArray, List.getElem_cons_zero, List.getElem_cons_succ]); go_simp <;> with_reducible rfl)
      (try simp only [Act.put, List.setIfInBounds_toArray, List.set_cons_zero, List.set_cons_succ])
      refine wpAnyH_take (i := 2) (v := ?v2) rfl (by kernel_rfl) (by kernel_rfl) (by kernel_rfl) (fun _ _ _ h => h) (Or.inl ⟨by rfl, ?hy2⟩) hHeld ?_
      case hy2 => (intro w hSw; (try dsimp only at hSw); obtain ⟨hSw1, hSw2⟩ := hSw; (try simp only [List.getElem_toArray, List.getElem_cons_zero, List.getElem_cons_succ]); go_simp <;> with_reducible rfl)
      (try simp only [Act.put, List.setIfInBounds_toArray, List.set_cons_zero, List.set_cons_succ])
      refine wpAnyH_take (i := 3) (v := ?v3) rfl (by kernel_rfl) (by kernel_rfl) (by kernel_rfl) (fun _ _ _ h => h) (Or.inl ⟨by rfl, ?hy3⟩) hHeld ?_
      case hy3 => (intro w hSw; (try dsimp only at hSw); obtain ⟨hSw1, hSw2⟩ := hSw; (try simp only [List.getElem_toArray, List.getElem_cons_zero, List.getElem_cons_succ]); go_simp <;> with_reducible rfl)
      (try simp only [Act.put, List.setIfInBounds_toArray, List.set_cons_zero, List.set_cons_succ])
      refine wpAnyH_take (i := 4) (v := ?v4) rfl (by kernel_rfl) (by kernel_rfl) (by kernel_rfl) (fun _ _ _ h => h) (Or.inl ⟨by rfl, ?hy4⟩) hHeld ?_
      case hy4 => (intro w hSw; (try dsimp only at hSw); obtain ⟨hSw1, hSw2⟩ := hSw; (try simp only [List.getElem_toArray, List.getElem_cons_zero, List.getElem_cons_succ]); go_simp <;> with_reducible rfl)
      (try simp only [Act.put, List.setIfInBounds_toArray, List.set_cons_zero, List.set_cons_succ])
      refine wpAnyH_take (i := 6) (v := ?v6) rfl (by kernel_rfl) (by kernel_rfl) (by kernel_rfl) (fun _ _ _ h => h) (Or.inl ⟨by rfl, ?hy6⟩) hHeld ?_
      case hy6 => (intro w hSw; (try dsimp only at hSw); obtain ⟨hSw1, hSw2⟩ := hSw; (try simp only [List.getElem_toArray, List.getElem_cons_zero, List.getElem_cons_succ]); go_simp <;> with_reducible rfl)
      (try simp only [Act.put, List.setIfInBounds_toArray, List.set_cons_zero, List.set_cons_succ])
      refine wpAnyH_ready (rs := [0]) (by kernel_rfl) (by simp) ?_
      refine AllReadyH.cons rfl (fun K hK => ?_) AllReadyH.nil
      (try simp only [List.getElem_toArray, List.getElem_cons_zero, List.getElem_cons_succ])
      go_simp
      refine hK.out _ _ hHeld (fun hHeld => ?_)
      clear hK K
      (try simp only [Act.put, List.setIfInBounds_toArray, List.set_cons_zero, List.set_cons_succ])
      refine wpAnyH_ready (rs := [5]) (by kernel_rfl) (by simp) ?_
      refine AllReadyH.cons rfl (fun K hK => ?_) AllReadyH.nil
      (try simp only [List.getElem_toArray, List.getElem_cons_zero, List.getElem_cons_succ])
      go_simp
      refine (HAD.out _).mono ?_
      rintro e w5 ⟨rfl, hb5⟩
      have HB5 : Hid (Below wr.heap.size wr w5) := Lib.hid ((Below.refl wr.heap.size wr).drew.trans (show Below wr.heap.size wr.drew w5 from hb5))
      clear hb5
      have hb5 := Lib.hid (hb.out.trans (HB5.out.mono hb.out.size))
      have ha5 := Lib.hid (ha.out.keep1 (by rw [co_len]; omega) HB5.out)
      (try go_wp2_with fail)
      refine hK.out _ _ ⟨HCE.out _ hb5.out, gldB_r ha5.out.1⟩ (fun hHeld => ?_)
      clear hK K
      (try simp only [Act.put, List.setIfInBounds_toArray, List.set_cons_zero, List.set_cons_succ])
      refine wpAnyH_ready (rs := [7]) (by kernel_rfl) (by simp) ?_
      refine AllReadyH.cons rfl (fun K hK => ?_) AllReadyH.nil
      (try simp only [List.getElem_toArray, List.getElem_cons_zero, List.getElem_cons_succ])
      go_simp
      refine (HMU.out _).mono ?_
      rintro e w6 ⟨rfl, hb6⟩
      have HB6 : Hid (Below wr.heap.size wr w6) := Lib.hid (HB5.out.trans (hb6.mono HB5.out.size))
      clear hb6
      have hb6 := Lib.hid (hb.out.trans (HB6.out.mono hb.out.size))
      have ha6 := Lib.hid (ha.out.keep1 (by rw [co_len]; omega) HB6.out)
      have hq6 := Lib.hid (hq.out.keep1 (by rw [co_len]; omega) HB6.out)
      have hd6 := Lib.hid (hd.out.keep1 (by rw [zP_len]; omega) HB6.out)
      have q4 := gstB_x hq6.out (co_len q) (co_len s)
      (try go_wp2_with fail)
      refine hK.out _ _ ⟨HCE.out _ hb6.out, gldB_r ha6.out.1⟩ (fun hHeld => ?_)
      clear hK K
      (try simp only [Act.put, List.setIfInBounds_toArray, List.set_cons_zero, List.set_cons_succ])
      refine wpAnyH_ready (rs := [8]) (by kernel_rfl) (by simp) ?_
      refine AllReadyH.cons rfl (fun K hK => ?_) AllReadyH.nil
      (try simp only [List.getElem_toArray, List.getElem_cons_zero, List.getElem_cons_succ])
      go_simp
      refine hK.out _ _ ⟨HCE.out _ (below_setCells hb6.out (by omega) _ _), gldB_r (ha6.out.setCells (by omega) _ _).1⟩ (fun _ => ?_)
      clear hK K
      (try simp only [Act.put, List.setIfInBounds_toArray, List.set_cons_zero, List.set_cons_succ])
      refine wpAnyH_done (by kernel_rfl) ?_ _
      go_wp2_with fail
      go_roundw
      case rel => exact ⟨i + 1, s, by omega, by go_num, Lib.hid ⟨HV.out, HS.out.2⟩, Lib.hid (ha6.out.setCells (by omega) _ _), Lib.hid (hq6.out.whole (co s) (by rw [co_len, co_len])), Lib.hid (hd6.out.setCells (by omega) _ _), Lib.hid (below_setCells hb6.out (by omega) _ _)⟩
      case measure => simp [intOf]; omega
    · have he60 : i = n := by omega
      subst he60
      have HRQ : Hid (R = co q) := Lib.hid (by have h1 := hv.out.1; rw [List.take_of_length_le (by rw [HX.out.1]; omega)] at h1; rw [HR.out, h1])
      go_wp2_with (first | (refine wpList_ldT rfl _ (.tmp 4) rfl (G + 1) 0 128 _ rfl (co q) (by exact hq.out) up_poly (by rw [co_len]; exact sz_poly) ?_) | (refine wpList_stT rfl _ (.tmp 6) (.tmp 22) rfl (G + 1 + 1) 0 rfl (co q) zP rfl (by exact hd.out) (by rw [co_len, zP_len]) (by rw [co_len]; exact sz_poly) ?_))
      rw [HRQ.out]
      refine bodyPost_ret (v := BV (co q)) (res_cellT rfl _ _ (G + 1 + 1) 128 _ (co q) rfl (hd.out.whole (co q) (by rw [co_len, zP_len])) up_poly (by rw [co_len]; exact sz_poly)) rfl ⟨rfl, ?_⟩
      exact below_setCells hb.out (by omega) 0 (tvs (co q))
end Go.Proofs.YthllaoeioddddaaGreat

/- The reference of layer 5 (ghash): bytes, laid in blocks. Condition: the slice's cells are readable, and not too many. -/
namespace Go.Proofs.YthllaoeioddddaaGreat
open Go.RowKit
set_option linter.unusedVariables false

/-- The number of sixteen bytes. -/
def nB (l : List UInt8) : Nat := hl (oH l) (oL l)
theorem nB_lt (l : List UInt8) (h : l.length = 16) : nB l < 2 ^ 128 := hl_lt _ _ (oH_lt l h) (oL_lt l h)
theorem nB_bits (l : List UInt8) (h : l.length = 16) : bitsOf l = co (nB l) := by
  have h1 := bits_e (oH l) (oL l) (oL_lt l h)
  rw [eB_o l h] at h1
  exact h1
theorem nB_pe (l : List UInt8) (h : l.length = 16) : PE (nB l) = EV (oH l) (oL l) := pe_hl _ _ (oL_lt l h)
/-- Block k's first q bytes, then noughts. -/
def padK (l : List UInt8) (k q : Nat) : List UInt8 := (List.range 16).map fun j => if j < q then l.getD (16 * k + j) 0 else 0
theorem padK_len (l : List UInt8) (k q : Nat) : (padK l k q).length = 16 := by simp [padK]
theorem padK_at (l : List UInt8) (k q j : Nat) (hj : j < 16) : (padK l k q)[j]? = some (if j < q then l.getD (16 * k + j) 0 else 0) := by simp [padK, hj]
theorem padK_zero (l : List UInt8) (k : Nat) : padK l k 0 = List.replicate 16 0 := by
  apply List.ext_getElem?
  intro j
  by_cases hj : j < 16
  · rw [padK_at l k 0 j hj, List.getElem?_replicate, if_pos hj, if_neg (by omega)]
  · rw [List.getElem?_eq_none (by rw [padK_len]; omega), List.getElem?_eq_none (by simp; omega)]
theorem padK_set (l : List UInt8) (k q : Nat) (hq : q < 16) : (padK l k q).set q (l.getD (16 * k + q) 0) = padK l k (q + 1) := by
  apply List.ext_getElem?
  intro j
  rw [List.getElem?_set]
  by_cases hj : j < 16
  · rw [padK_at l k q j hj, padK_at l k (q + 1) j hj]
    by_cases e : q = j
    · subst e; rw [if_pos rfl, padK_len, if_pos (by omega), if_pos (by omega)]
    · rw [if_neg e]
      by_cases e2 : j < q
      · rw [if_pos e2, if_pos (by omega)]
      · rw [if_neg e2, if_neg (by omega)]
  · rw [if_neg (by omega), List.getElem?_eq_none (by rw [padK_len]; omega), List.getElem?_eq_none (by rw [padK_len]; omega)]
theorem padK_full (l : List UInt8) (k q : Nat) (h : l.length ≤ 16 * k + q) : padK l k q = padK l k 16 := by
  apply List.ext_getElem?
  intro j
  by_cases hj : j < 16
  · rw [padK_at l k q j hj, padK_at l k 16 j hj, if_pos hj]
    by_cases e : j < q
    · rw [if_pos e]
    · rw [if_neg e]
      congr 1
      rw [List.getD_eq_getElem?_getD, List.getElem?_eq_none (by omega)]
      rfl
  · rw [List.getElem?_eq_none (by rw [padK_len]; omega), List.getElem?_eq_none (by rw [padK_len]; omega)]
/-- The first k blocks; all of them. -/
def bksN (l : List UInt8) (k : Nat) : List Nat := (List.range k).map fun i => nB (padK l i 16)
def bks (l : List UInt8) : List Nat := bksN l ((l.length + 15) / 16)
theorem bksN_len (l : List UInt8) (k : Nat) : (bksN l k).length = k := by simp [bksN]
theorem bksN_succ (l : List UInt8) (k : Nat) : bksN l (k + 1) = bksN l k ++ [nB (padK l k 16)] := by simp [bksN, List.range_succ]
theorem bksN_lt (l : List UInt8) (k i x : Nat) (h : (bksN l k)[i]? = some x) : x < 2 ^ 128 := by
  obtain ⟨j, _, rfl⟩ := List.mem_map.1 (List.mem_of_getElem? h)
  exact nB_lt _ (padK_len _ _ _)
theorem poly_info : ∃ z, (Tryz.prog.info? 167).map (fun i => (i.zero, i.size, i.bytes)) = some (some z, 128, 128) ∧ z.cells.size = 128 := by
  have h : (Tryz.prog.info? 167).map (fun i => (i.zero.map (·.cells.size), i.size, i.bytes)) = some (some 128, 128, 128) := by kernel_rfl
  rcases hi : Tryz.prog.info? 167 with _ | i
  · rw [hi] at h; cases h
  · rw [hi] at h
    simp only [Option.map_some, Option.some.injEq, Prod.mk.injEq] at h
    obtain ⟨h1, h2, h3⟩ := h
    rcases hz : i.zero with _ | z
    · rw [hz] at h1; cases h1
    · rw [hz] at h1
      simp only [Option.map_some, Option.some.injEq] at h1
      exact ⟨z, by simp [hz, h2, h3], h1⟩
/-- Rows of coefficients as cells. -/
theorem cells_co : ∃ z, CellsOf 167 163 128 128 z (fun x => tvs (co x)) := by
  obtain ⟨z, h1, h2⟩ := poly_info
  exact ⟨z, Tryz.underlying163, h1, h2, by omega, fun x => by rw [tvs_length, co_len], fun x u hu => by
    obtain ⟨b, _, rfl⟩ := List.mem_map.1 hu
    rfl⟩
/-- A slice of one row of coefficients that a call lays. -/
theorem wpList_oneP {w : World} {ops : Array Oper} {rest : List Oper} {o : Oper} {a : Act} {Q : Exit → Act → World → Prop} (hgd : o.guard = none) (x : Operand) (hop : o.op = .buildSlice 163 1 #[(0, x)]) (l : List Bool) (hl : l.length = 128) (hx : a.eval x = BV l)
    (hk : wpList Tryz.prog ops Q rest (a.put o.dst (.slice (some ⟨w.heap.size, 0, none⟩) 1 1)) (w.alloc (.cells (tvs l).toArray 167))) : wpList Tryz.prog ops Q (o :: rest) a w := by
  obtain ⟨z, h1, h2⟩ := poly_info
  obtain ⟨i0, hi0, hz0, hz1, hz2⟩ := info_parts h1
  have hb : (BV l).cells = (tvs l).toArray := rfl
  refine wpList_buildSlice hgd _ 167 1 _ hop (tvs l).toArray i0 z Tryz.underlying163 hi0 hz0 (by rw [hz1]; omega) (by rw [hz1]; omega) ?_ hk
  have h := Great.fill_whole (s := 128) (by omega) [BV l] ((Array.range (1 * 128)).map (z.cells[· % z.cells.size]!)) (fun v hv => by
    rw [List.mem_singleton.1 hv, hb]; simp [tvs_length, hl]) (by simp)
  rw [hz1]
  simpa [hx, hb] using h
theorem OwnX.form {T : TypeId} {k : Nat} {f : Nat → List Value} {w : World} {base n c : Nat} {A : Option Addr} {xs : List Nat} (h : OwnX T k f w base A n c xs) (hn : 0 < n) : ∃ g, A = some ⟨g, 0, none⟩ := by
  rcases h.1.2 with ⟨_, h0⟩ | ⟨g, cap, cur, hv, _⟩
  · omega
  · injection hv with hA
    exact ⟨g, hA⟩
/-- Blocks of one's own. -/
abbrev OwnP (w : World) (base : Nat) (A : Option Addr) (n c : Nat) (xs : List Nat) : Prop := OwnX 167 128 (fun x => tvs (co x)) w base A n c xs
attribute [local irreducible] padK bksN nB co tvs bitsOf

set_option maxRecDepth 100000 in
set_option maxHeartbeats 4000000 in
theorem rblocks_any (A : Option Addr) (n c : Nat) (l : List UInt8) (w : World) (h : RB w w.heap.size A n l) (hn : n ≤ 1000000) :
    Calls Tryz.prog 114 #[.slice A n c] w fun e w' => ∃ g1 c1, e = .returned (.slice (some ⟨g1, 0, none⟩) ((n + 15) / 16) c1) ∧ OwnP w' w.heap.size (some ⟨g1, 0, none⟩) ((n + 15) / 16) c1 (bks l) ∧ Below w.heap.size w w' := by
  obtain ⟨z, hX⟩ := cells_co
  have HXX := Lib.hid hX
  clear hX
  have HRB := Lib.hid h
  have hlen := h.len
  clear h
  have hbks : bks l = bksN l ((n + 15) / 16) := by unfold bks; rw [hlen]
  rw [hbks]
  go_enter Tryz.func114, Tryz.ntmps114
  go_wp2_with fail
  have HO0 : Hid (OwnP (w.alloc (.cells #[] 167)) w.heap.size (some ⟨w.heap.size, 0, none⟩) 0 0 (bksN l 0)) := Lib.hid (by rw [show bksN l 0 = [] by unfold bksN; rfl]; exact OwnX.lit0 _ _ _ w _ (Nat.le_refl _))
  go_loopw [3, 4] (fun v i wr => ∃ k c1 g1 : Nat, k ≤ (n + 15) / 16 ∧ i = .int .i64 (16 * (k : Int)) ∧ v = .slice (some ⟨g1, 0, none⟩) k c1 ∧ Hid (OwnP wr w.heap.size (some ⟨g1, 0, none⟩) k c1 (bksN l k)) ∧ Hid (Below w.heap.size w wr)) (fun _ i _ => n + 16 - (intOf i).toNat)
  case atStart => exact ⟨0, 0, w.heap.size, by omega, rfl, rfl, HO0, Lib.hid (below_alloc _ _)⟩
  case round =>
    obtain ⟨k, c1, g1, hk, rfl, rfl, ho, hb⟩ := hrel
    clear HO0
    obtain ⟨wo, ewo⟩ : ∃ wo : World, wo = wr := ⟨_, rfl⟩
    subst ewo
    by_cases hlt : 16 * k < n
    · have hlt' : 16 * (k : Int) < (n : Int) := by omega
      go_wp2_with (at_make; refine wpList_mk rfl _ _ rfl wo.heap.size .i64 .i64 _ _ 16 rfl rfl rfl rfl (by omega) (Nat.le_refl _) ?_; intro w1 hown1 hs1 hb1)
      have HP1 : Hid (OwnB w1 wo.heap.size (some ⟨wo.heap.size, 0, none⟩) 16 16 (padK l k 0)) := Lib.hid (by rw [padK_zero]; exact hown1)
      have HB1 : Hid (Below wo.heap.size wo w1) := Lib.hid hb1
      clear hown1 hb1
      go_loopw [6] (fun t ws => ∃ q : Nat, q ≤ 16 ∧ 16 * k + q ≤ n ∧ t = .int .i64 q ∧ Hid (OwnB ws wo.heap.size (some ⟨wo.heap.size, 0, none⟩) 16 16 (padK l k q)) ∧ Hid (Below wo.heap.size wo ws)) (fun t _ => 16 - (intOf t).toNat)
      case atStart => exact ⟨0, by omega, by omega, rfl, HP1, HB1⟩
      case round =>
        obtain ⟨q, hq, hkq, rfl, hp, hbs⟩ := hrel
        clear HP1 HB1
        by_cases h1 : q < 16 ∧ 16 * k + q < n
        · obtain ⟨h1a, h1b⟩ := h1
          have hws := hb.out.trans (hbs.out.mono hb.out.size)
          obtain ⟨b, o, rfl, hbb, x, hx, hc⟩ := (HRB.out.step hws).at_ (k := 16 * k + q) h1b
          have hxd : l.getD (16 * k + q) 0 = x := by rw [List.getD_eq_getElem?_getD, hx]; rfl
          obtain ⟨J, HJ⟩ : ∃ J, Hid (J = 16 * k + q ∧ J < n) := ⟨_, Lib.hid ⟨rfl, h1b⟩⟩
          rw [← HJ.out.1] at hc
          have hw1 : IntKind.i64.wrap (16 * (k : Int) + (q : Int)) = (J : Int) := by rw [IntWalk.i64_in _ (by omega), HJ.out.1]; omega
          have hJn : (J : Int) < (n : Int) := by have := HJ.out.2; omega
          have hc0 := hp.out.cellAt (j := q) (x := 0) (by rw [padK_at l k q q h1a, if_neg (by omega)])
          have hf0 := hp.out.freeAt q
          have HXD := Lib.hid hxd
          clear hx hxd h1b hws
          go_wp2_with fail
          go_roundw
          case rel => exact ⟨q + 1, by omega, by have := HJ.out; omega, by go_num, Lib.hid (by rw [← padK_set l k q h1a, HXD.out]; exact hp.out.stored q x _ rfl), Lib.hid (hbs.out.setCell (p := ⟨wo.heap.size, q, none⟩) (Nat.le_refl _) _)⟩
          case measure => simp [intOf]; omega
        · have HPF : Hid (OwnB wr wo.heap.size (some ⟨wo.heap.size, 0, none⟩) 16 16 (padK l k 16)) := Lib.hid (by
            by_cases h2 : q < 16
            · rw [← padK_full l k q (by omega)]; exact hp.out
            · obtain rfl : q = 16 := by omega
              exact hp.out)
          obtain ⟨y, HY⟩ : ∃ y, Hid (y = nB (padK l k 16)) := ⟨_, Lib.hid rfl⟩
          have HNB : Hid (bitsOf (padK l k 16) = co y) := Lib.hid (by rw [HY.out]; exact nB_bits _ (padK_len _ _ _))
          by_cases h2 : q < 16
          · have hw1 : IntKind.i64.wrap (16 * (k : Int) + (q : Int)) = (n : Int) := by rw [IntWalk.i64_in _ (by omega)]; omega
            clear h1
            go_wp2_with (first | (go_at_call 118; refine (pof_any (some ⟨wo.heap.size, 0, none⟩) 16 (padK l k 16) _ (by exact HPF.out.rb)).mono ?_; rw [HNB.out]; rintro e w5 ⟨rfl, hb5⟩; have HB5 := Lib.hid hb5; clear hb5) | (refine wpList_oneP rfl (.tmp 38) rfl (co y) (co_len y) rfl ?_) | (at_builtin; refine wpList_appX HXX.out rfl (.tmp 36) (.tmp 39) rfl w.heap.size (some ⟨g1, 0, none⟩) k c1 (bksN l k) rfl (by exact OwnX.below (OwnX.below (OwnX.below ho.out hbs.out) HB5.out) (below_alloc _ _)) w5.heap.size 1 1 [y] rfl rfl (by intro j u hu; have hu2 : (tvs (co y))[j]? = some u := (by simpa using hu); have := (Br.new w5 (co y) 167).1 j u hu2; rw [Nat.zero_add] at this; exact this) (by unfold maxLen; omega) (by omega) (by have h1 := hb.out.size; have h2 := hbs.out.size; have h3 := HB5.out.size; rw [World.size_alloc]; omega) ?_; intro A7 c7 w7 ho7 hb7; obtain ⟨g7, rfl⟩ := ho7.form (by omega); have HO7 := Lib.hid ho7; have HB7 := Lib.hid hb7; clear ho7 hb7))
            go_roundw
            case rel => exact ⟨k + 1, c7, g7, by omega, by go_num, rfl, Lib.hid (by rw [bksN_succ, ← HY.out]; exact HO7.out), Lib.hid (hb.out.trans ((hbs.out.trans ((HB5.out.trans ((below_alloc w5 _).mono HB5.out.size)).mono hbs.out.size)).mono hb.out.size |>.trans HB7.out))⟩
            case measure => simp [intOf]; omega
          · obtain rfl : q = 16 := by omega
            clear h1
            go_wp2_with (first | (go_at_call 118; refine (pof_any (some ⟨wo.heap.size, 0, none⟩) 16 (padK l k 16) _ (by exact HPF.out.rb)).mono ?_; rw [HNB.out]; rintro e w5 ⟨rfl, hb5⟩; have HB5 := Lib.hid hb5; clear hb5) | (refine wpList_oneP rfl (.tmp 38) rfl (co y) (co_len y) rfl ?_) | (at_builtin; refine wpList_appX HXX.out rfl (.tmp 36) (.tmp 39) rfl w.heap.size (some ⟨g1, 0, none⟩) k c1 (bksN l k) rfl (by exact OwnX.below (OwnX.below (OwnX.below ho.out hbs.out) HB5.out) (below_alloc _ _)) w5.heap.size 1 1 [y] rfl rfl (by intro j u hu; have hu2 : (tvs (co y))[j]? = some u := (by simpa using hu); have := (Br.new w5 (co y) 167).1 j u hu2; rw [Nat.zero_add] at this; exact this) (by unfold maxLen; omega) (by omega) (by have h1 := hb.out.size; have h2 := hbs.out.size; have h3 := HB5.out.size; rw [World.size_alloc]; omega) ?_; intro A7 c7 w7 ho7 hb7; obtain ⟨g7, rfl⟩ := ho7.form (by omega); have HO7 := Lib.hid ho7; have HB7 := Lib.hid hb7; clear ho7 hb7))
            go_roundw
            case rel => exact ⟨k + 1, c7, g7, by omega, by go_num, rfl, Lib.hid (by rw [bksN_succ, ← HY.out]; exact HO7.out), Lib.hid (hb.out.trans ((hbs.out.trans ((HB5.out.trans ((below_alloc w5 _).mono HB5.out.size)).mono hbs.out.size)).mono hb.out.size |>.trans HB7.out))⟩
            case measure => simp [intOf]; omega
    · have hke : k = (n + 15) / 16 := by omega
      subst hke
      go_wp2_with fail
      go_ret
      exact ⟨g1, c1, rfl, ho.out, hb.out⟩
end Go.Proofs.YthllaoeioddddaaGreat

/- The reference of layer 5 (ghash): the sum of two texts. Conditions: the slices' cells are readable, and not too many. -/
namespace Go.Proofs.YthllaoeioddddaaGreat
open Go.RowKit
set_option linter.unusedVariables false

/-- The blocks of a sum; the sum as a number; its bytes. -/
def sumN (l1 l2 : List UInt8) : List Nat := bks l1 ++ bks l2 ++ bks (longL l1.length ++ longL l2.length)
def sumG (h : Nat) (l1 l2 : List UInt8) : Nat := gFold h 0 (sumN l1 l2)
def bB (x : Nat) : List UInt8 := eB (x / 2 ^ 64) (x % 2 ^ 64)
theorem bB_len (x : Nat) : (bB x).length = 16 := eB_len _ _
theorem bB_bits (x : Nat) (hx : x < 2 ^ 128) : bitsOf (bB x) = co x := by
  unfold bB
  rw [bits_e _ _ (by omega), show x / 2 ^ 64 * 2 ^ 64 + x % 2 ^ 64 = x by omega]
theorem bks_lt (l : List UInt8) (i x : Nat) (h : (bks l)[i]? = some x) : x < 2 ^ 128 := bksN_lt l _ i x h
theorem bks_len (l : List UInt8) : (bks l).length = (l.length + 15) / 16 := bksN_len l _
theorem app_lt (a b : List Nat) (ha : ∀ (i x : Nat), a[i]? = some x → x < 2 ^ 128) (hb : ∀ (i x : Nat), b[i]? = some x → x < 2 ^ 128) (i x : Nat) (h : (a ++ b)[i]? = some x) : x < 2 ^ 128 := by
  rcases List.mem_append.1 (List.mem_of_getElem? h) with h | h
  · obtain ⟨j, hj⟩ := List.getElem?_of_mem h
    exact ha j x hj
  · obtain ⟨j, hj⟩ := List.getElem?_of_mem h
    exact hb j x hj
theorem sumN_lt (l1 l2 : List UInt8) (i x : Nat) (h : (sumN l1 l2)[i]? = some x) : x < 2 ^ 128 := app_lt _ _ (app_lt _ _ (bks_lt l1) (bks_lt l2)) (bks_lt _) i x h
theorem sumG_lt (h : Nat) (hh : h < 2 ^ 128) (l1 l2 : List UInt8) : sumG h l1 l2 < 2 ^ 128 := gFold_lt h hh _ 0 (by omega) (sumN_lt l1 l2)
theorem OwnP.xp {w : World} {base n c : Nat} {A : Option Addr} {xs : List Nat} (h : OwnP w base A n c xs) (hx : ∀ (i x : Nat), xs[i]? = some x → x < 2 ^ 128) : XP w w.heap.size A n xs := by
  refine ⟨h.2, hx, fun hn => ?_⟩
  obtain ⟨g, rfl⟩ := OwnX.form h hn
  have hg : g < w.heap.size := (World.ownsRow.lt h.1 g rfl).2
  refine ⟨g, 0, rfl, hg, fun i x hi => ?_⟩
  obtain ⟨g2, e, _, _, hr⟩ := OwnX.at_ h (fun x => by rw [tvs_length, co_len]) hi
  injection e with e
  injection e with e
  subst e
  rw [Nat.zero_add]
  exact hr
theorem rfold0_any (h : Nat) (A : Option Addr) (n c : Nat) (xs : List Nat) (w : World) (hh : h < 2 ^ 128) (hn : n ≤ maxLen) (hX : XP w w.heap.size A n xs) :
    Calls Tryz.prog 117 #[BV (co h), BV zP, .slice A n c] w (RetT (co (gFold h 0 xs)) w) := by
  rw [zP_co]
  exact rfold_any h 0 A n c xs w hh (by omega) hn hX
attribute [local irreducible] bks longL gFold co tvs bitsOf zP

set_option maxRecDepth 100000 in
set_option maxHeartbeats 4000000 in
theorem rsum_any (A0 A1 A2 : Option Addr) (c0 n1 c1 n2 c2 : Nat) (k l1 l2 : List UInt8) (w : World) (h0 : RB w w.heap.size A0 16 k) (h1 : RB w w.heap.size A1 n1 l1) (h2 : RB w w.heap.size A2 n2 l2) (hn1 : n1 ≤ 100000) (hn2 : n2 ≤ 100000) :
    Calls Tryz.prog 98 #[.slice A0 16 c0, .slice A1 n1 c1, .slice A2 n2 c2] w (RetB 16 (bB (sumG (nB k) l1 l2)) w) := by
  obtain ⟨z, hX⟩ := cells_co
  have HXX := Lib.hid hX
  clear hX
  have H0 := Lib.hid h0
  have H1 := Lib.hid h1
  have H2 := Lib.hid h2
  have e1 := h1.len
  have e2 := h2.len
  have HK := Lib.hid (nB_lt k h0.len)
  have HKB := Lib.hid (nB_bits k h0.len)
  clear h0 h1 h2
  obtain ⟨R, HR⟩ : ∃ R, Hid (R = bB (sumG (nB k) l1 l2)) := ⟨_, Lib.hid rfl⟩
  rw [← HR.out]
  have hRB : Hid (bitsOf R = co (gFold (nB k) 0 (bks l1 ++ bks l2 ++ bks (longL n1 ++ longL n2)))) := Lib.hid (by rw [HR.out, bB_bits _ (sumG_lt _ HK.out l1 l2), ← e1, ← e2]; rfl)
  have hRL : Hid (R.length = 16) := Lib.hid (by rw [HR.out]; exact bB_len _)
  go_enter Tryz.func98, Tryz.ntmps98
  go_wp2_with fail
  refine (rblocks_any A1 n1 c1 l1 _ H1.out (by omega)).mono ?_
  rintro e w1 ⟨g1, d1, rfl, ho1, hb1⟩
  have HO1 := Lib.hid ho1
  have HB1 := Lib.hid hb1
  clear ho1 hb1
  go_wp2_with fail
  refine (rblocks_any A2 n2 c2 l2 _ (H2.out.step HB1.out) (by omega)).mono ?_
  rintro e w2 ⟨g2, d2, rfl, ho2, hb2⟩
  have HO2 := Lib.hid ho2
  have HB2 := Lib.hid hb2
  clear ho2 hb2
  obtain ⟨m1, HM1⟩ : ∃ m1, Hid (m1 = (n1 + 15) / 16 ∧ m1 ≤ 10000 ∧ (bks l1).length = m1) := ⟨_, Lib.hid ⟨rfl, by omega, by rw [bks_len, e1]⟩⟩
  obtain ⟨m2, HM2⟩ : ∃ m2, Hid (m2 = (n2 + 15) / 16 ∧ m2 ≤ 10000 ∧ (bks l2).length = m2) := ⟨_, Lib.hid ⟨rfl, by omega, by rw [bks_len, e2]⟩⟩
  rw [← HM1.out.1] at HO1 ⊢
  rw [← HM2.out.1] at HO2 ⊢
  go_wp2_with (at_builtin; refine wpList_appX HXX.out rfl (.tmp 9) (.tmp 11) rfl w.heap.size (some ⟨g1, 0, none⟩) m1 d1 (bks l1) rfl (by exact OwnX.below HO1.out HB2.out) g2 m2 d2 (bks l2) rfl HM2.out.2.2 (by exact OwnX.cells_ HO2.out) (by have := HM1.out; have := HM2.out; unfold maxLen; omega) (by have := HM1.out; have := HM2.out; omega) (by have := HB1.out.size; have := HB2.out.size; omega) ?_; intro A3 c3 w3 ho3 hb3; have HO3 := Lib.hid ho3; have HB3 := Lib.hid hb3; clear ho3 hb3)
  have HW3 : Hid (Below w.heap.size w w3) := Lib.hid ((HB1.out.trans (HB2.out.mono HB1.out.size)).trans HB3.out)
  have hs3 : w.heap.size ≤ w3.heap.size := HW3.out.size
  clear HO1 HO2 HB1 HB2 HB3
  refine (glong_any n1 _ (by omega)).mono ?_
  rintro e w4 ⟨A4, c4, rfl, ho4, hb4⟩
  have HO4 := Lib.hid ho4
  have HB4 := Lib.hid hb4
  clear ho4 hb4
  go_wp2_with fail
  refine (glong_any n2 _ (by omega)).mono ?_
  rintro e w5 ⟨A5, c5, rfl, ho5, hb5⟩
  have HO5 := Lib.hid ho5
  have HB5 := Lib.hid hb5
  clear ho5 hb5
  have hs4 : w3.heap.size ≤ w4.heap.size := HB4.out.size
  have hs5 : w4.heap.size ≤ w5.heap.size := HB5.out.size
  go_wp2_with (at_builtin; refine wpList_app rfl (.tmp 16) (.tmp 19) rfl w3.heap.size A4 8 c4 (longL n1) rfl (by exact HO4.out.below HB5.out) w5.heap.size A5 8 c5 (longL n2) rfl (by exact HO5.out.rb) (by omega) (by omega) ?_; intro A6 c6 w6 ho6 _ hb6; have HO6 := Lib.hid ho6; have HB6 := Lib.hid hb6; clear ho6 hb6)
  have HB36 : Hid (Below w3.heap.size w3 w6) := Lib.hid ((HB4.out.trans (HB5.out.mono hs4)).trans HB6.out)
  clear HO4 HO5 HB4 HB5 HB6
  refine (rblocks_any A6 16 c6 (longL n1 ++ longL n2) _ (by exact HO6.out.rb) (by omega)).mono ?_
  rintro e w7 ⟨g7, d7, rfl, ho7, hb7⟩
  have HO7 : Hid (OwnP w7 w6.heap.size (some ⟨g7, 0, none⟩) 1 d7 (bks (longL n1 ++ longL n2))) := Lib.hid ho7
  have HB7 := Lib.hid hb7
  have HL7 : Hid ((bks (longL n1 ++ longL n2)).length = 1) := Lib.hid (by have := HO7.out.2; exact this)
  clear ho7 hb7
  have hs6 : w3.heap.size ≤ w6.heap.size := HB36.out.size
  have hs7 : w6.heap.size ≤ w7.heap.size := HB7.out.size
  have HB37 : Hid (Below w3.heap.size w3 w7) := Lib.hid (HB36.out.trans (HB7.out.mono hs6))
  go_wp2_with (at_builtin; refine wpList_appX HXX.out rfl (.tmp 13) (.tmp 21) rfl w.heap.size A3 (m1 + m2) c3 (bks l1 ++ bks l2) rfl (by exact OwnX.below HO3.out HB37.out) g7 1 d7 (bks (longL n1 ++ longL n2)) rfl HL7.out (by exact OwnX.cells_ HO7.out) (by have := HM1.out; have := HM2.out; unfold maxLen; omega) (by have := HM1.out; have := HM2.out; omega) (by omega) ?_; intro A8 c8 w8 ho8 hb8; have HO8 := Lib.hid ho8; have HB8 := Lib.hid hb8; clear ho8 hb8)
  have HW8 : Hid (Below w.heap.size w w8) := Lib.hid ((HW3.out.trans (HB37.out.mono hs3)).trans HB8.out)
  clear HO3 HO6 HO7 HB36 HB37 HB7 HB8 HW3
  refine (pof_any A0 c0 k _ (H0.out.step HW8.out)).mono ?_
  rw [HKB.out]
  rintro e w9 ⟨rfl, hb9⟩
  have HB9 := Lib.hid hb9
  clear hb9
  go_wp2_with (refine wpList_built0 rfl _ rfl zP poly_built ?_)
  refine (rfold0_any (nB k) A8 _ c8 _ _ HK.out (by have := HM1.out; have := HM2.out; unfold maxLen; omega) ((OwnP.xp (OwnX.below HO8.out HB9.out) (app_lt _ _ (app_lt _ _ (bks_lt l1) (bks_lt l2)) (bks_lt _))))).mono ?_
  rw [← hRB.out]
  rintro e w10 ⟨rfl, hb10⟩
  have HB10 := Lib.hid hb10
  clear hb10
  go_wp2_with fail
  refine (pbytes_any R _ hRL.out).mono ?_
  rintro e w11 ⟨A11, c11, rfl, ho11, hb11⟩
  have HO11 := Lib.hid ho11
  have HB11 := Lib.hid hb11
  clear ho11 hb11
  have h8 := HW8.out.size
  have h9 := HB9.out.size
  have h10 := HB10.out.size
  go_wp2_with fail
  go_ret
  exact ⟨A11, c11, rfl, HO11.out.base_le (by omega), HW8.out.trans ((HB9.out.trans ((HB10.out.trans (HB11.out.mono h10)).mono h9)).mono h8)⟩
end Go.Proofs.YthllaoeioddddaaGreat

