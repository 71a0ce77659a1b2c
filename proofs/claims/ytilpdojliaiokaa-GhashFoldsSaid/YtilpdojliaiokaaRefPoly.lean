/- The reference of layer 4 (poly): rows of 128 coefficients as values; sums. No conditions. -/
import Derived.Test.YtilpdojliaiokaaArrT
import Derived.Deep.RegionWith
import Derived.Laws.Tables
namespace Go.Proofs.Ytilpdojliaiokaa
open Go.RowKit
set_option linter.unusedVariables false

theorem up_poly : Try.prog.underlying 43 = some (.array 128 4) := by kernel_rfl
theorem sz_poly : (Try.prog.info? 43).map (·.size) = some 128 := by kernel_rfl
/-- Coefficients that are all 0. -/
def zP : List Bool := List.replicate 128 false
theorem zP_len : zP.length = 128 := List.length_replicate
theorem zero_poly (w : World) : (zeroValue 43).run Try.prog w = .ok (.agg (tvs zP).toArray) w := by
  have h : (Try.prog.info? 43).bind (·.zero) = some (.agg (tvs zP).toArray) := by kernel_rfl
  rcases hi : Try.prog.info? 43 with _ | i
  · rw [hi] at h; simp at h
  · rw [hi] at h
    have hz : i.zero = some (.agg (tvs zP).toArray) := h
    simp [zeroValue, typeInfo, hi, hz]
theorem poly_built : Try.prog.built 43 [] = some (tvs zP).toArray := by kernel_rfl
/-- A call that gives coefficients, and keeps all that was there. -/
def RetT (l : List Bool) (w : World) (e : Ending) (w' : World) : Prop := e = .returned (BV l) ∧ Below w.heap.size w w'
section
variable {w : World} {ops : Array Oper} {rest : List Oper} {o : Oper} {a : Act} {Q : Exit → Act → World → Prop}
theorem wpList_boxT (hgd : o.guard = none) (T : TypeId) (x : Operand) (hop : o.op = .box T x) (l : List Bool) (hx : a.eval x = BV l)
    (h : wpList Try.prog ops Q rest (a.put o.dst (.pointer (some ⟨w.heap.size, 0, none⟩))) (w.alloc (.cells (tvs l).toArray T))) : wpList Try.prog ops Q (o :: rest) a w := by
  refine wpList_plain hgd fun K hK => ?_
  have hr : (Instr.box T (BV l)).run Try.prog w = .ok (.pointer (some ⟨w.heap.size, 0, none⟩)) (w.alloc (.cells (tvs l).toArray T)) := rfl
  unfold Oper.wp execOp
  simp only [hop, hx, Sem.run_bind, hr, Result.andThen_ok]
  exact hK _ _ h
theorem wpList_ldT (hgd : o.guard = none) (T : TypeId) (x : Operand) (hop : o.op = .load T x) (g d n : Nat) (e : TypeId) (hx : a.eval x = .pointer (some ⟨g, d, none⟩)) (l : List Bool) (hc : Br w g d l)
    (hu : Try.prog.underlying T = some (.array n e)) (hi : (Try.prog.info? T).map (·.size) = some l.length)
    (h : wpList Try.prog ops Q rest (a.put o.dst (BV l)) w) : wpList Try.prog ops Q (o :: rest) a w :=
  wpList_load_mid hgd T x hop g d hx (tvs l) _ hc.1 hu rfl (by rw [tvs_length]; exact hi) h
theorem wpList_stT (hgd : o.guard = none) (T : TypeId) (x y : Operand) (hop : o.op = .store T x y) (g d : Nat) (hx : a.eval x = .pointer (some ⟨g, d, none⟩)) (l l0 : List Bool) (hy : a.eval y = BV l) (hc : Br w g d l0)
    (hl : l0.length = l.length) (hi : (Try.prog.info? T).map (·.size) = some l.length)
    (h : wpList Try.prog ops Q rest (a.put o.dst undef) (w.setCells g d (tvs l))) : wpList Try.prog ops Q (o :: rest) a w :=
  wpList_store_mid hgd T x y hop g d (tvs l).toArray hx hy (by have := hc.2; rw [tvs_length, hl, ← tvs_length] at this; simpa using this) (by simpa [tvs_length] using hi) (all_tvs l) (by simpa using h)
/-- An array of noughts, built in place. -/
theorem wpList_built0 (hgd : o.guard = none) (T : TypeId) (hop : o.op = .build T #[]) (l : List Bool) (hb : Try.prog.built T [] = some (tvs l).toArray)
    (h : wpList Try.prog ops Q rest (a.put o.dst (BV l)) w) : wpList Try.prog ops Q (o :: rest) a w := by
  refine wpList_plain hgd fun K hK => ?_
  unfold Oper.wp execOp
  simp only [hop, List.map_toArray, List.map_nil, Sem.run_bind, run_build w T #[] _ hb, Result.andThen_ok]
  exact hK _ _ h
end
/-- A result that lies in a variable of bools. -/
theorem res_cellT {fn : Func} {p : Tmp} {ty : TypeId} (h : fn.results = #[.cell p ty]) (tmps : Array Value) (w : World) (b n : Nat) (e : TypeId) (l : List Bool) (ht : tmps.getD p undef = .pointer (some ⟨b, 0, none⟩)) (hc : Br w b 0 l)
    (hu : Try.prog.underlying ty = some (.array n e)) (hi : (Try.prog.info? ty).map (·.size) = some l.length) : (results fn tmps).run Try.prog w = .ok (BV l) w := by
  have hl := run_loadVar_mid (P := Try.prog) w b 0 ty (tvs l) (.array n e) hc.1 hu rfl (by rw [tvs_length]; exact hi)
  rw [Array.getD_eq_getD_getElem?] at ht
  simp only [results, h]
  simp [ht, asAddr, hl, BV]
/-- The first k of r, the others of l. -/
def upT (r l : List Bool) (k : Nat) : List Bool := r.take k ++ l.drop k
theorem upT_len (r l : List Bool) (k : Nat) (h : r.length = l.length) : (upT r l k).length = l.length := by simp [upT, h]; omega
theorem upT_zero (r l : List Bool) : upT r l 0 = l := by simp [upT]
theorem upT_all (r l : List Bool) (h : r.length = l.length) : upT r l l.length = r := by simp [upT, ← h]
theorem upT_at (r l : List Bool) (k j : Nat) (h : r.length = l.length) (hk : k ≤ l.length) : (upT r l k)[j]? = if j < k then r[j]? else l[j]? := by
  unfold upT
  by_cases hj : j < k
  · rw [List.getElem?_append_left (by rw [List.length_take]; omega), List.getElem?_take, if_pos hj, if_pos hj]
  · rw [List.getElem?_append_right (by rw [List.length_take]; omega), List.length_take, if_neg hj, List.getElem?_drop]
    congr 1; omega
theorem upT_set (r l : List Bool) (k : Nat) (x : Bool) (h : r.length = l.length) (hx : r[k]? = some x) : (upT r l k).set k x = upT r l (k + 1) := by
  have hk := (List.getElem?_eq_some_iff.1 hx).1
  apply List.ext_getElem?
  intro j
  rw [List.getElem?_set, upT_len r l k h, upT_at r l k j h (by omega), upT_at r l (k + 1) j h (by omega)]
  by_cases e : k = j
  · subst e; rw [if_pos rfl, if_pos (by omega), if_pos (by omega), hx]
  · rw [if_neg e]
    by_cases h2 : j < k
    · rw [if_pos h2, if_pos (by omega)]
    · rw [if_neg h2, if_neg (by omega)]
theorem getT (l : List Bool) (n k : Nat) (hl : l.length = n) (hk : k < n) : ∃ x, l[k]? = some x := ⟨l[k]'(by omega), List.getElem?_eq_getElem (by omega)⟩
theorem Br.new1 (w : World) (n : Nat) (hn : n = w.heap.size) (l : List Bool) (T : TypeId) : Br (w.alloc (.cells (tvs l).toArray T)) n 0 l := by rw [hn]; exact Br.new w l T
def V3 (l m z : List Bool) (T : TypeId) (w : World) : World := ((w.alloc (.cells (tvs l).toArray T)).alloc (.cells (tvs m).toArray T)).alloc (.cells (tvs z).toArray T)
theorem v3_below (l m z : List Bool) (T : TypeId) (w : World) : Below w.heap.size w (V3 l m z T w) := ((below_alloc w _).alloc (by simp) _).alloc (by simp; omega) _
theorem v3_0 (l m z : List Bool) (T : TypeId) (w : World) : Br (V3 l m z T w) w.heap.size 0 l := ((Br.new w l T).alloc (by simp) _).alloc (by simp; omega) _
theorem v3_1 (l m z : List Bool) (T : TypeId) (w : World) : Br (V3 l m z T w) (w.heap.size + 1) 0 m := (Br.new1 _ _ (by simp) m T).alloc (by simp) _
theorem v3_2 (l m z : List Bool) (T : TypeId) (w : World) : Br (V3 l m z T w) (w.heap.size + 1 + 1) 0 z := Br.new1 _ _ (by simp) z T
def V2 (l z : List Bool) (T : TypeId) (w : World) : World := (w.alloc (.cells (tvs l).toArray T)).alloc (.cells (tvs z).toArray T)
theorem v2_below (l z : List Bool) (T : TypeId) (w : World) : Below w.heap.size w (V2 l z T w) := (below_alloc w _).alloc (by simp) _
theorem v2_0 (l z : List Bool) (T : TypeId) (w : World) : Br (V2 l z T w) w.heap.size 0 l := (Br.new w l T).alloc (by simp) _
theorem v2_1 (l z : List Bool) (T : TypeId) (w : World) : Br (V2 l z T w) (w.heap.size + 1) 0 z := Br.new1 _ _ (by simp) z T
/-- Sums. -/
def addT (a b : List Bool) : List Bool := List.zipWith (· != ·) a b

set_option maxRecDepth 100000 in
set_option maxHeartbeats 2000000 in
theorem padd_any (l m : List Bool) (w : World) (hl : l.length = 128) (hm : m.length = 128) :
    Calls Try.prog 35 #[BV l, BV m] w (RetT (addT l m) w) := by
  have HL := Lib.hid hl
  have HM := Lib.hid hm
  obtain ⟨R, HR⟩ : ∃ R, Hid (R = addT l m) := ⟨_, Lib.hid rfl⟩
  rw [← HR.out]
  have HR8 : Hid (R.length = l.length) := Lib.hid (by rw [HR.out]; simp [addT, hl, hm])
  have hz := zero_poly
  have HA := Lib.hid (v3_0 l m zP 43 w)
  have HB := Lib.hid (v3_1 l m zP 43 w)
  have HC := Lib.hid (v3_2 l m zP 43 w)
  have HW := Lib.hid (v3_below l m zP 43 w)
  obtain ⟨G, HG⟩ : ∃ G, Hid (G = w.heap.size) := ⟨_, Lib.hid rfl⟩
  obtain ⟨W0, HW0⟩ : ∃ W0, Hid (W0 = V3 l m zP 43 w) := ⟨_, Lib.hid rfl⟩
  clear hl hm
  go_enter Try.func35, Try.ntmps35
  go_wp2_with (first | (refine wpList_boxT rfl _ (.tmp 0) rfl l rfl ?_) | (refine wpList_boxT rfl _ (.tmp 1) rfl m rfl ?_))
  show Code.wp _ _ _ _ (V3 l m zP 43 w)
  rw [← HW0.out] at HA HB HC HW ⊢
  rw [← HG.out] at HA HB HC ⊢
  go_loopw [5] (fun i wr => ∃ k : Nat, k ≤ 128 ∧ i = .int .i64 k ∧ Hid (Br wr G 0 (upT R l k)) ∧ Hid (Br wr (G + 1) 0 m) ∧ Hid (Br wr (G + 1 + 1) 0 zP) ∧ Hid (Below w.heap.size w wr)) (fun i _ => 128 - (intOf i).toNat)
  case atStart => exact ⟨0, by omega, rfl, Lib.hid (by rw [upT_zero]; exact HA.out), HB, HC, HW⟩
  case round =>
    obtain ⟨k, hk, rfl, ha, hb, hc, hbl⟩ := hrel
    clear HA HB HC HW
    by_cases hlt : k < 128
    · obtain ⟨x, hx⟩ := getT l 128 k HL.out hlt
      obtain ⟨y, hy⟩ := getT m 128 k HM.out hlt
      have hxy : R[k]? = some (x != y) := by rw [HR.out]; unfold addT; rw [List.getElem?_zipWith, hx, hy]
      have cx := ha.out.cell (j := k) (by rw [upT_at R l k k HR8.out (by rw [HL.out]; omega), if_neg (by omega)]; exact hx)
      have fx := ha.out.free (j := k) (by rw [upT_len R l k HR8.out, HL.out]; exact hlt)
      have cy := hb.out.cell hy
      rw [Nat.zero_add] at cx fx cy
      unfold tv at cx cy
      obtain ⟨z, HZ⟩ : ∃ z, Hid (z = (x != y)) := ⟨_, Lib.hid rfl⟩
      have HXY := Lib.hid hxy
      clear hx hy hxy
      go_wp2_with fail
      go_region_with (fail)
      all_goals
        go_wp2
        go_roundw
        case rel =>
          have h1 := ha.out.drew.set (k := k) (by rw [upT_len R l k HR8.out, HL.out]; exact hlt) (x != y)
          rw [upT_set R l k _ HR8.out HXY.out, Nat.zero_add] at h1
          exact ⟨k + 1, by omega, by go_num, Lib.hid h1, Lib.hid (hb.out.drew.setCell (by show G ≠ G + 1; omega) _), Lib.hid (hc.out.drew.setCell (by show G ≠ G + 1 + 1; omega) _), Lib.hid (hbl.out.drew.setCell (by rw [HG.out]; exact Nat.le_refl _) _)⟩
        case measure => simp [intOf]; omega
    · obtain rfl : k = 128 := by omega
      have hal := ha.out
      have h128 := upT_all R l HR8.out
      rw [HL.out] at h128
      rw [h128] at hal
      have HAL := Lib.hid hal
      have HRL : Hid (R.length = 128) := Lib.hid (by rw [HR8.out]; exact HL.out)
      clear hal h128
      go_wp2_with (first | (refine wpList_ldT rfl _ (.tmp 2) rfl G 0 128 _ rfl R (by exact HAL.out) up_poly (by rw [HRL.out]; exact sz_poly) ?_) | (refine wpList_stT rfl _ (.tmp 4) (.tmp 19) rfl (G + 1 + 1) 0 rfl R zP rfl (by exact hc.out) (by rw [HRL.out]; exact zP_len) (by rw [HRL.out]; exact sz_poly) ?_))
      refine bodyPost_ret (v := BV R) (res_cellT rfl _ _ (G + 1 + 1) 128 _ R rfl (hc.out.whole R (by rw [HRL.out]; exact zP_len.symm)) up_poly (by rw [HRL.out]; exact sz_poly)) rfl ⟨rfl, ?_⟩
      exact below_setCells hbl.out (by rw [HG.out]; omega) 0 (tvs R)
end Go.Proofs.Ytilpdojliaiokaa
