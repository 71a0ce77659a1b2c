/- The reference of layer 4 (poly): rows of 128 coefficients as values; sums. No conditions. -/
import Derived.Test.YtmpidjadpcpbfaaGreatArrT
import Derived.Deep.RegionWith
import Derived.Laws.Tables
namespace Go.Proofs.YtmpidjadpcpbfaaGreat
open Go.RowKit
set_option linter.unusedVariables false

theorem up_poly : Tryz.prog.underlying 102 = some (.array 128 4) := by kernel_rfl
theorem sz_poly : (Tryz.prog.info? 102).map (·.size) = some 128 := by kernel_rfl
/-- Coefficients that are all 0. -/
def zP : List Bool := List.replicate 128 false
theorem zP_len : zP.length = 128 := List.length_replicate
theorem zero_poly (w : World) : (zeroValue 102).run Tryz.prog w = .ok (.agg (tvs zP).toArray) w := by
  have h : (Tryz.prog.info? 102).bind (·.zero) = some (.agg (tvs zP).toArray) := by kernel_rfl
  rcases hi : Tryz.prog.info? 102 with _ | i
  · rw [hi] at h; simp at h
  · rw [hi] at h
    have hz : i.zero = some (.agg (tvs zP).toArray) := h
    simp [zeroValue, typeInfo, hi, hz]
theorem poly_built : Tryz.prog.built 102 [] = some (tvs zP).toArray := by kernel_rfl
/-- A call that gives coefficients, and keeps all that was there. -/
def RetT (l : List Bool) (w : World) (e : Ending) (w' : World) : Prop := e = .returned (BV l) ∧ Below w.heap.size w w'
section
variable {w : World} {ops : Array Oper} {rest : List Oper} {o : Oper} {a : Act} {Q : Exit → Act → World → Prop}
theorem wpList_boxT (hgd : o.guard = none) (T : TypeId) (x : Operand) (hop : o.op = .box T x) (l : List Bool) (hx : a.eval x = BV l)
    (h : wpList Tryz.prog ops Q rest (a.put o.dst (.pointer (some ⟨w.heap.size, 0, none⟩))) (w.alloc (.cells (tvs l).toArray T))) : wpList Tryz.prog ops Q (o :: rest) a w := by
  refine wpList_plain hgd fun K hK => ?_
  have hr : (Instr.box T (BV l)).run Tryz.prog w = .ok (.pointer (some ⟨w.heap.size, 0, none⟩)) (w.alloc (.cells (tvs l).toArray T)) := rfl
  unfold Oper.wp execOp
  simp only [hop, hx, Sem.run_bind, hr, Result.andThen_ok]
  exact hK _ _ h
theorem wpList_ldT (hgd : o.guard = none) (T : TypeId) (x : Operand) (hop : o.op = .load T x) (g d n : Nat) (e : TypeId) (hx : a.eval x = .pointer (some ⟨g, d, none⟩)) (l : List Bool) (hc : Br w g d l)
    (hu : Tryz.prog.underlying T = some (.array n e)) (hi : (Tryz.prog.info? T).map (·.size) = some l.length)
    (h : wpList Tryz.prog ops Q rest (a.put o.dst (BV l)) w) : wpList Tryz.prog ops Q (o :: rest) a w :=
  wpList_load_mid hgd T x hop g d hx (tvs l) _ hc.1 hu rfl (by rw [tvs_length]; exact hi) h
theorem wpList_stT (hgd : o.guard = none) (T : TypeId) (x y : Operand) (hop : o.op = .store T x y) (g d : Nat) (hx : a.eval x = .pointer (some ⟨g, d, none⟩)) (l l0 : List Bool) (hy : a.eval y = BV l) (hc : Br w g d l0)
    (hl : l0.length = l.length) (hi : (Tryz.prog.info? T).map (·.size) = some l.length)
    (h : wpList Tryz.prog ops Q rest (a.put o.dst undef) (w.setCells g d (tvs l))) : wpList Tryz.prog ops Q (o :: rest) a w :=
  wpList_store_mid hgd T x y hop g d (tvs l).toArray hx hy (by have := hc.2; rw [tvs_length, hl, ← tvs_length] at this; simpa using this) (by simpa [tvs_length] using hi) (all_tvs l) (by simpa using h)
/-- An array of noughts, built in place. -/
theorem wpList_built0 (hgd : o.guard = none) (T : TypeId) (hop : o.op = .build T #[]) (l : List Bool) (hb : Tryz.prog.built T [] = some (tvs l).toArray)
    (h : wpList Tryz.prog ops Q rest (a.put o.dst (BV l)) w) : wpList Tryz.prog ops Q (o :: rest) a w := by
  refine wpList_plain hgd fun K hK => ?_
  unfold Oper.wp execOp
  simp only [hop, List.map_toArray, List.map_nil, Sem.run_bind, run_build w T #[] _ hb, Result.andThen_ok]
  exact hK _ _ h
end
/-- A result that lies in a variable of bools. -/
theorem res_cellT {fn : Func} {p : Tmp} {ty : TypeId} (h : fn.results = #[.cell p ty]) (tmps : Array Value) (w : World) (b n : Nat) (e : TypeId) (l : List Bool) (ht : tmps.getD p undef = .pointer (some ⟨b, 0, none⟩)) (hc : Br w b 0 l)
    (hu : Tryz.prog.underlying ty = some (.array n e)) (hi : (Tryz.prog.info? ty).map (·.size) = some l.length) : (results fn tmps).run Tryz.prog w = .ok (BV l) w := by
  have hl := run_loadVar_mid (P := Tryz.prog) w b 0 ty (tvs l) (.array n e) hc.1 hu rfl (by rw [tvs_length]; exact hi)
  rw [Array.getD_eq_getD_getElem?] at ht
  simp only [results, h]
  simp [ht, asAddr, hl, BV]
/-- The first k of r, the others of l. -/
def upT (r l : List Bool) (k : Nat) : List Bool := r.take k ++ l.drop k
theorem upT_len (r l : List Bool) (k : Nat) (h : r.length = l.length) : (upT r l k).length = l.length := by simp [upT, h]; omega
theorem upT_zero (r l : List Bool) : upT r l 0 = l := by simp [upT]
theorem upT_all (r l : List Bool) (h : r.length = l.length) : upT r l l.length = r := by simp [upT, ← h]
theorem upT_at (r l : List Bool) (k j : Nat) (h : r.length = l.length) (hk : k ≤ l.length) : (upT r l k)[j]? = if j < k then r[j]? else l[j]? := by
  unfold upT
  by_cases hj : j < k
  · rw [List.getElem?_append_left (by rw [List.length_take]; omega), List.getElem?_take, if_pos hj, if_pos hj]
  · rw [List.getElem?_append_right (by rw [List.length_take]; omega), List.length_take, if_neg hj, List.getElem?_drop]
    congr 1; omega
theorem upT_set (r l : List Bool) (k : Nat) (x : Bool) (h : r.length = l.length) (hx : r[k]? = some x) : (upT r l k).set k x = upT r l (k + 1) := by
  have hk := (List.getElem?_eq_some_iff.1 hx).1
  apply List.ext_getElem?
  intro j
  rw [List.getElem?_set, upT_len r l k h, upT_at r l k j h (by omega), upT_at r l (k + 1) j h (by omega)]
  by_cases e : k = j
  · subst e; rw [if_pos rfl, if_pos (by omega), if_pos (by omega), hx]
  · rw [if_neg e]
    by_cases h2 : j < k
    · rw [if_pos h2, if_pos (by omega)]
    · rw [if_neg h2, if_neg (by omega)]
theorem getT (l : List Bool) (n k : Nat) (hl : l.length = n) (hk : k < n) : ∃ x, l[k]? = some x := ⟨l[k]'(by omega), List.getElem?_eq_getElem (by omega)⟩
theorem Br.new1 (w : World) (n : Nat) (hn : n = w.heap.size) (l : List Bool) (T : TypeId) : Br (w.alloc (.cells (tvs l).toArray T)) n 0 l := by rw [hn]; exact Br.new w l T
def V3 (l m z : List Bool) (T : TypeId) (w : World) : World := ((w.alloc (.cells (tvs l).toArray T)).alloc (.cells (tvs m).toArray T)).alloc (.cells (tvs z).toArray T)
theorem v3_below (l m z : List Bool) (T : TypeId) (w : World) : Below w.heap.size w (V3 l m z T w) := ((below_alloc w _).alloc (by simp) _).alloc (by simp; omega) _
theorem v3_0 (l m z : List Bool) (T : TypeId) (w : World) : Br (V3 l m z T w) w.heap.size 0 l := ((Br.new w l T).alloc (by simp) _).alloc (by simp; omega) _
theorem v3_1 (l m z : List Bool) (T : TypeId) (w : World) : Br (V3 l m z T w) (w.heap.size + 1) 0 m := (Br.new1 _ _ (by simp) m T).alloc (by simp) _
theorem v3_2 (l m z : List Bool) (T : TypeId) (w : World) : Br (V3 l m z T w) (w.heap.size + 1 + 1) 0 z := Br.new1 _ _ (by simp) z T
def V2 (l z : List Bool) (T : TypeId) (w : World) : World := (w.alloc (.cells (tvs l).toArray T)).alloc (.cells (tvs z).toArray T)
theorem v2_below (l z : List Bool) (T : TypeId) (w : World) : Below w.heap.size w (V2 l z T w) := (below_alloc w _).alloc (by simp) _
theorem v2_0 (l z : List Bool) (T : TypeId) (w : World) : Br (V2 l z T w) w.heap.size 0 l := (Br.new w l T).alloc (by simp) _
theorem v2_1 (l z : List Bool) (T : TypeId) (w : World) : Br (V2 l z T w) (w.heap.size + 1) 0 z := Br.new1 _ _ (by simp) z T
/-- Sums. -/
def addT (a b : List Bool) : List Bool := List.zipWith (· != ·) a b

set_option maxRecDepth 100000 in
set_option maxHeartbeats 2000000 in
theorem padd_any (l m : List Bool) (w : World) (hl : l.length = 128) (hm : m.length = 128) :
    Calls Tryz.prog 85 #[BV l, BV m] w (RetT (addT l m) w) := by
  have HL := Lib.hid hl
  have HM := Lib.hid hm
  obtain ⟨R, HR⟩ : ∃ R, Hid (R = addT l m) := ⟨_, Lib.hid rfl⟩
  rw [← HR.out]
  have HR8 : Hid (R.length = l.length) := Lib.hid (by rw [HR.out]; simp [addT, hl, hm])
  have hz := zero_poly
  have HA := Lib.hid (v3_0 l m zP 102 w)
  have HB := Lib.hid (v3_1 l m zP 102 w)
  have HC := Lib.hid (v3_2 l m zP 102 w)
  have HW := Lib.hid (v3_below l m zP 102 w)
  obtain ⟨G, HG⟩ : ∃ G, Hid (G = w.heap.size) := ⟨_, Lib.hid rfl⟩
  obtain ⟨W0, HW0⟩ : ∃ W0, Hid (W0 = V3 l m zP 102 w) := ⟨_, Lib.hid rfl⟩
  clear hl hm
  go_enter Tryz.func85, Tryz.ntmps85
  go_wp2_with (first | (refine wpList_boxT rfl _ (.tmp 0) rfl l rfl ?_) | (refine wpList_boxT rfl _ (.tmp 1) rfl m rfl ?_))
  show Code.wp _ _ _ _ (V3 l m zP 102 w)
  rw [← HW0.out] at HA HB HC HW ⊢
  rw [← HG.out] at HA HB HC ⊢
  go_loopw [5] (fun i wr => ∃ k : Nat, k ≤ 128 ∧ i = .int .i64 k ∧ Hid (Br wr G 0 (upT R l k)) ∧ Hid (Br wr (G + 1) 0 m) ∧ Hid (Br wr (G + 1 + 1) 0 zP) ∧ Hid (Below w.heap.size w wr)) (fun i _ => 128 - (intOf i).toNat)
  case atStart => exact ⟨0, by omega, rfl, Lib.hid (by rw [upT_zero]; exact HA.out), HB, HC, HW⟩
  case round =>
    obtain ⟨k, hk, rfl, ha, hb, hc, hbl⟩ := hrel
    clear HA HB HC HW
    by_cases hlt : k < 128
    · obtain ⟨x, hx⟩ := getT l 128 k HL.out hlt
      obtain ⟨y, hy⟩ := getT m 128 k HM.out hlt
      have hxy : R[k]? = some (x != y) := by rw [HR.out]; unfold addT; rw [List.getElem?_zipWith, hx, hy]
      have cx := ha.out.cell (j := k) (by rw [upT_at R l k k HR8.out (by rw [HL.out]; omega), if_neg (by omega)]; exact hx)
      have fx := ha.out.free (j := k) (by rw [upT_len R l k HR8.out, HL.out]; exact hlt)
      have cy := hb.out.cell hy
      rw [Nat.zero_add] at cx fx cy
      unfold tv at cx cy
      obtain ⟨z, HZ⟩ : ∃ z, Hid (z = (x != y)) := ⟨_, Lib.hid rfl⟩
      have HXY := Lib.hid hxy
      clear hx hy hxy
      go_wp2_with fail
      go_region_with (fail)
      all_goals
        go_wp2
        go_roundw
        case rel =>
          have h1 := ha.out.drew.set (k := k) (by rw [upT_len R l k HR8.out, HL.out]; exact hlt) (x != y)
          rw [upT_set R l k _ HR8.out HXY.out, Nat.zero_add] at h1
          exact ⟨k + 1, by omega, by go_num, Lib.hid h1, Lib.hid (hb.out.drew.setCell (by show G ≠ G + 1; omega) _), Lib.hid (hc.out.drew.setCell (by show G ≠ G + 1 + 1; omega) _), Lib.hid (hbl.out.drew.setCell (by rw [HG.out]; exact Nat.le_refl _) _)⟩
        case measure => simp [intOf]; omega
    · obtain rfl : k = 128 := by omega
      have hal := ha.out
      have h128 := upT_all R l HR8.out
      rw [HL.out] at h128
      rw [h128] at hal
      have HAL := Lib.hid hal
      have HRL : Hid (R.length = 128) := Lib.hid (by rw [HR8.out]; exact HL.out)
      clear hal h128
      go_wp2_with (first | (refine wpList_ldT rfl _ (.tmp 2) rfl G 0 128 _ rfl R (by exact HAL.out) up_poly (by rw [HRL.out]; exact sz_poly) ?_) | (refine wpList_stT rfl _ (.tmp 4) (.tmp 19) rfl (G + 1 + 1) 0 rfl R zP rfl (by exact hc.out) (by rw [HRL.out]; exact zP_len) (by rw [HRL.out]; exact sz_poly) ?_))
      refine bodyPost_ret (v := BV R) (res_cellT rfl _ _ (G + 1 + 1) 128 _ R rfl (hc.out.whole R (by rw [HRL.out]; exact zP_len.symm)) up_poly (by rw [HRL.out]; exact sz_poly)) rfl ⟨rfl, ?_⟩
      exact below_setCells hbl.out (by rw [HG.out]; omega) 0 (tvs R)
end Go.Proofs.YtmpidjadpcpbfaaGreat

/- The reference of layer 4 (poly): coefficients of bytes. Condition: the bytes' cells are readable. -/
namespace Go.Proofs.YtmpidjadpcpbfaaGreat
open Go.RowKit
set_option linter.unusedVariables false

/-- Coefficient i of bytes. -/
def bitOf (l : List UInt8) (i : Nat) : Bool := decide ((l.getD (i / 8) 0).toNat / 2 ^ (7 - i % 8) % 2 = 1)
def bitsOf (l : List UInt8) : List Bool := (List.range 128).map (bitOf l)
theorem bitsOf_len (l : List UInt8) : (bitsOf l).length = 128 := by simp [bitsOf]
theorem bitsOf_at (l : List UInt8) (i : Nat) (hi : i < 128) : (bitsOf l)[i]? = some (bitOf l i) := by simp [bitsOf, hi]

theorem bit_walk (n s : Nat) : (((n : Int) / 2 ^ s).tmod 2 == 1) = decide (n / 2 ^ s % 2 = 1) := by
  have e : ((n : Int) / 2 ^ s) = ((n / 2 ^ s : Nat) : Int) := by simp
  rw [e]
  generalize n / 2 ^ s = m
  rw [Int.tmod_eq_emod_of_nonneg (by omega)]
  by_cases h : m % 2 = 1
  · rw [decide_eq_true h, beq_iff_eq]; omega
  · rw [decide_eq_false h, beq_eq_false_iff_ne]; omega
set_option maxRecDepth 100000 in
set_option maxHeartbeats 2000000 in
theorem pof_any (A : Option Addr) (c0 : Nat) (l : List UInt8) (w : World) (h : RB w w.heap.size A 16 l) :
    Calls Tryz.prog 55 #[.slice A 16 c0] w (RetT (bitsOf l) w) := by
  have hl := h.len
  obtain ⟨ga, oa, rfl, hga, hcell⟩ := h.2 (by omega)
  have HL := Lib.hid hl
  have HCELL := Lib.hid hcell
  obtain ⟨R, HR⟩ : ∃ R, Hid (R = bitsOf l) := ⟨_, Lib.hid rfl⟩
  rw [← HR.out]
  have HRL : Hid (R.length = zP.length) := Lib.hid (by rw [HR.out, bitsOf_len, zP_len])
  have hz := zero_poly
  have HA := Lib.hid (v2_0 zP zP 102 w)
  have HB := Lib.hid (v2_1 zP zP 102 w)
  have HW := Lib.hid (v2_below zP zP 102 w)
  obtain ⟨G, HG⟩ : ∃ G, Hid (G = w.heap.size) := ⟨_, Lib.hid rfl⟩
  have HN : Hid (Br ((w.alloc (.cells (tvs zP).toArray 102)).alloc (.cells (tvs zP).toArray 102)) (w.heap.size + 1) 0 zP) := Lib.hid (v2_1 zP zP _ w)
  clear hl hcell h
  go_enter Tryz.func55, Tryz.ntmps55
  go_wp2_with (first | (refine wpList_built0 rfl _ rfl zP poly_built ?_) | (refine wpList_stT rfl _ (.tmp 3) (.tmp 5) rfl (w.heap.size + 1) 0 rfl zP zP rfl (by exact HN.out) rfl (by rw [zP_len]; exact sz_poly) ?_))
  obtain ⟨W0, HW0⟩ : ∃ W0, Hid (W0 = (V2 zP zP 102 w).setCells (w.heap.size + 1) 0 (tvs zP)) := ⟨_, Lib.hid rfl⟩
  show Code.wp _ _ _ _ ((V2 zP zP 102 w).setCells (w.heap.size + 1) 0 (tvs zP))
  have HB0 : Hid (Below w.heap.size w W0) := Lib.hid (by rw [HW0.out]; exact below_setCells HW.out (by omega) _ _)
  have HA0 : Hid (Br W0 G 0 zP) := Lib.hid (by rw [HW0.out, HG.out]; exact HA.out.setCells (by omega) _ _)
  have HC0 : Hid (Br W0 (G + 1) 0 (upT R zP 0)) := Lib.hid (by rw [HW0.out, HG.out, upT_zero]; exact HB.out.whole zP rfl)
  rw [← HW0.out, ← HG.out]
  clear HA HB HW HN
  go_loopw [4] (fun i wr => ∃ k : Nat, k ≤ 128 ∧ i = .int .i64 k ∧ Hid (Br wr G 0 zP) ∧ Hid (Br wr (G + 1) 0 (upT R zP k)) ∧ Hid (Below w.heap.size w wr)) (fun i _ => 128 - (intOf i).toNat)
  case atStart => exact ⟨0, by omega, rfl, HA0, HC0, HB0⟩
  case round =>
    obtain ⟨k, hk, rfl, ha, hm, hb⟩ := hrel
    clear HA0 HC0 HB0
    by_cases hlt : k < 128
    · obtain ⟨q, HQ, hq⟩ : ∃ q : Nat, Hid (q = k / 8) ∧ q < 16 := ⟨_, Lib.hid rfl, by omega⟩
      obtain ⟨r, HRR, hr⟩ : ∃ r : Nat, Hid (r = k % 8) ∧ r < 8 := ⟨_, Lib.hid rfl, by omega⟩
      have t1 : Int.tdiv (k : Int) 8 = (q : Int) := by rw [Int.tdiv_eq_ediv_of_nonneg (by omega), HQ.out]; omega
      have t2 : Int.tmod (k : Int) 8 = (r : Int) := by rw [Int.tmod_eq_emod_of_nonneg (by omega), HRR.out]; omega
      have hql : q < l.length := by rw [HL.out]; exact hq
      obtain ⟨x, hx⟩ : ∃ x, l[q]? = some x := ⟨l[q], List.getElem?_eq_getElem hql⟩
      have cx : wr.cell? ⟨ga, oa + q, none⟩ = some (.int .u8 (x.toNat : Int)) := (hb.out.cell (p := ⟨ga, oa + q, none⟩) hga).trans (by
        have h1 := HCELL.out q hql
        have h2 := hx
        rw [List.getElem?_eq_getElem hql] at h2
        injection h2 with h2
        rw [h2] at h1
        exact h1)
      obtain ⟨y, hy⟩ := getT (upT R zP k) 128 k (by rw [upT_len R zP k HRL.out, zP_len]) hlt
      have cm := hm.out.cell hy
      have fm := hm.out.free (j := k) (by rw [upT_len R zP k HRL.out, zP_len]; exact hlt)
      rw [Nat.zero_add] at cm fm
      unfold tv at cm
      have hxl := x.toNat_lt
      have b1 : IntKind.i64.wrap (7 - (r : Int)) = 7 - (r : Int) := IntWalk.i64_in _ (by omega)
      obtain ⟨v, HV⟩ : ∃ v, Hid (v = bitOf l k) := ⟨_, Lib.hid rfl⟩
      have hv : (((x.toNat : Int) / 2 ^ (7 - r)).tmod 2 == 1) = v := by
        rw [bit_walk, HV.out]
        unfold bitOf
        rw [← HQ.out, ← HRR.out]
        simp [List.getD, hx]
      have HRK : Hid (R[k]? = some v) := Lib.hid (by rw [HR.out, bitsOf_at l k hlt, HV.out])
      clear hx hy
      go_wp2_with fail
      go_roundw
      case rel =>
        have h1 := hm.out.set (k := k) (by rw [upT_len R zP k HRL.out, zP_len]; exact hlt) v
        rw [upT_set R zP k _ HRL.out HRK.out, Nat.zero_add] at h1
        exact ⟨k + 1, by omega, by go_num, Lib.hid (ha.out.setCell (by show G + 1 ≠ G; omega) _), Lib.hid h1, Lib.hid (hb.out.setCell (by rw [HG.out]; show w.heap.size ≤ w.heap.size + 1; omega) _)⟩
      case measure => simp [intOf]; omega
    · obtain rfl : k = 128 := by omega
      have hal := hm.out
      have h128 := upT_all R zP HRL.out
      rw [zP_len] at h128
      rw [h128] at hal
      have HAL := Lib.hid hal
      have HR8 : Hid (R.length = 128) := Lib.hid (by rw [HRL.out]; exact zP_len)
      clear hal h128
      go_wp2_with (first | (refine wpList_ldT rfl _ (.tmp 3) rfl (G + 1) 0 128 _ rfl R (by exact HAL.out) up_poly (by rw [HR8.out]; exact sz_poly) ?_) | (refine wpList_stT rfl _ (.tmp 2) (.tmp 24) rfl G 0 rfl R zP rfl (by exact ha.out) (by rw [HR8.out]; exact zP_len) (by rw [HR8.out]; exact sz_poly) ?_))
      refine bodyPost_ret (v := BV R) (res_cellT rfl _ _ G 128 _ R rfl (ha.out.whole R (by rw [HR8.out]; exact zP_len.symm)) up_poly (by rw [HR8.out]; exact sz_poly)) rfl ⟨rfl, ?_⟩
      exact below_setCells hb.out (by rw [HG.out]; exact Nat.le_refl _) 0 (tvs R)
end Go.Proofs.YtmpidjadpcpbfaaGreat

/- The reference of layer 4 (poly): bytes of coefficients. No conditions. -/
namespace Go.Proofs.YtmpidjadpcpbfaaGreat
open Go.RowKit
set_option linter.unusedVariables false

/-- The first t bits of a byte. -/
def topB (x : UInt8) (t : Nat) : UInt8 := UInt8.ofNat (x.toNat / 2 ^ (8 - t) * 2 ^ (8 - t))
theorem each_byteP {p : UInt8 → Prop} (h : ∀ n : Fin 256, p (UInt8.ofNat n.val)) (x : UInt8) : p x := by
  have e : UInt8.ofNat x.toNat = x := by simp
  have := h ⟨x.toNat, x.toNat_lt⟩
  rw [e] at this
  exact this
theorem top_zero (x : UInt8) : topB x 0 = 0 := by
  have h : ∀ n : Fin 256, topB (UInt8.ofNat n.val) 0 = 0 := by decide +kernel
  exact each_byteP (p := fun x => topB x 0 = 0) h x
theorem top_all (x : UInt8) : topB x 8 = x := by
  have h : ∀ n : Fin 256, topB (UInt8.ofNat n.val) 8 = UInt8.ofNat n.val := by decide +kernel
  exact each_byteP (p := fun x => topB x 8 = x) h x
theorem top_next (x : UInt8) (r : Nat) (hr : r < 8) :
    (x.toNat / 2 ^ (7 - r) % 2 = 1 → bits .or .u8 ((topB x r).toNat : Int) (2 ^ (7 - r) % 256) = ((topB x (r + 1)).toNat : Int)) ∧ (¬ x.toNat / 2 ^ (7 - r) % 2 = 1 → topB x (r + 1) = topB x r) := by
  have h : ∀ (r : Fin 8) (n : Fin 256), ((UInt8.ofNat n.val).toNat / 2 ^ (7 - r.val) % 2 = 1 → bits .or .u8 ((topB (UInt8.ofNat n.val) r.val).toNat : Int) (2 ^ (7 - r.val) % 256) = ((topB (UInt8.ofNat n.val) (r.val + 1)).toNat : Int)) ∧ (¬ (UInt8.ofNat n.val).toNat / 2 ^ (7 - r.val) % 2 = 1 → topB (UInt8.ofNat n.val) (r.val + 1) = topB (UInt8.ofNat n.val) r.val) := by decide +kernel
  exact each_byteP (p := fun x => (x.toNat / 2 ^ (7 - r) % 2 = 1 → bits .or .u8 ((topB x r).toNat : Int) (2 ^ (7 - r) % 256) = ((topB x (r + 1)).toNat : Int)) ∧ (¬ x.toNat / 2 ^ (7 - r) % 2 = 1 → topB x (r + 1) = topB x r)) (h ⟨r, hr⟩) x
/-- What the bytes hold behind k rounds. -/
def outK (l : List UInt8) (k : Nat) : List UInt8 := (List.range 16).map fun q => topB (l.getD q 0) (min 8 (k - 8 * q))
theorem outK_at (l : List UInt8) (k q : Nat) (hq : q < 16) : (outK l k)[q]? = some (topB (l.getD q 0) (min 8 (k - 8 * q))) := by simp [outK, hq]
theorem outK_ext (l : List UInt8) (k : Nat) (m : List UInt8) (hm : m.length = 16) (h : ∀ q, q < 16 → m[q]? = some (topB (l.getD q 0) (min 8 (k - 8 * q)))) : m = outK l k := by
  apply List.ext_getElem?
  intro q
  by_cases hq : q < 16
  · rw [h q hq, outK_at l k q hq]
  · rw [List.getElem?_eq_none (by omega), List.getElem?_eq_none (by simp [outK]; omega)]
theorem outK_zero (l : List UInt8) : outK l 0 = List.replicate 16 0 := by
  refine (outK_ext l 0 _ List.length_replicate fun q hq => ?_).symm
  rw [show min 8 (0 - 8 * q) = 0 by omega, top_zero, List.getElem?_replicate, if_pos hq]
theorem outK_all (l : List UInt8) (hl : l.length = 16) : outK l 128 = l := by
  refine (outK_ext l 128 _ hl fun q hq => ?_).symm
  rw [show min 8 (128 - 8 * q) = 8 by omega, top_all]
  simp [List.getD, hl, hq]
theorem outK_set (l : List UInt8) (k : Nat) (hk : k < 128) : (outK l k).set (k / 8) (topB (l.getD (k / 8) 0) (k % 8 + 1)) = outK l (k + 1) := by
  refine outK_ext l (k + 1) _ (by simp [outK]) fun q hq => ?_
  rw [List.getElem?_set]
  by_cases e : k / 8 = q
  · subst e
    rw [if_pos rfl, if_pos (by simp [outK]; omega), show min 8 (k + 1 - 8 * (k / 8)) = k % 8 + 1 by omega]
  · rw [if_neg e, outK_at l k q hq]
    congr 2; omega
theorem outK_skip (l : List UInt8) (k : Nat) (hk : k < 128) (h : topB (l.getD (k / 8) 0) (k % 8 + 1) = topB (l.getD (k / 8) 0) (k % 8)) : outK l (k + 1) = outK l k := by
  refine (outK_ext l (k + 1) _ (by simp [outK]) fun q hq => ?_).symm
  rw [outK_at l k q hq]
  by_cases e : k / 8 = q
  · subst e
    rw [show min 8 (k + 1 - 8 * (k / 8)) = k % 8 + 1 by omega, show min 8 (k - 8 * (k / 8)) = k % 8 by omega, h]
  · congr 2; omega
theorem outK_len (l : List UInt8) (k : Nat) : (outK l k).length = 16 := by simp [outK]

set_option maxRecDepth 100000 in
set_option maxHeartbeats 2000000 in
theorem pbytes_any (l : List UInt8) (w : World) (hl : l.length = 16) :
    Calls Tryz.prog 53 #[BV (bitsOf l)] w (RetB 16 l w) := by
  have HL := Lib.hid hl
  obtain ⟨P, HP⟩ : ∃ P, Hid (P = bitsOf l) := ⟨_, Lib.hid rfl⟩
  rw [← HP.out]
  have HPL : Hid (P.length = 128) := Lib.hid (by rw [HP.out]; exact bitsOf_len l)
  have HA := Lib.hid (Br.new w P 102)
  obtain ⟨G, HG⟩ : ∃ G, Hid (G = w.heap.size) := ⟨_, Lib.hid rfl⟩
  clear hl
  go_enter Tryz.func53, Tryz.ntmps53
  go_wp2_with (first | (refine wpList_boxT rfl _ (.tmp 0) rfl P rfl ?_) | (refine wpList_mk rfl _ _ rfl w.heap.size .i64 .i64 16 16 16 rfl rfl rfl rfl (by omega) (by simp) ?_; intro w1 hown hsz hb1; have HO := Lib.hid hown; have HB1 : Hid (Below w.heap.size w w1) := Lib.hid ((below_alloc w _).trans (hb1.mono (by simp))); have HA1 : Hid (Br w1 w.heap.size 0 P) := Lib.hid (HA.out.below hb1 (by simp)); clear hown hb1))
  have HO0 : Hid (OwnB w1 w.heap.size (some ⟨G + 1, 0, none⟩) 16 16 (outK l 0)) := Lib.hid (by
    have h := HO.out
    rw [World.size_alloc, ← HG.out] at h
    rw [outK_zero, ← HG.out]; exact h)
  rw [← HG.out] at HA1
  rw [← HG.out]
  clear HO HA hsz
  go_loopw [4] (fun i wr => ∃ k : Nat, k ≤ 128 ∧ i = .int .i64 k ∧ Hid (OwnB wr w.heap.size (some ⟨G + 1, 0, none⟩) 16 16 (outK l k)) ∧ Hid (Br wr G 0 P) ∧ Hid (Below w.heap.size w wr)) (fun i _ => 128 - (intOf i).toNat)
  case atStart => exact ⟨0, by omega, rfl, HO0, HA1, HB1⟩
  case round =>
    clear HO0 HA1 HB1
    obtain ⟨k, hk, rfl, ho, ha, hb⟩ := hrel
    by_cases hlt : k < 128
    · obtain ⟨q, HQ, hq⟩ : ∃ q : Nat, Hid (q = k / 8) ∧ q < 16 := ⟨_, Lib.hid rfl, by omega⟩
      obtain ⟨r, HRR, hr⟩ : ∃ r : Nat, Hid (r = k % 8) ∧ r < 8 := ⟨_, Lib.hid rfl, by omega⟩
      have t1 : Int.tdiv (k : Int) 8 = (q : Int) := by rw [Int.tdiv_eq_ediv_of_nonneg (by omega), HQ.out]; omega
      have t2 : Int.tmod (k : Int) 8 = (r : Int) := by rw [Int.tmod_eq_emod_of_nonneg (by omega), HRR.out]; omega
      have b1 : IntKind.i64.wrap (7 - (r : Int)) = 7 - (r : Int) := IntWalk.i64_in _ (by omega)
      obtain ⟨v, HV⟩ : ∃ v, Hid (v = bitOf l k) := ⟨_, Lib.hid rfl⟩
      have cv := ha.out.cell (j := k) (x := v) (by rw [HP.out, bitsOf_at l k hlt, HV.out])
      rw [Nat.zero_add] at cv
      unfold tv at cv
      obtain ⟨x, HX⟩ : ∃ x, Hid (x = l.getD q 0) := ⟨_, Lib.hid rfl⟩
      have hy : (outK l k)[q]? = some (topB x r) := by
        rw [outK_at l k q hq, HX.out, show min 8 (k - 8 * q) = r by rw [HQ.out, HRR.out]; omega]
      have cy := ho.out.cellAt hy
      have fy := ho.out.freeAt q
      have hbit : v = decide (x.toNat / 2 ^ (7 - r) % 2 = 1) := by
        rw [HV.out, HX.out]; unfold bitOf; rw [← HQ.out, ← HRR.out]
      obtain ⟨ht1, ht0⟩ := top_next x r hr
      have HY := Lib.hid hy
      clear hy
      rcases v with _ | _
      · have h0 : topB x (r + 1) = topB x r := ht0 (of_decide_eq_false hbit.symm)
        have HS : Hid (outK l (k + 1) = outK l k) := Lib.hid (outK_skip l k hlt (by rw [← HQ.out, ← HRR.out, ← HX.out]; exact h0))
        clear ht1 ht0 hbit h0
        go_wp2_with fail
        go_roundw
        case rel => exact ⟨k + 1, by omega, by go_num, Lib.hid (by rw [HS.out]; exact ho.out), ha, hb⟩
        case measure => simp [intOf]; omega
      · have h1 := ht1 (of_decide_eq_true hbit.symm)
        obtain ⟨z, HZ⟩ : ∃ z, Hid (z = topB x (r + 1)) := ⟨_, Lib.hid rfl⟩
        rw [← HZ.out] at h1
        have HS : Hid ((outK l k).set q z = outK l (k + 1)) := Lib.hid (by rw [HZ.out, HX.out, HQ.out, HRR.out]; exact outK_set l k hlt)
        clear ht1 ht0 hbit
        go_wp2_with fail
        go_roundw
        case rel =>
          have h2 := ho.out.stored q z _ rfl
          rw [HS.out] at h2
          exact ⟨k + 1, by omega, by go_num, Lib.hid h2, Lib.hid (ha.out.setCell (by show G + 1 ≠ G; omega) _), Lib.hid (hb.out.setCell (by rw [HG.out]; show w.heap.size ≤ w.heap.size + 1; omega) _)⟩
        case measure => simp [intOf]; omega
    · obtain rfl : k = 128 := by omega
      go_wp2_with fail
      go_ret
      have h := ho.out
      rw [outK_all l HL.out] at h
      exact ⟨_, _, rfl, h, hb.out⟩
end Go.Proofs.YtmpidjadpcpbfaaGreat

