/- The reference of layer 4 (poly): rows of 128 coefficients as values; sums. No conditions. -/
import Derived.Test.YthllaoeioddddaaGreatMemAll
import Derived.Deep.RegionWith
import Derived.Laws.Tables
import Derived.Test.YthllaoeioddddaaGreatBase
import Derived.ChangeKeysEq
import Derived.Laws.StructEq
namespace Go.Proofs.YthllaoeioddddaaGreat
open Go.RowKit
set_option linter.unusedVariables false

theorem up_poly : Tryz.prog.underlying 167 = some (.array 128 4) := by kernel_rfl
theorem sz_poly : (Tryz.prog.info? 167).map (·.size) = some 128 := by kernel_rfl
/-- Coefficients that are all 0. -/
def zP : List Bool := List.replicate 128 false
theorem zP_len : zP.length = 128 := List.length_replicate
theorem zero_poly (w : World) : (zeroValue 167).run Tryz.prog w = .ok (.agg (tvs zP).toArray) w := by
  have h : (Tryz.prog.info? 167).bind (·.zero) = some (.agg (tvs zP).toArray) := by kernel_rfl
  rcases hi : Tryz.prog.info? 167 with _ | i
  · rw [hi] at h; simp at h
  · rw [hi] at h
    have hz : i.zero = some (.agg (tvs zP).toArray) := h
    simp [zeroValue, typeInfo, hi, hz]
theorem poly_built : Tryz.prog.built 167 [] = some (tvs zP).toArray := by kernel_rfl
/-- A call that gives coefficients, and keeps all that was there. -/
def RetT (l : List Bool) (w : World) (e : Ending) (w' : World) : Prop := e = .returned (BV l) ∧ Below w.heap.size w w'
section
variable {w : World} {ops : Array Oper} {rest : List Oper} {o : Oper} {a : Act} {Q : Exit → Act → World → Prop}
theorem wpList_boxT (hgd : o.guard = none) (T : TypeId) (x : Operand) (hop : o.op = .box T x) (l : List Bool) (hx : a.eval x = BV l)
    (h : wpList Tryz.prog ops Q rest (a.put o.dst (.pointer (some ⟨w.heap.size, 0, none⟩))) (w.alloc (.cells (tvs l).toArray T))) : wpList Tryz.prog ops Q (o :: rest) a w := by
  refine wpList_plain hgd fun K hK => ?_
  have hr : (Instr.box T (BV l)).run Tryz.prog w = .ok (.pointer (some ⟨w.heap.size, 0, none⟩)) (w.alloc (.cells (tvs l).toArray T)) := rfl
  unfold Oper.wp execOp
  simp only [hop, hx, Sem.run_bind, hr, Result.andThen_ok]
  exact hK _ _ h
theorem wpList_ldT (hgd : o.guard = none) (T : TypeId) (x : Operand) (hop : o.op = .load T x) (g d n : Nat) (e : TypeId) (hx : a.eval x = .pointer (some ⟨g, d, none⟩)) (l : List Bool) (hc : Br w g d l)
    (hu : Tryz.prog.underlying T = some (.array n e)) (hi : (Tryz.prog.info? T).map (·.size) = some l.length)
    (h : wpList Tryz.prog ops Q rest (a.put o.dst (BV l)) w) : wpList Tryz.prog ops Q (o :: rest) a w :=
  wpList_load_mid hgd T x hop g d hx (tvs l) _ hc.1 hu rfl (by rw [tvs_length]; exact hi) h
theorem wpList_stT (hgd : o.guard = none) (T : TypeId) (x y : Operand) (hop : o.op = .store T x y) (g d : Nat) (hx : a.eval x = .pointer (some ⟨g, d, none⟩)) (l l0 : List Bool) (hy : a.eval y = BV l) (hc : Br w g d l0)
    (hl : l0.length = l.length) (hi : (Tryz.prog.info? T).map (·.size) = some l.length)
    (h : wpList Tryz.prog ops Q rest (a.put o.dst undef) (w.setCells g d (tvs l))) : wpList Tryz.prog ops Q (o :: rest) a w :=
  wpList_store_mid hgd T x y hop g d (tvs l).toArray hx hy (by have := hc.2; rw [tvs_length, hl, ← tvs_length] at this; simpa using this) (by simpa [tvs_length] using hi) (all_tvs l) (by simpa using h)
/-- An array of noughts, built in place. -/
theorem wpList_built0 (hgd : o.guard = none) (T : TypeId) (hop : o.op = .build T #[]) (l : List Bool) (hb : Tryz.prog.built T [] = some (tvs l).toArray)
    (h : wpList Tryz.prog ops Q rest (a.put o.dst (BV l)) w) : wpList Tryz.prog ops Q (o :: rest) a w := by
  refine wpList_plain hgd fun K hK => ?_
  unfold Oper.wp execOp
  simp only [hop, List.map_toArray, List.map_nil, Sem.run_bind, run_build w T #[] _ hb, Result.andThen_ok]
  exact hK _ _ h
end
/-- A result that lies in a variable of bools. -/
theorem res_cellT {fn : Func} {p : Tmp} {ty : TypeId} (h : fn.results = #[.cell p ty]) (tmps : Array Value) (w : World) (b n : Nat) (e : TypeId) (l : List Bool) (ht : tmps.getD p undef = .pointer (some ⟨b, 0, none⟩)) (hc : Br w b 0 l)
    (hu : Tryz.prog.underlying ty = some (.array n e)) (hi : (Tryz.prog.info? ty).map (·.size) = some l.length) : (results fn tmps).run Tryz.prog w = .ok (BV l) w := by
  have hl := run_loadVar_mid (P := Tryz.prog) w b 0 ty (tvs l) (.array n e) hc.1 hu rfl (by rw [tvs_length]; exact hi)
  rw [Array.getD_eq_getD_getElem?] at ht
  simp only [results, h]
  simp [ht, asAddr, hl, BV]
/-- The first k of r, the others of l. -/
def upT (r l : List Bool) (k : Nat) : List Bool := r.take k ++ l.drop k
theorem upT_len (r l : List Bool) (k : Nat) (h : r.length = l.length) : (upT r l k).length = l.length := by simp [upT, h]; omega
theorem upT_zero (r l : List Bool) : upT r l 0 = l := by simp [upT]
theorem upT_all (r l : List Bool) (h : r.length = l.length) : upT r l l.length = r := by simp [upT, ← h]
theorem upT_at (r l : List Bool) (k j : Nat) (h : r.length = l.length) (hk : k ≤ l.length) : (upT r l k)[j]? = if j < k then r[j]? else l[j]? := by
  unfold upT
  by_cases hj : j < k
  · rw [List.getElem?_append_left (by rw [List.length_take]; omega), List.getElem?_take, if_pos hj, if_pos hj]
  · rw [List.getElem?_append_right (by rw [List.length_take]; omega), List.length_take, if_neg hj, List.getElem?_drop]
    congr 1; omega
theorem upT_set (r l : List Bool) (k : Nat) (x : Bool) (h : r.length = l.length) (hx : r[k]? = some x) : (upT r l k).set k x = upT r l (k + 1) := by
  have hk := (List.getElem?_eq_some_iff.1 hx).1
  apply List.ext_getElem?
  intro j
  rw [List.getElem?_set, upT_len r l k h, upT_at r l k j h (by omega), upT_at r l (k + 1) j h (by omega)]
  by_cases e : k = j
  · subst e; rw [if_pos rfl, if_pos (by omega), if_pos (by omega), hx]
  · rw [if_neg e]
    by_cases h2 : j < k
    · rw [if_pos h2, if_pos (by omega)]
    · rw [if_neg h2, if_neg (by omega)]
theorem getT (l : List Bool) (n k : Nat) (hl : l.length = n) (hk : k < n) : ∃ x, l[k]? = some x := ⟨l[k]'(by omega), List.getElem?_eq_getElem (by omega)⟩
theorem Br.new1 (w : World) (n : Nat) (hn : n = w.heap.size) (l : List Bool) (T : TypeId) : Br (w.alloc (.cells (tvs l).toArray T)) n 0 l := by rw [hn]; exact Br.new w l T
def V3 (l m z : List Bool) (T : TypeId) (w : World) : World := ((w.alloc (.cells (tvs l).toArray T)).alloc (.cells (tvs m).toArray T)).alloc (.cells (tvs z).toArray T)
theorem v3_below (l m z : List Bool) (T : TypeId) (w : World) : Below w.heap.size w (V3 l m z T w) := ((below_alloc w _).alloc (by simp) _).alloc (by simp; omega) _
theorem v3_0 (l m z : List Bool) (T : TypeId) (w : World) : Br (V3 l m z T w) w.heap.size 0 l := ((Br.new w l T).alloc (by simp) _).alloc (by simp; omega) _
theorem v3_1 (l m z : List Bool) (T : TypeId) (w : World) : Br (V3 l m z T w) (w.heap.size + 1) 0 m := (Br.new1 _ _ (by simp) m T).alloc (by simp) _
theorem v3_2 (l m z : List Bool) (T : TypeId) (w : World) : Br (V3 l m z T w) (w.heap.size + 1 + 1) 0 z := Br.new1 _ _ (by simp) z T
def V2 (l z : List Bool) (T : TypeId) (w : World) : World := (w.alloc (.cells (tvs l).toArray T)).alloc (.cells (tvs z).toArray T)
theorem v2_below (l z : List Bool) (T : TypeId) (w : World) : Below w.heap.size w (V2 l z T w) := (below_alloc w _).alloc (by simp) _
theorem v2_0 (l z : List Bool) (T : TypeId) (w : World) : Br (V2 l z T w) w.heap.size 0 l := (Br.new w l T).alloc (by simp) _
theorem v2_1 (l z : List Bool) (T : TypeId) (w : World) : Br (V2 l z T w) (w.heap.size + 1) 0 z := Br.new1 _ _ (by simp) z T
/-- Sums. -/
def addT (a b : List Bool) : List Bool := List.zipWith (· != ·) a b

set_option maxRecDepth 100000 in
set_option maxHeartbeats 2000000 in
theorem padd_any (l m : List Bool) (w : World) (hl : l.length = 128) (hm : m.length = 128) :
    Calls Tryz.prog 142 #[BV l, BV m] w (RetT (addT l m) w) := by
  have HL := Lib.hid hl
  have HM := Lib.hid hm
  obtain ⟨R, HR⟩ : ∃ R, Hid (R = addT l m) := ⟨_, Lib.hid rfl⟩
  rw [← HR.out]
  have HR8 : Hid (R.length = l.length) := Lib.hid (by rw [HR.out]; simp [addT, hl, hm])
  have hz := zero_poly
  have HA := Lib.hid (v3_0 l m zP 167 w)
  have HB := Lib.hid (v3_1 l m zP 167 w)
  have HC := Lib.hid (v3_2 l m zP 167 w)
  have HW := Lib.hid (v3_below l m zP 167 w)
  obtain ⟨G, HG⟩ : ∃ G, Hid (G = w.heap.size) := ⟨_, Lib.hid rfl⟩
  obtain ⟨W0, HW0⟩ : ∃ W0, Hid (W0 = V3 l m zP 167 w) := ⟨_, Lib.hid rfl⟩
  clear hl hm
  go_enter Tryz.func142, Tryz.ntmps142
  go_wp2_with (first | (refine wpList_boxT rfl _ (.tmp 0) rfl l rfl ?_) | (refine wpList_boxT rfl _ (.tmp 1) rfl m rfl ?_))
  show Code.wp _ _ _ _ (V3 l m zP 167 w)
  rw [← HW0.out] at HA HB HC HW ⊢
  rw [← HG.out] at HA HB HC ⊢
  go_loopw [5] (fun i wr => ∃ k : Nat, k ≤ 128 ∧ i = .int .i64 k ∧ Hid (Br wr G 0 (upT R l k)) ∧ Hid (Br wr (G + 1) 0 m) ∧ Hid (Br wr (G + 1 + 1) 0 zP) ∧ Hid (Below w.heap.size w wr)) (fun i _ => 128 - (intOf i).toNat)
  case atStart => exact ⟨0, by omega, rfl, Lib.hid (by rw [upT_zero]; exact HA.out), HB, HC, HW⟩
  case round =>
    obtain ⟨k, hk, rfl, ha, hb, hc, hbl⟩ := hrel
    clear HA HB HC HW
    by_cases hlt : k < 128
    · obtain ⟨x, hx⟩ := getT l 128 k HL.out hlt
      obtain ⟨y, hy⟩ := getT m 128 k HM.out hlt
      have hxy : R[k]? = some (x != y) := by rw [HR.out]; unfold addT; rw [List.getElem?_zipWith, hx, hy]
      have cx := ha.out.cell (j := k) (by rw [upT_at R l k k HR8.out (by rw [HL.out]; omega), if_neg (by omega)]; exact hx)
      have fx := ha.out.free (j := k) (by rw [upT_len R l k HR8.out, HL.out]; exact hlt)
      have cy := hb.out.cell hy
      rw [Nat.zero_add] at cx fx cy
      unfold tv at cx cy
      obtain ⟨z, HZ⟩ : ∃ z, Hid (z = (x != y)) := ⟨_, Lib.hid rfl⟩
      have HXY := Lib.hid hxy
      clear hx hy hxy
      go_wp2_with fail
      go_region_with (fail)
      all_goals
        go_wp2
        go_roundw
        case rel =>
          have h1 := ha.out.drew.set (k := k) (by rw [upT_len R l k HR8.out, HL.out]; exact hlt) (x != y)
          rw [upT_set R l k _ HR8.out HXY.out, Nat.zero_add] at h1
          exact ⟨k + 1, by omega, by go_num, Lib.hid h1, Lib.hid (hb.out.drew.setCell (by show G ≠ G + 1; omega) _), Lib.hid (hc.out.drew.setCell (by show G ≠ G + 1 + 1; omega) _), Lib.hid (hbl.out.drew.setCell (by rw [HG.out]; exact Nat.le_refl _) _)⟩
        case measure => simp [intOf]; omega
    · obtain rfl : k = 128 := by omega
      have hal := ha.out
      have h128 := upT_all R l HR8.out
      rw [HL.out] at h128
      rw [h128] at hal
      have HAL := Lib.hid hal
      have HRL : Hid (R.length = 128) := Lib.hid (by rw [HR8.out]; exact HL.out)
      clear hal h128
      go_wp2_with (first | (refine wpList_ldT rfl _ (.tmp 2) rfl G 0 128 _ rfl R (by exact HAL.out) up_poly (by rw [HRL.out]; exact sz_poly) ?_) | (refine wpList_stT rfl _ (.tmp 4) (.tmp 19) rfl (G + 1 + 1) 0 rfl R zP rfl (by exact hc.out) (by rw [HRL.out]; exact zP_len) (by rw [HRL.out]; exact sz_poly) ?_))
      refine bodyPost_ret (v := BV R) (res_cellT rfl _ _ (G + 1 + 1) 128 _ R rfl (hc.out.whole R (by rw [HRL.out]; exact zP_len.symm)) up_poly (by rw [HRL.out]; exact sz_poly)) rfl ⟨rfl, ?_⟩
      exact below_setCells hbl.out (by rw [HG.out]; omega) 0 (tvs R)
end Go.Proofs.YthllaoeioddddaaGreat

/- The reference of layer 4 (poly): coefficients of bytes. Condition: the bytes' cells are readable. -/
namespace Go.Proofs.YthllaoeioddddaaGreat
open Go.RowKit
set_option linter.unusedVariables false

/-- Coefficient i of bytes. -/
def bitOf (l : List UInt8) (i : Nat) : Bool := decide ((l.getD (i / 8) 0).toNat / 2 ^ (7 - i % 8) % 2 = 1)
def bitsOf (l : List UInt8) : List Bool := (List.range 128).map (bitOf l)
theorem bitsOf_len (l : List UInt8) : (bitsOf l).length = 128 := by simp [bitsOf]
theorem bitsOf_at (l : List UInt8) (i : Nat) (hi : i < 128) : (bitsOf l)[i]? = some (bitOf l i) := by simp [bitsOf, hi]

theorem bit_walk (n s : Nat) : (((n : Int) / 2 ^ s).tmod 2 == 1) = decide (n / 2 ^ s % 2 = 1) := by
  have e : ((n : Int) / 2 ^ s) = ((n / 2 ^ s : Nat) : Int) := by simp
  rw [e]
  generalize n / 2 ^ s = m
  rw [Int.tmod_eq_emod_of_nonneg (by omega)]
  by_cases h : m % 2 = 1
  · rw [decide_eq_true h, beq_iff_eq]; omega
  · rw [decide_eq_false h, beq_eq_false_iff_ne]; omega
set_option maxRecDepth 100000 in
set_option maxHeartbeats 2000000 in
theorem pof_any (A : Option Addr) (c0 : Nat) (l : List UInt8) (w : World) (h : RB w w.heap.size A 16 l) :
    Calls Tryz.prog 118 #[.slice A 16 c0] w (RetT (bitsOf l) w) := by
  have hl := h.len
  obtain ⟨ga, oa, rfl, hga, hcell⟩ := h.2 (by omega)
  have HL := Lib.hid hl
  have HCELL := Lib.hid hcell
  obtain ⟨R, HR⟩ : ∃ R, Hid (R = bitsOf l) := ⟨_, Lib.hid rfl⟩
  rw [← HR.out]
  have HRL : Hid (R.length = zP.length) := Lib.hid (by rw [HR.out, bitsOf_len, zP_len])
  have hz := zero_poly
  have HA := Lib.hid (v2_0 zP zP 167 w)
  have HB := Lib.hid (v2_1 zP zP 167 w)
  have HW := Lib.hid (v2_below zP zP 167 w)
  obtain ⟨G, HG⟩ : ∃ G, Hid (G = w.heap.size) := ⟨_, Lib.hid rfl⟩
  have HN : Hid (Br ((w.alloc (.cells (tvs zP).toArray 167)).alloc (.cells (tvs zP).toArray 167)) (w.heap.size + 1) 0 zP) := Lib.hid (v2_1 zP zP _ w)
  clear hl hcell h
  go_enter Tryz.func118, Tryz.ntmps118
  go_wp2_with (first | (refine wpList_built0 rfl _ rfl zP poly_built ?_) | (refine wpList_stT rfl _ (.tmp 3) (.tmp 5) rfl (w.heap.size + 1) 0 rfl zP zP rfl (by exact HN.out) rfl (by rw [zP_len]; exact sz_poly) ?_))
  obtain ⟨W0, HW0⟩ : ∃ W0, Hid (W0 = (V2 zP zP 167 w).setCells (w.heap.size + 1) 0 (tvs zP)) := ⟨_, Lib.hid rfl⟩
  show Code.wp _ _ _ _ ((V2 zP zP 167 w).setCells (w.heap.size + 1) 0 (tvs zP))
  have HB0 : Hid (Below w.heap.size w W0) := Lib.hid (by rw [HW0.out]; exact below_setCells HW.out (by omega) _ _)
  have HA0 : Hid (Br W0 G 0 zP) := Lib.hid (by rw [HW0.out, HG.out]; exact HA.out.setCells (by omega) _ _)
  have HC0 : Hid (Br W0 (G + 1) 0 (upT R zP 0)) := Lib.hid (by rw [HW0.out, HG.out, upT_zero]; exact HB.out.whole zP rfl)
  rw [← HW0.out, ← HG.out]
  clear HA HB HW HN
  go_loopw [4] (fun i wr => ∃ k : Nat, k ≤ 128 ∧ i = .int .i64 k ∧ Hid (Br wr G 0 zP) ∧ Hid (Br wr (G + 1) 0 (upT R zP k)) ∧ Hid (Below w.heap.size w wr)) (fun i _ => 128 - (intOf i).toNat)
  case atStart => exact ⟨0, by omega, rfl, HA0, HC0, HB0⟩
  case round =>
    obtain ⟨k, hk, rfl, ha, hm, hb⟩ := hrel
    clear HA0 HC0 HB0
    by_cases hlt : k < 128
    · obtain ⟨q, HQ, hq⟩ : ∃ q : Nat, Hid (q = k / 8) ∧ q < 16 := ⟨_, Lib.hid rfl, by omega⟩
      obtain ⟨r, HRR, hr⟩ : ∃ r : Nat, Hid (r = k % 8) ∧ r < 8 := ⟨_, Lib.hid rfl, by omega⟩
      have t1 : Int.tdiv (k : Int) 8 = (q : Int) := by rw [Int.tdiv_eq_ediv_of_nonneg (by omega), HQ.out]; omega
      have t2 : Int.tmod (k : Int) 8 = (r : Int) := by rw [Int.tmod_eq_emod_of_nonneg (by omega), HRR.out]; omega
      have hql : q < l.length := by rw [HL.out]; exact hq
      obtain ⟨x, hx⟩ : ∃ x, l[q]? = some x := ⟨l[q], List.getElem?_eq_getElem hql⟩
      have cx : wr.cell? ⟨ga, oa + q, none⟩ = some (.int .u8 (x.toNat : Int)) := (hb.out.cell (p := ⟨ga, oa + q, none⟩) hga).trans (by
        have h1 := HCELL.out q hql
        have h2 := hx
        rw [List.getElem?_eq_getElem hql] at h2
        injection h2 with h2
        rw [h2] at h1
        exact h1)
      obtain ⟨y, hy⟩ := getT (upT R zP k) 128 k (by rw [upT_len R zP k HRL.out, zP_len]) hlt
      have cm := hm.out.cell hy
      have fm := hm.out.free (j := k) (by rw [upT_len R zP k HRL.out, zP_len]; exact hlt)
      rw [Nat.zero_add] at cm fm
      unfold tv at cm
      have hxl := x.toNat_lt
      have b1 : IntKind.i64.wrap (7 - (r : Int)) = 7 - (r : Int) := IntWalk.i64_in _ (by omega)
      obtain ⟨v, HV⟩ : ∃ v, Hid (v = bitOf l k) := ⟨_, Lib.hid rfl⟩
      have hv : (((x.toNat : Int) / 2 ^ (7 - r)).tmod 2 == 1) = v := by
        rw [bit_walk, HV.out]
        unfold bitOf
        rw [← HQ.out, ← HRR.out]
        simp [List.getD, hx]
      have HRK : Hid (R[k]? = some v) := Lib.hid (by rw [HR.out, bitsOf_at l k hlt, HV.out])
      clear hx hy
      go_wp2_with fail
      go_roundw
      case rel =>
        have h1 := hm.out.set (k := k) (by rw [upT_len R zP k HRL.out, zP_len]; exact hlt) v
        rw [upT_set R zP k _ HRL.out HRK.out, Nat.zero_add] at h1
        exact ⟨k + 1, by omega, by go_num, Lib.hid (ha.out.setCell (by show G + 1 ≠ G; omega) _), Lib.hid h1, Lib.hid (hb.out.setCell (by rw [HG.out]; show w.heap.size ≤ w.heap.size + 1; omega) _)⟩
      case measure => simp [intOf]; omega
    · obtain rfl : k = 128 := by omega
      have hal := hm.out
      have h128 := upT_all R zP HRL.out
      rw [zP_len] at h128
      rw [h128] at hal
      have HAL := Lib.hid hal
      have HR8 : Hid (R.length = 128) := Lib.hid (by rw [HRL.out]; exact zP_len)
      clear hal h128
      go_wp2_with (first | (refine wpList_ldT rfl _ (.tmp 3) rfl (G + 1) 0 128 _ rfl R (by exact HAL.out) up_poly (by rw [HR8.out]; exact sz_poly) ?_) | (refine wpList_stT rfl _ (.tmp 2) (.tmp 24) rfl G 0 rfl R zP rfl (by exact ha.out) (by rw [HR8.out]; exact zP_len) (by rw [HR8.out]; exact sz_poly) ?_))
      refine bodyPost_ret (v := BV R) (res_cellT rfl _ _ G 128 _ R rfl (ha.out.whole R (by rw [HR8.out]; exact zP_len.symm)) up_poly (by rw [HR8.out]; exact sz_poly)) rfl ⟨rfl, ?_⟩
      exact below_setCells hb.out (by rw [HG.out]; exact Nat.le_refl _) 0 (tvs R)
end Go.Proofs.YthllaoeioddddaaGreat

/- The reference of layer 4 (poly): bytes of coefficients. No conditions. -/
namespace Go.Proofs.YthllaoeioddddaaGreat
open Go.RowKit
set_option linter.unusedVariables false

/-- The first t bits of a byte. -/
def topB (x : UInt8) (t : Nat) : UInt8 := UInt8.ofNat (x.toNat / 2 ^ (8 - t) * 2 ^ (8 - t))
theorem each_byteP {p : UInt8 → Prop} (h : ∀ n : Fin 256, p (UInt8.ofNat n.val)) (x : UInt8) : p x := by
  have e : UInt8.ofNat x.toNat = x := by simp
  have := h ⟨x.toNat, x.toNat_lt⟩
  rw [e] at this
  exact this
theorem top_zero (x : UInt8) : topB x 0 = 0 := by
  have h : ∀ n : Fin 256, topB (UInt8.ofNat n.val) 0 = 0 := by decide +kernel
  exact each_byteP (p := fun x => topB x 0 = 0) h x
theorem top_all (x : UInt8) : topB x 8 = x := by
  have h : ∀ n : Fin 256, topB (UInt8.ofNat n.val) 8 = UInt8.ofNat n.val := by decide +kernel
  exact each_byteP (p := fun x => topB x 8 = x) h x
theorem top_next (x : UInt8) (r : Nat) (hr : r < 8) :
    (x.toNat / 2 ^ (7 - r) % 2 = 1 → bits .or .u8 ((topB x r).toNat : Int) (2 ^ (7 - r) % 256) = ((topB x (r + 1)).toNat : Int)) ∧ (¬ x.toNat / 2 ^ (7 - r) % 2 = 1 → topB x (r + 1) = topB x r) := by
  have h : ∀ (r : Fin 8) (n : Fin 256), ((UInt8.ofNat n.val).toNat / 2 ^ (7 - r.val) % 2 = 1 → bits .or .u8 ((topB (UInt8.ofNat n.val) r.val).toNat : Int) (2 ^ (7 - r.val) % 256) = ((topB (UInt8.ofNat n.val) (r.val + 1)).toNat : Int)) ∧ (¬ (UInt8.ofNat n.val).toNat / 2 ^ (7 - r.val) % 2 = 1 → topB (UInt8.ofNat n.val) (r.val + 1) = topB (UInt8.ofNat n.val) r.val) := by decide +kernel
  exact each_byteP (p := fun x => (x.toNat / 2 ^ (7 - r) % 2 = 1 → bits .or .u8 ((topB x r).toNat : Int) (2 ^ (7 - r) % 256) = ((topB x (r + 1)).toNat : Int)) ∧ (¬ x.toNat / 2 ^ (7 - r) % 2 = 1 → topB x (r + 1) = topB x r)) (h ⟨r, hr⟩) x
/-- What the bytes hold behind k rounds. -/
def outK (l : List UInt8) (k : Nat) : List UInt8 := (List.range 16).map fun q => topB (l.getD q 0) (min 8 (k - 8 * q))
theorem outK_at (l : List UInt8) (k q : Nat) (hq : q < 16) : (outK l k)[q]? = some (topB (l.getD q 0) (min 8 (k - 8 * q))) := by simp [outK, hq]
theorem outK_ext (l : List UInt8) (k : Nat) (m : List UInt8) (hm : m.length = 16) (h : ∀ q, q < 16 → m[q]? = some (topB (l.getD q 0) (min 8 (k - 8 * q)))) : m = outK l k := by
  apply List.ext_getElem?
  intro q
  by_cases hq : q < 16
  · rw [h q hq, outK_at l k q hq]
  · rw [List.getElem?_eq_none (by omega), List.getElem?_eq_none (by simp [outK]; omega)]
theorem outK_zero (l : List UInt8) : outK l 0 = List.replicate 16 0 := by
  refine (outK_ext l 0 _ List.length_replicate fun q hq => ?_).symm
  rw [show min 8 (0 - 8 * q) = 0 by omega, top_zero, List.getElem?_replicate, if_pos hq]
theorem outK_all (l : List UInt8) (hl : l.length = 16) : outK l 128 = l := by
  refine (outK_ext l 128 _ hl fun q hq => ?_).symm
  rw [show min 8 (128 - 8 * q) = 8 by omega, top_all]
  simp [List.getD, hl, hq]
theorem outK_set (l : List UInt8) (k : Nat) (hk : k < 128) : (outK l k).set (k / 8) (topB (l.getD (k / 8) 0) (k % 8 + 1)) = outK l (k + 1) := by
  refine outK_ext l (k + 1) _ (by simp [outK]) fun q hq => ?_
  rw [List.getElem?_set]
  by_cases e : k / 8 = q
  · subst e
    rw [if_pos rfl, if_pos (by simp [outK]; omega), show min 8 (k + 1 - 8 * (k / 8)) = k % 8 + 1 by omega]
  · rw [if_neg e, outK_at l k q hq]
    congr 2; omega
theorem outK_skip (l : List UInt8) (k : Nat) (hk : k < 128) (h : topB (l.getD (k / 8) 0) (k % 8 + 1) = topB (l.getD (k / 8) 0) (k % 8)) : outK l (k + 1) = outK l k := by
  refine (outK_ext l (k + 1) _ (by simp [outK]) fun q hq => ?_).symm
  rw [outK_at l k q hq]
  by_cases e : k / 8 = q
  · subst e
    rw [show min 8 (k + 1 - 8 * (k / 8)) = k % 8 + 1 by omega, show min 8 (k - 8 * (k / 8)) = k % 8 by omega, h]
  · congr 2; omega
set_option maxRecDepth 100000 in
set_option maxHeartbeats 2000000 in
theorem pbytes_any (l : List UInt8) (w : World) (hl : l.length = 16) :
    Calls Tryz.prog 116 #[BV (bitsOf l)] w (RetB 16 l w) := by
  have HL := Lib.hid hl
  obtain ⟨P, HP⟩ : ∃ P, Hid (P = bitsOf l) := ⟨_, Lib.hid rfl⟩
  rw [← HP.out]
  have HPL : Hid (P.length = 128) := Lib.hid (by rw [HP.out]; exact bitsOf_len l)
  have HA := Lib.hid (Br.new w P 167)
  obtain ⟨G, HG⟩ : ∃ G, Hid (G = w.heap.size) := ⟨_, Lib.hid rfl⟩
  clear hl
  go_enter Tryz.func116, Tryz.ntmps116
  go_wp2_with (first | (refine wpList_boxT rfl _ (.tmp 0) rfl P rfl ?_) | (refine wpList_mk rfl _ _ rfl w.heap.size .i64 .i64 16 16 16 rfl rfl rfl rfl (by omega) (by simp) ?_; intro w1 hown hsz hb1; have HO := Lib.hid hown; have HB1 : Hid (Below w.heap.size w w1) := Lib.hid ((below_alloc w _).trans (hb1.mono (by simp))); have HA1 : Hid (Br w1 w.heap.size 0 P) := Lib.hid (HA.out.below hb1 (by simp)); clear hown hb1))
  have HO0 : Hid (OwnB w1 w.heap.size (some ⟨G + 1, 0, none⟩) 16 16 (outK l 0)) := Lib.hid (by
    have h := HO.out
    rw [World.size_alloc, ← HG.out] at h
    rw [outK_zero, ← HG.out]; exact h)
  rw [← HG.out] at HA1
  rw [← HG.out]
  clear HO HA hsz
  go_loopw [4] (fun i wr => ∃ k : Nat, k ≤ 128 ∧ i = .int .i64 k ∧ Hid (OwnB wr w.heap.size (some ⟨G + 1, 0, none⟩) 16 16 (outK l k)) ∧ Hid (Br wr G 0 P) ∧ Hid (Below w.heap.size w wr)) (fun i _ => 128 - (intOf i).toNat)
  case atStart => exact ⟨0, by omega, rfl, HO0, HA1, HB1⟩
  case round =>
    clear HO0 HA1 HB1
    obtain ⟨k, hk, rfl, ho, ha, hb⟩ := hrel
    by_cases hlt : k < 128
    · obtain ⟨q, HQ, hq⟩ : ∃ q : Nat, Hid (q = k / 8) ∧ q < 16 := ⟨_, Lib.hid rfl, by omega⟩
      obtain ⟨r, HRR, hr⟩ : ∃ r : Nat, Hid (r = k % 8) ∧ r < 8 := ⟨_, Lib.hid rfl, by omega⟩
      have t1 : Int.tdiv (k : Int) 8 = (q : Int) := by rw [Int.tdiv_eq_ediv_of_nonneg (by omega), HQ.out]; omega
      have t2 : Int.tmod (k : Int) 8 = (r : Int) := by rw [Int.tmod_eq_emod_of_nonneg (by omega), HRR.out]; omega
      have b1 : IntKind.i64.wrap (7 - (r : Int)) = 7 - (r : Int) := IntWalk.i64_in _ (by omega)
      obtain ⟨v, HV⟩ : ∃ v, Hid (v = bitOf l k) := ⟨_, Lib.hid rfl⟩
      have cv := ha.out.cell (j := k) (x := v) (by rw [HP.out, bitsOf_at l k hlt, HV.out])
      rw [Nat.zero_add] at cv
      unfold tv at cv
      obtain ⟨x, HX⟩ : ∃ x, Hid (x = l.getD q 0) := ⟨_, Lib.hid rfl⟩
      have hy : (outK l k)[q]? = some (topB x r) := by
        rw [outK_at l k q hq, HX.out, show min 8 (k - 8 * q) = r by rw [HQ.out, HRR.out]; omega]
      have cy := ho.out.cellAt hy
      have fy := ho.out.freeAt q
      have hbit : v = decide (x.toNat / 2 ^ (7 - r) % 2 = 1) := by
        rw [HV.out, HX.out]; unfold bitOf; rw [← HQ.out, ← HRR.out]
      obtain ⟨ht1, ht0⟩ := top_next x r hr
      have HY := Lib.hid hy
      clear hy
      rcases v with _ | _
      · have h0 : topB x (r + 1) = topB x r := ht0 (of_decide_eq_false hbit.symm)
        have HS : Hid (outK l (k + 1) = outK l k) := Lib.hid (outK_skip l k hlt (by rw [← HQ.out, ← HRR.out, ← HX.out]; exact h0))
        clear ht1 ht0 hbit h0
        go_wp2_with fail
        go_roundw
        case rel => exact ⟨k + 1, by omega, by go_num, Lib.hid (by rw [HS.out]; exact ho.out), ha, hb⟩
        case measure => simp [intOf]; omega
      · have h1 := ht1 (of_decide_eq_true hbit.symm)
        obtain ⟨z, HZ⟩ : ∃ z, Hid (z = topB x (r + 1)) := ⟨_, Lib.hid rfl⟩
        rw [← HZ.out] at h1
        have HS : Hid ((outK l k).set q z = outK l (k + 1)) := Lib.hid (by rw [HZ.out, HX.out, HQ.out, HRR.out]; exact outK_set l k hlt)
        clear ht1 ht0 hbit
        go_wp2_with fail
        go_roundw
        case rel =>
          have h2 := ho.out.stored q z _ rfl
          rw [HS.out] at h2
          exact ⟨k + 1, by omega, by go_num, Lib.hid h2, Lib.hid (ha.out.setCell (by show G + 1 ≠ G; omega) _), Lib.hid (hb.out.setCell (by rw [HG.out]; show w.heap.size ≤ w.heap.size + 1; omega) _)⟩
        case measure => simp [intOf]; omega
    · obtain rfl : k = 128 := by omega
      go_wp2_with fail
      go_ret
      have h := ho.out
      rw [outK_all l HL.out] at h
      exact ⟨_, _, rfl, h, hb.out⟩
end Go.Proofs.YthllaoeioddddaaGreat

/- The field with 2^128 elements as plain functions of numbers: the element's coefficient of x^i is bit 127 - i. Products, their laws, squares, inverses. Conditions: numbers below 2^128, as each theorem says. Nothing is claimed of the program here. -/
namespace Go.Proofs.YthllaoeioddddaaGreat
set_option linter.unusedVariables false

/-- The product with x. -/
def gNext (a : Nat) : Nat := (a / 2) ^^^ (a % 2 * 299076299051606071403356588563077529600)
def gIter (a : Nat) : Nat → Nat | 0 => a | k + 1 => gNext (gIter a k)
/-- The coefficient of x^k, of a. -/
def gBit (a k : Nat) : Nat := a / 2 ^ (127 - k) % 2
/-- The product's part of the first k coefficients of b. -/
def gUp (a b : Nat) : Nat → Nat | 0 => 0 | k + 1 => gUp a b k ^^^ (gBit b k * gIter a k)
def gMul (a b : Nat) : Nat := gUp a b 128
/-- x^0, and x^k. -/
def gOne : Nat := 2 ^ 127
def gE (k : Nat) : Nat := 2 ^ (127 - k)

theorem bit01 (n : Nat) : n % 2 = 0 ∨ n % 2 = 1 := Nat.mod_two_eq_zero_or_one n
theorem xor4 (p q s t : Nat) : (p ^^^ q) ^^^ (s ^^^ t) = (p ^^^ s) ^^^ (q ^^^ t) := by
  rw [Nat.xor_assoc, Nat.xor_assoc, ← Nat.xor_assoc q s t, Nat.xor_comm q s, Nat.xor_assoc s q t]
theorem half_xor (a b : Nat) : (a ^^^ b) / 2 = a / 2 ^^^ b / 2 := by
  have h2 : ∀ n : Nat, n / 2 = n >>> 1 := fun n => by simp [Nat.shiftRight_eq_div_pow]
  rw [h2, h2, h2, Nat.shiftRight_xor_distrib]
theorem odd_xor (a b : Nat) : (a ^^^ b) % 2 = (a % 2 + b % 2) % 2 := by
  have h1 := Nat.xor_mod_two_pow (a := a) (b := b) (n := 1)
  rw [Nat.pow_one] at h1
  rw [h1]
  rcases bit01 a with e | e <;> rcases bit01 b with e' | e' <;> rw [e, e'] <;> rfl
theorem gBit_xor (a b k : Nat) : gBit (a ^^^ b) k = (gBit a k + gBit b k) % 2 := by
  unfold gBit
  rw [← Nat.shiftRight_eq_div_pow, ← Nat.shiftRight_eq_div_pow, ← Nat.shiftRight_eq_div_pow, Nat.shiftRight_xor_distrib]
  exact odd_xor _ _
theorem gBit01 (a k : Nat) : gBit a k = 0 ∨ gBit a k = 1 := bit01 _
/-- A multiple by a sum of bits. -/
theorem bits_mul (x y v : Nat) (hx : x = 0 ∨ x = 1) (hy : y = 0 ∨ y = 1) : (x + y) % 2 * v = x * v ^^^ y * v := by
  rcases hx with rfl | rfl <;> rcases hy with rfl | rfl <;> simp
theorem bit_mul (c v w : Nat) (hc : c = 0 ∨ c = 1) : c * (v ^^^ w) = c * v ^^^ c * w := by rcases hc with rfl | rfl <;> simp
theorem gNext_xor (a b : Nat) : gNext (a ^^^ b) = gNext a ^^^ gNext b := by
  unfold gNext
  rw [half_xor, odd_xor, bits_mul _ _ _ (bit01 a) (bit01 b), xor4]
theorem gNext_zero : gNext 0 = 0 := by decide
theorem gNext_bit (c a : Nat) (hc : c = 0 ∨ c = 1) : gNext (c * a) = c * gNext a := by
  rcases hc with rfl | rfl
  · rw [Nat.zero_mul, Nat.zero_mul, gNext_zero]
  · rw [Nat.one_mul, Nat.one_mul]
theorem gIter_xor (a b : Nat) : ∀ k, gIter (a ^^^ b) k = gIter a k ^^^ gIter b k
  | 0 => rfl
  | k + 1 => by rw [gIter, gIter_xor a b k, gNext_xor]; rfl
theorem gIter_next (a : Nat) : ∀ k, gIter (gNext a) k = gNext (gIter a k)
  | 0 => rfl
  | k + 1 => by rw [gIter, gIter_next a k]; rfl
theorem gIter_zero : ∀ k, gIter 0 k = 0
  | 0 => rfl
  | k + 1 => by rw [gIter, gIter_zero k, gNext_zero]
theorem gIter_add (a m : Nat) : ∀ n, gIter a (m + n) = gIter (gIter a m) n
  | 0 => rfl
  | n + 1 => by rw [← Nat.add_assoc, gIter, gIter_add a m n]; rfl
theorem gUp_left (a a' b : Nat) : ∀ k, gUp (a ^^^ a') b k = gUp a b k ^^^ gUp a' b k
  | 0 => by simp [gUp]
  | k + 1 => by rw [gUp, gUp, gUp, gUp_left a a' b k, gIter_xor, bit_mul _ _ _ (gBit01 b k), xor4]
theorem gUp_next (a b : Nat) : ∀ k, gUp (gNext a) b k = gNext (gUp a b k)
  | 0 => by rw [gUp, gUp, gNext_zero]
  | k + 1 => by rw [gUp, gUp, gUp_next a b k, gNext_xor, gNext_bit _ _ (gBit01 b k), gIter_next]
theorem gUp_zero (b : Nat) : ∀ k, gUp 0 b k = 0
  | 0 => rfl
  | k + 1 => by rw [gUp, gUp_zero b k, gIter_zero]; simp
theorem gUp_bit (c a b : Nat) (hc : c = 0 ∨ c = 1) (k : Nat) : gUp (c * a) b k = c * gUp a b k := by
  rcases hc with rfl | rfl
  · rw [Nat.zero_mul, Nat.zero_mul, gUp_zero]
  · rw [Nat.one_mul, Nat.one_mul]
theorem gMul_left (a a' b : Nat) : gMul (a ^^^ a') b = gMul a b ^^^ gMul a' b := gUp_left a a' b 128
theorem gMul_next (a b : Nat) : gMul (gNext a) b = gNext (gMul a b) := gUp_next a b 128
theorem gMul_iter (a b : Nat) : ∀ k, gMul (gIter a k) b = gIter (gMul a b) k
  | 0 => rfl
  | k + 1 => by rw [gIter, gMul_next, gMul_iter a b k]; rfl
theorem gMul_zero' (b : Nat) : gMul 0 b = 0 := gUp_zero b 128

theorem gNext_lt (a : Nat) (h : a < 2 ^ 128) : gNext a < 2 ^ 128 := by
  unfold gNext
  refine Nat.xor_lt_two_pow ?_ ?_
  · omega
  · rcases bit01 a with e | e <;> rw [e] <;> decide
theorem gIter_lt (a : Nat) (h : a < 2 ^ 128) : ∀ k, gIter a k < 2 ^ 128
  | 0 => h
  | k + 1 => gNext_lt _ (gIter_lt a h k)
theorem bit_lt (c v n : Nat) (hc : c = 0 ∨ c = 1) (h : v < n) : c * v < n := by rcases hc with rfl | rfl <;> omega
theorem gUp_lt (a b : Nat) (h : a < 2 ^ 128) : ∀ k, gUp a b k < 2 ^ 128
  | 0 => by rw [gUp]; decide
  | k + 1 => Nat.xor_lt_two_pow (gUp_lt a b h k) (bit_lt _ _ _ (gBit01 b k) (gIter_lt a h k))
theorem gMul_lt (a b : Nat) (h : a < 2 ^ 128) : gMul a b < 2 ^ 128 := gUp_lt a b h 128

/-- x^k is the k-th iterate of x^0. -/
theorem gE_next (k : Nat) (hk : k < 127) : gNext (gE k) = gE (k + 1) := by
  unfold gNext gE
  obtain ⟨m, hm⟩ : ∃ m, 127 - k = m + 1 := ⟨126 - k, by omega⟩
  rw [hm, show 127 - (k + 1) = m by omega, Nat.pow_succ, Nat.mul_mod_left, Nat.mul_div_cancel _ (by omega)]
  simp
theorem gE_iter : ∀ k, k < 128 → gIter gOne k = gE k
  | 0, _ => rfl
  | k + 1, h => by rw [gIter, gE_iter k (by omega), gE_next k (by omega)]
/-- The first k coefficients alone. -/
theorem gTop (b : Nat) (hb : b < 2 ^ 128) : ∀ k, k ≤ 128 → gUp gOne b k = b / 2 ^ (128 - k) * 2 ^ (128 - k)
  | 0, _ => by rw [gUp, Nat.div_eq_of_lt hb, Nat.zero_mul]
  | k + 1, h => by
    rw [gUp, gTop b hb k (by omega), gE_iter k (by omega)]
    unfold gBit gE
    obtain ⟨m, hm⟩ : ∃ m, 127 - k = m := ⟨_, rfl⟩
    rw [hm, show 128 - k = m + 1 by omega, show 128 - (k + 1) = m by omega]
    have h1 : b / 2 ^ (m + 1) = b / 2 ^ m / 2 := by rw [Nat.pow_succ, Nat.div_div_eq_div_mul]
    rw [h1]
    obtain ⟨q, hq⟩ : ∃ q, b / 2 ^ m = q := ⟨_, rfl⟩
    rw [hq, Nat.pow_succ, Nat.mul_comm (2 ^ m) 2, ← Nat.mul_assoc]
    rw [← Nat.shiftLeft_eq, ← Nat.shiftLeft_eq, ← Nat.shiftLeft_eq, ← Nat.shiftLeft_xor_distrib]
    congr 1
    have h3 : q / 2 * 2 ^^^ q % 2 = q := by
      have h4 := Nat.two_pow_add_eq_or_of_lt (i := 1) (b := q % 2) (by omega) (q / 2)
      apply Nat.eq_of_testBit_eq
      intro i
      rw [Nat.testBit_xor]
      cases i with
      | zero => simp [Nat.testBit_zero]
      | succ i =>
        rw [Nat.testBit_succ, Nat.testBit_succ, Nat.testBit_succ, Nat.mul_div_cancel _ (by omega), show q % 2 / 2 = 0 by omega]
        simp
    exact h3
theorem gMul_one' (b : Nat) (hb : b < 2 ^ 128) : gMul gOne b = b := by
  unfold gMul
  rw [gTop b hb 128 (Nat.le_refl _)]
  simp
theorem gUp_comm (a b : Nat) (hb : b < 2 ^ 128) : ∀ k, k ≤ 128 → gMul (gUp gOne a k) b = gUp b a k
  | 0, _ => gMul_zero' b
  | k + 1, h => by
    rw [gUp, gMul_left, gUp_comm a b hb k (by omega), gUp]
    congr 1
    rw [show gMul (gBit a k * gIter gOne k) b = gBit a k * gMul (gIter gOne k) b from gUp_bit _ _ _ (gBit01 a k) 128, gMul_iter, gMul_one' b hb]
theorem gMul_comm (a b : Nat) (ha : a < 2 ^ 128) (hb : b < 2 ^ 128) : gMul a b = gMul b a := by
  have h := gUp_comm a b hb 128 (Nat.le_refl _)
  rw [show gUp gOne a 128 = a from gMul_one' a ha] at h
  exact h
end Go.Proofs.YthllaoeioddddaaGreat

/- The field with 2^128 elements: powers, squares; squared 128 times an element is as it was; each but 0 has an inverse. Conditions: numbers below 2^128. Nothing is claimed of the program here. -/
namespace Go.Proofs.YthllaoeioddddaaGreat
set_option linter.unusedVariables false

/-- a, multiplied with itself n times. -/
def gPow (a : Nat) : Nat → Nat | 0 => gOne | n + 1 => gMul (gPow a n) a
def gSq (a : Nat) : Nat := gMul a a
/-- Squared k times. -/
def gSqs (a : Nat) : Nat → Nat | 0 => a | k + 1 => gSq (gSqs a k)
/-- The product, for the kernel: k rounds are still to be done. -/
def gLoop (b : Nat) : Nat → Nat → Nat → Nat | 0, a, acc => acc | k + 1, a, acc => gLoop b k (gNext a) (acc ^^^ (b / 2 ^ k % 2 * a))
def gSqF (a : Nat) : Nat := gLoop a 128 a 0
def gSqsF (a : Nat) : Nat → Nat | 0 => a | k + 1 => gSqF (gSqsF a k)
/-- A linear function, told by its values at the powers of x. -/
def gLin (a : Nat) : List Nat → Nat → Nat | [], _ => 0 | v :: l, k => (gBit a k * v) ^^^ gLin a l (k + 1)
/-- Undoes a -> a^2 + a, but for the coefficient of x^0. -/
def gUndo : List Nat := [22349210433241643211303706255459310228, 42781086895802961305837899807692839847, 127851678626037577171681551665634892711, 64161864867486123575827494532326627698, 85316382760920269238759725736663866279, 114910088095513088234682618273958557012, 42894216934927469609366581567841114482, 32564043359013102798989312672802603315, 95950206727199596221990182218906622887, 46326064391129892899928697286047832434, 109593176112373424743067390032837178708, 142223934881672753734463413618344281941, 45552672926497301355174195688401803634, 94354540392079830942767997527157175399, 33893271354798018671893119733082947891, 133492860460135582475628106552095754965, 96614820725092054158442085749046795175, 123504943270841248069084356367027567956, 45993757392183663931702745520977746290, 84108166368187411435240813705953482624, 109427022612900310258954414150302135636, 65334698174074460006561831602428846656, 142140858131936196492406925677076760405, 26944648382676130012539518143993095923, 45594211301365579976202439659035564402, 34751615226583747878589791662865156403, 94333771204645691632253875541840295015, 58594332839845026287895736368243621554, 33882886761080949016636058740424507699, 49689517202507746048320574050840187699, 133487668163277047647999576055766534869, 87518597506017800282691648887090017190, 96617416873521321572256350997211405223, 123492369287794167071922631989304127700, 123506241345055881775991488991109872980, 88394181544543220452557894239097387942, 45994406429290980785156311833018898802, 49921000057622566873658450198655872755, 84108490886741069861967596861974058880, 35809052500604244266195401481916326771, 109427184872177139472317805728312423764, 79569572989071969373811419141996187585, 65334779303712874613243527391433990720, 4726979706471076424241489524707209152, 142140898696755403795747773571579332437, 58275656592714443450777541729474286387, 26944628100266526360869094196741809907, 140308235276560358896028355552301283989, 45594221442570381802037651632661207410, 44935323831971706514111515550899780402, 34751610155981346965672185676052334899, 115575792119390803779456185938199600469, 94333773739946892088712678535246705767, 159324042485362573657552647614603385767, 58594334107495626516125137864946826930, 153238470225796900814681174335121648678, 33882886127255648902521357992072905011, 59792954277794325190837842541115644722, 49689517519420396105377924425015989043, 72978216601350599591347508359916847681, 133487668004820722619470900868678634197, 163309321578052146805450802438263305319, 87518597585245962796955986480633967526, 6161591008139076220601646446843146177, 96617416833907240315124182200439430055, 67288019353279926038130604499846823936, 123492369307601207700488716387690115284, 72992884249465865451566362034747193217, 123506241354959402090274531190302866772, 93226277353508642900164249188457535015, 88394181539591460295416373139500891046, 6116654749483988959971426010360459777, 45994406431766860863727072382817147250, 113870918609522322281985099445019275925, 49921000058860506912943830473554996979, 161537358671016203777973217828391545831, 84108490886122099842324906724524496768, 63089105448741488643398279942380763954, 35809052500294759256374056413191545715, 96504253903287235160744645914913229863, 109427184872331881977228478262674814292, 9537274821874957483351388617584152641, 79569572988994598121356082874814992321, 122557457634345817322758110469731963540, 65334779303751560239471195525024588352, 161542955870533464563010084267448332775, 4726979706490419237355323591502507968, 53639910565545342273528145980335791795, 142140898696765075202304690604976981845, 51613027339492204128265575524803459891, 58275656592719279154056000246173111091, 81071795988965022717357904530596407232, 26944628100264108509229864938392397555, 92325303522414418149753570460923091879, 140308235276559149970208740923126577813, 100983558286137050684044238585428660711, 45594221442569777339127844318073854322, 132003651752985294974180122299820886164, 44935323831972008745566419208193456946, 100972845268357601278728964017462078439, 34751610155981195849944733847405496627, 133436244703473040169882794575366898389, 115575792119390728221592460023876181333, 161752945482599484730126084874801441767, 94333773739946854309780815578084996199, 149021274876537960721224429182834492454, 159324042485362592547018579093184240551, 5725366257701666555538562805218717057, 58594334107495617071392172125656399538, 127777348636302309636952298273557535380, 153238470225796905537047657204766862374, 133385434108064708788808215410435911893, 33882886127255646541338116557250298163, 275464514806027128612938827324864, 59792954277794326371429463258526948146, 12764899024296983899235621676887115841, 49689517519420395515082114066310337331, 126976600203468727039316187211004055892, 72978216601350599296199603180564021825, 108887185710678174598840578861931466132, 133487668004820722767044853458355047125, 126814247099887467207929949960147586332, 163309321578052146879237778733101511783, 72921817864677867521778898634038080609, 87518597585245962833849474628053070758, 71430717218983613641036104277415506289, 6161591008139076202154902373133594561, 0]
def gBack (a : Nat) : Nat := gLin a gUndo 0
def gFree (a : Nat) : Nat := a ^^^ (gBit a 0 * gOne)
/-- The product of a's first k squares (a itself the first). -/
def gProd (a : Nat) : Nat → Nat | 0 => gOne | k + 1 => gMul (gProd a k) (gSqs a k)
/-- The inverse: the product of the squares from the second on. -/
def gInv (a : Nat) : Nat := gProd (gSq a) 127
end Go.Proofs.YthllaoeioddddaaGreat

/- Rows of coefficients and 128-bit numbers: products as the reference of layer 4 makes them. No conditions; nothing is claimed of the program here. -/
namespace Go.Proofs.YthllaoeioddddaaGreat
set_option linter.unusedVariables false

/-- The sum of x^p over the first n numbers p with F p. -/
def gVal (F : Nat → Bool) : Nat → Nat | 0 => 0 | n + 1 => gVal F n ^^^ (if F n then gIter gOne n else 0)
theorem gVal_xor (F G : Nat → Bool) : ∀ n, gVal (fun p => F p != G p) n = gVal F n ^^^ gVal G n
  | 0 => by simp [gVal]
  | n + 1 => by
    rw [gVal, gVal, gVal, gVal_xor F G n, xor4]
    congr 1
    cases F n <;> cases G n <;> simp
theorem gVal_and (c : Bool) (G : Nat → Bool) : ∀ n, gVal (fun p => c && G p) n = if c then gVal G n else 0
  | 0 => by cases c <;> rfl
  | n + 1 => by
    rw [gVal, gVal_and c G n]
    cases c <;> simp [gVal]
theorem gVal_none (F : Nat → Bool) : ∀ n, (∀ p, p < n → F p = false) → gVal F n = 0
  | 0, _ => rfl
  | n + 1, h => by rw [gVal, gVal_none F n (fun p hp => h p (by omega)), h n (by omega)]; simp
theorem gVal_congr (F G : Nat → Bool) : ∀ n, (∀ p, p < n → F p = G p) → gVal F n = gVal G n
  | 0, _ => rfl
  | n + 1, h => by rw [gVal, gVal, gVal_congr F G n (fun p hp => h p (by omega)), h n (by omega)]
theorem gVal_one (q : Nat) : ∀ n, q < n → gVal (fun p => p == q) n = gIter gOne q
  | 0, h => by omega
  | n + 1, h => by
    rw [gVal]
    by_cases e : n = q
    · subst e
      rw [gVal_none _ n (fun p hp => beq_eq_false_iff_ne.2 (by omega))]
      simp
    · rw [gVal_one q n (by omega)]
      have : (n == q) = false := beq_eq_false_iff_ne.2 e
      simp [this]
theorem gVal_cut (F : Nat → Bool) (m : Nat) : ∀ n, (∀ p, m ≤ p → p < m + n → F p = false) → gVal F (m + n) = gVal F m
  | 0, _ => rfl
  | n + 1, h => by
    rw [show m + (n + 1) = (m + n) + 1 by omega, gVal, gVal_cut F m n (fun p h1 h2 => h p h1 (by omega)), h (m + n) (by omega) (by omega)]
    simp
/-- Coefficients moved by i. -/
theorem gVal_move (B : Nat → Bool) (i : Nat) : ∀ n, gVal (fun p => decide (i ≤ p) && B (p - i)) (i + n) = gIter (gVal B n) i
  | 0 => by
    rw [gVal_none _ _ (fun p hp => by simp; omega)]
    exact (gIter_zero i).symm
  | n + 1 => by
    rw [show i + (n + 1) = (i + n) + 1 by omega, gVal, gVal_move B i n, gVal, gIter_xor]
    congr 1
    rw [show i + n - i = n by omega, decide_eq_true (show i ≤ i + n by omega), Bool.true_and]
    cases B n
    · simp [gIter_zero]
    · simp only [if_true]
      rw [← gIter_add, Nat.add_comm]
/-- What i rounds of the product leave. -/
def cvF (A B : Nat → Bool) : Nat → Nat → Bool | 0, _ => false | i + 1, p => cvF A B i p != (A i && (decide (i ≤ p) && (decide (p < i + 128) && B (p - i))))
theorem cvF_val (A B : Nat → Bool) : ∀ i, i ≤ 128 → gVal (cvF A B i) 255 = gUp (gVal B 128) (gVal A 128) i → (∀ p, p < 128 → gBit (gVal A 128) p = if A p then 1 else 0) → i < 128 → gVal (cvF A B (i + 1)) 255 = gUp (gVal B 128) (gVal A 128) (i + 1) := by
  intro i hi ih hbit hlt
  have e : cvF A B (i + 1) = fun p => cvF A B i p != (A i && (decide (i ≤ p) && (decide (p < i + 128) && B (p - i)))) := rfl
  rw [e, gVal_xor, ih, gUp]
  refine congrArg (fun z => gUp (gVal B 128) (gVal A 128) i ^^^ z) ?_
  rw [gVal_and, hbit i hlt]
  have h2 : gVal (fun p => decide (i ≤ p) && (decide (p < i + 128) && B (p - i))) 255 = gIter (gVal B 128) i := by
    rw [← gVal_move B i 128]
    have h3 : gVal (fun p => decide (i ≤ p) && (decide (p < i + 128) && B (p - i))) ((i + 128) + (127 - i)) = gVal (fun p => decide (i ≤ p) && (decide (p < i + 128) && B (p - i))) (i + 128) := gVal_cut _ (i + 128) (127 - i) (fun p h1 _ => by
      rw [decide_eq_false (show ¬ p < i + 128 by omega)]; simp)
    rw [show i + 128 + (127 - i) = 255 by omega] at h3
    rw [h3]
    exact gVal_congr _ _ _ (fun p hp => by rw [decide_eq_true hp, Bool.true_and])
  rw [h2]
  cases A i <;> simp
/-- A multiple of the modulus. -/
def modE (k p : Nat) : Bool := (p == k) != ((p == k - 128) != ((p == k - 127) != ((p == k - 126) != (p == k - 121))))
theorem mod_iter (m : Nat) : gIter gOne (m + 128) = gIter gOne m ^^^ (gIter gOne (m + 1) ^^^ (gIter gOne (m + 2) ^^^ gIter gOne (m + 7))) := by
  have h : gIter gOne 128 = gOne ^^^ (gIter gOne 1 ^^^ (gIter gOne 2 ^^^ gIter gOne 7)) := by decide +kernel
  rw [Nat.add_comm m 128, gIter_add, h, gIter_xor, gIter_xor, gIter_xor, ← gIter_add, ← gIter_add, ← gIter_add, Nat.add_comm 1 m, Nat.add_comm 2 m, Nat.add_comm 7 m]
theorem mod_val (k : Nat) (h1 : 128 ≤ k) (h2 : k < 255) : gVal (modE k) 255 = 0 := by
  have e : modE k = fun p => (p == k) != ((p == k - 128) != ((p == k - 127) != ((p == k - 126) != (p == k - 121)))) := rfl
  rw [e, gVal_xor, gVal_xor, gVal_xor, gVal_xor, gVal_one k 255 h2, gVal_one (k - 128) 255 (by omega), gVal_one (k - 127) 255 (by omega), gVal_one (k - 126) 255 (by omega), gVal_one (k - 121) 255 (by omega)]
  have := mod_iter (k - 128)
  rw [show k - 128 + 128 = k by omega, show k - 128 + 1 = k - 127 by omega, show k - 128 + 2 = k - 126 by omega, show k - 128 + 7 = k - 121 by omega] at this
  rw [this, Nat.xor_self]
/-- One round of the remainder; all rounds down to k. -/
def rdF (F : Nat → Bool) (k p : Nat) : Bool := F p != (F k && modE k p)
theorem rdF_val (F : Nat → Bool) (k : Nat) (h1 : 128 ≤ k) (h2 : k < 255) : gVal (rdF F k) 255 = gVal F 255 := by
  have e : rdF F k = fun p => F p != (F k && modE k p) := rfl
  rw [e, gVal_xor, gVal_and, mod_val k h1 h2]
  cases F k <;> simp
def rdUp (F : Nat → Bool) : Nat → Nat → Bool | 0 => F | m + 1 => rdF (rdUp F m) (254 - m)
theorem rdUp_val (F : Nat → Bool) : ∀ m, m ≤ 127 → gVal (rdUp F m) 255 = gVal F 255
  | 0, _ => rfl
  | m + 1, h => by rw [rdUp, rdF_val _ _ (by omega) (by omega), rdUp_val F m (by omega)]
theorem modE_above (k p : Nat) (hp : k < p) : modE k p = false := by
  unfold modE
  rw [beq_eq_false_iff_ne.2 (show p ≠ k by omega), beq_eq_false_iff_ne.2 (show p ≠ k - 128 by omega), beq_eq_false_iff_ne.2 (show p ≠ k - 127 by omega), beq_eq_false_iff_ne.2 (show p ≠ k - 126 by omega), beq_eq_false_iff_ne.2 (show p ≠ k - 121 by omega)]
  rfl
theorem modE_self (k : Nat) (h : 128 ≤ k) : modE k k = true := by
  unfold modE
  rw [beq_eq_false_iff_ne.2 (show k ≠ k - 128 by omega), beq_eq_false_iff_ne.2 (show k ≠ k - 127 by omega), beq_eq_false_iff_ne.2 (show k ≠ k - 126 by omega), beq_eq_false_iff_ne.2 (show k ≠ k - 121 by omega)]
  simp
theorem rdUp_top (F : Nat → Bool) : ∀ m, m ≤ 127 → ∀ p, 254 - m < p → p < 255 → rdUp F m p = false
  | 0, _, p, h1, h2 => by omega
  | m + 1, h, p, h1, h2 => by
    rw [rdUp]
    unfold rdF
    by_cases e : p = 254 - m
    · subst e
      rw [modE_self _ (by omega)]
      simp
    · rw [rdUp_top F m (by omega) p (by omega) h2, modE_above _ _ (by omega)]
      simp
theorem gBit_gE (k p : Nat) (hk : k < 128) (hp : p < 128) : gBit (gE k) p = if p = k then 1 else 0 := by
  unfold gBit gE
  by_cases h : p = k
  · subst h
    rw [if_pos rfl, Nat.div_self (Nat.pow_pos (by omega))]
  · rw [if_neg h]
    rcases Nat.lt_or_ge p k with h1 | h1
    · rw [Nat.div_eq_of_lt (Nat.pow_lt_pow_right (by omega) (by omega))]
    · obtain ⟨d, hd⟩ : ∃ d, 127 - k = (127 - p) + (d + 1) := ⟨p - k - 1, by omega⟩
      rw [hd, Nat.pow_add, Nat.mul_comm, Nat.mul_div_cancel _ (Nat.pow_pos (by omega)), Nat.pow_succ]
      omega
theorem gBit_zero (p : Nat) : gBit 0 p = 0 := by unfold gBit; rw [Nat.zero_div]
theorem gBit_val (F : Nat → Bool) (p : Nat) (hp : p < 128) : ∀ n, n ≤ 128 → gBit (gVal F n) p = if p < n ∧ F p = true then 1 else 0
  | 0, _ => by rw [gVal, gBit_zero, if_neg (by omega)]
  | n + 1, h => by
    rw [gVal, gBit_xor, gBit_val F p hp n (by omega)]
    cases hF : F n
    · simp only [Bool.false_eq_true, if_false, gBit_zero, Nat.add_zero]
      by_cases e : p = n
      · subst e; rw [if_neg (by simp), if_neg (by simp [hF])]
      · by_cases h1 : p < n ∧ F p = true
        · rw [if_pos h1, if_pos ⟨by omega, h1.2⟩]
        · rw [if_neg h1, if_neg (fun h2 => h1 ⟨by omega, h2.2⟩)]
    · simp only [if_true]
      rw [gE_iter n (by omega), gBit_gE n p (by omega) hp]
      by_cases e : p = n
      · subst e; rw [if_neg (by simp), if_pos rfl, if_pos ⟨by omega, hF⟩]
      · rw [if_neg e]
        by_cases h1 : p < n ∧ F p = true
        · rw [if_pos h1, if_pos ⟨by omega, h1.2⟩]
        · rw [if_neg h1, if_neg (fun h2 => h1 ⟨by omega, h2.2⟩)]
theorem gVal_lt (F : Nat → Bool) : ∀ n, gVal F n < 2 ^ 128
  | 0 => by rw [gVal]; decide
  | n + 1 => by
    rw [gVal]
    refine Nat.xor_lt_two_pow (gVal_lt F n) ?_
    split
    · exact gIter_lt gOne (by decide) n
    · decide
/-- A number's coefficients. -/
def coF (x p : Nat) : Bool := gBit x p == 1
theorem co_val (x : Nat) (hx : x < 2 ^ 128) : gVal (coF x) 128 = x := by
  have h : ∀ n, n ≤ 128 → gVal (coF x) n = gUp gOne x n := by
    intro n
    induction n with
    | zero => intro _; rfl
    | succ n ih =>
      intro hn
      rw [gVal, gUp, ih (by omega)]
      congr 1
      unfold coF
      rcases gBit01 x n with h | h <;> rw [h] <;> simp
  rw [h 128 (by omega)]
  exact gMul_one' x hx
theorem val_co (F : Nat → Bool) (p : Nat) (hp : p < 128) : coF (gVal F 128) p = F p := by
  unfold coF
  rw [gBit_val F p hp 128 (by omega)]
  cases hF : F p
  · rw [if_neg (by simp)]; rfl
  · rw [if_pos ⟨hp, rfl⟩]; rfl
theorem cv_all (A B : Nat → Bool) : ∀ i, i ≤ 128 → gVal (cvF A B i) 255 = gUp (gVal B 128) (gVal A 128) i
  | 0, _ => by rw [gUp]; exact gVal_none _ _ (fun p _ => rfl)
  | i + 1, h => cvF_val A B i (by omega) (cv_all A B i (by omega)) (fun p hp => by
      rw [gBit_val A p hp 128 (by omega)]
      cases hA : A p
      · rw [if_neg (by simp)]; simp
      · rw [if_pos ⟨hp, rfl⟩]; simp) (by omega)
/-- The product's coefficients are those that the reference leaves. -/
theorem prod_co (A B : Nat → Bool) (p : Nat) (hp : p < 128) : rdUp (cvF A B 128) 127 p = coF (gMul (gVal A 128) (gVal B 128)) p := by
  have h1 := rdUp_val (cvF A B 128) 127 (by omega)
  rw [cv_all A B 128 (by omega)] at h1
  have h2 : gVal (rdUp (cvF A B 128) 127) (128 + 127) = gVal (rdUp (cvF A B 128) 127) 128 := gVal_cut _ 128 127 (fun q h3 h4 => rdUp_top _ 127 (by omega) q (by omega) (by omega))
  rw [show 128 + 127 = 255 from rfl] at h2
  rw [gMul_comm _ _ (gVal_lt A 128) (gVal_lt B 128)]
  have h3 : gVal (rdUp (cvF A B 128) 127) 128 = gMul (gVal B 128) (gVal A 128) := by rw [← h2, h1]; rfl
  rw [← h3, val_co _ p hp]
end Go.Proofs.YthllaoeioddddaaGreat

/- The reference of layer 4 (poly): products. No conditions. -/
namespace Go.Proofs.YthllaoeioddddaaGreat
open Go.RowKit
set_option linter.unusedVariables false

/-- Coefficients as a list. -/
def fl (n : Nat) (F : Nat → Bool) : List Bool := (List.range n).map F
theorem fl_len (n : Nat) (F : Nat → Bool) : (fl n F).length = n := by simp [fl]
theorem fl_at (n : Nat) (F : Nat → Bool) (p : Nat) (hp : p < n) : (fl n F)[p]? = some (F p) := by simp [fl, hp]
theorem fl_congr (n : Nat) (F G : Nat → Bool) (h : ∀ p, p < n → F p = G p) : fl n F = fl n G := by
  unfold fl
  exact List.map_congr_left (fun p hp => h p (List.mem_range.1 hp))
def upB (F : Nat → Bool) (k : Nat) (v : Bool) (p : Nat) : Bool := if p = k then v else F p
theorem fl_set (n : Nat) (F : Nat → Bool) (k : Nat) (v : Bool) (hk : k < n) : (fl n F).set k v = fl n (upB F k v) := by
  apply List.ext_getElem?
  intro j
  rw [List.getElem?_set, fl_len]
  by_cases hj : j < n
  · rw [fl_at n _ j hj, fl_at n _ j hj]
    unfold upB
    by_cases e : k = j
    · subst e; rw [if_pos rfl, if_pos hj, if_pos rfl]
    · rw [if_neg e, if_neg (fun h => e h.symm)]
  · rw [List.getElem?_eq_none (by rw [fl_len]; omega), List.getElem?_eq_none (by rw [fl_len]; omega)]
    by_cases e : k = j
    · omega
    · rw [if_neg e]
theorem Br.put {w : World} {g n : Nat} {F : Nat → Bool} (h : Br w g 0 (fl n F)) (k : Nat) (v : Bool) (hk : k < n) : Br (w.setCell ⟨g, k, none⟩ (.bool v)) g 0 (fl n (upB F k v)) := by
  have h1 := h.set (k := k) (by rw [fl_len]; exact hk) v
  rw [fl_set n F k v hk, Nat.zero_add] at h1
  exact h1
theorem Br.get {w : World} {g n : Nat} {F : Nat → Bool} (h : Br w g 0 (fl n F)) (k : Nat) (hk : k < n) : w.cell? ⟨g, k, none⟩ = some (.bool (F k)) ∧ w.frozen? ⟨g, k, none⟩ = false := by
  have h1 := h.cell (fl_at n F k hk)
  have h2 := h.free (j := k) (by rw [fl_len]; exact hk)
  rw [Nat.zero_add] at h1 h2
  exact ⟨h1, h2⟩
theorem Br.like {w : World} {g n : Nat} {F G : Nat → Bool} (h : Br w g 0 (fl n F)) (e : ∀ p, p < n → F p = G p) : Br w g 0 (fl n G) := by rw [← fl_congr n F G e]; exact h
def zN : List Bool := List.replicate 255 false
theorem zN_len : zN.length = 255 := List.length_replicate
theorem zN_fl : zN = fl 255 (fun _ => false) := by
  apply List.ext_getElem?
  intro j
  by_cases hj : j < 255
  · rw [fl_at 255 _ j hj]; unfold zN; rw [List.getElem?_replicate, if_pos hj]
  · rw [List.getElem?_eq_none (by rw [zN_len]; omega), List.getElem?_eq_none (by rw [fl_len]; omega)]
theorem zero_255 (w : World) : (zeroValue 229).run Tryz.prog w = .ok (.agg (tvs zN).toArray) w := by
  have h : (Tryz.prog.info? 229).bind (·.zero) = some (.agg (tvs zN).toArray) := by kernel_rfl
  rcases hi : Tryz.prog.info? 229 with _ | i
  · rw [hi] at h; simp at h
  · rw [hi] at h
    have hz : i.zero = some (.agg (tvs zN).toArray) := h
    simp [zeroValue, typeInfo, hi, hz]
theorem built_255 : Tryz.prog.built 229 [] = some (tvs zN).toArray := by kernel_rfl
theorem sz_255 : (Tryz.prog.info? 229).map (·.size) = some 255 := by kernel_rfl
/-- A row being added, k coefficients in. -/
def cvI (A B : Nat → Bool) (i k p : Nat) : Bool := if i ≤ p ∧ p < i + k then cvF A B i p != B (p - i) else cvF A B i p
theorem cvI_step (A B : Nat → Bool) (i k p : Nat) : upB (cvI A B i k) (i + k) (cvI A B i k (i + k) != B k) p = cvI A B i (k + 1) p := by
  unfold upB cvI
  by_cases e : p = i + k
  · subst e
    rw [if_pos rfl, if_neg (by omega), if_pos (by omega), show i + k - i = k by omega]
  · rw [if_neg e]
    by_cases h : i ≤ p ∧ p < i + k
    · rw [if_pos h, if_pos (by omega)]
    · rw [if_neg h, if_neg (by omega)]
theorem cvI_zero (A B : Nat → Bool) (i p : Nat) : cvI A B i 0 p = cvF A B i p := by unfold cvI; rw [if_neg (by omega)]
theorem cvI_all (A B : Nat → Bool) (i p : Nat) (h : A i = true) : cvI A B i 128 p = cvF A B (i + 1) p := by
  unfold cvI
  rw [cvF, h, Bool.true_and]
  by_cases h1 : i ≤ p
  · by_cases h2 : p < i + 128
    · rw [if_pos ⟨h1, h2⟩, decide_eq_true h1, decide_eq_true h2]; simp
    · rw [if_neg (by omega), decide_eq_false h2]; simp
  · rw [if_neg (by omega), decide_eq_false h1]; simp
theorem cvF_skip (A B : Nat → Bool) (i p : Nat) (h : A i = false) : cvF A B i p = cvF A B (i + 1) p := by rw [cvF, h]; simp
theorem rd_flip (F : Nat → Bool) (k p : Nat) (hk : 128 ≤ k) (h : F k = true) :
    upB (upB (upB (upB (upB F k false) (k - 128) (!F (k - 128))) (k - 127) (!F (k - 127))) (k - 126) (!F (k - 126))) (k - 121) (!F (k - 121)) p = rdF F k p := by
  unfold upB rdF modE
  rw [h, Bool.true_and]
  by_cases e1 : p = k - 121
  · rw [if_pos e1, e1]
    rw [beq_eq_false_iff_ne.2 (show k - 121 ≠ k by omega), beq_eq_false_iff_ne.2 (show k - 121 ≠ k - 128 by omega), beq_eq_false_iff_ne.2 (show k - 121 ≠ k - 127 by omega), beq_eq_false_iff_ne.2 (show k - 121 ≠ k - 126 by omega)]
    simp
  · rw [if_neg e1, beq_eq_false_iff_ne.2 e1]
    by_cases e2 : p = k - 126
    · rw [if_pos e2, e2]
      rw [beq_eq_false_iff_ne.2 (show k - 126 ≠ k by omega), beq_eq_false_iff_ne.2 (show k - 126 ≠ k - 128 by omega), beq_eq_false_iff_ne.2 (show k - 126 ≠ k - 127 by omega)]
      simp
    · rw [if_neg e2, beq_eq_false_iff_ne.2 e2]
      by_cases e3 : p = k - 127
      · rw [if_pos e3, e3]
        rw [beq_eq_false_iff_ne.2 (show k - 127 ≠ k by omega), beq_eq_false_iff_ne.2 (show k - 127 ≠ k - 128 by omega)]
        simp
      · rw [if_neg e3, beq_eq_false_iff_ne.2 e3]
        by_cases e4 : p = k - 128
        · rw [if_pos e4, e4]
          rw [beq_eq_false_iff_ne.2 (show k - 128 ≠ k by omega)]
          simp
        · rw [if_neg e4, beq_eq_false_iff_ne.2 e4]
          by_cases e5 : p = k
          · subst e5; rw [if_pos rfl, h]; simp
          · rw [if_neg e5, beq_eq_false_iff_ne.2 e5]; simp
attribute [local irreducible] cvF rdUp rdF cvI

set_option maxRecDepth 100000 in
set_option maxHeartbeats 4000000 in
theorem pmul_any (A B : Nat → Bool) (w : World) :
    Calls Tryz.prog 141 #[BV (fl 128 A), BV (fl 128 B)] w (RetT (fl 128 (coF (gMul (gVal A 128) (gVal B 128)))) w) := by
  obtain ⟨LA, HLA⟩ : ∃ L, Hid (L = fl 128 A) := ⟨_, Lib.hid rfl⟩
  obtain ⟨LB, HLB⟩ : ∃ L, Hid (L = fl 128 B) := ⟨_, Lib.hid rfl⟩
  obtain ⟨R, HR⟩ : ∃ R, Hid (R = fl 128 (coF (gMul (gVal A 128) (gVal B 128)))) := ⟨_, Lib.hid rfl⟩
  rw [← HR.out, ← HLA.out, ← HLB.out]
  have HRD : Hid (R = fl 128 (rdUp (cvF A B 128) 127)) := Lib.hid (by rw [HR.out]; exact fl_congr 128 _ _ (fun p hp => (prod_co A B p hp).symm))
  have hz := zero_poly
  have hz2 := zero_255
  obtain ⟨G, HG⟩ : ∃ G, Hid (G = w.heap.size) := ⟨_, Lib.hid rfl⟩
  obtain ⟨W3, HW3⟩ : ∃ W3, Hid (W3 = V3 LA LB zP 167 w) := ⟨_, Lib.hid rfl⟩
  have HN : Hid (Br ((V3 LA LB zP 167 w).alloc (.cells (tvs zN).toArray 229)) (w.heap.size + 1 + 1 + 1) 0 zN) := Lib.hid (Br.new1 _ _ (by unfold V3; simp) zN _)
  go_enter Tryz.func141, Tryz.ntmps141
  go_wp2_with (first | (refine wpList_boxT rfl _ (.tmp 0) rfl LA rfl ?_) | (refine wpList_boxT rfl _ (.tmp 1) rfl LB rfl ?_) | (refine wpList_built0 rfl _ rfl zN built_255 ?_) | (refine wpList_stT rfl _ (.tmp 5) (.tmp 11) rfl (w.heap.size + 1 + 1 + 1) 0 rfl zN zN rfl (by exact HN.out) rfl (by rw [zN_len]; exact sz_255) ?_))
  obtain ⟨W0, HW0⟩ : ∃ W0, Hid (W0 = ((V3 LA LB zP 167 w).alloc (.cells (tvs zN).toArray 229)).setCells (w.heap.size + 1 + 1 + 1) 0 (tvs zN)) := ⟨_, Lib.hid rfl⟩
  show Code.wp _ _ _ _ (((V3 LA LB zP 167 w).alloc (.cells (tvs zN).toArray 229)).setCells (w.heap.size + 1 + 1 + 1) 0 (tvs zN))
  have hs3 : (V3 LA LB zP 167 w).heap.size = w.heap.size + 1 + 1 + 1 := by unfold V3; simp
  have HB0 : Hid (Below w.heap.size w W0) := Lib.hid (by rw [HW0.out]; exact below_setCells ((v3_below _ _ _ _ w).alloc (by rw [hs3]; omega) _) (by omega) _ _)
  have HA0 : Hid (Br W0 G 0 (fl 128 A)) := Lib.hid (by rw [HW0.out, HG.out, ← HLA.out]; exact ((v3_0 _ _ _ _ w).alloc (by rw [hs3]; omega) _).setCells (by omega) _ _)
  have HBB0 : Hid (Br W0 (G + 1) 0 (fl 128 B)) := Lib.hid (by rw [HW0.out, HG.out, ← HLB.out]; exact ((v3_1 _ _ _ _ w).alloc (by rw [hs3]; omega) _).setCells (by omega) _ _)
  have HC0 : Hid (Br W0 (G + 1 + 1) 0 zP) := Lib.hid (by rw [HW0.out, HG.out]; exact ((v3_2 _ _ _ _ w).alloc (by rw [hs3]; omega) _).setCells (by omega) _ _)
  have HN0 : Hid (Br W0 (G + 1 + 1 + 1) 0 (fl 255 (cvF A B 0))) := Lib.hid (by
    have h : Br W0 (G + 1 + 1 + 1) 0 zN := by rw [HW0.out, HG.out]; exact HN.out.whole zN rfl
    rw [zN_fl] at h
    exact h.like (fun p _ => by unfold cvF; rfl))
  rw [← HW0.out, ← HG.out]
  clear HN hs3
  go_loopw [6] (fun t wr => ∃ i : Nat, i ≤ 128 ∧ t = .int .i64 i ∧ Hid (Br wr G 0 (fl 128 A)) ∧ Hid (Br wr (G + 1) 0 (fl 128 B)) ∧ Hid (Br wr (G + 1 + 1) 0 zP) ∧ Hid (Br wr (G + 1 + 1 + 1) 0 (fl 255 (cvF A B i))) ∧ Hid (Below w.heap.size w wr)) (fun t _ => 128 - (intOf t).toNat)
  case atStart => exact ⟨0, by omega, rfl, HA0, HBB0, HC0, HN0, HB0⟩
  case round =>
    obtain ⟨i, hi, rfl, ha, hbb, hc, hn, hb⟩ := hrel
    clear HA0 HBB0 HC0 HN0 HB0
    by_cases hlt : i < 128
    · obtain ⟨ca, _⟩ := ha.out.get i hlt
      have hd : decide ((i : Int) < 128) = true := decide_eq_true (by omega)
      cases hA : A i
      · rw [hA] at ca
        go_wp2_with fail
        go_roundw
        case rel => exact ⟨i + 1, by omega, by go_num, ha, hbb, hc, Lib.hid (hn.out.like (fun p _ => cvF_skip A B i p hA)), hb⟩
        case measure => simp [intOf]; omega
      · rw [hA] at ca
        go_wp2_with fail
        clear ca
        go_loopw [7] (fun t ws => ∃ k : Nat, k ≤ 128 ∧ t = .int .i64 k ∧ Hid (Br ws G 0 (fl 128 A)) ∧ Hid (Br ws (G + 1) 0 (fl 128 B)) ∧ Hid (Br ws (G + 1 + 1) 0 zP) ∧ Hid (Br ws (G + 1 + 1 + 1) 0 (fl 255 (cvI A B i k))) ∧ Hid (Below w.heap.size w ws)) (fun t _ => 128 - (intOf t).toNat)
        case atStart => exact ⟨0, by omega, rfl, ha, hbb, hc, Lib.hid (hn.out.like (fun p _ => (cvI_zero A B i p).symm)), hb⟩
        case round =>
          clear ha hbb hc hn hb
          obtain ⟨k, hk, rfl, ha, hbb, hc, hn, hb⟩ := hrel
          by_cases hlt2 : k < 128
          · have b1 : IntKind.i64.wrap ((i : Int) + (k : Int)) = ((i + k : Nat) : Int) := by rw [IntWalk.i64_in _ (by omega)]; omega
            obtain ⟨q, HQ, hq⟩ : ∃ q : Nat, Hid (q = i + k) ∧ q < 255 := ⟨_, Lib.hid rfl, by omega⟩
            rw [← HQ.out] at b1
            have b2 : (0 : Int) ≤ (q : Int) := by omega
            have b3 : (q : Int) < 255 := by omega
            obtain ⟨cn, fn⟩ := hn.out.get q hq
            obtain ⟨cb, _⟩ := hbb.out.get k hlt2
            obtain ⟨x, HX⟩ : ∃ x, Hid (x = cvI A B i k q) := ⟨_, Lib.hid rfl⟩
            obtain ⟨y, HY⟩ : ∃ y, Hid (y = B k) := ⟨_, Lib.hid rfl⟩
            rw [← HX.out] at cn
            rw [← HY.out] at cb
            go_wp2_with fail
            go_region_with (fail)
            all_goals
              go_wp2
              go_roundw
              case rel =>
                have h1 := hn.out.drew.put q (x != y) hq
                have h2 := h1.like (G := cvI A B i (k + 1)) (fun p _ => by rw [HX.out, HY.out, HQ.out]; exact cvI_step A B i k p)
                exact ⟨k + 1, by omega, by go_num, Lib.hid (ha.out.drew.setCell (by show G + 1 + 1 + 1 ≠ G; omega) _), Lib.hid (hbb.out.drew.setCell (by show G + 1 + 1 + 1 ≠ G + 1; omega) _), Lib.hid (hc.out.drew.setCell (by show G + 1 + 1 + 1 ≠ G + 1 + 1; omega) _), Lib.hid h2, Lib.hid (hb.out.drew.setCell (by rw [HG.out]; show w.heap.size ≤ w.heap.size + 1 + 1 + 1; omega) _)⟩
              case measure => simp [intOf]; omega
          · obtain rfl : k = 128 := by omega
            have e4 : ((128 : Nat) : Int) = 128 := rfl
            rw [e4]
            clear e4
            go_wp2_with fail
            go_roundw
            case rel => exact ⟨i + 1, by omega, by go_num, ha, hbb, hc, Lib.hid (hn.out.like (fun p _ => cvI_all A B i p hA)), hb⟩
            case measure => simp [intOf]; omega
    · obtain rfl : i = 128 := by omega
      have e4 : ((128 : Nat) : Int) = 128 := rfl
      rw [e4]
      clear e4
      obtain ⟨C, HC⟩ : ∃ C, Hid (C = cvF A B 128) := ⟨_, Lib.hid rfl⟩
      rw [← HC.out] at hn HRD
      have HN1 : Hid (Br wr (G + 1 + 1 + 1) 0 (fl 255 (rdUp C 0))) := Lib.hid (hn.out.like (fun p _ => by unfold rdUp; rfl))
      clear hn ha hbb
      go_wp2_with fail
      go_loopw [8] (fun t ws => ∃ m : Nat, m ≤ 127 ∧ t = .int .i64 ((254 - m : Nat) : Int) ∧ Hid (Br ws (G + 1 + 1) 0 zP) ∧ Hid (Br ws (G + 1 + 1 + 1) 0 (fl 255 (rdUp C m))) ∧ Hid (Below w.heap.size w ws)) (fun t _ => (intOf t).toNat)
      case atStart => exact ⟨0, by omega, rfl, hc, HN1, hb⟩
      case round =>
        clear hc hb HN1
        obtain ⟨m, hm, rfl, hc, hn, hb⟩ := hrel
        obtain ⟨k, HK, hk1, hk2⟩ : ∃ k : Nat, Hid (k = 254 - m) ∧ 127 ≤ k ∧ k ≤ 254 := ⟨_, Lib.hid rfl, by omega, by omega⟩
        rw [← HK.out]
        obtain ⟨F, HF⟩ : ∃ F, Hid (F = rdUp C m) := ⟨_, Lib.hid rfl⟩
        rw [← HF.out] at hn
        by_cases hlt : 128 ≤ k
        · have hk255 : k < 255 := by omega
          have hd : decide ((k : Int) ≥ 128) = true := decide_eq_true (by omega)
          have hsub : IntKind.i64.wrap ((k : Int) - 1) = ((254 - (m + 1) : Nat) : Int) := by rw [IntWalk.i64_in _ (by omega), HK.out]; omega
          obtain ⟨ck, fk⟩ := hn.out.get k hk255
          cases hFk : F k
          · rw [hFk] at ck
            go_wp2_with fail
            go_roundw
            case rel => exact ⟨m + 1, by have := HK.out; omega, by rw [show 254 - (m + 1) = 253 - m by omega], hc, Lib.hid (hn.out.like (fun p _ => by rw [rdUp, ← HF.out, ← HK.out]; unfold rdF; rw [hFk]; simp)), hb⟩
            case measure => have h0 := HK.out; simp [intOf]; omega
          · rw [hFk] at ck
            have mk : ∀ d : Nat, 0 < d → d ≤ 128 → ∃ a : Nat, Hid (a = k - d) ∧ a < 255 ∧ IntKind.i64.wrap ((k : Int) - (d : Int)) = ((a : Nat) : Int) := fun d h1 h2 => ⟨k - d, Lib.hid rfl, by omega, by rw [IntWalk.i64_in _ (by omega)]; omega⟩
            obtain ⟨a0, HA0, la0, b0⟩ := mk 128 (by omega) (by omega)
            obtain ⟨a1, HA1, la1, b1⟩ := mk 127 (by omega) (by omega)
            obtain ⟨a2, HA2, la2, b2⟩ := mk 126 (by omega) (by omega)
            obtain ⟨a3, HA3, la3, b3⟩ := mk 121 (by omega) (by omega)
            clear mk
            have H1 := Lib.hid (hn.out.put k false hk255)
            have e0 : upB F k false a0 = F a0 := by unfold upB; rw [if_neg (by have := HA0.out; omega)]
            obtain ⟨c0, f0⟩ := H1.out.get a0 la0
            rw [e0] at c0
            have H2 := Lib.hid (H1.out.put a0 (!F a0) la0)
            have e1 : upB (upB F k false) a0 (!F a0) a1 = F a1 := by unfold upB; rw [if_neg (by have := HA0.out; have := HA1.out; omega), if_neg (by have := HA1.out; omega)]
            obtain ⟨c1, f1⟩ := H2.out.get a1 la1
            rw [e1] at c1
            have H3 := Lib.hid (H2.out.put a1 (!F a1) la1)
            have e2 : upB (upB (upB F k false) a0 (!F a0)) a1 (!F a1) a2 = F a2 := by unfold upB; rw [if_neg (by have := HA1.out; have := HA2.out; omega), if_neg (by have := HA0.out; have := HA2.out; omega), if_neg (by have := HA2.out; omega)]
            obtain ⟨c2, f2⟩ := H3.out.get a2 la2
            rw [e2] at c2
            have H4 := Lib.hid (H3.out.put a2 (!F a2) la2)
            have e3 : upB (upB (upB (upB F k false) a0 (!F a0)) a1 (!F a1)) a2 (!F a2) a3 = F a3 := by unfold upB; rw [if_neg (by have := HA2.out; have := HA3.out; omega), if_neg (by have := HA1.out; have := HA3.out; omega), if_neg (by have := HA0.out; have := HA3.out; omega), if_neg (by have := HA3.out; omega)]
            obtain ⟨c3, f3⟩ := H4.out.get a3 la3
            rw [e3] at c3
            have H5 := Lib.hid (H4.out.put a3 (!F a3) la3)
            have HF5 : Hid (∀ p, upB (upB (upB (upB (upB F k false) a0 (!F a0)) a1 (!F a1)) a2 (!F a2)) a3 (!F a3) p = rdUp C (m + 1) p) := Lib.hid (fun p => by
              rw [HA0.out, HA1.out, HA2.out, HA3.out, rd_flip F k p hlt hFk, rdUp, ← HF.out, ← HK.out])
            clear e0 e1 e2 e3
            have b0' : IntKind.i64.wrap ((k : Int) - 128) = ((a0 : Nat) : Int) := b0
            have b1' : IntKind.i64.wrap ((k : Int) - 127) = ((a1 : Nat) : Int) := b1
            have b2' : IntKind.i64.wrap ((k : Int) - 126) = ((a2 : Nat) : Int) := b2
            have b3' : IntKind.i64.wrap ((k : Int) - 121) = ((a3 : Nat) : Int) := b3
            clear b0 b1 b2 b3
            obtain ⟨x0, hx0⟩ : ∃ x, Hid (x = F a0) := ⟨_, Lib.hid rfl⟩
            obtain ⟨x1, hx1⟩ : ∃ x, Hid (x = F a1) := ⟨_, Lib.hid rfl⟩
            obtain ⟨x2, hx2⟩ : ∃ x, Hid (x = F a2) := ⟨_, Lib.hid rfl⟩
            obtain ⟨x3, hx3⟩ : ∃ x, Hid (x = F a3) := ⟨_, Lib.hid rfl⟩
            rw [← hx0.out] at c0 c1 f1 c2 f2 c3 f3
            rw [← hx1.out] at c1 c2 f2 c3 f3
            rw [← hx2.out] at c2 c3 f3
            rw [← hx3.out] at c3
            go_wp2_with fail
            go_roundw
            case rel =>
              rw [hx0.out, hx1.out, hx2.out, hx3.out]
              refine ⟨m + 1, by have := HK.out; omega, by rw [show 254 - (m + 1) = 253 - m by omega], Lib.hid ?_, Lib.hid (H5.out.like (fun p _ => HF5.out p)), Lib.hid ?_⟩
              · have hne : G + 1 + 1 + 1 ≠ G + 1 + 1 := by omega
                exact ((((hc.out.setCell (by exact hne) _).setCell (by exact hne) _).setCell (by exact hne) _).setCell (by exact hne) _).setCell (by exact hne) _
              · have hle : w.heap.size ≤ G + 1 + 1 + 1 := by rw [HG.out]; omega
                exact ((((hb.out.setCell (by exact hle) _).setCell (by exact hle) _).setCell (by exact hle) _).setCell (by exact hle) _).setCell (by exact hle) _
            case measure => have h0 := HK.out; simp [intOf]; omega
        · obtain rfl : k = 127 := by omega
          obtain rfl : m = 127 := by have := HK.out; omega
          have e4 : ((127 : Nat) : Int) = 127 := rfl
          rw [e4]
          clear e4 HK
          have HRF : Hid (R = fl 128 F) := Lib.hid (by rw [HRD.out, HF.out])
          clear HF HRD HC
          have hO : G + 1 + 1 + 1 < wr.heap.size := hn.out.lt (by rw [fl_len]; omega)
          obtain ⟨O, HO⟩ : ∃ O, Hid (O = wr.heap.size) := ⟨_, Lib.hid rfl⟩
          have HD : Hid (Br (wr.alloc (.cells (tvs zP).toArray 167)) wr.heap.size 0 zP) := Lib.hid (Br.new _ _ _)
          have HRL : Hid (R.length = 128) := Lib.hid (by rw [HRF.out]; exact fl_len _ _)
          go_wp2_with (first | (refine wpList_built0 rfl _ rfl zP poly_built ?_) | (refine wpList_stT rfl _ (.tmp 9) (.tmp 78) rfl wr.heap.size 0 rfl zP zP rfl (by exact HD.out) rfl (by rw [zP_len]; exact sz_poly) ?_))
          obtain ⟨W1, HW1⟩ : ∃ W1, Hid (W1 = (wr.alloc (.cells (tvs zP).toArray 167)).setCells wr.heap.size 0 (tvs zP)) := ⟨_, Lib.hid rfl⟩
          show Code.wp _ _ _ _ ((wr.alloc (.cells (tvs zP).toArray 167)).setCells wr.heap.size 0 (tvs zP))
          have HC1 : Hid (Br W1 (G + 1 + 1) 0 zP) := Lib.hid (by rw [HW1.out]; exact (hc.out.alloc (by omega) _).setCells (by omega) _ _)
          have HN1 : Hid (Br W1 (G + 1 + 1 + 1) 0 (fl 255 F)) := Lib.hid (by rw [HW1.out]; exact (hn.out.alloc hO _).setCells (by omega) _ _)
          have HD1 : Hid (Br W1 O 0 (upT R zP 0)) := Lib.hid (by rw [HW1.out, HO.out, upT_zero]; exact HD.out.whole zP rfl)
          have HB1 : Hid (Below w.heap.size w W1) := Lib.hid (by rw [HW1.out]; exact below_setCells (hb.out.alloc (by rw [HG.out] at hO; omega) _) (by rw [HG.out] at hO; omega) _ _)
          rw [← HW1.out, ← HO.out]
          rw [← HO.out] at hO
          clear hc hn hb HD HW1 HO
          go_loopw [10] (fun t ws => ∃ k : Nat, k ≤ 128 ∧ t = .int .i64 k ∧ Hid (Br ws (G + 1 + 1) 0 zP) ∧ Hid (Br ws (G + 1 + 1 + 1) 0 (fl 255 F)) ∧ Hid (Br ws O 0 (upT R zP k)) ∧ Hid (Below w.heap.size w ws)) (fun t _ => 128 - (intOf t).toNat)
          case atStart => exact ⟨0, by omega, rfl, HC1, HN1, HD1, HB1⟩
          case round =>
            obtain ⟨k, hk, rfl, hc, hn, hd, hb⟩ := hrel
            clear HC1 HN1 HD1 HB1
            by_cases hlt2 : k < 128
            · obtain ⟨ck, _⟩ := hn.out.get k (by omega)
              have fk := hd.out.free (j := k) (by rw [upT_len R zP k (by rw [HRL.out, zP_len]), zP_len]; exact hlt2)
              have cO := hd.out.cell (j := k) (by rw [upT_at R zP k k (by rw [HRL.out, zP_len]) (by rw [zP_len]; omega), if_neg (by omega)]; unfold zP; rw [List.getElem?_replicate, if_pos hlt2])
              rw [Nat.zero_add] at fk cO
              unfold tv at cO
              obtain ⟨x, HX⟩ : ∃ x, Hid (x = F k) := ⟨_, Lib.hid rfl⟩
              rw [← HX.out] at ck
              go_wp2_with fail
              go_roundw
              case rel =>
                have h1 := hd.out.set (k := k) (by rw [upT_len R zP k (by rw [HRL.out, zP_len]), zP_len]; exact hlt2) x
                rw [upT_set R zP k x (by rw [HRL.out, zP_len]) (by rw [HRF.out, fl_at 128 F k hlt2, HX.out]), Nat.zero_add] at h1
                exact ⟨k + 1, by omega, by go_num, Lib.hid (hc.out.setCell (by show O ≠ G + 1 + 1; omega) _), Lib.hid (hn.out.setCell (by show O ≠ G + 1 + 1 + 1; omega) _), Lib.hid h1, Lib.hid (hb.out.setCell (by rw [HG.out] at hO; show w.heap.size ≤ O; omega) _)⟩
              case measure => simp [intOf]; omega
            · obtain rfl : k = 128 := by omega
              have hal := hd.out
              have h128 := upT_all R zP (by rw [HRL.out, zP_len])
              rw [zP_len] at h128
              rw [h128] at hal
              have HAL := Lib.hid hal
              clear hal h128
              go_wp2_with (first | (refine wpList_ldT rfl _ (.tmp 9) rfl O 0 128 _ rfl R (by exact HAL.out) up_poly (by rw [HRL.out]; exact sz_poly) ?_) | (refine wpList_stT rfl _ (.tmp 4) (.tmp 88) rfl (G + 1 + 1) 0 rfl R zP rfl (by exact hc.out) (by rw [HRL.out]; exact zP_len) (by rw [HRL.out]; exact sz_poly) ?_))
              refine bodyPost_ret (v := BV R) (res_cellT rfl _ _ (G + 1 + 1) 128 _ R rfl (hc.out.whole R (by rw [HRL.out]; exact zP_len.symm)) up_poly (by rw [HRL.out]; exact sz_poly)) rfl ⟨rfl, ?_⟩
              exact below_setCells hb.out (by rw [HG.out]; omega) 0 (tvs R)
end Go.Proofs.YthllaoeioddddaaGreat

/- The reference of layer 4 (poly): products and powers of numbers' coefficients. No conditions. -/
namespace Go.Proofs.YthllaoeioddddaaGreat
open Go.RowKit
set_option linter.unusedVariables false

/-- A number's coefficients as a list. -/
def co (x : Nat) : List Bool := fl 128 (coF x)
theorem co_len (x : Nat) : (co x).length = 128 := fl_len _ _
theorem co_at (x p : Nat) (hp : p < 128) : (co x)[p]? = some (coF x p) := fl_at 128 _ p hp
theorem pmul_co (x y : Nat) (w : World) (hx : x < 2 ^ 128) (hy : y < 2 ^ 128) :
    Calls Tryz.prog 141 #[BV (co x), BV (co y)] w (RetT (co (gMul x y)) w) := by
  have h := pmul_any (coF x) (coF y) w
  rw [co_val x hx, co_val y hy] at h
  exact h
theorem coF_zero (p : Nat) : coF 0 p = false := by unfold coF; rw [gBit_zero]; rfl
theorem zP_co : zP = co 0 := by
  apply List.ext_getElem?
  intro j
  by_cases hj : j < 128
  · rw [co_at 0 j hj, coF_zero]; unfold zP; rw [List.getElem?_replicate, if_pos hj]
  · rw [List.getElem?_eq_none (by rw [zP_len]; omega), List.getElem?_eq_none (by rw [co_len]; omega)]
attribute [local irreducible] co gMul gPow

end Go.Proofs.YthllaoeioddddaaGreat

/- An element as the references have it (layer 4's law's 'of'). No conditions. -/
namespace Go.Proofs.YthllaoeioddddaaGreat
open Go.RowKit
set_option linter.unusedVariables false

/-- The first k of a word's eight bytes. -/
def wB (x k : Nat) : List UInt8 := (List.range k).map fun q => UInt8.ofNat (x / 2 ^ (56 - 8 * q))
theorem wB_len (x k : Nat) : (wB x k).length = k := by simp [wB]
/-- An element's sixteen bytes. -/
def eB (h l : Nat) : List UInt8 := wB h 8 ++ wB l 8
theorem eB_len (h l : Nat) : (eB h l).length = 16 := by simp [eB, wB_len]
theorem byte_bit (x s r : Nat) (hr : r < 8) : (UInt8.ofNat (x / 2 ^ s)).toNat / 2 ^ (7 - r) % 2 = x / 2 ^ (s + 7 - r) % 2 := by
  rw [show (UInt8.ofNat (x / 2 ^ s)).toNat = x / 2 ^ s % 256 by simp]
  rw [show s + 7 - r = s + (7 - r) by omega, Nat.pow_add, ← Nat.div_div_eq_div_mul]
  generalize x / 2 ^ s = y
  obtain rfl | rfl | rfl | rfl | rfl | rfl | rfl | rfl : r = 0 ∨ r = 1 ∨ r = 2 ∨ r = 3 ∨ r = 4 ∨ r = 5 ∨ r = 6 ∨ r = 7 := by omega
  all_goals simp only [Nat.sub_zero, Nat.reduceSub, Nat.reducePow]; omega
theorem bits_e (h l : Nat) (hl : l < 2 ^ 64) : bitsOf (eB h l) = co (h * 2 ^ 64 + l) := by
  apply List.ext_getElem?
  intro i
  by_cases hi : i < 128
  · rw [bitsOf_at _ i hi, co_at _ i hi]
    congr 1
    unfold bitOf coF gBit
    by_cases h8 : i < 64
    · have e : (eB h l).getD (i / 8) 0 = UInt8.ofNat (h / 2 ^ (56 - 8 * (i / 8))) := by
        rw [List.getD_eq_getElem?_getD, eB, List.getElem?_append_left (by rw [wB_len]; omega)]
        simp [wB, show i / 8 < 8 by omega]
      rw [e, byte_bit _ _ _ (Nat.mod_lt _ (by omega)), show 56 - 8 * (i / 8) + 7 - i % 8 = 63 - i by omega]
      have e2 : (h * 2 ^ 64 + l) / 2 ^ (127 - i) = h / 2 ^ (63 - i) := by
        rw [show 127 - i = 64 + (63 - i) by omega, Nat.pow_add, ← Nat.div_div_eq_div_mul]
        congr 1
        omega
      rw [e2]
      rcases Nat.mod_two_eq_zero_or_one (h / 2 ^ (63 - i)) with q | q <;> rw [q] <;> rfl
    · have e : (eB h l).getD (i / 8) 0 = UInt8.ofNat (l / 2 ^ (56 - 8 * (i / 8 - 8))) := by
        rw [List.getD_eq_getElem?_getD, eB, List.getElem?_append_right (by rw [wB_len]; omega), wB_len]
        simp [wB, show i / 8 - 8 < 8 by omega]
      rw [e, byte_bit _ _ _ (Nat.mod_lt _ (by omega)), show 56 - 8 * (i / 8 - 8) + 7 - i % 8 = 127 - i by omega]
      have e2 : (h * 2 ^ 64 + l) / 2 ^ (127 - i) % 2 = l / 2 ^ (127 - i) % 2 := by
        obtain ⟨d, hd⟩ : ∃ d, 64 = (127 - i) + (d + 1) := ⟨63 - (127 - i), by omega⟩
        have : h * 2 ^ 64 = 2 ^ (127 - i) * (h * 2 ^ d * 2) := by
          rw [show (2:Nat) ^ 64 = 2 ^ ((127 - i) + (d + 1)) from congrArg (2 ^ ·) hd, Nat.pow_add, Nat.pow_succ]
          rw [Nat.mul_left_comm, Nat.mul_assoc]
        rw [this, Nat.mul_add_div (Nat.pow_pos (by omega))]
        omega
      rw [e2]
      rcases Nat.mod_two_eq_zero_or_one (l / 2 ^ (127 - i)) with q | q <;> rw [q] <;> rfl
  · rw [List.getElem?_eq_none (by rw [bitsOf_len]; omega), List.getElem?_eq_none (by rw [co_len]; omega)]
/-- An element as a value. -/
def EV (h l : Nat) : Value := .agg #[.int .u64 (h : Int), .int .u64 (l : Int)]
attribute [local irreducible] co wB eB bitsOf
end Go.Proofs.YthllaoeioddddaaGreat

/- Equality of coefficients. No conditions. -/
namespace Go.Proofs.YthllaoeioddddaaGreat
open Go.RowKit
set_option linter.unusedVariables false

end Go.Proofs.YthllaoeioddddaaGreat

/- Coefficients and halves: what layer 4's elements are as numbers. No conditions; nothing is claimed of the program here. -/
namespace Go.Proofs.YthllaoeioddddaaGreat
set_option linter.unusedVariables false

/-- A number of two words. -/
def hl (h l : Nat) : Nat := h * 2 ^ 64 + l
theorem hl_lt (h l : Nat) (hh : h < 2 ^ 64) (hl' : l < 2 ^ 64) : hl h l < 2 ^ 128 := by unfold hl; omega
theorem hl_inj (h l h' l' : Nat) (h1 : l < 2 ^ 64) (h2 : l' < 2 ^ 64) (e : hl h l = hl h' l') : h = h' ∧ l = l' := by unfold hl at e; omega
theorem hl_xor (h l h' l' : Nat) (h1 : l < 2 ^ 64) (h2 : l' < 2 ^ 64) : hl h l ^^^ hl h' l' = hl (h ^^^ h') (l ^^^ l') := by
  have h3 : l ^^^ l' < 2 ^ 64 := Nat.xor_lt_two_pow h1 h2
  unfold hl
  rw [Nat.mul_comm h, Nat.mul_comm h', Nat.mul_comm (h ^^^ h')]
  apply Nat.eq_of_testBit_eq
  intro j
  rw [Nat.testBit_xor, Nat.testBit_two_pow_mul_add _ h1, Nat.testBit_two_pow_mul_add _ h2, Nat.testBit_two_pow_mul_add _ h3]
  by_cases hj : j < 64
  · rw [if_pos hj, if_pos hj, if_pos hj, Nat.testBit_xor]
  · rw [if_neg hj, if_neg hj, if_neg hj, Nat.testBit_xor]
/-- The product with x, by halves. -/
theorem hl_next (h l : Nat) (h2 : l < 2 ^ 64) : gNext (hl h l) = hl (h / 2 ^^^ (l % 2 * 16212958658533785600)) (h % 2 * 2 ^ 63 + l / 2) := by
  unfold gNext
  have e1 : hl h l / 2 = hl (h / 2) (h % 2 * 2 ^ 63 + l / 2) := by unfold hl; omega
  have e2 : hl h l % 2 * 299076299051606071403356588563077529600 = hl (l % 2 * 16212958658533785600) 0 := by unfold hl; omega
  rw [e1, e2, hl_xor _ _ _ _ (by omega) (by omega), Nat.xor_zero]
theorem coF_xor (a b p : Nat) : coF (a ^^^ b) p = (coF a p != coF b p) := by
  unfold coF
  rw [gBit_xor]
  rcases gBit01 a p with h | h <;> rcases gBit01 b p with k | k <;> rw [h, k] <;> rfl
theorem addT_co (a b : Nat) : addT (co a) (co b) = co (a ^^^ b) := by
  apply List.ext_getElem?
  intro j
  unfold addT
  rw [List.getElem?_zipWith]
  by_cases hj : j < 128
  · rw [co_at a j hj, co_at b j hj, co_at _ j hj, coF_xor]
  · rw [List.getElem?_eq_none (l := co a) (by rw [co_len]; omega), List.getElem?_eq_none (l := co (a ^^^ b)) (by rw [co_len]; omega)]
/-- A sum of many. -/
def gSum : List Nat → Nat → Nat | [], s => s | x :: l, s => gSum l (s ^^^ x)
theorem gSum_snoc (l : List Nat) (x : Nat) : ∀ s, gSum (l ++ [x]) s = gSum l s ^^^ x := by
  induction l with
  | nil => intro s; rfl
  | cons y l ih => intro s; exact ih (s ^^^ y)
end Go.Proofs.YthllaoeioddddaaGreat

