/- The reference of layer 4 (poly): rows of 128 coefficients as values; sums. No conditions. -/
import Derived.Test.YtmpidjadpcpbfaaArrT
import Derived.Deep.RegionWith
import Derived.Laws.Tables
namespace Go.Proofs.Ytmpidjadpcpbfaa
open Go.RowKit
set_option linter.unusedVariables false

/-- Coefficients that are all 0. -/
def zP : List Bool := List.replicate 128 false
theorem zP_len : zP.length = 128 := List.length_replicate
/-- A call that gives coefficients, and keeps all that was there. -/
def RetT (l : List Bool) (w : World) (e : Ending) (w' : World) : Prop := e = .returned (BV l) ∧ Below w.heap.size w w'
section
variable {w : World} {ops : Array Oper} {rest : List Oper} {o : Oper} {a : Act} {Q : Exit → Act → World → Prop}
theorem wpList_boxT (hgd : o.guard = none) (T : TypeId) (x : Operand) (hop : o.op = .box T x) (l : List Bool) (hx : a.eval x = BV l)
    (h : wpList Try.prog ops Q rest (a.put o.dst (.pointer (some ⟨w.heap.size, 0, none⟩))) (w.alloc (.cells (tvs l).toArray T))) : wpList Try.prog ops Q (o :: rest) a w := by
  refine wpList_plain hgd fun K hK => ?_
  have hr : (Instr.box T (BV l)).run Try.prog w = .ok (.pointer (some ⟨w.heap.size, 0, none⟩)) (w.alloc (.cells (tvs l).toArray T)) := rfl
  unfold Oper.wp execOp
  simp only [hop, hx, Sem.run_bind, hr, Result.andThen_ok]
  exact hK _ _ h
theorem wpList_ldT (hgd : o.guard = none) (T : TypeId) (x : Operand) (hop : o.op = .load T x) (g d n : Nat) (e : TypeId) (hx : a.eval x = .pointer (some ⟨g, d, none⟩)) (l : List Bool) (hc : Br w g d l)
    (hu : Try.prog.underlying T = some (.array n e)) (hi : (Try.prog.info? T).map (·.size) = some l.length)
    (h : wpList Try.prog ops Q rest (a.put o.dst (BV l)) w) : wpList Try.prog ops Q (o :: rest) a w :=
  wpList_load_mid hgd T x hop g d hx (tvs l) _ hc.1 hu rfl (by rw [tvs_length]; exact hi) h
theorem wpList_stT (hgd : o.guard = none) (T : TypeId) (x y : Operand) (hop : o.op = .store T x y) (g d : Nat) (hx : a.eval x = .pointer (some ⟨g, d, none⟩)) (l l0 : List Bool) (hy : a.eval y = BV l) (hc : Br w g d l0)
    (hl : l0.length = l.length) (hi : (Try.prog.info? T).map (·.size) = some l.length)
    (h : wpList Try.prog ops Q rest (a.put o.dst undef) (w.setCells g d (tvs l))) : wpList Try.prog ops Q (o :: rest) a w :=
  wpList_store_mid hgd T x y hop g d (tvs l).toArray hx hy (by have := hc.2; rw [tvs_length, hl, ← tvs_length] at this; simpa using this) (by simpa [tvs_length] using hi) (all_tvs l) (by simpa using h)
/-- An array of noughts, built in place. -/
theorem wpList_built0 (hgd : o.guard = none) (T : TypeId) (hop : o.op = .build T #[]) (l : List Bool) (hb : Try.prog.built T [] = some (tvs l).toArray)
    (h : wpList Try.prog ops Q rest (a.put o.dst (BV l)) w) : wpList Try.prog ops Q (o :: rest) a w := by
  refine wpList_plain hgd fun K hK => ?_
  unfold Oper.wp execOp
  simp only [hop, List.map_toArray, List.map_nil, Sem.run_bind, run_build w T #[] _ hb, Result.andThen_ok]
  exact hK _ _ h
end
/-- A result that lies in a variable of bools. -/
theorem res_cellT {fn : Func} {p : Tmp} {ty : TypeId} (h : fn.results = #[.cell p ty]) (tmps : Array Value) (w : World) (b n : Nat) (e : TypeId) (l : List Bool) (ht : tmps.getD p undef = .pointer (some ⟨b, 0, none⟩)) (hc : Br w b 0 l)
    (hu : Try.prog.underlying ty = some (.array n e)) (hi : (Try.prog.info? ty).map (·.size) = some l.length) : (results fn tmps).run Try.prog w = .ok (BV l) w := by
  have hl := run_loadVar_mid (P := Try.prog) w b 0 ty (tvs l) (.array n e) hc.1 hu rfl (by rw [tvs_length]; exact hi)
  rw [Array.getD_eq_getD_getElem?] at ht
  simp only [results, h]
  simp [ht, asAddr, hl, BV]
/-- The first k of r, the others of l. -/
def upT (r l : List Bool) (k : Nat) : List Bool := r.take k ++ l.drop k
theorem upT_len (r l : List Bool) (k : Nat) (h : r.length = l.length) : (upT r l k).length = l.length := by simp [upT, h]; omega
theorem upT_zero (r l : List Bool) : upT r l 0 = l := by simp [upT]
theorem upT_all (r l : List Bool) (h : r.length = l.length) : upT r l l.length = r := by simp [upT, ← h]
theorem upT_at (r l : List Bool) (k j : Nat) (h : r.length = l.length) (hk : k ≤ l.length) : (upT r l k)[j]? = if j < k then r[j]? else l[j]? := by
  unfold upT
  by_cases hj : j < k
  · rw [List.getElem?_append_left (by rw [List.length_take]; omega), List.getElem?_take, if_pos hj, if_pos hj]
  · rw [List.getElem?_append_right (by rw [List.length_take]; omega), List.length_take, if_neg hj, List.getElem?_drop]
    congr 1; omega
theorem upT_set (r l : List Bool) (k : Nat) (x : Bool) (h : r.length = l.length) (hx : r[k]? = some x) : (upT r l k).set k x = upT r l (k + 1) := by
  have hk := (List.getElem?_eq_some_iff.1 hx).1
  apply List.ext_getElem?
  intro j
  rw [List.getElem?_set, upT_len r l k h, upT_at r l k j h (by omega), upT_at r l (k + 1) j h (by omega)]
  by_cases e : k = j
  · subst e; rw [if_pos rfl, if_pos (by omega), if_pos (by omega), hx]
  · rw [if_neg e]
    by_cases h2 : j < k
    · rw [if_pos h2, if_pos (by omega)]
    · rw [if_neg h2, if_neg (by omega)]
theorem getT (l : List Bool) (n k : Nat) (hl : l.length = n) (hk : k < n) : ∃ x, l[k]? = some x := ⟨l[k]'(by omega), List.getElem?_eq_getElem (by omega)⟩
theorem Br.new1 (w : World) (n : Nat) (hn : n = w.heap.size) (l : List Bool) (T : TypeId) : Br (w.alloc (.cells (tvs l).toArray T)) n 0 l := by rw [hn]; exact Br.new w l T
def V3 (l m z : List Bool) (T : TypeId) (w : World) : World := ((w.alloc (.cells (tvs l).toArray T)).alloc (.cells (tvs m).toArray T)).alloc (.cells (tvs z).toArray T)
theorem v3_below (l m z : List Bool) (T : TypeId) (w : World) : Below w.heap.size w (V3 l m z T w) := ((below_alloc w _).alloc (by simp) _).alloc (by simp; omega) _
theorem v3_0 (l m z : List Bool) (T : TypeId) (w : World) : Br (V3 l m z T w) w.heap.size 0 l := ((Br.new w l T).alloc (by simp) _).alloc (by simp; omega) _
theorem v3_1 (l m z : List Bool) (T : TypeId) (w : World) : Br (V3 l m z T w) (w.heap.size + 1) 0 m := (Br.new1 _ _ (by simp) m T).alloc (by simp) _
theorem v3_2 (l m z : List Bool) (T : TypeId) (w : World) : Br (V3 l m z T w) (w.heap.size + 1 + 1) 0 z := Br.new1 _ _ (by simp) z T
def V2 (l z : List Bool) (T : TypeId) (w : World) : World := (w.alloc (.cells (tvs l).toArray T)).alloc (.cells (tvs z).toArray T)
theorem v2_below (l z : List Bool) (T : TypeId) (w : World) : Below w.heap.size w (V2 l z T w) := (below_alloc w _).alloc (by simp) _
theorem v2_0 (l z : List Bool) (T : TypeId) (w : World) : Br (V2 l z T w) w.heap.size 0 l := (Br.new w l T).alloc (by simp) _
theorem v2_1 (l z : List Bool) (T : TypeId) (w : World) : Br (V2 l z T w) (w.heap.size + 1) 0 z := Br.new1 _ _ (by simp) z T
/-- Sums. -/
def addT (a b : List Bool) : List Bool := List.zipWith (· != ·) a b

end Go.Proofs.Ytmpidjadpcpbfaa

/- The reference of layer 4 (poly): coefficients of bytes. Condition: the bytes' cells are readable. -/
namespace Go.Proofs.Ytmpidjadpcpbfaa
open Go.RowKit
set_option linter.unusedVariables false

/-- Coefficient i of bytes. -/
def bitOf (l : List UInt8) (i : Nat) : Bool := decide ((l.getD (i / 8) 0).toNat / 2 ^ (7 - i % 8) % 2 = 1)
def bitsOf (l : List UInt8) : List Bool := (List.range 128).map (bitOf l)
theorem bitsOf_len (l : List UInt8) : (bitsOf l).length = 128 := by simp [bitsOf]
theorem bitsOf_at (l : List UInt8) (i : Nat) (hi : i < 128) : (bitsOf l)[i]? = some (bitOf l i) := by simp [bitsOf, hi]

theorem bit_walk (n s : Nat) : (((n : Int) / 2 ^ s).tmod 2 == 1) = decide (n / 2 ^ s % 2 = 1) := by
  have e : ((n : Int) / 2 ^ s) = ((n / 2 ^ s : Nat) : Int) := by simp
  rw [e]
  generalize n / 2 ^ s = m
  rw [Int.tmod_eq_emod_of_nonneg (by omega)]
  by_cases h : m % 2 = 1
  · rw [decide_eq_true h, beq_iff_eq]; omega
  · rw [decide_eq_false h, beq_eq_false_iff_ne]; omega
end Go.Proofs.Ytmpidjadpcpbfaa

/- The reference of layer 4 (poly): bytes of coefficients. No conditions. -/
namespace Go.Proofs.Ytmpidjadpcpbfaa
open Go.RowKit
set_option linter.unusedVariables false

/-- The first t bits of a byte. -/
def topB (x : UInt8) (t : Nat) : UInt8 := UInt8.ofNat (x.toNat / 2 ^ (8 - t) * 2 ^ (8 - t))
theorem each_byteP {p : UInt8 → Prop} (h : ∀ n : Fin 256, p (UInt8.ofNat n.val)) (x : UInt8) : p x := by
  have e : UInt8.ofNat x.toNat = x := by simp
  have := h ⟨x.toNat, x.toNat_lt⟩
  rw [e] at this
  exact this
theorem top_zero (x : UInt8) : topB x 0 = 0 := by
  have h : ∀ n : Fin 256, topB (UInt8.ofNat n.val) 0 = 0 := by decide +kernel
  exact each_byteP (p := fun x => topB x 0 = 0) h x
theorem top_all (x : UInt8) : topB x 8 = x := by
  have h : ∀ n : Fin 256, topB (UInt8.ofNat n.val) 8 = UInt8.ofNat n.val := by decide +kernel
  exact each_byteP (p := fun x => topB x 8 = x) h x
theorem top_next (x : UInt8) (r : Nat) (hr : r < 8) :
    (x.toNat / 2 ^ (7 - r) % 2 = 1 → bits .or .u8 ((topB x r).toNat : Int) (2 ^ (7 - r) % 256) = ((topB x (r + 1)).toNat : Int)) ∧ (¬ x.toNat / 2 ^ (7 - r) % 2 = 1 → topB x (r + 1) = topB x r) := by
  have h : ∀ (r : Fin 8) (n : Fin 256), ((UInt8.ofNat n.val).toNat / 2 ^ (7 - r.val) % 2 = 1 → bits .or .u8 ((topB (UInt8.ofNat n.val) r.val).toNat : Int) (2 ^ (7 - r.val) % 256) = ((topB (UInt8.ofNat n.val) (r.val + 1)).toNat : Int)) ∧ (¬ (UInt8.ofNat n.val).toNat / 2 ^ (7 - r.val) % 2 = 1 → topB (UInt8.ofNat n.val) (r.val + 1) = topB (UInt8.ofNat n.val) r.val) := by decide +kernel
  exact each_byteP (p := fun x => (x.toNat / 2 ^ (7 - r) % 2 = 1 → bits .or .u8 ((topB x r).toNat : Int) (2 ^ (7 - r) % 256) = ((topB x (r + 1)).toNat : Int)) ∧ (¬ x.toNat / 2 ^ (7 - r) % 2 = 1 → topB x (r + 1) = topB x r)) (h ⟨r, hr⟩) x
/-- What the bytes hold behind k rounds. -/
def outK (l : List UInt8) (k : Nat) : List UInt8 := (List.range 16).map fun q => topB (l.getD q 0) (min 8 (k - 8 * q))
theorem outK_at (l : List UInt8) (k q : Nat) (hq : q < 16) : (outK l k)[q]? = some (topB (l.getD q 0) (min 8 (k - 8 * q))) := by simp [outK, hq]
theorem outK_ext (l : List UInt8) (k : Nat) (m : List UInt8) (hm : m.length = 16) (h : ∀ q, q < 16 → m[q]? = some (topB (l.getD q 0) (min 8 (k - 8 * q)))) : m = outK l k := by
  apply List.ext_getElem?
  intro q
  by_cases hq : q < 16
  · rw [h q hq, outK_at l k q hq]
  · rw [List.getElem?_eq_none (by omega), List.getElem?_eq_none (by simp [outK]; omega)]
theorem outK_zero (l : List UInt8) : outK l 0 = List.replicate 16 0 := by
  refine (outK_ext l 0 _ List.length_replicate fun q hq => ?_).symm
  rw [show min 8 (0 - 8 * q) = 0 by omega, top_zero, List.getElem?_replicate, if_pos hq]
theorem outK_all (l : List UInt8) (hl : l.length = 16) : outK l 128 = l := by
  refine (outK_ext l 128 _ hl fun q hq => ?_).symm
  rw [show min 8 (128 - 8 * q) = 8 by omega, top_all]
  simp [List.getD, hl, hq]
theorem outK_set (l : List UInt8) (k : Nat) (hk : k < 128) : (outK l k).set (k / 8) (topB (l.getD (k / 8) 0) (k % 8 + 1)) = outK l (k + 1) := by
  refine outK_ext l (k + 1) _ (by simp [outK]) fun q hq => ?_
  rw [List.getElem?_set]
  by_cases e : k / 8 = q
  · subst e
    rw [if_pos rfl, if_pos (by simp [outK]; omega), show min 8 (k + 1 - 8 * (k / 8)) = k % 8 + 1 by omega]
  · rw [if_neg e, outK_at l k q hq]
    congr 2; omega
theorem outK_skip (l : List UInt8) (k : Nat) (hk : k < 128) (h : topB (l.getD (k / 8) 0) (k % 8 + 1) = topB (l.getD (k / 8) 0) (k % 8)) : outK l (k + 1) = outK l k := by
  refine (outK_ext l (k + 1) _ (by simp [outK]) fun q hq => ?_).symm
  rw [outK_at l k q hq]
  by_cases e : k / 8 = q
  · subst e
    rw [show min 8 (k + 1 - 8 * (k / 8)) = k % 8 + 1 by omega, show min 8 (k - 8 * (k / 8)) = k % 8 by omega, h]
  · congr 2; omega
theorem outK_len (l : List UInt8) (k : Nat) : (outK l k).length = 16 := by simp [outK]

end Go.Proofs.Ytmpidjadpcpbfaa

