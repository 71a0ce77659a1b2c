/- Layer 16: a configuration in memory and as a value; equality. No condition but that a key has sixteen bytes; nothing is claimed of the program here. -/
import Derived.Test.YtkcchidklcnnnaaGreatMdP
import Derived.Test.YtkcchidklcnnnaaGreatRec
import Derived.Test.YtkcchidklcnnnaaGreatMemAll
import Derived.Test.YtkcchidklcnnnaaGreatHvV
import Derived.Laws.StructEq
import Derived.ChangeKeysEq
import Derived.Laws.IdiomCopy
namespace Go.Proofs.YtkcchidklcnnnaaGreat
open Go.RowKit
set_option linter.unusedVariables false
set_option linter.unusedSimpArgs false
/-! Types. -/
set_option maxRecDepth 100000 in
theorem rt_cfg : RT 35 zeroC.cells := ⟨row_of (by kernel_rfl), by kernel_rfl⟩
set_option maxRecDepth 100000 in
theorem rt_rcfg : RT 29 zeroC.cells := ⟨row_of (by kernel_rfl), by kernel_rfl⟩
set_option maxRecDepth 100000 in
theorem rt_key : RT 27 (bvs zK) := ⟨row_of (by kernel_rfl), by kernel_rfl⟩
theorem zeroC_len : zeroC.cells.length = 19 := rfl
theorem val_agg (c : Cfg) : c.val = .agg c.cells.toArray := rfl
theorem zeroC_val : zeroC.val = .agg #[.int .i64 0, .int .i64 0, .int .i64 0, .int .u8 0, .int .u8 0, .int .u8 0, .int .u8 0, .int .u8 0, .int .u8 0, .int .u8 0, .int .u8 0, .int .u8 0, .int .u8 0, .int .u8 0, .int .u8 0, .int .u8 0, .int .u8 0, .int .u8 0, .int .u8 0] := rfl
theorem cells_one (c : Cfg) : ones c.cells := by
  intro v hv
  unfold Cfg.cells at hv
  rcases List.mem_cons.1 hv with rfl | hv
  · rfl
  rcases List.mem_cons.1 hv with rfl | hv
  · rfl
  rcases List.mem_cons.1 hv with rfl | hv
  · rfl
  exact bvs_one c.k v hv
/-! A configuration in a block. -/
section
variable {T : TypeId} {w w' : World} {q : Nat} {c : Cfg}
theorem cf0 (k : Blk T w q c.cells) : w.cell? ⟨q, 0, none⟩ = some (.int .i64 c.m) := k.cell 0
theorem cf1 (k : Blk T w q c.cells) : w.cell? ⟨q, 1, none⟩ = some (.int .i64 c.s) := k.cell 1
theorem cf2 (k : Blk T w q c.cells) : w.cell? ⟨q, 2, none⟩ = some (.int .i64 c.n) := k.cell 2
theorem cf_key (k : Blk T w q c.cells) {i : Nat} {x : UInt8} (hx : c.k[i]? = some x) : w.cell? ⟨q, 3 + i, none⟩ = some (bv x) := by
  rw [k.cell]
  unfold Cfg.cells
  rw [show 3 + i = i + 1 + 1 + 1 by omega, List.getElem?_cons_succ, List.getElem?_cons_succ, List.getElem?_cons_succ, bvs_at', hx]
  rfl
theorem cf_rb (k : Blk T w q c.cells) (h : c.k.length = 16) : RB w w.heap.size (some ⟨q, 3, none⟩) 16 c.k :=
  ⟨h, fun _ => ⟨q, 3, rfl, k.lt, fun i hi => cf_key k (List.getElem?_eq_getElem hi)⟩⟩
theorem ld_cfg (rt : RT T zeroC.cells) (k : Blk T w q c.cells) (h : c.ok) : ldHd T (.pointer (some ⟨q, 0, none⟩)) w = .ok (.value c.val) w := by
  rw [val_agg]
  exact ldB_m rt k (by rw [List.drop_zero, zeroC_len, List.take_of_length_le (by rw [Cfg.cells_len h]; exact Nat.le_refl _)]) (by rw [Cfg.cells_len h, zeroC_len])
theorem ld_key (k : Blk T w q c.cells) (h : c.ok) : ldHd 27 (.pointer (some ⟨q, 3, none⟩)) w = .ok (.value (AV c.k)) w := by
  have hd : c.cells.drop 3 = bvs c.k := rfl
  unfold AV
  exact ldB_m rt_key k (by rw [hd, List.take_of_length_le (by rw [bvs_length, bvs_length, h.k]; exact Nat.le_refl _)]) (by rw [bvs_length, bvs_length, h.k]; rfl)
end
theorem ex_ldC (ev : Operand → Value) (x : Operand) (d : Option Tmp) (ty : TypeId) (ps : String) (af : Array Edge) (g : Option (Nat × Bool)) (w : World) : (execOp ev ⟨d, .load 35 x, ty, ps, af, g⟩).run Tryz.prog w = ldHd 35 (ev x) w := rfl
theorem ex_ldR (ev : Operand → Value) (x : Operand) (d : Option Tmp) (ty : TypeId) (ps : String) (af : Array Edge) (g : Option (Nat × Bool)) (w : World) : (execOp ev ⟨d, .load 29 x, ty, ps, af, g⟩).run Tryz.prog w = ldHd 29 (ev x) w := rfl
theorem ex_ldK (ev : Operand → Value) (x : Operand) (d : Option Tmp) (ty : TypeId) (ps : String) (af : Array Edge) (g : Option (Nat × Bool)) (w : World) : (execOp ev ⟨d, .load 27 x, ty, ps, af, g⟩).run Tryz.prog w = ldHd 27 (ev x) w := rfl
theorem key_slice (q : Nat) (W : World) : (Instr.sliceAt 27 (.pointer (some ⟨q, 3, none⟩)) none none none).run Tryz.prog W = .ok (.slice (some ⟨q, 3, none⟩) 16 16) W := by kernel_rfl
/-! Equality. -/
theorem bv_eql (d : Nat) (x y : UInt8) (w : World) : (Op.equalIn (d + 1) 5 (bv x) (bv y)).run Tryz.prog w = .ok (x == y) w := by
  unfold bv
  rw [run_equalIn_int w d _ _ _ _ _ Tryz.underlying5]
  congr 1
  rw [Bool.eq_iff_iff, beq_iff_eq, beq_iff_eq, ← UInt8.toNat_inj]
  omega
theorem items_B (a b : List UInt8) (d : Nat) (w : World) : ∀ is : List Nat, (∀ i ∈ is, i < a.length ∧ i < b.length) →
    (Op.eqItems (d + 1) 5 (Tryz.prog.cellsOf 5) (bvs a).toArray (bvs b).toArray is).run Tryz.prog w = .ok (is.all fun i => a[i]? == b[i]?) w
  | [], _ => by simp [Op.eqItems]
  | i :: is, h => by
    have hc : Tryz.prog.cellsOf 5 = 1 := by kernel_rfl
    have hp : Tryz.prog.plainKey 5 = true := by simp [Program.plainKey, Tryz.underlying5]
    obtain ⟨h1, h2⟩ := h i (by simp)
    have hx : ((bvs a).toArray)[i * 1]? = some (bv (a[i]'h1)) := by simp [bvs, h1]
    have hy : ((bvs b).toArray)[i * 1]? = some (bv (b[i]'h2)) := by simp [bvs, h2]
    have ih := items_B a b d w is (fun j hj => h j (by simp [hj]))
    rw [hc] at ih
    simp only [Op.eqItems, Sem.run_bind, hc, run_part_plain w hp hx, run_part_plain w hp hy, Result.andThen_ok, bv_eql, List.all_cons, List.getElem?_eq_getElem h1, List.getElem?_eq_getElem h2]
    have e : ((some a[i] : Option UInt8) == some b[i]) = (a[i] == b[i]) := rfl
    rw [e]
    cases hq : (a[i] == b[i])
    · simp
    · simpa using ih
theorem all_same (a b : List UInt8) (n : Nat) (ha : a.length = n) (hb : b.length = n) : ((List.range n).all fun i => a[i]? == b[i]?) = (a == b) := by
  rw [Bool.eq_iff_iff, List.all_eq_true, beq_iff_eq]
  constructor
  · intro h
    refine List.ext_getElem? fun i => ?_
    by_cases hi : i < n
    · exact eq_of_beq (h i (List.mem_range.2 hi))
    · rw [List.getElem?_eq_none (by omega), List.getElem?_eq_none (by omega)]
  · rintro rfl i _
    exact beq_self_eq_true _
theorem eq_key (a b : List UInt8) (ha : a.length = 16) (hb : b.length = 16) (d : Nat) (w : World) : (Op.equalIn (d + 2) 27 (.agg (bvs a).toArray) (.agg (bvs b).toArray)).run Tryz.prog w = .ok (a == b) w := by
  obtain ⟨i, hi⟩ := info_of_underlying Tryz.underlying5
  rw [run_equalIn_array w (d + 1) _ _ Tryz.underlying27 hi, items_B a b d w _ (fun j hj => by have := List.mem_range.1 hj; omega), all_same a b 16 ha hb]
theorem eql_key (a b : List UInt8) (ha : a.length = 16) (hb : b.length = 16) (w : World) : (binOp .eql 27 (AV a) (AV b)).run Tryz.prog w = .ok (.bool (a == b)) w := by
  unfold AV
  rw [run_eql_struct, show (10000 : Nat) = 9998 + 2 from rfl, eq_key a b ha hb]
  rfl
/-- A configuration's type, for equality. -/
structure ET (T : TypeId) : Prop where
  u : Tryz.prog.underlying T = some (.struct (Tryz.prog.fieldsOf T))
  h : Tryz.prog.stoodInHeld T = false
  f : (Tryz.prog.fieldsOf T).toList.map (fun f => (f.name == "_", f.type, f.offset)) = [(false, 3, 0), (false, 3, 1), (false, 3, 2), (false, 27, 3)]
  g : Tryz.prog.eqGuardType Tryz.prog.depth T = false
theorem et_cfg : ET 35 := ⟨by kernel_rfl, by kernel_rfl, by kernel_rfl, by kernel_rfl⟩
theorem et_rcfg : ET 29 := ⟨by kernel_rfl, by kernel_rfl, by kernel_rfl, by kernel_rfl⟩
theorem part_int (cs : List Value) (o : Nat) (v : Value) (w : World) (h : cs[o]? = some v) : (part 3 cs.toArray o).run Tryz.prog w = .ok v w :=
  run_part_plain w (by simp [Program.plainKey, Tryz.underlying3]) (by simpa using h)
theorem part_key (c : Cfg) (h : c.ok) (w : World) : (part 27 c.cells.toArray 3).run Tryz.prog w = .ok (.agg (bvs c.k).toArray) w := by
  obtain ⟨i, hi⟩ := info_of_underlying Tryz.underlying27
  have hc : Tryz.prog.cellsOf 27 = 16 := by kernel_rfl
  have e : c.cells.toArray.extract 3 (3 + 16) = (bvs c.k).toArray := by
    apply Array.toList_inj.1
    rw [Array.toList_extract]
    have hd : c.cells.drop 3 = bvs c.k := rfl
    simp only [List.extract, hd]
    rw [List.take_of_length_le (by rw [bvs_length, h.k]; omega)]
  simp only [part, isAgg, Sem.run_bind, run_underlying Tryz.underlying27, Result.andThen_ok, Sem.run_pure, if_true, run_sizeOf w hi, hc, e]
theorem eq_int (d : Nat) (x y : Int) (w : World) : (Op.equalIn (d + 1) 3 (.int .i64 x) (.int .i64 y)).run Tryz.prog w = .ok (x == y) w := run_equalIn_int w d _ _ _ _ _ Tryz.underlying3
theorem cfg_eta (c d : Cfg) : c = d ↔ c.m = d.m ∧ c.s = d.s ∧ c.n = d.n ∧ c.k = d.k := by
  constructor
  · rintro rfl; exact ⟨rfl, rfl, rfl, rfl⟩
  · obtain ⟨_, _, _, _⟩ := c
    obtain ⟨_, _, _, _⟩ := d
    rintro ⟨rfl, rfl, rfl, rfl⟩; rfl
theorem eq_cfg {T : TypeId} (et : ET T) (c d : Cfg) (hc : c.ok) (hd : d.ok) (n : Nat) (w : World) : (Op.equalIn (n + 3) T c.val d.val).run Tryz.prog w = .ok (decide (c = d)) w := by
  rw [val_agg, val_agg, run_equalIn_struct w (n + 2) T _ _ et.u et.h]
  have hf := et.f
  generalize (Tryz.prog.fieldsOf T).toList = fs at hf
  have hl4 : fs.length = 4 := by have := congrArg List.length hf; simpa using this
  match fs, hl4, hf with
  | [f0, f1, f2, f3], _, hf =>
    simp only [List.map_cons, List.map_nil, List.cons.injEq, Prod.mk.injEq, and_true] at hf
    obtain ⟨⟨n0, t0, o0⟩, ⟨n1, t1, o1⟩, ⟨n2, t2, o2⟩, n3, t3, o3⟩ := hf
    have m0 : f0.name ≠ "_" := by simpa using n0
    have m1 : f1.name ≠ "_" := by simpa using n1
    have m2 : f2.name ≠ "_" := by simpa using n2
    have m3 : f3.name ≠ "_" := by simpa using n3
    simp only [Op.eqFields, m0, m1, m2, m3, ne_eq, not_false_eq_true, if_true, t0, o0, t1, o1, t2, o2, t3, o3, Sem.run_bind, part_int c.cells 0 _ w rfl, part_int d.cells 0 _ w rfl, part_int c.cells 1 _ w rfl, part_int d.cells 1 _ w rfl, part_int c.cells 2 _ w rfl, part_int d.cells 2 _ w rfl, part_key c hc, part_key d hd, Result.andThen_ok, eq_int, eq_key c.k d.k hc.k hd.k]
    cases h0 : (c.m == d.m)
    · simp only [Bool.not_false, if_true, Sem.run_pure]
      rw [decide_eq_false]
      intro e; rw [e] at h0; simp at h0
    cases h1 : (c.s == d.s)
    · simp only [Bool.not_false, Bool.not_true, Bool.false_eq_true, if_false, if_true, Sem.run_pure, Sem.run_bind, part_int c.cells 1 _ w rfl, part_int d.cells 1 _ w rfl, Result.andThen_ok, eq_int, h1]
      rw [decide_eq_false]
      intro e; rw [e] at h1; simp at h1
    cases h2 : (c.n == d.n)
    · simp only [Bool.not_false, Bool.not_true, Bool.false_eq_true, if_false, if_true, Sem.run_pure, Sem.run_bind, part_int c.cells 1 _ w rfl, part_int d.cells 1 _ w rfl, part_int c.cells 2 _ w rfl, part_int d.cells 2 _ w rfl, Result.andThen_ok, eq_int, h1, h2]
      rw [decide_eq_false]
      intro e; rw [e] at h2; simp at h2
    · have hr : (c.k == d.k) = decide (c = d) := by
        rw [Bool.eq_iff_iff, beq_iff_eq, decide_eq_true_eq, cfg_eta]
        exact ⟨fun e => ⟨eq_of_beq h0, eq_of_beq h1, eq_of_beq h2, e⟩, fun e => e.2.2.2⟩
      simp only [Bool.not_false, Bool.not_true, Bool.false_eq_true, if_false, if_true, Sem.run_pure, Sem.run_bind, part_int c.cells 1 _ w rfl, part_int d.cells 1 _ w rfl, part_int c.cells 2 _ w rfl, part_int d.cells 2 _ w rfl, part_key c hc, part_key d hd, Result.andThen_ok, eq_int, h1, h2, eq_key c.k d.k hc.k hd.k, hr]
      cases decide (c = d) <;> rfl
theorem eql_cfg {T : TypeId} (et : ET T) (c d : Cfg) (hc : c.ok) (hd : d.ok) (w : World) : (binOp .eql T c.val d.val).run Tryz.prog w = .ok (.bool (decide (c = d))) w := by
  have h := eq_cfg et c d hc hd 9997 w
  rw [val_agg, val_agg] at h ⊢
  rw [run_eql_struct, show (10000 : Nat) = 9997 + 3 from rfl, h]
  rfl
theorem neq_cfg {T : TypeId} (et : ET T) (c d : Cfg) (hc : c.ok) (hd : d.ok) (w : World) : (binOp .neq T c.val d.val).run Tryz.prog w = .ok (.bool (!decide (c = d))) w := by
  have h := eq_cfg et c d hc hd 9997 w
  rw [val_agg, val_agg] at h ⊢
  rw [run_neq_struct, show (10000 : Nat) = 9997 + 3 from rfl, h]
  rfl
/-! A literal. -/
theorem wpList_bld {w : World} {ops : Array Oper} {rest : List Oper} {o : Oper} {a : Act} {Q : Exit → Act → World → Prop} (hgd : o.guard = none) (T : TypeId) (ps : List (Nat × Operand)) (hop : o.op = .build T ps.toArray) (vs : List (Nat × Value)) (hv : ps.map (fun p => (p.1, a.eval p.2)) = vs)
    (cells : Array Value) (hb : Tryz.prog.built T vs = some cells) (h : wpList Tryz.prog ops Q rest (a.put o.dst (.agg cells)) w) : wpList Tryz.prog ops Q (o :: rest) a w := by
  refine wpList_plain hgd fun K hK => ?_
  unfold Oper.wp execOp
  have e : (ps.toArray.map fun x => match x with | (i, v) => (i, a.eval v)) = vs.toArray := by rw [List.map_toArray, ← hv]
  simp only [hop, e, Sem.run_bind, run_build w _ vs.toArray _ (by simpa using hb), Result.andThen_ok]
  exact hK _ _ h
end Go.Proofs.YtkcchidklcnnnaaGreat

/- Layer 16's both, Right and Size, and the reference's Right and Size. Condition: the key has sixteen bytes, the numbers are words. -/
namespace Go.Proofs.YtkcchidklcnnnaaGreat
open Go.RowKit
set_option linter.unusedVariables false
set_option linter.unusedSimpArgs false
attribute [local irreducible] Cfg.val Cfg.cells rtB Rt zK sizeC AV
attribute [local go_sem ↓] ex_ldC ex_ldR ex_ldK
theorem zK_lit : AV zK = .agg #[.int .u8 0, .int .u8 0, .int .u8 0, .int .u8 0, .int .u8 0, .int .u8 0, .int .u8 0, .int .u8 0, .int .u8 0, .int .u8 0, .int .u8 0, .int .u8 0, .int .u8 0, .int .u8 0, .int .u8 0, .int .u8 0] := by unfold AV zK; rfl
theorem key_zero (l : List UInt8) (h : l.length = 16) (v : Bool) (hv : (l == zK) = v) : ∀ w : World, (binOp .eql 27 (AV l) (.agg #[.int .u8 0, .int .u8 0, .int .u8 0, .int .u8 0, .int .u8 0, .int .u8 0, .int .u8 0, .int .u8 0, .int .u8 0, .int .u8 0, .int .u8 0, .int .u8 0, .int .u8 0, .int .u8 0, .int .u8 0, .int .u8 0])).run Tryz.prog w = .ok (.bool v) w := fun w => by
  rw [← zK_lit, eql_key l zK h (by unfold zK; rfl), hv]
theorem key_guard (op : BinOp) (x y : Operand) (l : List UInt8) (cs : Array Value) (w : World) : (eqGuard op 27 x y (AV l) (.agg cs)).run Tryz.prog w = .ok () w := by unfold AV; exact run_eqGuard_agg w op _ x y _ _ (by kernel_rfl)
theorem rt_false {c : Cfg} (h : ¬ Rt c) : rtB c = false := by unfold rtB; exact decide_eq_false h
set_option maxRecDepth 100000 in
theorem mboth_any (c : Cfg) (h : c.ok) (hs : 1 ≤ c.s ∧ c.s ≤ 15) (hn : 4 ≤ c.n ∧ c.n ≤ 18) (w : World) :
    Calls Tryz.prog 42 #[c.val] w fun e w' => e = .returned (.int .i64 (c.s + c.n)) ∧ Below w.heap.size w w' := by
  have HC := Lib.hid h
  go_enter Tryz.func42, Tryz.ntmps42
  go_wp2_with (first | (refine wpList_boxB rfl 35 (.tmp 0) rfl c.cells (val_agg c) ?_; intro w1 q hc1 hb1 hx1; have K1 := Lib.hid (And.intro hc1 (And.intro hb1 hx1)); have c0 := cf0 (K1.out.1); have c1 := cf1 (K1.out.1); have c2 := cf2 (K1.out.1); have ql := ld_cfg rt_cfg (K1.out.1) HC.out; have qk := ld_key (K1.out.1) HC.out; clear hc1 hb1 hx1))
  go_ret
  exact ⟨rfl, K1.out.2.1⟩

set_option maxRecDepth 100000 in
set_option maxHeartbeats 4000000 in
theorem mright_any (c : Cfg) (h : c.ok) (v : Bool) (hv : rtB c = v) (w : World) :
    Calls Tryz.prog 37 #[c.val] w fun e w' => e = .returned (.bool v) ∧ Below w.heap.size w w' := by
  have HC := Lib.hid h
  have HV := Lib.hid hv
  clear hv
  by_cases h1 : c.s < 1
  · have d1 : decide (c.s < 1) = true := decide_eq_true h1
    obtain rfl : v = false := by rw [← HV.out]; exact rt_false (fun e => by obtain ⟨⟨e1, e2⟩, ⟨e3, e4⟩, ⟨e5, e6⟩, e7, e8, e9⟩ := rt_unf e; omega)
    clear h h1
    go_enter Tryz.func37, Tryz.ntmps37
    go_wp2_with (first | (refine wpList_boxB rfl 35 (.tmp 0) rfl c.cells (val_agg c) ?_; intro w1 q hc1 hb1 hx1; have K1 := Lib.hid (And.intro hc1 (And.intro hb1 hx1)); have c0 := cf0 (K1.out.1); have c1 := cf1 (K1.out.1); have c2 := cf2 (K1.out.1); have ql := ld_cfg rt_cfg (K1.out.1) HC.out; have qk := ld_key (K1.out.1) HC.out; clear hc1 hb1 hx1))
    go_ret
    exact ⟨rfl, K1.out.2.1⟩
  have d1 : decide (c.s < 1) = false := decide_eq_false h1
  by_cases h2 : 15 < c.s
  · have d2 : decide (15 < c.s) = true := decide_eq_true h2
    obtain rfl : v = false := by rw [← HV.out]; exact rt_false (fun e => by obtain ⟨⟨e1, e2⟩, ⟨e3, e4⟩, ⟨e5, e6⟩, e7, e8, e9⟩ := rt_unf e; omega)
    clear h h1 h2
    go_enter Tryz.func37, Tryz.ntmps37
    go_wp2_with (first | (refine wpList_boxB rfl 35 (.tmp 0) rfl c.cells (val_agg c) ?_; intro w1 q hc1 hb1 hx1; have K1 := Lib.hid (And.intro hc1 (And.intro hb1 hx1)); have c0 := cf0 (K1.out.1); have c1 := cf1 (K1.out.1); have c2 := cf2 (K1.out.1); have ql := ld_cfg rt_cfg (K1.out.1) HC.out; have qk := ld_key (K1.out.1) HC.out; clear hc1 hb1 hx1))
    go_ret
    exact ⟨rfl, K1.out.2.1⟩
  have d2 : decide (15 < c.s) = false := decide_eq_false h2
  by_cases h3 : c.n < 4
  · have d3 : decide (c.n < 4) = true := decide_eq_true h3
    obtain rfl : v = false := by rw [← HV.out]; exact rt_false (fun e => by obtain ⟨⟨e1, e2⟩, ⟨e3, e4⟩, ⟨e5, e6⟩, e7, e8, e9⟩ := rt_unf e; omega)
    clear h h1 h2 h3
    go_enter Tryz.func37, Tryz.ntmps37
    go_wp2_with (first | (refine wpList_boxB rfl 35 (.tmp 0) rfl c.cells (val_agg c) ?_; intro w1 q hc1 hb1 hx1; have K1 := Lib.hid (And.intro hc1 (And.intro hb1 hx1)); have c0 := cf0 (K1.out.1); have c1 := cf1 (K1.out.1); have c2 := cf2 (K1.out.1); have ql := ld_cfg rt_cfg (K1.out.1) HC.out; have qk := ld_key (K1.out.1) HC.out; clear hc1 hb1 hx1))
    go_ret
    exact ⟨rfl, K1.out.2.1⟩
  have d3 : decide (c.n < 4) = false := decide_eq_false h3
  by_cases h4 : 18 < c.n
  · have d4 : decide (18 < c.n) = true := decide_eq_true h4
    obtain rfl : v = false := by rw [← HV.out]; exact rt_false (fun e => by obtain ⟨⟨e1, e2⟩, ⟨e3, e4⟩, ⟨e5, e6⟩, e7, e8, e9⟩ := rt_unf e; omega)
    clear h h1 h2 h3 h4
    go_enter Tryz.func37, Tryz.ntmps37
    go_wp2_with (first | (refine wpList_boxB rfl 35 (.tmp 0) rfl c.cells (val_agg c) ?_; intro w1 q hc1 hb1 hx1; have K1 := Lib.hid (And.intro hc1 (And.intro hb1 hx1)); have c0 := cf0 (K1.out.1); have c1 := cf1 (K1.out.1); have c2 := cf2 (K1.out.1); have ql := ld_cfg rt_cfg (K1.out.1) HC.out; have qk := ld_key (K1.out.1) HC.out; clear hc1 hb1 hx1))
    go_ret
    exact ⟨rfl, K1.out.2.1⟩
  have d4 : decide (18 < c.n) = false := decide_eq_false h4
  by_cases h5 : 19 < c.s + c.n
  · have d5 : decide (19 < c.s + c.n) = true := decide_eq_true h5
    obtain rfl : v = false := by rw [← HV.out]; exact rt_false (fun e => by obtain ⟨⟨e1, e2⟩, ⟨e3, e4⟩, ⟨e5, e6⟩, e7, e8, e9⟩ := rt_unf e; omega)
    have hs : 1 ≤ c.s ∧ c.s ≤ 15 := ⟨by omega, by omega⟩
    have hn : 4 ≤ c.n ∧ c.n ≤ 18 := ⟨by omega, by omega⟩
    have HB := Lib.hid (mboth_any c h ⟨by omega, by omega⟩ ⟨by omega, by omega⟩)
    clear h h1 h2 h3 h4 h5
    go_enter Tryz.func37, Tryz.ntmps37
    go_wp2_with (first | (refine wpList_boxB rfl 35 (.tmp 0) rfl c.cells (val_agg c) ?_; intro w1 q hc1 hb1 hx1; have K1 := Lib.hid (And.intro hc1 (And.intro hb1 hx1)); have c0 := cf0 (K1.out.1); have c1 := cf1 (K1.out.1); have c2 := cf2 (K1.out.1); have ql := ld_cfg rt_cfg (K1.out.1) HC.out; have qk := ld_key (K1.out.1) HC.out; clear hc1 hb1 hx1))
    refine (HB.out _).mono ?_
    rintro e w2 ⟨rfl, hb⟩
    have K2 := Lib.hid (bel_next K1.out.2.1 hb)
    clear hb
    go_wp2_with fail
    go_ret
    exact ⟨rfl, K2.out⟩
  have d5 : decide (19 < c.s + c.n) = false := decide_eq_false h5
  have HB := Lib.hid (mboth_any c h ⟨by omega, by omega⟩ ⟨by omega, by omega⟩)
  by_cases e0 : c.m = 0
  · have f0 : (c.m == 0) = true := by rw [e0]; rfl
    have kz := key_zero c.k h.k v (by
      rw [← HV.out, Bool.eq_iff_iff, beq_iff_eq, rt_iff]
      exact ⟨fun e => ⟨by omega, by omega, by omega, by omega, fun e1 => by omega, fun _ => e⟩, fun e => e.2.2.2.2.2 e0⟩)
    have kg := fun (x y : Operand) (cs : Array Value) (w : World) => key_guard .eql x y c.k cs w
    clear h h1 h2 h3 h4 h5 e0
    go_enter Tryz.func37, Tryz.ntmps37
    go_wp2_with (first | (refine wpList_boxB rfl 35 (.tmp 0) rfl c.cells (val_agg c) ?_; intro w1 q hc1 hb1 hx1; have K1 := Lib.hid (And.intro hc1 (And.intro hb1 hx1)); have c0 := cf0 (K1.out.1); have c1 := cf1 (K1.out.1); have c2 := cf2 (K1.out.1); have ql := ld_cfg rt_cfg (K1.out.1) HC.out; have qk := ld_key (K1.out.1) HC.out; clear hc1 hb1 hx1))
    have KB := Lib.hid K1.out.1
    refine (HB.out _).mono ?_
    rintro e w2 ⟨rfl, hb⟩
    have K2 := Lib.hid (And.intro (K1.out.1.step hb) (bel_next K1.out.2.1 hb))
    clear hb c0 c1 c2 ql qk
    have c0 := cf0 (K2.out.1)
    have c1 := cf1 (K2.out.1)
    have c2 := cf2 (K2.out.1)
    have ql := ld_cfg rt_cfg (K2.out.1) HC.out
    have qk := ld_key (K2.out.1) HC.out
    go_wp2_with fail
    go_ret
    exact ⟨rfl, K2.out.2⟩
  have f0 : (c.m == 0) = false := by rw [beq_eq_false_iff_ne]; exact e0
  by_cases e1 : c.m = 1
  · have f1 : (c.m == 1) = true := by rw [e1]; rfl
    have f3 : (c.s + c.n == 16) = v := by
      rw [← HV.out, Bool.eq_iff_iff, beq_iff_eq, rt_iff]
      exact ⟨fun e => ⟨by omega, by omega, by omega, by omega, fun _ => e, fun e9 => absurd e9 e0⟩, fun e => e.2.2.2.2.1 e1⟩
    clear h h1 h2 h3 h4 h5 e0 e1
    go_enter Tryz.func37, Tryz.ntmps37
    go_wp2_with (first | (refine wpList_boxB rfl 35 (.tmp 0) rfl c.cells (val_agg c) ?_; intro w1 q hc1 hb1 hx1; have K1 := Lib.hid (And.intro hc1 (And.intro hb1 hx1)); have c0 := cf0 (K1.out.1); have c1 := cf1 (K1.out.1); have c2 := cf2 (K1.out.1); have ql := ld_cfg rt_cfg (K1.out.1) HC.out; have qk := ld_key (K1.out.1) HC.out; clear hc1 hb1 hx1))
    have KB := Lib.hid K1.out.1
    refine (HB.out _).mono ?_
    rintro e w2 ⟨rfl, hb⟩
    have K2 := Lib.hid (And.intro (K1.out.1.step hb) (bel_next K1.out.2.1 hb))
    clear hb c0 c1 c2 ql qk
    have c0 := cf0 (K2.out.1)
    have c1 := cf1 (K2.out.1)
    have c2 := cf2 (K2.out.1)
    have ql := ld_cfg rt_cfg (K2.out.1) HC.out
    have qk := ld_key (K2.out.1) HC.out
    go_wp2_with fail
    refine (HB.out _).mono ?_
    rintro e w3 ⟨rfl, hb⟩
    have K3 := Lib.hid (bel_next K2.out.2 hb)
    clear hb
    go_wp2_with fail
    go_ret
    exact ⟨by first | rfl | rw [f3], K3.out⟩
  have f1 : (c.m == 1) = false := by rw [beq_eq_false_iff_ne]; exact e1
  have f2 : (c.m == 2) = v := by
    rw [← HV.out, Bool.eq_iff_iff, beq_iff_eq, rt_iff]
    exact ⟨fun e => ⟨by omega, by omega, by omega, by omega, fun e9 => absurd e9 e1, fun e9 => absurd e9 e0⟩, fun e => by obtain ⟨⟨q1, q2⟩, _⟩ := e; omega⟩
  clear h h1 h2 h3 h4 h5 e0 e1
  go_enter Tryz.func37, Tryz.ntmps37
  go_wp2_with (first | (refine wpList_boxB rfl 35 (.tmp 0) rfl c.cells (val_agg c) ?_; intro w1 q hc1 hb1 hx1; have K1 := Lib.hid (And.intro hc1 (And.intro hb1 hx1)); have c0 := cf0 (K1.out.1); have c1 := cf1 (K1.out.1); have c2 := cf2 (K1.out.1); have ql := ld_cfg rt_cfg (K1.out.1) HC.out; have qk := ld_key (K1.out.1) HC.out; clear hc1 hb1 hx1))
  have KB := Lib.hid K1.out.1
  refine (HB.out _).mono ?_
  rintro e w2 ⟨rfl, hb⟩
  have K2 := Lib.hid (And.intro (K1.out.1.step hb) (bel_next K1.out.2.1 hb))
  clear hb c0 c1 c2 ql qk
  have c0 := cf0 (K2.out.1)
  have c1 := cf1 (K2.out.1)
  have c2 := cf2 (K2.out.1)
  have ql := ld_cfg rt_cfg (K2.out.1) HC.out
  have qk := ld_key (K2.out.1) HC.out
  go_wp2_with fail
  go_ret
  exact ⟨by first | rfl | rw [f2], K2.out.2⟩
set_option maxRecDepth 100000 in
set_option maxHeartbeats 4000000 in
theorem msize_any (c : Cfg) (h : c.ok) (z : Int) (hz : sizeC c = z) (w : World) :
    Calls Tryz.prog 24 #[c.val] w fun e w' => e = .returned (.int .i64 z) ∧ Below w.heap.size w w' := by
  have HC := Lib.hid h
  cases hr : rtB c
  · obtain rfl : z = 0 := by rw [← hz, size_no hr]
    have HR := Lib.hid (fun u => mright_any c h false hr u)
    clear h hr hz
    go_enter Tryz.func24, Tryz.ntmps24
    go_wp2_with (first | (refine wpList_boxB rfl 35 (.tmp 0) rfl c.cells (val_agg c) ?_; intro w1 q hc1 hb1 hx1; have K1 := Lib.hid (And.intro hc1 (And.intro hb1 hx1)); have c0 := cf0 (K1.out.1); have c1 := cf1 (K1.out.1); have c2 := cf2 (K1.out.1); have ql := ld_cfg rt_cfg (K1.out.1) HC.out; have qk := ld_key (K1.out.1) HC.out; clear hc1 hb1 hx1))
    refine (HR.out _).mono ?_
    rintro e w2 ⟨rfl, hb⟩
    have K2 := Lib.hid (bel_next K1.out.2.1 hb)
    clear hb
    go_wp2_with fail
    go_ret
    exact ⟨rfl, K2.out⟩
  · have HZ : Hid (1 + (c.s + c.n) = z) := Lib.hid (by rw [← hz, size_ok hr])
    obtain ⟨r1, r2, r3, r4, _, _⟩ := rt_unf (rt_of hr)
    have HR := Lib.hid (fun u => mright_any c h true hr u)
    have HB := Lib.hid (fun u => mboth_any c h r2 r3 u)
    clear h hr hz
    go_enter Tryz.func24, Tryz.ntmps24
    go_wp2_with (first | (refine wpList_boxB rfl 35 (.tmp 0) rfl c.cells (val_agg c) ?_; intro w1 q hc1 hb1 hx1; have K1 := Lib.hid (And.intro hc1 (And.intro hb1 hx1)); have c0 := cf0 (K1.out.1); have c1 := cf1 (K1.out.1); have c2 := cf2 (K1.out.1); have ql := ld_cfg rt_cfg (K1.out.1) HC.out; have qk := ld_key (K1.out.1) HC.out; clear hc1 hb1 hx1))
    refine (HR.out _).mono ?_
    rintro e w2 ⟨rfl, hb⟩
    have K2 := Lib.hid (And.intro (K1.out.1.step hb) (bel_next K1.out.2.1 hb))
    clear hb c0 c1 c2 ql qk
    have c0 := cf0 (K2.out.1)
    have c1 := cf1 (K2.out.1)
    have c2 := cf2 (K2.out.1)
    have ql := ld_cfg rt_cfg (K2.out.1) HC.out
    have qk := ld_key (K2.out.1) HC.out
    go_wp2_with fail
    refine (HB.out _).mono ?_
    rintro e w3 ⟨rfl, hb⟩
    have K3 := Lib.hid (bel_next K2.out.2 hb)
    clear hb
    go_wp2_with fail
    go_ret
    exact ⟨by rw [← HZ.out]; rfl, K3.out⟩
end Go.Proofs.YtkcchidklcnnnaaGreat

/- Layer 16: stores into a configuration. No condition; nothing is claimed of the program here. -/
namespace Go.Proofs.YtkcchidklcnnnaaGreat
open Go.RowKit
set_option linter.unusedVariables false
set_option linter.unusedSimpArgs false
theorem putsL_eq : ∀ (vs cs : List Value) (o : Nat), o + vs.length ≤ cs.length → putsL cs o vs = cs.take o ++ (vs ++ cs.drop (o + vs.length))
  | [], cs, o, h => by simp [putsL]
  | v :: r, cs, o, h => by
    simp only [List.length_cons] at h
    rw [putsL, putsL_eq r _ _ (by rw [List.length_set]; omega)]
    have e : cs.set o v = cs.take o ++ v :: cs.drop (o + 1) := by rw [List.set_eq_take_append_cons_drop, if_pos (by omega)]
    have hA : (cs.take o).length = o := by rw [List.length_take]; omega
    have e1 : (cs.take o ++ v :: cs.drop (o + 1)).take (o + 1) = cs.take o ++ [v] := by
      rw [List.take_append, hA, List.take_of_length_le (by omega), show o + 1 - o = 1 by omega]
      rfl
    have e2 : (cs.take o ++ v :: cs.drop (o + 1)).drop (o + 1 + r.length) = cs.drop (o + (v :: r).length) := by
      rw [List.drop_append, hA, List.drop_of_length_le (by omega), List.nil_append, show o + 1 + r.length - o = r.length + 1 by omega, List.drop_succ_cons, List.drop_drop, List.length_cons]
      congr 1
      omega
    rw [e, e1, e2]
    simp
theorem puts_whole (vs cs : List Value) (h : vs.length = cs.length) : putsL cs 0 vs = vs := by
  rw [putsL_eq vs cs 0 (by omega)]
  simp [h]
theorem zero_lit : (Value.agg #[.int .i64 0, .int .i64 0, .int .i64 0, .int .u8 0, .int .u8 0, .int .u8 0, .int .u8 0, .int .u8 0, .int .u8 0, .int .u8 0, .int .u8 0, .int .u8 0, .int .u8 0, .int .u8 0, .int .u8 0, .int .u8 0, .int .u8 0, .int .u8 0, .int .u8 0]) = .agg zeroC.cells.toArray := rfl
theorem ex_stC (ev : Operand → Value) (x y : Operand) (d : Option Tmp) (ty : TypeId) (ps : String) (af : Array Edge) (g : Option (Nat × Bool)) (w : World) : (execOp ev ⟨d, .store 35 x y, ty, ps, af, g⟩).run Tryz.prog w = stHd 35 (ev x) (ev y) w := rfl
theorem ex_stR (ev : Operand → Value) (x y : Operand) (d : Option Tmp) (ty : TypeId) (ps : String) (af : Array Edge) (g : Option (Nat × Bool)) (w : World) : (execOp ev ⟨d, .store 29 x y, ty, ps, af, g⟩).run Tryz.prog w = stHd 29 (ev x) (ev y) w := rfl
/-- A whole configuration stored over another one. -/
theorem st_cfg {T : TypeId} (rt : RT T zeroC.cells) {w : World} {q : Nat} {c d : Cfg} (k : Blk T w q c.cells) (hc : c.ok) (hd : d.ok) : stHd T (.pointer (some ⟨q, 0, none⟩)) d.val w = .ok .skip (w.setCells q 0 d.cells) := by
  rw [val_agg]
  exact stB_m rt k (cells_one d) (by rw [Cfg.cells_len hd, zeroC_len]) (by rw [Cfg.cells_len hc, zeroC_len]; omega)
/-- The key, its first k bytes laid. -/
def keyTo (l : List UInt8) (k : Nat) : List UInt8 := (l.drop 4).take k ++ zK.drop k
end Go.Proofs.YtkcchidklcnnnaaGreat

