/- Layer 16: a configuration in memory and as a value; equality. No condition but that a key has sixteen bytes; nothing is claimed of the program here. -/
import Derived.Test.YtfipdaekfdbaeaaGreatMdP
import Derived.Test.YtfipdaekfdbaeaaGreatRec
import Derived.Test.YtfipdaekfdbaeaaGreatMemAll
import Derived.Test.YtfipdaekfdbaeaaGreatHvV
import Derived.Laws.StructEq
import Derived.ChangeKeysEq
namespace Go.Proofs.YtfipdaekfdbaeaaGreat
open Go.RowKit
set_option linter.unusedVariables false
set_option linter.unusedSimpArgs false
/-! Types. -/
set_option maxRecDepth 100000 in
theorem rt_cfg : RT 24 zeroC.cells := ⟨row_of (by kernel_rfl), by kernel_rfl⟩
set_option maxRecDepth 100000 in
theorem rt_rcfg : RT 32 zeroC.cells := ⟨row_of (by kernel_rfl), by kernel_rfl⟩
set_option maxRecDepth 100000 in
theorem rt_key : RT 22 (bvs zK) := ⟨row_of (by kernel_rfl), by kernel_rfl⟩
theorem zeroC_len : zeroC.cells.length = 19 := rfl
theorem val_agg (c : Cfg) : c.val = .agg c.cells.toArray := rfl
theorem zeroC_val : zeroC.val = .agg #[.int .i64 0, .int .i64 0, .int .i64 0, .int .u8 0, .int .u8 0, .int .u8 0, .int .u8 0, .int .u8 0, .int .u8 0, .int .u8 0, .int .u8 0, .int .u8 0, .int .u8 0, .int .u8 0, .int .u8 0, .int .u8 0, .int .u8 0, .int .u8 0, .int .u8 0] := rfl
theorem cells_one (c : Cfg) : ones c.cells := by
  intro v hv
  unfold Cfg.cells at hv
  rcases List.mem_cons.1 hv with rfl | hv
  · rfl
  rcases List.mem_cons.1 hv with rfl | hv
  · rfl
  rcases List.mem_cons.1 hv with rfl | hv
  · rfl
  exact bvs_one c.k v hv
/-! A configuration in a block. -/
section
variable {T : TypeId} {w w' : World} {q : Nat} {c : Cfg}
theorem cf0 (k : Blk T w q c.cells) : w.cell? ⟨q, 0, none⟩ = some (.int .i64 c.m) := k.cell 0
theorem cf1 (k : Blk T w q c.cells) : w.cell? ⟨q, 1, none⟩ = some (.int .i64 c.s) := k.cell 1
theorem cf2 (k : Blk T w q c.cells) : w.cell? ⟨q, 2, none⟩ = some (.int .i64 c.n) := k.cell 2
theorem cf_key (k : Blk T w q c.cells) {i : Nat} {x : UInt8} (hx : c.k[i]? = some x) : w.cell? ⟨q, 3 + i, none⟩ = some (bv x) := by
  rw [k.cell]
  unfold Cfg.cells
  rw [show 3 + i = i + 1 + 1 + 1 by omega, List.getElem?_cons_succ, List.getElem?_cons_succ, List.getElem?_cons_succ, bvs_at', hx]
  rfl
theorem cf_rb (k : Blk T w q c.cells) (h : c.k.length = 16) : RB w w.heap.size (some ⟨q, 3, none⟩) 16 c.k :=
  ⟨h, fun _ => ⟨q, 3, rfl, k.lt, fun i hi => cf_key k (List.getElem?_eq_getElem hi)⟩⟩
theorem ld_cfg (rt : RT T zeroC.cells) (k : Blk T w q c.cells) (h : c.ok) : ldHd T (.pointer (some ⟨q, 0, none⟩)) w = .ok (.value c.val) w := by
  rw [val_agg]
  exact ldB_m rt k (by rw [List.drop_zero, zeroC_len, List.take_of_length_le (by rw [Cfg.cells_len h]; exact Nat.le_refl _)]) (by rw [Cfg.cells_len h, zeroC_len])
theorem ld_key (k : Blk T w q c.cells) (h : c.ok) : ldHd 22 (.pointer (some ⟨q, 3, none⟩)) w = .ok (.value (AV c.k)) w := by
  have hd : c.cells.drop 3 = bvs c.k := rfl
  unfold AV
  exact ldB_m rt_key k (by rw [hd, List.take_of_length_le (by rw [bvs_length, bvs_length, h.k]; exact Nat.le_refl _)]) (by rw [bvs_length, bvs_length, h.k]; rfl)
end
theorem ex_ldC (ev : Operand → Value) (x : Operand) (d : Option Tmp) (ty : TypeId) (ps : String) (af : Array Edge) (g : Option (Nat × Bool)) (w : World) : (execOp ev ⟨d, .load 24 x, ty, ps, af, g⟩).run Tryz.prog w = ldHd 24 (ev x) w := rfl
theorem ex_ldR (ev : Operand → Value) (x : Operand) (d : Option Tmp) (ty : TypeId) (ps : String) (af : Array Edge) (g : Option (Nat × Bool)) (w : World) : (execOp ev ⟨d, .load 32 x, ty, ps, af, g⟩).run Tryz.prog w = ldHd 32 (ev x) w := rfl
theorem ex_ldK (ev : Operand → Value) (x : Operand) (d : Option Tmp) (ty : TypeId) (ps : String) (af : Array Edge) (g : Option (Nat × Bool)) (w : World) : (execOp ev ⟨d, .load 22 x, ty, ps, af, g⟩).run Tryz.prog w = ldHd 22 (ev x) w := rfl
theorem key_slice (q : Nat) (W : World) : (Instr.sliceAt 22 (.pointer (some ⟨q, 3, none⟩)) none none none).run Tryz.prog W = .ok (.slice (some ⟨q, 3, none⟩) 16 16) W := by kernel_rfl
/-! Equality. -/
theorem bv_eql (d : Nat) (x y : UInt8) (w : World) : (Op.equalIn (d + 1) 5 (bv x) (bv y)).run Tryz.prog w = .ok (x == y) w := by
  unfold bv
  rw [run_equalIn_int w d _ _ _ _ _ Tryz.underlying5]
  congr 1
  rw [Bool.eq_iff_iff, beq_iff_eq, beq_iff_eq, ← UInt8.toNat_inj]
  omega
theorem items_B (a b : List UInt8) (d : Nat) (w : World) : ∀ is : List Nat, (∀ i ∈ is, i < a.length ∧ i < b.length) →
    (Op.eqItems (d + 1) 5 (Tryz.prog.cellsOf 5) (bvs a).toArray (bvs b).toArray is).run Tryz.prog w = .ok (is.all fun i => a[i]? == b[i]?) w
  | [], _ => by simp [Op.eqItems]
  | i :: is, h => by
    have hc : Tryz.prog.cellsOf 5 = 1 := by kernel_rfl
    have hp : Tryz.prog.plainKey 5 = true := by simp [Program.plainKey, Tryz.underlying5]
    obtain ⟨h1, h2⟩ := h i (by simp)
    have hx : ((bvs a).toArray)[i * 1]? = some (bv (a[i]'h1)) := by simp [bvs, h1]
    have hy : ((bvs b).toArray)[i * 1]? = some (bv (b[i]'h2)) := by simp [bvs, h2]
    have ih := items_B a b d w is (fun j hj => h j (by simp [hj]))
    rw [hc] at ih
    simp only [Op.eqItems, Sem.run_bind, hc, run_part_plain w hp hx, run_part_plain w hp hy, Result.andThen_ok, bv_eql, List.all_cons, List.getElem?_eq_getElem h1, List.getElem?_eq_getElem h2]
    have e : ((some a[i] : Option UInt8) == some b[i]) = (a[i] == b[i]) := rfl
    rw [e]
    cases hq : (a[i] == b[i])
    · simp
    · simpa using ih
theorem all_same (a b : List UInt8) (n : Nat) (ha : a.length = n) (hb : b.length = n) : ((List.range n).all fun i => a[i]? == b[i]?) = (a == b) := by
  rw [Bool.eq_iff_iff, List.all_eq_true, beq_iff_eq]
  constructor
  · intro h
    refine List.ext_getElem? fun i => ?_
    by_cases hi : i < n
    · exact eq_of_beq (h i (List.mem_range.2 hi))
    · rw [List.getElem?_eq_none (by omega), List.getElem?_eq_none (by omega)]
  · rintro rfl i _
    exact beq_self_eq_true _
theorem eq_key (a b : List UInt8) (ha : a.length = 16) (hb : b.length = 16) (d : Nat) (w : World) : (Op.equalIn (d + 2) 22 (.agg (bvs a).toArray) (.agg (bvs b).toArray)).run Tryz.prog w = .ok (a == b) w := by
  obtain ⟨i, hi⟩ := info_of_underlying Tryz.underlying5
  rw [run_equalIn_array w (d + 1) _ _ Tryz.underlying22 hi, items_B a b d w _ (fun j hj => by have := List.mem_range.1 hj; omega), all_same a b 16 ha hb]
theorem eql_key (a b : List UInt8) (ha : a.length = 16) (hb : b.length = 16) (w : World) : (binOp .eql 22 (AV a) (AV b)).run Tryz.prog w = .ok (.bool (a == b)) w := by
  unfold AV
  rw [run_eql_struct, show (10000 : Nat) = 9998 + 2 from rfl, eq_key a b ha hb]
  rfl
theorem eg_key (op : BinOp) (x y : Operand) (a b : List UInt8) (w : World) : (eqGuard op 22 x y (AV a) (AV b)).run Tryz.prog w = .ok () w := run_eqGuard_agg w op _ x y _ _ (by kernel_rfl)
/-- A configuration's type, for equality. -/
structure ET (T : TypeId) : Prop where
  u : Tryz.prog.underlying T = some (.struct (Tryz.prog.fieldsOf T))
  h : Tryz.prog.stoodInHeld T = false
  f : (Tryz.prog.fieldsOf T).toList.map (fun f => (f.name == "_", f.type, f.offset)) = [(false, 3, 0), (false, 3, 1), (false, 3, 2), (false, 22, 3)]
  g : Tryz.prog.eqGuardType Tryz.prog.depth T = false
theorem et_cfg : ET 24 := ⟨by kernel_rfl, by kernel_rfl, by kernel_rfl, by kernel_rfl⟩
theorem et_rcfg : ET 32 := ⟨by kernel_rfl, by kernel_rfl, by kernel_rfl, by kernel_rfl⟩
theorem part_int (cs : List Value) (o : Nat) (v : Value) (w : World) (h : cs[o]? = some v) : (part 3 cs.toArray o).run Tryz.prog w = .ok v w :=
  run_part_plain w (by simp [Program.plainKey, Tryz.underlying3]) (by simpa using h)
theorem part_key (c : Cfg) (h : c.ok) (w : World) : (part 22 c.cells.toArray 3).run Tryz.prog w = .ok (.agg (bvs c.k).toArray) w := by
  obtain ⟨i, hi⟩ := info_of_underlying Tryz.underlying22
  have hc : Tryz.prog.cellsOf 22 = 16 := by kernel_rfl
  have e : c.cells.toArray.extract 3 (3 + 16) = (bvs c.k).toArray := by
    apply Array.toList_inj.1
    rw [Array.toList_extract]
    have hd : c.cells.drop 3 = bvs c.k := rfl
    simp only [List.extract, hd]
    rw [List.take_of_length_le (by rw [bvs_length, h.k]; omega)]
  simp only [part, isAgg, Sem.run_bind, run_underlying Tryz.underlying22, Result.andThen_ok, Sem.run_pure, if_true, run_sizeOf w hi, hc, e]
theorem eq_int (d : Nat) (x y : Int) (w : World) : (Op.equalIn (d + 1) 3 (.int .i64 x) (.int .i64 y)).run Tryz.prog w = .ok (x == y) w := run_equalIn_int w d _ _ _ _ _ Tryz.underlying3
theorem cfg_eta (c d : Cfg) : c = d ↔ c.m = d.m ∧ c.s = d.s ∧ c.n = d.n ∧ c.k = d.k := by
  constructor
  · rintro rfl; exact ⟨rfl, rfl, rfl, rfl⟩
  · obtain ⟨_, _, _, _⟩ := c
    obtain ⟨_, _, _, _⟩ := d
    rintro ⟨rfl, rfl, rfl, rfl⟩; rfl
theorem eq_cfg {T : TypeId} (et : ET T) (c d : Cfg) (hc : c.ok) (hd : d.ok) (n : Nat) (w : World) : (Op.equalIn (n + 3) T c.val d.val).run Tryz.prog w = .ok (decide (c = d)) w := by
  rw [val_agg, val_agg, run_equalIn_struct w (n + 2) T _ _ et.u et.h]
  have hf := et.f
  generalize (Tryz.prog.fieldsOf T).toList = fs at hf
  have hl4 : fs.length = 4 := by have := congrArg List.length hf; simpa using this
  match fs, hl4, hf with
  | [f0, f1, f2, f3], _, hf =>
    simp only [List.map_cons, List.map_nil, List.cons.injEq, Prod.mk.injEq, and_true] at hf
    obtain ⟨⟨n0, t0, o0⟩, ⟨n1, t1, o1⟩, ⟨n2, t2, o2⟩, n3, t3, o3⟩ := hf
    have m0 : f0.name ≠ "_" := by simpa using n0
    have m1 : f1.name ≠ "_" := by simpa using n1
    have m2 : f2.name ≠ "_" := by simpa using n2
    have m3 : f3.name ≠ "_" := by simpa using n3
    simp only [Op.eqFields, m0, m1, m2, m3, ne_eq, not_false_eq_true, if_true, t0, o0, t1, o1, t2, o2, t3, o3, Sem.run_bind, part_int c.cells 0 _ w rfl, part_int d.cells 0 _ w rfl, part_int c.cells 1 _ w rfl, part_int d.cells 1 _ w rfl, part_int c.cells 2 _ w rfl, part_int d.cells 2 _ w rfl, part_key c hc, part_key d hd, Result.andThen_ok, eq_int, eq_key c.k d.k hc.k hd.k]
    cases h0 : (c.m == d.m)
    · simp only [Bool.not_false, if_true, Sem.run_pure]
      rw [decide_eq_false]
      intro e; rw [e] at h0; simp at h0
    cases h1 : (c.s == d.s)
    · simp only [Bool.not_false, Bool.not_true, Bool.false_eq_true, if_false, if_true, Sem.run_pure, Sem.run_bind, part_int c.cells 1 _ w rfl, part_int d.cells 1 _ w rfl, Result.andThen_ok, eq_int, h1]
      rw [decide_eq_false]
      intro e; rw [e] at h1; simp at h1
    cases h2 : (c.n == d.n)
    · simp only [Bool.not_false, Bool.not_true, Bool.false_eq_true, if_false, if_true, Sem.run_pure, Sem.run_bind, part_int c.cells 1 _ w rfl, part_int d.cells 1 _ w rfl, part_int c.cells 2 _ w rfl, part_int d.cells 2 _ w rfl, Result.andThen_ok, eq_int, h1, h2]
      rw [decide_eq_false]
      intro e; rw [e] at h2; simp at h2
    · have hr : (c.k == d.k) = decide (c = d) := by
        rw [Bool.eq_iff_iff, beq_iff_eq, decide_eq_true_eq, cfg_eta]
        exact ⟨fun e => ⟨eq_of_beq h0, eq_of_beq h1, eq_of_beq h2, e⟩, fun e => e.2.2.2⟩
      simp only [Bool.not_false, Bool.not_true, Bool.false_eq_true, if_false, if_true, Sem.run_pure, Sem.run_bind, part_int c.cells 1 _ w rfl, part_int d.cells 1 _ w rfl, part_int c.cells 2 _ w rfl, part_int d.cells 2 _ w rfl, part_key c hc, part_key d hd, Result.andThen_ok, eq_int, h1, h2, eq_key c.k d.k hc.k hd.k, hr]
      cases decide (c = d) <;> rfl
theorem eql_cfg {T : TypeId} (et : ET T) (c d : Cfg) (hc : c.ok) (hd : d.ok) (w : World) : (binOp .eql T c.val d.val).run Tryz.prog w = .ok (.bool (decide (c = d))) w := by
  have h := eq_cfg et c d hc hd 9997 w
  rw [val_agg, val_agg] at h ⊢
  rw [run_eql_struct, show (10000 : Nat) = 9997 + 3 from rfl, h]
  rfl
theorem neq_cfg {T : TypeId} (et : ET T) (c d : Cfg) (hc : c.ok) (hd : d.ok) (w : World) : (binOp .neq T c.val d.val).run Tryz.prog w = .ok (.bool (!decide (c = d))) w := by
  have h := eq_cfg et c d hc hd 9997 w
  rw [val_agg, val_agg] at h ⊢
  rw [run_neq_struct, show (10000 : Nat) = 9997 + 3 from rfl, h]
  rfl
theorem eg_cfg {T : TypeId} (et : ET T) (op : BinOp) (x y : Operand) (c d : Cfg) (w : World) : (eqGuard op T x y c.val d.val).run Tryz.prog w = .ok () w := run_eqGuard_agg w op _ x y _ _ et.g
/-! A literal. -/
theorem wpList_bld {w : World} {ops : Array Oper} {rest : List Oper} {o : Oper} {a : Act} {Q : Exit → Act → World → Prop} (hgd : o.guard = none) (T : TypeId) (ps : List (Nat × Operand)) (hop : o.op = .build T ps.toArray) (vs : List (Nat × Value)) (hv : ps.map (fun p => (p.1, a.eval p.2)) = vs)
    (cells : Array Value) (hb : Tryz.prog.built T vs = some cells) (h : wpList Tryz.prog ops Q rest (a.put o.dst (.agg cells)) w) : wpList Tryz.prog ops Q (o :: rest) a w := by
  refine wpList_plain hgd fun K hK => ?_
  unfold Oper.wp execOp
  have e : (ps.toArray.map fun x => match x with | (i, v) => (i, a.eval v)) = vs.toArray := by rw [List.map_toArray, ← hv]
  simp only [hop, e, Sem.run_bind, run_build w _ vs.toArray _ (by simpa using hb), Result.andThen_ok]
  exact hK _ _ h
end Go.Proofs.YtfipdaekfdbaeaaGreat
