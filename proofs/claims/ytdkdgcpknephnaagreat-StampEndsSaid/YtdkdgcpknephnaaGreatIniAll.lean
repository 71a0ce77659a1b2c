/- Records (objects of several cells, known by their whole block), Initials in memory (layer 11), and what is parsed and written, in plain words. Nothing is claimed of the program here. -/
import Derived.Test.YtdkdgcpknephnaaGreatHeadUse
namespace Go.Proofs.YtdkdgcpknephnaaGreat
open Go.RowKit
set_option linter.unusedVariables false
set_option linter.unusedSimpArgs false

/-! Records. -/
/-- Block x holds the cells cs: one object of type T. -/
def Blk (T : TypeId) (w : World) (x : Nat) (cs : List Value) : Prop := w.heap[x]? = some (.cells cs.toArray T (0, 0))
/-- Cells, some of them stored anew. -/
def putsL : List Value → Nat → List Value → List Value
  | cs, _, [] => cs
  | cs, o, v :: r => putsL (cs.set o v) (o + 1) r
theorem putsL_len : ∀ (vs cs : List Value) (o : Nat), (putsL cs o vs).length = cs.length
  | [], _, _ => rfl
  | v :: r, cs, o => by rw [putsL, putsL_len r, List.length_set]
section
variable {T : TypeId} {w w' : World} {x : Nat} {cs : List Value} {S : List Nat}
theorem Blk.cell (k : Blk T w x cs) (j : Nat) : w.cell? ⟨x, j, none⟩ = cs[j]? := by rw [cell_of_row w x j _ T (0, 0) k]; simp
theorem Blk.free (k : Blk T w x cs) (j : Nat) : w.frozen? ⟨x, j, none⟩ = false := frozen_of_row w x j _ T k
theorem Blk.lt (k : Blk T w x cs) : x < w.heap.size := (Array.getElem?_eq_some_iff.1 k).1
theorem Blk.oth (k : Blk T w x cs) (ho : Oth S w w') (hx : x ∉ S) : Blk T w' x cs := (ho.block x k.lt hx).trans k
theorem Blk.step (k : Blk T w x cs) (hb : Below w.heap.size w w') : Blk T w' x cs := (hb.block x k.lt).trans k
theorem Blk.new (w : World) (T : TypeId) (cs : List Value) (x : Nat) (hx : x = w.heap.size) : Blk T (w.alloc (.cells cs.toArray T)) x cs := by subst hx; exact heap_alloc_new w _
theorem Blk.set (k : Blk T w x cs) (j : Nat) (v : Value) : Blk T (w.setCell ⟨x, j, none⟩ v) x (cs.set j v) := by
  have h := heap_setCell_same w x j _ T v k
  unfold Blk
  rw [h]
  simp
theorem Blk.puts : ∀ (vs : List Value) (o : Nat) (w : World) (cs : List Value), Blk T w x cs → Blk T (w.setCells x o vs) x (putsL cs o vs)
  | [], o, w, cs, k => k
  | v :: r, o, w, cs, k => by rw [World.setCells, putsL]; exact Blk.puts r (o + 1) _ _ (k.set o v)
theorem Blk.nob (k : Blk T w x cs) (hT : T ≠ 5) : NoB [x] w := fun j hj ds fr e => by
  rw [List.mem_singleton.1 hj, show w.heap[x]? = _ from k] at e
  injection e with e
  injection e with _ e
  exact hT e
theorem Blk.range (k : Blk T w x cs) (o n : Nat) : w.rangeAt x o ((cs.drop o).take n) := fun j v hv => by
  rw [k.cell]
  rw [List.getElem?_take] at hv
  split at hv
  · rw [List.getElem?_drop] at hv; exact hv
  · cases hv
theorem Blk.there (k : Blk T w x cs) (o n : Nat) (h : o + n ≤ cs.length) : w.there x o n := fun j hj => by
  refine ⟨?_, k.free _⟩
  rw [k.cell, List.getElem?_eq_getElem (by omega)]
  rfl
theorem Blk.far (k : Blk T w x cs) {T' : TypeId} {y : Nat} {ds : List Value} (t : Blk T' w y ds) (hT : T ≠ T') : x ≠ y := fun e => by
  subst e
  have e := (show w.heap[x]? = _ from k).symm.trans t
  injection e with e
  injection e with _ e
  exact hT e
/-- A record lies apart from bytes that grow. -/
theorem Blk.app {base n c : Nat} {A : Option Addr} {l : List UInt8} (k : Blk T w x cs) (hT : T ≠ 5) (r : OwnB w base A n c l) (ho : Oth (blkO A) w w') : Blk T w' x cs :=
  k.oth ho (fun hm => by
    obtain ⟨a, ea, hk⟩ := mem_blkO hm
    exact (k.nob hT).own r a.block 0 (by rw [ea]; exact congrArg some (r.spot a ea).1) (by simp [hk]))
end
/-- A record's type, and its zero's cells. -/
structure RT (T : TypeId) (z : List Value) : Prop where
  row : ∃ d, Tryz.prog.underlying T = some d ∧ d.isRow = true
  info : (Tryz.prog.info? T).map (fun i => (i.zero, i.size)) = some (some (.agg z.toArray), z.length)
theorem RT.size {T : TypeId} {z : List Value} (h : RT T z) : (Tryz.prog.info? T).map (·.size) = some z.length := by
  have h2 := h.info
  rcases hi : Tryz.prog.info? T with _ | i
  · rw [hi] at h2; cases h2
  · rw [hi] at h2
    simp only [Option.map_some, Option.some.injEq, Prod.mk.injEq] at h2
    simp [h2.2]
theorem RT.zero {T : TypeId} {z : List Value} (h : RT T z) (w : World) : (zeroValue T).run Tryz.prog w = .ok (.agg z.toArray) w := by
  have h2 := h.info
  rcases hi : Tryz.prog.info? T with _ | i
  · rw [hi] at h2; cases h2
  · rw [hi] at h2
    simp only [Option.map_some, Option.some.injEq, Prod.mk.injEq] at h2
    simp [zeroValue, typeInfo, hi, h2.1]
theorem HT.rt {T : TypeId} (h : HT T) : RT T zeroH.cells := ⟨h.1, by
  have h2 := h.2
  rcases hi : Tryz.prog.info? T with _ | i
  · rw [hi] at h2; cases h2
  · rw [hi] at h2
    simp only [Option.map_some, Option.some.injEq, Prod.mk.injEq] at h2 ⊢
    exact ⟨h2.1, h2.2.1⟩⟩
/-- Every cell is one cell. -/
def ones (cs : List Value) : Prop := ∀ v ∈ cs, v.oneCell' = true
section
variable {w : World} {ops : Array Oper} {rest : List Oper} {o : Oper} {a : Act} {Q : Exit → Act → World → Prop} {T T' : TypeId} {z : List Value}
theorem wpList_ldB (rt : RT T z) (hgd : o.guard = none) (x : Operand) (hop : o.op = .load T x) (g k : Nat) (hx : a.eval x = .pointer (some ⟨g, k, none⟩)) (cs vs : List Value) (hc : Blk T' w g cs) (hv : (cs.drop k).take z.length = vs) (hl : vs.length = z.length)
    (hk : wpList Tryz.prog ops Q rest (a.put o.dst (.agg vs.toArray)) w) : wpList Tryz.prog ops Q (o :: rest) a w := by
  obtain ⟨d, hu, hd⟩ := rt.row
  refine wpList_load_mid hgd _ x hop g k hx vs d (by rw [← hv]; exact hc.range k _) hu hd (by rw [hl]; exact rt.size) hk
theorem wpList_stB (rt : RT T z) (hgd : o.guard = none) (x y : Operand) (hop : o.op = .store T x y) (g k : Nat) (hx : a.eval x = .pointer (some ⟨g, k, none⟩)) (cs vs : List Value) (hy : a.eval y = .agg vs.toArray) (h1 : ones vs) (hl : vs.length = z.length) (hc : Blk T' w g cs) (hr : k + z.length ≤ cs.length)
    (hk : ∀ w', Blk T' w' g (putsL cs k vs) → Oth [g] w w' → w'.heap.size = w.heap.size → wpList Tryz.prog ops Q rest (a.put o.dst undef) w') : wpList Tryz.prog ops Q (o :: rest) a w := by
  refine wpList_store_mid hgd _ x y hop g k vs.toArray hx hy (by rw [List.size_toArray, hl]; exact hc.there _ _ hr) (by rw [List.size_toArray, hl]; exact rt.size) (all_oneCell_toArray h1) ?_
  exact hk _ (hc.puts _ _ _ _) (oth_setCells g _ _ _ _ (Oth.refl _ _)) (size_setCellsH g _ _ _)
/-- Boxed; made: the world behind it by a name of its own. -/
theorem wpList_boxB (hgd : o.guard = none) (T : TypeId) (x : Operand) (hop : o.op = .box T x) (cs : List Value) (hx : a.eval x = .agg cs.toArray)
    (hk : ∀ w' q, Blk T w' q cs → Below w.heap.size w w' → w.heap.size ≤ q → wpList Tryz.prog ops Q rest (a.put o.dst (.pointer (some ⟨q, 0, none⟩))) w') : wpList Tryz.prog ops Q (o :: rest) a w := by
  have hk := hk _ _ (Blk.new _ _ _ _ rfl) (below_alloc _ _) (Nat.le_refl _)
  refine wpList_plain hgd fun K hK => ?_
  have hr : (Instr.box T (.agg cs.toArray)).run Tryz.prog w = .ok (.pointer (some ⟨w.heap.size, 0, none⟩)) (w.alloc (.cells cs.toArray T)) := rfl
  unfold Oper.wp execOp
  simp only [hop, hx, Sem.run_bind, hr, Result.andThen_ok]
  exact hK _ _ hk
theorem wpList_newB (rt : RT T z) (hgd : o.guard = none) (hop : o.op = .alloc T)
    (hk : ∀ w' q, Blk T w' q z → Below w.heap.size w w' → w.heap.size ≤ q → wpList Tryz.prog ops Q rest (a.put o.dst (.pointer (some ⟨q, 0, none⟩))) w') : wpList Tryz.prog ops Q (o :: rest) a w := by
  have hk := hk _ _ (Blk.new _ _ _ _ rfl) (below_alloc _ _) (Nat.le_refl _)
  refine wpList_plain hgd fun K hK => ?_
  have hz := rt.zero w
  have hr : (Instr.alloc T true (.tuple #[])).run Tryz.prog w = .ok (.pointer (some ⟨w.heap.size, 0, none⟩)) (w.alloc (.cells z.toArray T)) := by
    unfold Instr.alloc
    simp only [Sem.run_bind, hz, Result.andThen_ok]
    rfl
  unfold Oper.wp execOp
  simp only [hop, Sem.run_bind, hr, Result.andThen_ok]
  exact hK _ _ hk
end
theorem ldB_m {T T' : TypeId} {z : List Value} (rt : RT T z) {w : World} {g k : Nat} {cs vs : List Value} (hc : Blk T' w g cs) (hv : (cs.drop k).take z.length = vs) (hl : vs.length = z.length) : ldHd T (.pointer (some ⟨g, k, none⟩)) w = .ok (.value (.agg vs.toArray)) w := by
  obtain ⟨d, hu, hd⟩ := rt.row
  have := run_loadAt_mid (P := Tryz.prog) w g k T vs d (by rw [← hv]; exact hc.range k _) hu hd (by rw [hl]; exact rt.size)
  unfold ldHd
  simp only [Sem.run_bind, this, Result.andThen_ok, Sem.run_pure]
theorem stB_m {T T' : TypeId} {z : List Value} (rt : RT T z) {w : World} {g k : Nat} {cs vs : List Value} (hc : Blk T' w g cs) (h1 : ones vs) (hl : vs.length = z.length) (hr : k + z.length ≤ cs.length) : stHd T (.pointer (some ⟨g, k, none⟩)) (.agg vs.toArray) w = .ok .skip (w.setCells g k vs) := by
  have := run_storeAt_mid (P := Tryz.prog) w g k T vs.toArray (by rw [List.size_toArray, hl]; exact hc.there _ _ hr) (by rw [List.size_toArray, hl]; exact rt.size) (all_oneCell_toArray h1)
  unfold stHd
  simp only [Sem.run_bind]
  rw [this]
  rfl
/-- A result that lies in a record's variable: alone; before a number. -/
theorem res_rec {fn : Func} {p : Tmp} {T : TypeId} {z : List Value} (rt : RT T z) (hr : fn.results = #[.cell p T]) (tmps : Array Value) (w : World) (b : Nat) (cs : List Value) (hp : tmps.getD p undef = .pointer (some ⟨b, 0, none⟩)) (hc : Blk T w b cs) (hl : cs.length = z.length) :
    (results fn tmps).run Tryz.prog w = .ok (.agg cs.toArray) w := by
  obtain ⟨d, hu, hd⟩ := rt.row
  have hrg : w.rangeAt b 0 cs := by have := hc.range 0 cs.length; simpa using this
  have hl := run_loadVar_mid (P := Tryz.prog) w b 0 T cs d hrg hu hd (by rw [hl]; exact rt.size)
  have hl2 : (loadVar T ⟨b, 0, none⟩).run Tryz.prog w = .ok (.agg cs.toArray) w := hl
  rw [Array.getD_eq_getD_getElem?] at hp
  simp only [results, hr]
  simp [hp, asAddr, hl2]
theorem res_rec2 {fn : Func} {p r : Tmp} {T : TypeId} {z : List Value} (rt : RT T z) (hr : fn.results = #[.cell p T, .tmp r]) (tmps : Array Value) (w : World) (b : Nat) (cs : List Value) (v : Value) (hp : tmps.getD p undef = .pointer (some ⟨b, 0, none⟩)) (hv : tmps.getD r undef = v) (hc : Blk T w b cs) (hl : cs.length = z.length) :
    (results fn tmps).run Tryz.prog w = .ok (.tuple #[.agg cs.toArray, v]) w := by
  obtain ⟨d, hu, hd⟩ := rt.row
  have hrg : w.rangeAt b 0 cs := by have := hc.range 0 cs.length; simpa using this
  have hl := run_loadVar_mid (P := Tryz.prog) w b 0 T cs d hrg hu hd (by rw [hl]; exact rt.size)
  have hl2 : (loadVar T ⟨b, 0, none⟩).run Tryz.prog w = .ok (.agg cs.toArray) w := hl
  rw [Array.getD_eq_getD_getElem?] at hp hv
  simp only [results, hr]
  simp [hp, hv, asAddr, hl2]

/-! Initials, plainly. -/
/-- An Initial's header, token, rest. -/
abbrev IPl := Pl × List UInt8 × List UInt8
def zeroIP : IPl := (zeroP, [], [])
def typ (f : UInt8) : Nat := f.toNat / 16 % 4
/-- A header's error. -/
def chk (p : Pl) : Int := if p.1.toNat < 128 ∨ p.2.1 ≠ 1 ∨ typ p.1 ≠ 0 then 14 else if 20 < p.2.2.1.length ∨ 20 < p.2.2.2.length then 15 else 0
/-- A token behind its length. -/
def tokL (l : List UInt8) : Option (List UInt8 × List UInt8) := if tkE l = 0 ∧ tkV l ≤ (l.drop (tkN l)).length then some ((l.drop (tkN l)).take (tkV l), (l.drop (tkN l)).drop (tkV l)) else none
def itk (p : Pl) (l : List UInt8) : IPl × Int := match tokL l with | none => (zeroIP, 12) | some (t, q) => ((p, t, q), 0)
/-- Parse. -/
def iprs (l : List UInt8) : IPl × Int := if (prs l).2.2 ≠ 0 then (zeroIP, (prs l).2.2) else if chk (prs l).1 ≠ 0 then (zeroIP, chk (prs l).1) else itk (prs l).1 (prs l).2.1
/-- An Initial's bytes. -/
def irawP (p : IPl) : List UInt8 := rawP p.1 ++ longP p.2.1 ++ p.2.2
/-- Bytes. -/
def ibyt (p : IPl) : List UInt8 × Int := if chk p.1 ≠ 0 then ([], chk p.1) else (irawP p, 0)
/-- What Make makes, ahead of the zeros; Make. -/
def madeP (to frm tok rest : List UInt8) : IPl := ((192, 1, to, frm), tok, rest)
def mkI (p : IPl) (z : Int) : List UInt8 × Int := if 65535 < z then ([], 11) else if chk p.1 ≠ 0 then ([], chk p.1) else (irawP p ++ List.replicate (z.toNat - (irawP p).length) 0, 0)
theorem long_tok (l : List UInt8) : longS (0, l) = match tokL l with | none => ([], 12, l) | some (t, q) => (t, 0, q) := by
  unfold longS
  rw [show variS (0, l) = (tkV l, tkE l, l.drop (tkN l)) from if_pos rfl]
  unfold tokL
  rcases tk_cases l with ⟨h0, h1⟩ | ⟨h0, h1, h2⟩
  · rw [h0]
    by_cases h : tkV l ≤ (l.drop (tkN l)).length
    · rw [if_pos ⟨rfl, h⟩, countS_ok (by simp only; rw [takeS_ok h])]
      simp only
      rw [takeS_ok h]
    · rw [if_neg (fun k => h k.2), countS_no (by simp only; rw [takeS_end (by omega)]; exact (show (12 : Int) ≠ 0 by decide))]
      simp only
      rw [takeS_end (by omega)]
  · rw [if_neg (by rw [h0]; exact fun k => absurd k.1 (by decide)), h0, countS_no (by simp only; rw [takeS_1 (s := (12, _)) (show (12 : Int) ≠ 0 by decide)]; exact (show (12 : Int) ≠ 0 by decide))]
    simp only
    rw [takeS_1 (s := (12, _)) (show (12 : Int) ≠ 0 by decide)]
theorem chk_cases (p : Pl) : (chk p = 14 ∧ (p.1.toNat < 128 ∨ p.2.1 ≠ 1 ∨ typ p.1 ≠ 0)) ∨ (chk p = 15 ∧ ¬ (p.1.toNat < 128 ∨ p.2.1 ≠ 1 ∨ typ p.1 ≠ 0) ∧ (20 < p.2.2.1.length ∨ 20 < p.2.2.2.length)) ∨ (chk p = 0 ∧ (¬ p.1.toNat < 128 ∧ p.2.1 = 1 ∧ typ p.1 = 0 ∧ p.2.2.1.length ≤ 20 ∧ p.2.2.2.length ≤ 20)) := by
  unfold chk
  by_cases h : p.1.toNat < 128 ∨ p.2.1 ≠ 1 ∨ typ p.1 ≠ 0
  · exact .inl ⟨if_pos h, h⟩
  · rw [if_neg h]
    by_cases h2 : 20 < p.2.2.1.length ∨ 20 < p.2.2.2.length
    · exact .inr (.inl ⟨if_pos h2, h, h2⟩)
    · exact .inr (.inr ⟨if_neg h2, by omega⟩)
theorem chk_good {p : Pl} (h : chk p = 0) : Pgood p ∧ p.2.1 = 1 ∧ typ p.1 = 0 ∧ p.2.2.1.length ≤ 20 ∧ p.2.2.2.length ≤ 20 := by
  rcases chk_cases p with ⟨e, _⟩ | ⟨e, _⟩ | ⟨_, h1, h2, h3, h4, h5⟩
  · rw [h] at e; exact absurd e (by decide)
  · rw [h] at e; exact absurd e (by decide)
  · exact ⟨⟨h1, by omega, by omega, by omega⟩, h2, h3, h4, h5⟩

/-! Initials in memory. -/
structure In where
  h : Hd
  T : Option Addr
  e : Nat
  t : List UInt8
  R : Option Addr
  g : Nat
  r : List UInt8
def In.pl (i : In) : IPl := (i.h.pl, i.t, i.r)
def In.cells (i : In) : List Value := [.int .u8 (i.h.f.toNat : Int), .int .u32 (i.h.v : Int), .slice i.h.A i.h.a.length i.h.c, .slice i.h.B i.h.b.length i.h.d, .slice i.T i.t.length i.e, .slice i.R i.r.length i.g]
def In.val (i : In) : Value := .agg i.cells.toArray
def zeroI : In := ⟨zeroH, none, 0, [], none, 0, []⟩
theorem zeroI_pl : zeroI.pl = zeroIP := rfl
structure In.ok (w : World) (i : In) : Prop where
  h : i.h.ok w
  t : RB w w.heap.size i.T i.t.length i.t
  r : RB w w.heap.size i.R i.r.length i.r
  ct : i.t.length ≤ i.e ∧ i.e ≤ maxLen
  cr : i.r.length ≤ i.g ∧ i.g ≤ maxLen
structure In.own (w : World) (base : Nat) (i : In) : Prop where
  h : i.h.own w base
  t : OwnB w base i.T i.t.length i.e i.t
  r : OwnB w base i.R i.r.length i.g i.r
/-- Block x is the Initial i, of type T. -/
def Ic (T : TypeId) (w : World) (x : Nat) (i : In) : Prop := Blk T w x i.cells
section
variable {T : TypeId} {w w' : World} {x base base' : Nat} {i : In} {S : List Nat}
theorem In.own.ok (k : i.own w base) : i.ok w := ⟨k.h.ok, k.t.rb, k.r.rb, k.t.cap, k.r.cap⟩
theorem In.ok.step (k : i.ok w) (hb : Below w.heap.size w w') : i.ok w' := ⟨k.h.step hb, k.t.step hb, k.r.step hb, k.ct, k.cr⟩
theorem In.own.step (k : i.own w base) (hb : Below w.heap.size w w') : i.own w' base := ⟨k.h.step hb, k.t.below hb, k.r.below hb⟩
theorem In.own.base_le (k : i.own w base) (hb : base' ≤ base) : i.own w base' := ⟨k.h.base_le hb, k.t.base_le hb, k.r.base_le hb⟩
theorem In.own.zero (w : World) (base : Nat) : zeroI.own w base := ⟨Hd.own.zero _ _, OwnB.nil_ _ _, OwnB.nil_ _ _⟩
theorem In.own.off (k : i.own w base) (ho : Oth S w w') (hS : NoB S w) : i.own w' base := ⟨k.h.off ho hS, k.t.offS ho hS, k.r.offS ho hS⟩
theorem Ic.blk (k : Ic T w x i) : Blk T w x i.cells := k
theorem Ic.c0 (k : Ic T w x i) : w.cell? ⟨x, 0, none⟩ = some (.int .u8 (i.h.f.toNat : Int)) := k.blk.cell 0
theorem Ic.c1 (k : Ic T w x i) : w.cell? ⟨x, 1, none⟩ = some (.int .u32 (i.h.v : Int)) := k.blk.cell 1
theorem Ic.c2 (k : Ic T w x i) : w.cell? ⟨x, 2, none⟩ = some (.slice i.h.A i.h.a.length i.h.c) := k.blk.cell 2
theorem Ic.c3 (k : Ic T w x i) : w.cell? ⟨x, 3, none⟩ = some (.slice i.h.B i.h.b.length i.h.d) := k.blk.cell 3
theorem Ic.c4 (k : Ic T w x i) : w.cell? ⟨x, 4, none⟩ = some (.slice i.T i.t.length i.e) := k.blk.cell 4
theorem Ic.c5 (k : Ic T w x i) : w.cell? ⟨x, 5, none⟩ = some (.slice i.R i.r.length i.g) := k.blk.cell 5
theorem Ic.step (k : Ic T w x i) (hb : Below w.heap.size w w') : Ic T w' x i := k.blk.step hb
theorem Ic.oth (k : Ic T w x i) (ho : Oth S w w') (hx : x ∉ S) : Ic T w' x i := k.blk.oth ho hx
theorem Ic.set4 (k : Ic T w x i) (A : Option Addr) (c : Nat) (a : List UInt8) : Ic T (w.setCell ⟨x, 4, none⟩ (.slice A a.length c)) x { i with T := A, e := c, t := a } := k.blk.set 4 _
theorem Ic.set5 (k : Ic T w x i) (A : Option Addr) (c : Nat) (a : List UInt8) : Ic T (w.setCell ⟨x, 5, none⟩ (.slice A a.length c)) x { i with R := A, g := c, r := a } := k.blk.set 5 _
theorem Ic.whole (k : Ic T w x i) (j : In) : Ic T (w.setCells x 0 j.cells) x j := k.blk.puts j.cells 0 _ _
end
theorem in_ones (i : In) : ones i.cells := fun v hv => by
  simp only [In.cells, List.mem_cons, List.not_mem_nil, or_false] at hv
  rcases hv with rfl | rfl | rfl | rfl | rfl | rfl <;> rfl
theorem hd_ones (h : Hd) : ones h.cells := fun v hv => by
  simp only [Hd.cells, List.mem_cons, List.not_mem_nil, or_false] at hv
  rcases hv with rfl | rfl | rfl | rfl <;> rfl
theorem rt_ini : RT 47 zeroI.cells := ⟨row_of (by kernel_rfl), by kernel_rfl⟩
theorem ex_ldI (ev : Operand → Value) (x : Operand) (d : Option Tmp) (ty : TypeId) (ps : String) (af : Array Edge) (g : Option (Nat × Bool)) (w : World) : (execOp ev ⟨d, .load 47 x, ty, ps, af, g⟩).run Tryz.prog w = ldHd 47 (ev x) w := rfl
theorem ex_stI (ev : Operand → Value) (x y : Operand) (d : Option Tmp) (ty : TypeId) (ps : String) (af : Array Edge) (g : Option (Nat × Bool)) (w : World) : (execOp ev ⟨d, .store 47 x y, ty, ps, af, g⟩).run Tryz.prog w = stHd 47 (ev x) (ev y) w := rfl
/-- The whole Initial; its header. -/
theorem Ic.ld {T T' : TypeId} {w : World} {x : Nat} {i : In} (k : Ic T w x i) (rt : RT T' zeroI.cells) : ldHd T' (.pointer (some ⟨x, 0, none⟩)) w = .ok (.value i.val) w := ldB_m rt k.blk rfl rfl
theorem Ic.ldh {T T' : TypeId} {w : World} {x : Nat} {i : In} (k : Ic T w x i) (ht : HT T') : ldHd T' (.pointer (some ⟨x, 0, none⟩)) w = .ok (.value i.h.val) w := ldB_m ht.rt k.blk rfl rfl
theorem Ic.st {T T' : TypeId} {w : World} {x : Nat} {i : In} (k : Ic T w x i) (rt : RT T' zeroI.cells) (j : In) : stHd T' (.pointer (some ⟨x, 0, none⟩)) j.val w = .ok .skip (w.setCells x 0 j.cells) := stB_m rt k.blk (in_ones j) rfl (Nat.le_refl 6)
section
variable {w : World} {ops : Array Oper} {rest : List Oper} {o : Oper} {a : Act} {Q : Exit → Act → World → Prop} {T T' : TypeId}
theorem wpList_ldI (rt : RT T zeroI.cells) (hgd : o.guard = none) (x : Operand) (hop : o.op = .load T x) (g : Nat) (hx : a.eval x = .pointer (some ⟨g, 0, none⟩)) (i : In) (hc : Ic T' w g i)
    (hk : wpList Tryz.prog ops Q rest (a.put o.dst i.val) w) : wpList Tryz.prog ops Q (o :: rest) a w := wpList_ldB rt hgd x hop g 0 hx _ i.cells hc.blk rfl rfl hk
theorem wpList_ldIh (ht : HT T) (hgd : o.guard = none) (x : Operand) (hop : o.op = .load T x) (g : Nat) (hx : a.eval x = .pointer (some ⟨g, 0, none⟩)) (i : In) (hc : Ic T' w g i)
    (hk : wpList Tryz.prog ops Q rest (a.put o.dst i.h.val) w) : wpList Tryz.prog ops Q (o :: rest) a w := wpList_ldB ht.rt hgd x hop g 0 hx _ i.h.cells hc.blk rfl rfl hk
theorem wpList_stI (rt : RT T zeroI.cells) (hgd : o.guard = none) (x y : Operand) (hop : o.op = .store T x y) (g : Nat) (hx : a.eval x = .pointer (some ⟨g, 0, none⟩)) (i i0 : In) (hy : a.eval y = i.val) (hc : Ic T' w g i0)
    (hk : ∀ w', Ic T' w' g i → Oth [g] w w' → w'.heap.size = w.heap.size → wpList Tryz.prog ops Q rest (a.put o.dst undef) w') : wpList Tryz.prog ops Q (o :: rest) a w :=
  wpList_stB rt hgd x y hop g 0 hx i0.cells i.cells hy (in_ones i) rfl hc.blk (Nat.le_refl 6) hk
theorem wpList_stIh (ht : HT T) (hgd : o.guard = none) (x y : Operand) (hop : o.op = .store T x y) (g : Nat) (hx : a.eval x = .pointer (some ⟨g, 0, none⟩)) (h : Hd) (i0 : In) (hy : a.eval y = h.val) (hc : Ic T' w g i0)
    (hk : ∀ w', Ic T' w' g { i0 with h := h } → Oth [g] w w' → w'.heap.size = w.heap.size → wpList Tryz.prog ops Q rest (a.put o.dst undef) w') : wpList Tryz.prog ops Q (o :: rest) a w :=
  wpList_stB ht.rt hgd x y hop g 0 hx i0.cells h.cells hy (hd_ones h) rfl hc.blk (show 0 + 4 ≤ 6 by decide) hk
theorem wpList_boxI (hgd : o.guard = none) (T : TypeId) (x : Operand) (hop : o.op = .box T x) (i : In) (hx : a.eval x = i.val)
    (hk : ∀ w' q, Ic T w' q i → Below w.heap.size w w' → w.heap.size ≤ q → wpList Tryz.prog ops Q rest (a.put o.dst (.pointer (some ⟨q, 0, none⟩))) w') : wpList Tryz.prog ops Q (o :: rest) a w := wpList_boxB hgd T x hop i.cells hx hk
theorem wpList_newI (rt : RT T zeroI.cells) (hgd : o.guard = none) (hop : o.op = .alloc T)
    (hk : ∀ w' q, Ic T w' q zeroI → Below w.heap.size w w' → w.heap.size ≤ q → wpList Tryz.prog ops Q rest (a.put o.dst (.pointer (some ⟨q, 0, none⟩))) w') : wpList Tryz.prog ops Q (o :: rest) a w := wpList_newB rt hgd hop hk
end
/-- A call that gives an Initial and an error's number: all new; to be read. -/
def RetIn (r : IPl × Int) (w : World) (e : Ending) (w' : World) : Prop :=
  ∃ i : In, e = .returned (.tuple #[i.val, .int .i64 r.2]) ∧ i.pl = r.1 ∧ i.own w' w.heap.size ∧ Below w.heap.size w w'
def RetIr (r : IPl × Int) (w : World) (e : Ending) (w' : World) : Prop :=
  ∃ i : In, e = .returned (.tuple #[i.val, .int .i64 r.2]) ∧ i.pl = r.1 ∧ i.ok w' ∧ Below w.heap.size w w'

/-! What a walk over Initials carries. -/
/-- append in a guarded place. -/
theorem wpList_appGI {w : World} {ops : Array Oper} {rest : List Oper} {o : Oper} {a : Act} {Q : Exit → Act → World → Prop} (hw : Region.wanted o (yielded ops a.tmps) = true) (s x : Operand)
    (ho : o.op = .call { callee := .builtin .append, args := #[s, x], argTypes := #[22, 22] })
    (base : Nat) (A : Option Addr) (n c : Nat) (l : List UInt8) (hs : a.eval s = .slice A n c) (hown : OwnB w base A n c l)
    (B : Nat) (A' : Option Addr) (m c' : Nat) (l' : List UInt8) (hx : a.eval x = .slice A' m c') (hr : RB w B A' m l')
    (hsum : n + m ≤ 140737488355328) (hbase : base ≤ w.heap.size)
    (h : ∀ A'' c'' w', OwnB w' base A'' (n + m) c'' (l ++ l') → Below base w w' → wpList Tryz.prog ops Q rest (a.put o.dst (.slice A'' (n + m) c'')) w') : wpList Tryz.prog ops Q (o :: rest) a w :=
  wpList_step fun _ hK => by
    rw [if_pos hw]
    exact wp_app s x ho base A n c l hs hown B A' m c' l' hx hr hsum hbase fun A'' c'' w' h2 _ h4 => hK _ _ (h A'' c'' w' h2 h4)
/-- What a walk over Initials carries: rows of bytes, Initials, variables that hold one. -/
structure IW (v : World) (rows : List (Option Addr × Nat × Nat × List UInt8)) (is : List In) (bs : List (TypeId × Nat × In)) (w : World) : Prop where
  bel : Below v.heap.size v w
  row : ∀ r ∈ rows, RB w w.heap.size r.1 r.2.1 r.2.2.2 ∧ r.2.1 ≤ r.2.2.1 ∧ r.2.2.1 ≤ maxLen
  ini : ∀ i ∈ is, i.ok w
  box : ∀ b ∈ bs, Ic b.1 w b.2.1 b.2.2
section
variable {v w w' w2 w3 : World} {rows : List (Option Addr × Nat × Nat × List UInt8)} {is : List In} {bs : List (TypeId × Nat × In)} {n c base x : Nat} {A : Option Addr} {l : List UInt8} {e : Ending} {T : TypeId} {i : In}
theorem IW.step (k : IW v rows is bs w) (hb : Below w.heap.size w w') : IW v rows is bs w' :=
  ⟨bel_next k.bel hb, fun r hr => ⟨(k.row r hr).1.step hb, (k.row r hr).2⟩, fun i hi => (k.ini i hi).step hb, fun b hm => (k.box b hm).step hb⟩
theorem IW.add (k : IW v rows is bs w) (hr : RB w w.heap.size A n l) (h1 : n ≤ c) (h2 : c ≤ maxLen) : IW v ((A, n, c, l) :: rows) is bs w :=
  ⟨k.bel, fun r hm => by rcases List.mem_cons.1 hm with rfl | hm; exact ⟨hr, h1, h2⟩; exact k.row r hm, k.ini, k.box⟩
theorem IW.own (k : IW v rows is bs w) (hb : Below w.heap.size w w') (ho : OwnB w' base A n c l) : IW v ((A, n, c, l) :: rows) is bs w' := (k.step hb).add ho.rb ho.cap.1 ho.cap.2
theorem IW.lit (k : IW v rows is bs w) (l : List UInt8) (cs : Array Value) (n : Nat) (hc : cs = (bvs l).toArray) (hn : l.length = n) (hm : n ≤ maxLen) : IW v ((some ⟨w.heap.size, 0, none⟩, n, n, l) :: rows) is bs (w.alloc (.cells cs 5)) :=
  (k.step (below_alloc _ _)).add (RB.lit w l cs n _ hc hn rfl) (Nat.le_refl _) hm
theorem IW.addi (k : IW v rows is bs w) (hh : i.ok w) : IW v rows (i :: is) bs w :=
  ⟨k.bel, k.row, fun g hm => by rcases List.mem_cons.1 hm with rfl | hm; exact hh; exact k.ini g hm, k.box⟩
theorem IW.ret {r : IPl × Int} (k : IW v rows is bs w) (q : RetIn r w e w') : ∃ i : In, e = .returned (.tuple #[i.val, .int .i64 r.2]) ∧ i.pl = r.1 ∧ i.own w' w.heap.size ∧ IW v rows (i :: is) bs w' := by
  obtain ⟨i, he, hp, ho, hb⟩ := q
  exact ⟨i, he, hp, ho, (k.step hb).addi ho.ok⟩
theorem IW.var (k : IW v rows is bs w) (hb : Below w.heap.size w w2) (hx : w.heap.size ≤ x) (hc : Ic T w3 x i) (ho : Oth [x] w2 w3) : IW v rows is ((T, x, i) :: bs) w3 := by
  have k' := k.step (hb.trans (ho.below (fun j hj => by rw [List.mem_singleton.1 hj]; exact hx) hb.size))
  exact ⟨k'.bel, k'.row, k'.ini, fun b hm => by rcases List.mem_cons.1 hm with rfl | hm; exact hc; exact k'.box b hm⟩
theorem IW.start (w : World) : IW w [] [] [] w := ⟨Below.refl _ _, fun r hr => (by cases hr), fun r hr => (by cases hr), fun r hr => (by cases hr)⟩
/-- An Initial's own rows. -/
theorem IW.part (k : IW v rows is bs w) (hi : i ∈ is) : IW v ((i.h.A, i.h.a.length, i.h.c, i.h.a) :: (i.h.B, i.h.b.length, i.h.d, i.h.b) :: (i.T, i.t.length, i.e, i.t) :: (i.R, i.r.length, i.g, i.r) :: rows) is bs w := by
  have q := k.ini i hi
  exact (((k.add q.r q.cr.1 q.cr.2).add q.t q.ct.1 q.ct.2).add q.h.b q.h.cb.1 q.h.cb.2).add q.h.a q.h.ca.1 q.h.ca.2
end
theorem zeroI_ok (w : World) : zeroI.ok w := (In.own.zero w w.heap.size).ok
/-- The parts of a plain Initial that is known. -/
theorem in_parts {i : In} {p : Pl} {t r : List UInt8} (e : i.pl = (p, t, r)) : i.h.f = p.1 ∧ i.h.v = p.2.1 ∧ i.h.a = p.2.2.1 ∧ i.h.b = p.2.2.2 ∧ i.t = t ∧ i.r = r := by
  unfold In.pl at e
  injection e with e1 e
  injection e with e2 e3
  subst e1
  exact ⟨rfl, rfl, rfl, rfl, e2, e3⟩
end Go.Proofs.YtdkdgcpknephnaaGreat

/- Layer 11's Type and check, and the reference's Type and wrong. No condition. -/
namespace Go.Proofs.YtdkdgcpknephnaaGreat
open Go.RowKit
set_option linter.unusedVariables false
set_option linter.unusedSimpArgs false
theorem bld_ini3 (h : Hd) (A B : Option Addr) (n c m d : Nat) (W : World) : (Instr.build 47 #[(0, h.val), (1, .slice A n c), (2, .slice B m d)]).run Tryz.prog W = .ok (.agg #[.int .u8 (h.f.toNat : Int), .int .u32 (h.v : Int), .slice h.A h.a.length h.c, .slice h.B h.b.length h.d, .slice A n c, .slice B m d]) W := by
  unfold Hd.val Hd.cells
  go_simp <;> rfl
theorem bld_ini1 (h : Hd) (W : World) : (Instr.build 47 #[(0, h.val)]).run Tryz.prog W = .ok (In.val ⟨h, none, 0, [], none, 0, []⟩) W := by
  unfold Hd.val Hd.cells
  go_simp <;> rfl
theorem shr_and (x : UInt8) : bits .and .u8 ((x.toNat : Int) / 16) 3 = ((typ x : Nat) : Int) := each_b (fun x => bits .and .u8 ((x.toNat : Int) / 16) 3 = ((typ x : Nat) : Int)) (by decide +kernel) x
set_option maxRecDepth 100000 in
theorem typ_any (f : UInt8) (w : World) :
    Calls Tryz.prog 21 #[.int .u8 (f.toNat : Int)] w fun e w' => e = .returned (.int .i64 (typ f : Int)) ∧ w = w' := by
  have h := shr_and f
  have ht : typ f < 4 := Nat.mod_lt _ (by decide)
  have hf := f.toNat_lt
  go_enter Tryz.func21, Tryz.ntmps21
  go_wp2_with fail
  go_ret
  exact ⟨rfl, rfl⟩
set_option maxRecDepth 100000 in
theorem rtyp_any (f : UInt8) (w : World) :
    Calls Tryz.prog 35 #[.int .u8 (f.toNat : Int)] w fun e w' => e = .returned (.int .i64 (typ f : Int)) ∧ w = w' := by
  have hf := f.toNat_lt
  have h : ((f.toNat : Int).tdiv 16).tmod 4 = (typ f : Int) := by unfold typ; rw [Int.tdiv_eq_ediv_of_nonneg (by omega), Int.tmod_eq_emod_of_nonneg (by omega)]; omega
  have h2 : (f.toNat : Int) / 16 % 4 = (typ f : Int) := by unfold typ; omega
  go_enter Tryz.func35, Tryz.ntmps35
  go_wp2_with fail
  go_ret
  exact ⟨rfl, rfl⟩
set_option maxRecDepth 100000 in
theorem chk_any (i : In) (w : World) :
    Calls Tryz.prog 39 #[i.val] w fun e w' => e = .returned (.int .i64 (chk i.h.pl)) ∧ Below w.heap.size w w' := by
  have ht : typ i.h.f < 4 := Nat.mod_lt _ (by decide)
  have hf8 := i.h.f.toNat_lt
  by_cases k0 : i.h.f.toNat < 128
  · have e : chk i.h.pl = 14 := if_pos (.inl k0)
    have u0 : decide ((i.h.f.toNat : Int) < 128) = true := decide_eq_true (by omega)
    rw [e]
    go_enter Tryz.func39, Tryz.ntmps39
    go_wp2_with (first
      | (with_reducible show wpList _ _ _ (⟨_, .box _ (.tmp 0), _, _, _, none⟩ :: _) _ _; refine wpList_boxI rfl _ (.tmp 0) rfl i rfl ?_; intro w1 q hc1 hb1 hx1; have B1 := Lib.hid hb1; have C1 := Lib.hid hc1; have c0 := hc1.c0; have c1 := hc1.c1; have c2 := hc1.c2; have c3 := hc1.c3; clear hc1 hb1 hx1))
    refine (hlong_any _ 1 1 [i.h.f] _ (by exact RB.lit w1 [i.h.f] #[.int .u8 (i.h.f.toNat : Int)] 1 _ rfl rfl rfl) false (by first | exact decide_eq_true (by omega) | exact decide_eq_false (by omega))).mono ?_
    rintro e w2 ⟨rfl, rfl⟩
    have C2 := Lib.hid (C1.out.step (below_alloc w1 (.cells #[.int .u8 (i.h.f.toNat : Int)] 5)))
    have d0 := C2.out.c0
    have d1 := C2.out.c1
    have d2 := C2.out.c2
    have d3 := C2.out.c3
    go_wp2_with fail
    go_ret
    exact ⟨rfl, bel_next B1.out (below_alloc _ _)⟩
  have u0 : decide ((i.h.f.toNat : Int) < 128) = false := decide_eq_false (by omega)
  by_cases k1 : i.h.v = 1
  rotate_left
  · have e : chk i.h.pl = 14 := if_pos (.inr (.inl k1))
    have u1 : ((i.h.v : Int) == 1) = false := by rw [beq_eq_false_iff_ne]; omega
    have u1' : ((i.h.v : Int) != 1) = true := by rw [bne, u1]; rfl
    rw [e]
    go_enter Tryz.func39, Tryz.ntmps39
    go_wp2_with (first
      | (with_reducible show wpList _ _ _ (⟨_, .box _ (.tmp 0), _, _, _, none⟩ :: _) _ _; refine wpList_boxI rfl _ (.tmp 0) rfl i rfl ?_; intro w1 q hc1 hb1 hx1; have B1 := Lib.hid hb1; have C1 := Lib.hid hc1; have c0 := hc1.c0; have c1 := hc1.c1; have c2 := hc1.c2; have c3 := hc1.c3; clear hc1 hb1 hx1))
    refine (hlong_any _ 1 1 [i.h.f] _ (by exact RB.lit w1 [i.h.f] #[.int .u8 (i.h.f.toNat : Int)] 1 _ rfl rfl rfl) true (by first | exact decide_eq_true (by omega) | exact decide_eq_false (by omega))).mono ?_
    rintro e w2 ⟨rfl, rfl⟩
    have C2 := Lib.hid (C1.out.step (below_alloc w1 (.cells #[.int .u8 (i.h.f.toNat : Int)] 5)))
    have d0 := C2.out.c0
    have d1 := C2.out.c1
    have d2 := C2.out.c2
    have d3 := C2.out.c3
    go_wp2_with fail
    go_ret
    exact ⟨rfl, bel_next B1.out (below_alloc _ _)⟩
  have u1 : ((i.h.v : Int) == 1) = true := by rw [beq_iff_eq]; omega
  have u1' : ((i.h.v : Int) != 1) = false := by rw [bne, u1]; rfl
  by_cases k2 : typ i.h.f = 0
  rotate_left
  · have e : chk i.h.pl = 14 := if_pos (.inr (.inr k2))
    have u2 : ((typ i.h.f : Int) == 0) = false := by rw [beq_eq_false_iff_ne]; omega
    have u2' : ((typ i.h.f : Int) != 0) = true := by rw [bne, u2]; rfl
    rw [e]
    clear k1
    go_enter Tryz.func39, Tryz.ntmps39
    go_wp2_with (first
      | (with_reducible show wpList _ _ _ (⟨_, .box _ (.tmp 0), _, _, _, none⟩ :: _) _ _; refine wpList_boxI rfl _ (.tmp 0) rfl i rfl ?_; intro w1 q hc1 hb1 hx1; have B1 := Lib.hid hb1; have C1 := Lib.hid hc1; have c0 := hc1.c0; have c1 := hc1.c1; have c2 := hc1.c2; have c3 := hc1.c3; clear hc1 hb1 hx1))
    refine (hlong_any _ 1 1 [i.h.f] _ (by exact RB.lit w1 [i.h.f] #[.int .u8 (i.h.f.toNat : Int)] 1 _ rfl rfl rfl) true (by first | exact decide_eq_true (by omega) | exact decide_eq_false (by omega))).mono ?_
    rintro e w2 ⟨rfl, rfl⟩
    have C2 := Lib.hid (C1.out.step (below_alloc w1 (.cells #[.int .u8 (i.h.f.toNat : Int)] 5)))
    have d0 := C2.out.c0
    have d1 := C2.out.c1
    have d2 := C2.out.c2
    have d3 := C2.out.c3
    go_wp2_with fail
    refine (typ_any i.h.f _).mono ?_
    rintro e w3 ⟨rfl, rfl⟩
    go_wp2_with fail
    go_ret
    exact ⟨rfl, bel_next B1.out (below_alloc _ _)⟩
  have u2 : ((typ i.h.f : Int) == 0) = true := by rw [beq_iff_eq]; omega
  have u2' : ((typ i.h.f : Int) != 0) = false := by rw [bne, u2]; rfl
  have HN : Hid (¬ (i.h.pl.1.toNat < 128 ∨ i.h.pl.2.1 ≠ 1 ∨ typ i.h.pl.1 ≠ 0)) := Lib.hid (fun k => by rcases k with k | k | k; exact k0 k; exact k k1; exact k k2)
  clear k1 k2
  by_cases k3 : 20 < i.h.a.length
  · have e : chk i.h.pl = 15 := (if_neg HN.out).trans (if_pos (.inl k3))
    have u3 : decide (20 < (i.h.a.length : Int)) = true := decide_eq_true (by omega)
    rw [e]
    go_enter Tryz.func39, Tryz.ntmps39
    go_wp2_with (first
      | (with_reducible show wpList _ _ _ (⟨_, .box _ (.tmp 0), _, _, _, none⟩ :: _) _ _; refine wpList_boxI rfl _ (.tmp 0) rfl i rfl ?_; intro w1 q hc1 hb1 hx1; have B1 := Lib.hid hb1; have C1 := Lib.hid hc1; have c0 := hc1.c0; have c1 := hc1.c1; have c2 := hc1.c2; have c3 := hc1.c3; clear hc1 hb1 hx1))
    refine (hlong_any _ 1 1 [i.h.f] _ (by exact RB.lit w1 [i.h.f] #[.int .u8 (i.h.f.toNat : Int)] 1 _ rfl rfl rfl) true (by first | exact decide_eq_true (by omega) | exact decide_eq_false (by omega))).mono ?_
    rintro e w2 ⟨rfl, rfl⟩
    have C2 := Lib.hid (C1.out.step (below_alloc w1 (.cells #[.int .u8 (i.h.f.toNat : Int)] 5)))
    have d0 := C2.out.c0
    have d1 := C2.out.c1
    have d2 := C2.out.c2
    have d3 := C2.out.c3
    go_wp2_with fail
    refine (typ_any i.h.f _).mono ?_
    rintro e w3 ⟨rfl, rfl⟩
    go_wp2_with fail
    go_ret
    exact ⟨rfl, bel_next B1.out (below_alloc _ _)⟩
  have u3 : decide (20 < (i.h.a.length : Int)) = false := decide_eq_false (by omega)
  by_cases k4 : 20 < i.h.b.length
  · have e : chk i.h.pl = 15 := (if_neg HN.out).trans (if_pos (.inr k4))
    have u4 : decide (20 < (i.h.b.length : Int)) = true := decide_eq_true (by omega)
    rw [e]
    go_enter Tryz.func39, Tryz.ntmps39
    go_wp2_with (first
      | (with_reducible show wpList _ _ _ (⟨_, .box _ (.tmp 0), _, _, _, none⟩ :: _) _ _; refine wpList_boxI rfl _ (.tmp 0) rfl i rfl ?_; intro w1 q hc1 hb1 hx1; have B1 := Lib.hid hb1; have C1 := Lib.hid hc1; have c0 := hc1.c0; have c1 := hc1.c1; have c2 := hc1.c2; have c3 := hc1.c3; clear hc1 hb1 hx1))
    refine (hlong_any _ 1 1 [i.h.f] _ (by exact RB.lit w1 [i.h.f] #[.int .u8 (i.h.f.toNat : Int)] 1 _ rfl rfl rfl) true (by first | exact decide_eq_true (by omega) | exact decide_eq_false (by omega))).mono ?_
    rintro e w2 ⟨rfl, rfl⟩
    have C2 := Lib.hid (C1.out.step (below_alloc w1 (.cells #[.int .u8 (i.h.f.toNat : Int)] 5)))
    have d0 := C2.out.c0
    have d1 := C2.out.c1
    have d2 := C2.out.c2
    have d3 := C2.out.c3
    go_wp2_with fail
    refine (typ_any i.h.f _).mono ?_
    rintro e w3 ⟨rfl, rfl⟩
    go_wp2_with fail
    go_ret
    exact ⟨rfl, bel_next B1.out (below_alloc _ _)⟩
  · have e : chk i.h.pl = 0 := (if_neg HN.out).trans (if_neg (fun k => by rcases k with k | k; exact k3 k; exact k4 k))
    have u4 : decide (20 < (i.h.b.length : Int)) = false := decide_eq_false (by omega)
    rw [e]
    go_enter Tryz.func39, Tryz.ntmps39
    go_wp2_with (first
      | (with_reducible show wpList _ _ _ (⟨_, .box _ (.tmp 0), _, _, _, none⟩ :: _) _ _; refine wpList_boxI rfl _ (.tmp 0) rfl i rfl ?_; intro w1 q hc1 hb1 hx1; have B1 := Lib.hid hb1; have C1 := Lib.hid hc1; have c0 := hc1.c0; have c1 := hc1.c1; have c2 := hc1.c2; have c3 := hc1.c3; clear hc1 hb1 hx1))
    refine (hlong_any _ 1 1 [i.h.f] _ (by exact RB.lit w1 [i.h.f] #[.int .u8 (i.h.f.toNat : Int)] 1 _ rfl rfl rfl) true (by first | exact decide_eq_true (by omega) | exact decide_eq_false (by omega))).mono ?_
    rintro e w2 ⟨rfl, rfl⟩
    have C2 := Lib.hid (C1.out.step (below_alloc w1 (.cells #[.int .u8 (i.h.f.toNat : Int)] 5)))
    have d0 := C2.out.c0
    have d1 := C2.out.c1
    have d2 := C2.out.c2
    have d3 := C2.out.c3
    go_wp2_with fail
    refine (typ_any i.h.f _).mono ?_
    rintro e w3 ⟨rfl, rfl⟩
    go_wp2_with fail
    go_ret
    exact ⟨rfl, bel_next B1.out (below_alloc _ _)⟩
end Go.Proofs.YtdkdgcpknephnaaGreat

/- Layer 11's Parse, of any bytes. Condition: at most a million bytes. -/
namespace Go.Proofs.YtdkdgcpknephnaaGreat
open Go.RowKit
set_option linter.unusedVariables false
set_option linter.unusedSimpArgs false

/-- A header laid into an Initial. -/
def inOf (h : Hd) : In := ⟨h, none, 0, [], none, 0, []⟩
theorem wpList_bldI1 {w : World} {ops : Array Oper} {rest : List Oper} {o : Oper} {a : Act} {Q : Exit → Act → World → Prop} (hgd : o.guard = none) (x : Operand) (hop : o.op = .build 47 #[(0, x)]) (h : Hd) (hx : a.eval x = h.val)
    (i : In) (hi : i = inOf h) (hk : wpList Tryz.prog ops Q rest (a.put o.dst i.val) w) : wpList Tryz.prog ops Q (o :: rest) a w := by
  subst hi
  refine wpList_plain hgd fun K hK => ?_
  have hr := bld_ini1 h w
  unfold Oper.wp execOp
  simp only [hop, List.map_toArray, List.map_cons, List.map_nil, hx, Sem.run_bind, hr, Result.andThen_ok]
  exact hK _ _ hk
/-- What Parse carries: the result's variable q, the header, what is behind it. -/
structure IP (v : World) (q : Nat) (h : Hd) (A : Option Addr) (n c : Nat) (l : List UInt8) (w : World) : Prop where
  bel : Below v.heap.size v w
  lq : v.heap.size ≤ q
  hq : Ic 47 w q zeroI
  own : h.own w v.heap.size
  r : OwnB w v.heap.size A n c l
/-- .. the reader x, the Initial's variable p. -/
structure IK (v : World) (q p x : Nat) (i : In) (s : Int × List UInt8) (w : World) : Prop where
  bel : Below v.heap.size v w
  lq : v.heap.size ≤ q
  lp : v.heap.size ≤ p
  lx : v.heap.size ≤ x
  qp : q ≠ p
  hq : Ic 47 w q zeroI
  hp : Ic 47 w p i
  rd : RdR w x s
  own : i.own w v.heap.size
theorem Blk.ne2 {T T' : TypeId} {w : World} {x y : Nat} {cs : List Value} {a b : Value} (k : Blk T w x cs) (t : Two T' w y a b) (hT : T ≠ T') : x ≠ y := fun e => by
  subst e
  have e := (show w.heap[x]? = _ from k).symm.trans t
  injection e with e
  injection e with _ e
  exact hT e
section
variable {v w w' w2 w3 : World} {q p x n c : Nat} {h : Hd} {i i' : In} {s s' : Int × List UInt8} {A : Option Addr} {l : List UInt8}
theorem IP.step (k : IP v q h A n c l w) (hb : Below w.heap.size w w') : IP v q h A n c l w' := ⟨bel_next k.bel hb, k.lq, k.hq.step hb, k.own.step hb, k.r.below hb⟩
theorem IP.var (k : IP v q h A n c l w) (hb : Below w.heap.size w w2) (hx : w.heap.size ≤ x) (ho : Oth [x] w2 w3) : IP v q h A n c l w3 := k.step (hb.trans (ho.below (fun j hj => by rw [List.mem_singleton.1 hj]; exact hx) hb.size))
theorem IK.qx (k : IK v q p x i s w) : q ≠ x := by obtain ⟨A, n, c, t, _⟩ := k.rd; exact k.hq.blk.ne2 t (by decide)
theorem IK.px (k : IK v q p x i s w) : p ≠ x := by obtain ⟨A, n, c, t, _⟩ := k.rd; exact k.hp.blk.ne2 t (by decide)
theorem IK.call (k : IK v q p x i s w) (ho : Oth [x] w w') (hr : RdR w' x s') : IK v q p x i s' w' :=
  ⟨k.bel.trans (ho.below (fun j hj => by rw [List.mem_singleton.1 hj]; exact k.lx) k.bel.size), k.lq, k.lp, k.lx, k.qp, k.hq.oth ho (by simpa using k.qx), k.hp.oth ho (by simpa using k.px), hr, k.own.off ho k.rd.nob⟩
theorem IK.put (k : IK v q p x i s w) (j : Nat) (u : Value) (hh : Ic 47 (w.setCell ⟨p, j, none⟩ u) p i') (ho : In.own (w.setCell ⟨p, j, none⟩ u) v.heap.size i') : IK v q p x i' s (w.setCell ⟨p, j, none⟩ u) := by
  have hO : Oth [p] w (w.setCell ⟨p, j, none⟩ u) := (Oth.refl [p] w).set (x := p) (by simp) j u
  exact ⟨k.bel.trans (hO.below (fun j hj => by rw [List.mem_singleton.1 hj]; exact k.lp) k.bel.size), k.lq, k.lp, k.lx, k.qp, k.hq.oth hO (by simpa using k.qp), hh, k.rd.off hO (by simpa using k.px.symm) (k.hp.blk.nob (by decide)), ho⟩
theorem IK.offs (k : IK v q p x i s w) (j : Nat) (u : Value) : Oth [p] w (w.setCell ⟨p, j, none⟩ u) ∧ NoB [p] w := ⟨(Oth.refl [p] w).set (x := p) (by simp) j u, k.hp.blk.nob (by decide)⟩
theorem IK.put4 (k : IK v q p x i s w) (r : OwnB w v.heap.size A n c l) : IK v q p x { i with T := A, e := c, t := l } s (w.setCell ⟨p, 4, none⟩ (.slice A n c)) := by
  have hl := r.len
  subst hl
  have ⟨hO, hN⟩ := k.offs 4 (.slice A l.length c)
  exact k.put 4 _ (k.hp.set4 A c l) ⟨k.own.h.off hO hN, r.offS hO hN, k.own.r.offS hO hN⟩
theorem IK.put5 (k : IK v q p x i s w) (r : OwnB w v.heap.size A n c l) : IK v q p x { i with R := A, g := c, r := l } s (w.setCell ⟨p, 5, none⟩ (.slice A n c)) := by
  have hl := r.len
  subst hl
  have ⟨hO, hN⟩ := k.offs 5 (.slice A l.length c)
  exact k.put 5 _ (k.hp.set5 A c l) ⟨k.own.h.off hO hN, k.own.t.offS hO hN, r.offS hO hN⟩
end
/-- As RetIn, and token and rest lie in unlike blocks. -/
def RetInD (r : IPl × Int) (w : World) (e : Ending) (w' : World) : Prop :=
  ∃ i : In, e = .returned (.tuple #[i.val, .int .i64 r.2]) ∧ i.pl = r.1 ∧ i.own w' w.heap.size ∧ Below w.heap.size w w' ∧ ∀ g ∈ blkO i.T, g ∉ blkO i.R
theorem zero_apart : ∀ g ∈ blkO zeroI.T, g ∉ blkO zeroI.R := fun g hg => absurd hg (by show g ∉ ([] : List Nat); simp)
attribute [local irreducible] prs longS restS chk
set_option maxRecDepth 100000 in
set_option maxHeartbeats 2000000 in
theorem iparse_own (A : Option Addr) (n c : Nat) (l : List UInt8) (w : World) (hr0 : RB w w.heap.size A n l) (hn : n ≤ 1000000) :
    Calls Tryz.prog 20 #[.slice A n c] w (RetInD (iprs l) w) := by
  have H0 := Lib.hid hr0
  clear hr0
  obtain ⟨r, HR⟩ : ∃ r, Hid (r = prs l) := ⟨_, Lib.hid rfl⟩
  obtain ⟨X, HX⟩ : ∃ X, Hid (X = iprs l) := ⟨_, Lib.hid rfl⟩
  rw [← HX.out]
  unfold iprs at HX
  rw [← HR.out] at HX
  go_enter Tryz.func20, Tryz.ntmps20
  go_wp2_with (first
    | (with_reducible show wpList _ _ _ (⟨some 2, .alloc _, _, _, _, none⟩ :: _) _ _; refine wpList_newI rt_ini rfl rfl ?_; intro w1 q hc1 hb1 hx1; have H1 := Lib.hid (And.intro hc1 (And.intro hb1 hx1)); clear hc1 hb1 hx1))
  refine (parse_any A n c l _ (by exact H0.out.step H1.out.2.1) hn).mono ?_
  rw [← HR.out]
  rintro e w2 ⟨h, A2, n2, c2, rfl, hp, ho, hr, hb⟩
  have HP := Lib.hid hp
  have K2 : Hid (IP w q h A2 n2 c2 r.2.1 w2) := Lib.hid ⟨bel_next H1.out.2.1 hb, H1.out.2.2, H1.out.1.step hb, ho.base_le H1.out.2.1.size, hr.base_le H1.out.2.1.size⟩
  clear hp ho hr hb H1
  by_cases he : r.2.2 = 0
  rotate_left
  · have hb : (r.2.2 != 0) = true := by simpa using he
    have HE : Hid (X = (zeroIP, r.2.2)) := Lib.hid (by rw [HX.out, if_pos he])
    go_wp2_with (first
      | (with_reducible show wpList _ _ _ (⟨some 4, .alloc _, _, _, _, none⟩ :: _) _ _; refine wpList_allocN ht_head rfl rfl ?_; intro w3 y hc2 hb2 hx2; have H2 := Lib.hid (And.intro hc2 (And.intro hb2 hx2)); clear hc2 hb2 hx2)
      | (refine wpList_stH ht_head rfl (.tmp 4) (.tmp 14) rfl y rfl h zeroH rfl (by exact H2.out.1) ?_; intro w4 hc3 ho3 hs3; have K4 := Lib.hid (K2.out.var H2.out.2.1 H2.out.2.2 ho3); clear hc3 ho3 hs3 H2 K2)
      | (refine wpList_stI rt_ini rfl (.tmp 2) (.tmp 19) rfl q rfl zeroI zeroI rfl (by exact K4.out.hq) ?_; intro w5 hc5 ho5 hs5; have H5 := Lib.hid (And.intro hc5 ho5); clear hc5 ho5 hs5))
    rw [HE.out]
    exact bodyPost_ret (v := .tuple #[zeroI.val, .int .i64 r.2.2]) (res_rec2 rt_ini rfl _ _ q zeroI.cells _ rfl rfl H5.out.1 rfl) rfl ⟨zeroI, rfl, rfl, In.own.zero _ _, K4.out.bel.trans (H5.out.2.below (fun j hj => by rw [List.mem_singleton.1 hj]; exact K4.out.lq) K4.out.bel.size), zero_apart⟩
  have hb : (r.2.2 != 0) = false := by rw [he]; rfl
  obtain ⟨i, HI⟩ : ∃ i, Hid (i = inOf h) := ⟨_, Lib.hid rfl⟩
  go_wp2_with (first
    | (with_reducible show wpList _ _ _ (⟨some 4, .alloc _, _, _, _, none⟩ :: _) _ _; refine wpList_allocN ht_head rfl rfl ?_; intro w3 y hc2 hb2 hx2; have H2 := Lib.hid (And.intro hc2 (And.intro hb2 hx2)); clear hc2 hb2 hx2)
    | (refine wpList_stH ht_head rfl (.tmp 4) (.tmp 14) rfl y rfl h zeroH rfl (by exact H2.out.1) ?_; intro w4 hc3 ho3 hs3; have K4 := Lib.hid (K2.out.var H2.out.2.1 H2.out.2.2 ho3); have H3 := Lib.hid hc3; clear hc3 ho3 hs3 H2 K2)
    | (refine wpList_ldH ht_head rfl (.tmp 4) rfl y rfl h (by exact H3.out) ?_)
    | (refine wpList_bldI1 rfl (.tmp 21) rfl h rfl i HI.out ?_)
    | (with_reducible show wpList _ _ _ (⟨some 7, .alloc _, _, _, _, none⟩ :: _) _ _; refine wpList_newI rt_ini rfl rfl ?_; intro w5 p hc2 hb2 hx2; have H5 := Lib.hid (And.intro hc2 (And.intro hb2 hx2)); clear hc2 hb2 hx2)
    | (refine wpList_stI rt_ini rfl (.tmp 7) (.tmp 22) rfl p rfl i zeroI rfl (by exact H5.out.1) ?_; intro w6 hc3 ho3 hs3; have K6 := Lib.hid (And.intro (K4.out.var H5.out.2.1 H5.out.2.2 ho3) (And.intro hc3 (And.intro (Nat.lt_of_lt_of_le K4.out.hq.blk.lt H5.out.2.2) (Nat.le_trans K4.out.bel.size H5.out.2.2)))); clear hc3 ho3 hs3 H5 K4 H3)
    | (refine wpList_ldI rt_ini rfl (.tmp 7) rfl p rfl i (by exact K6.out.2.1) ?_))
  have hch : chk i.h.pl = chk r.1 := by rw [HI.out]; show chk h.pl = _; rw [HP.out]
  refine (chk_any i _).mono ?_
  rw [hch]
  rintro e w7 ⟨rfl, hb7⟩
  have K7 := Lib.hid (And.intro (K6.out.1.step hb7) (And.intro (K6.out.2.1.step hb7) K6.out.2.2))
  clear hb7 K6 hch
  obtain ⟨k, HK⟩ : ∃ k, Hid (k = chk r.1) := ⟨_, Lib.hid rfl⟩
  rw [← HK.out] at HX ⊢
  by_cases hk : k = 0
  rotate_left
  · have hb2 : (k != 0) = true := by simpa using hk
    have HE : Hid (X = (zeroIP, k)) := Lib.hid (by rw [HX.out, if_neg (fun k => k he), if_pos hk])
    go_wp2_with (first
      | (refine wpList_stI rt_ini rfl (.tmp 2) (.tmp 27) rfl q rfl zeroI zeroI rfl (by exact K7.out.1.hq) ?_; intro w8 hc5 ho5 hs5; have H5 := Lib.hid (And.intro hc5 ho5); clear hc5 ho5 hs5))
    rw [HE.out]
    exact bodyPost_ret (v := .tuple #[zeroI.val, .int .i64 k]) (res_rec2 rt_ini rfl _ _ q zeroI.cells _ rfl rfl H5.out.1 rfl) rfl ⟨zeroI, rfl, rfl, In.own.zero _ _, K7.out.1.bel.trans (H5.out.2.below (fun j hj => by rw [List.mem_singleton.1 hj]; exact K7.out.1.lq) K7.out.1.bel.size), zero_apart⟩
  have hb2 : (k != 0) = false := by rw [hk]; rfl
  have HX2 : Hid (X = itk r.1 r.2.1) := Lib.hid (by rw [HX.out, if_neg (fun k => k he), if_neg (fun k => k hk)])
  have hlen : r.2.1.length ≤ 1000000 := by
    have h1 := (prs_back (l := l) (by rw [← HR.out]; exact he)).2
    rw [← HR.out] at h1
    have h2 := congrArg List.length h1
    rw [List.length_append, H0.out.len] at h2
    omega
  have hn2 : n2 ≤ 1000000 := by rw [← K7.out.1.r.len]; exact hlen
  go_wp2_with fail
  refine (read_any A2 n2 c2 r.2.1 _ (by exact K7.out.1.r.rb) hn2).mono ?_
  rintro e w8 ⟨x, rfl, hx, hb8, hrd⟩
  have K8 : Hid (IK w q p x i (0, r.2.1) w8) := Lib.hid ⟨bel_next K7.out.1.bel hb8, K7.out.1.lq, K7.out.2.2.2, Nat.le_trans K7.out.1.bel.size hx, Nat.ne_of_lt K7.out.2.2.1, K7.out.1.hq.step hb8, K7.out.2.1.step hb8, hrd, by rw [HI.out]; exact ⟨(K7.out.1.step hb8).own, OwnB.nil_ _ _, OwnB.nil_ _ _⟩⟩
  clear hx hb8 hrd K7 hlen hn2
  go_wp2_with fail
  obtain ⟨s, HS⟩ : ∃ s, Hid (s = longS (0, r.2.1)) := ⟨_, Lib.hid rfl⟩
  refine (rlong_any x _ _ K8.out.rd).mono ?_
  rw [← HS.out]
  rintro e w9 ⟨A9, n9, c9, rfl, ho1, ho, hr⟩
  have K9 := Lib.hid (K8.out.call ho hr)
  have O9 := Lib.hid (ho1.base_le K8.out.bel.size)
  have c0 := K9.out.hp.c4
  have f0 := K9.out.hp.blk.free 4
  clear ho hr ho1 K8
  go_wp2_with fail
  have K10 := Lib.hid (K9.out.put4 O9.out)
  clear c0 f0 K9 O9
  obtain ⟨w10, HW10⟩ : ∃ w10, Hid (w9.setCell ⟨p, 4, none⟩ (.slice A9 n9 c9) = w10) := ⟨_, Lib.hid rfl⟩
  rw [HW10.out] at K10 ⊢
  refine (err_any x _ _ K10.out.rd).mono ?_
  rintro e w11 ⟨rfl, rfl⟩
  have HL := Lib.hid (long_tok r.2.1)
  rcases ht : tokL r.2.1 with _ | ⟨t, u⟩
  · have hs : s.2.1 = 12 := by rw [HS.out, HL.out, ht]
    have HE : Hid (X = (zeroIP, 12)) := Lib.hid (by rw [HX2.out]; unfold itk; rw [ht])
    rw [hs]
    go_wp2_with (first
      | (refine wpList_stI rt_ini rfl (.tmp 2) (.tmp 38) rfl q rfl zeroI zeroI rfl (by exact K10.out.hq) ?_; intro w12 hc5 ho5 hs5; have H5 := Lib.hid (And.intro hc5 ho5); clear hc5 ho5 hs5))
    rw [HE.out]
    exact bodyPost_ret (v := .tuple #[zeroI.val, .int .i64 12]) (res_rec2 rt_ini rfl _ _ q zeroI.cells _ rfl rfl H5.out.1 rfl) rfl ⟨zeroI, rfl, rfl, In.own.zero _ _, K10.out.bel.trans (H5.out.2.below (fun j hj => by rw [List.mem_singleton.1 hj]; exact K10.out.lq) K10.out.bel.size), zero_apart⟩
  · have hs0 : s = (t, 0, u) := by rw [HS.out, HL.out, ht]
    have HE : Hid (X = ((r.1, t, u), 0)) := Lib.hid (by rw [HX2.out]; unfold itk; rw [ht])
    clear ht
    subst hs0
    go_wp2_with fail
    refine (rrest_any x _ _ K10.out.rd).mono ?_
    rw [rest_0 u]
    rintro e w12 ⟨A12, n12, c12, rfl, ho1, ho, hr⟩
    have K12 := Lib.hid (K10.out.call ho hr)
    have HD : Hid (∀ g ∈ blkO A9, g ∉ blkO A12) := Lib.hid (fun g h1 h2 => by
      obtain ⟨a, ea, hk1⟩ := mem_blkO h1
      obtain ⟨b, eb, hk2⟩ := mem_blkO h2
      have q1 := (K10.out.own.t.spot a ea).2.2
      have q2 := (ho1.spot b eb).2.1
      omega)
    have O12 := Lib.hid (ho1.base_le K10.out.bel.size)
    have c0 := K12.out.hp.c5
    have f0 := K12.out.hp.blk.free 5
    clear ho hr ho1 K10
    obtain ⟨j, HJ⟩ : ∃ j, Hid (IK w q p x j (0, []) (w12.setCell ⟨p, 5, none⟩ (.slice A12 n12 c12)) ∧ j.pl = (r.1, t, u) ∧ ∀ g ∈ blkO j.T, g ∉ blkO j.R) := ⟨_, Lib.hid ⟨K12.out.put5 O12.out, by rw [HI.out]; show (h.pl, t, u) = _; rw [HP.out], HD.out⟩⟩
    go_wp2_with (first
      | (refine wpList_ldI rt_ini rfl (.tmp 7) rfl p rfl j (by exact HJ.out.1.hp) ?_)
      | (refine wpList_stI rt_ini rfl (.tmp 2) (.tmp 43) rfl q rfl j zeroI rfl (by exact HJ.out.1.hq) ?_; intro w13 hc5 ho5 hs5; have H5 := Lib.hid (And.intro hc5 ho5); clear hc5 ho5 hs5))
    rw [HE.out]
    exact bodyPost_ret (v := .tuple #[j.val, .int .i64 0]) (res_rec2 rt_ini rfl _ _ q j.cells _ rfl rfl H5.out.1 rfl) rfl ⟨j, rfl, HJ.out.2.1, HJ.out.1.own.off H5.out.2 (HJ.out.1.hq.blk.nob (by decide)), HJ.out.1.bel.trans (H5.out.2.below (fun j hj => by rw [List.mem_singleton.1 hj]; exact HJ.out.1.lq) HJ.out.1.bel.size), HJ.out.2.2⟩
theorem iparse_any (A : Option Addr) (n c : Nat) (l : List UInt8) (w : World) (hr0 : RB w w.heap.size A n l) (hn : n ≤ 1000000) :
    Calls Tryz.prog 20 #[.slice A n c] w (RetIn (iprs l) w) :=
  (iparse_own A n c l w hr0 hn).mono fun e w' ⟨i, h1, h2, h3, h4, _⟩ => ⟨i, h1, h2, h3, h4⟩
end Go.Proofs.YtdkdgcpknephnaaGreat

