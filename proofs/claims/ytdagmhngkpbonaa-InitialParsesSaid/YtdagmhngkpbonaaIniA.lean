/- Records (objects of several cells, known by their whole block), Initials in memory (layer 11), and what is parsed and written, in plain words. Nothing is claimed of the program here. -/
import Derived.Test.YtdagmhngkpbonaaHeadUse
namespace Go.Proofs.Ytdagmhngkpbonaa
open Go.RowKit
set_option linter.unusedVariables false
set_option linter.unusedSimpArgs false

/-! Records. -/
/-- Block x holds the cells cs: one object of type T. -/
def Blk (T : TypeId) (w : World) (x : Nat) (cs : List Value) : Prop := w.heap[x]? = some (.cells cs.toArray T (0, 0))
/-- Cells, some of them stored anew. -/
def putsL : List Value → Nat → List Value → List Value
  | cs, _, [] => cs
  | cs, o, v :: r => putsL (cs.set o v) (o + 1) r
theorem putsL_len : ∀ (vs cs : List Value) (o : Nat), (putsL cs o vs).length = cs.length
  | [], _, _ => rfl
  | v :: r, cs, o => by rw [putsL, putsL_len r, List.length_set]
section
variable {T : TypeId} {w w' : World} {x : Nat} {cs : List Value} {S : List Nat}
theorem Blk.cell (k : Blk T w x cs) (j : Nat) : w.cell? ⟨x, j, none⟩ = cs[j]? := by rw [cell_of_row w x j _ T (0, 0) k]; simp
theorem Blk.free (k : Blk T w x cs) (j : Nat) : w.frozen? ⟨x, j, none⟩ = false := frozen_of_row w x j _ T k
theorem Blk.lt (k : Blk T w x cs) : x < w.heap.size := (Array.getElem?_eq_some_iff.1 k).1
theorem Blk.oth (k : Blk T w x cs) (ho : Oth S w w') (hx : x ∉ S) : Blk T w' x cs := (ho.block x k.lt hx).trans k
theorem Blk.step (k : Blk T w x cs) (hb : Below w.heap.size w w') : Blk T w' x cs := (hb.block x k.lt).trans k
theorem Blk.new (w : World) (T : TypeId) (cs : List Value) (x : Nat) (hx : x = w.heap.size) : Blk T (w.alloc (.cells cs.toArray T)) x cs := by subst hx; exact heap_alloc_new w _
theorem Blk.set (k : Blk T w x cs) (j : Nat) (v : Value) : Blk T (w.setCell ⟨x, j, none⟩ v) x (cs.set j v) := by
  have h := heap_setCell_same w x j _ T v k
  unfold Blk
  rw [h]
  simp
theorem Blk.puts : ∀ (vs : List Value) (o : Nat) (w : World) (cs : List Value), Blk T w x cs → Blk T (w.setCells x o vs) x (putsL cs o vs)
  | [], o, w, cs, k => k
  | v :: r, o, w, cs, k => by rw [World.setCells, putsL]; exact Blk.puts r (o + 1) _ _ (k.set o v)
theorem Blk.nob (k : Blk T w x cs) (hT : T ≠ 5) : NoB [x] w := fun j hj ds fr e => by
  rw [List.mem_singleton.1 hj, show w.heap[x]? = _ from k] at e
  injection e with e
  injection e with _ e
  exact hT e
theorem Blk.range (k : Blk T w x cs) (o n : Nat) : w.rangeAt x o ((cs.drop o).take n) := fun j v hv => by
  rw [k.cell]
  rw [List.getElem?_take] at hv
  split at hv
  · rw [List.getElem?_drop] at hv; exact hv
  · cases hv
theorem Blk.there (k : Blk T w x cs) (o n : Nat) (h : o + n ≤ cs.length) : w.there x o n := fun j hj => by
  refine ⟨?_, k.free _⟩
  rw [k.cell, List.getElem?_eq_getElem (by omega)]
  rfl
theorem Blk.far (k : Blk T w x cs) {T' : TypeId} {y : Nat} {ds : List Value} (t : Blk T' w y ds) (hT : T ≠ T') : x ≠ y := fun e => by
  subst e
  have e := (show w.heap[x]? = _ from k).symm.trans t
  injection e with e
  injection e with _ e
  exact hT e
/-- A record lies apart from bytes that grow. -/
theorem Blk.app {base n c : Nat} {A : Option Addr} {l : List UInt8} (k : Blk T w x cs) (hT : T ≠ 5) (r : OwnB w base A n c l) (ho : Oth (blkO A) w w') : Blk T w' x cs :=
  k.oth ho (fun hm => by
    obtain ⟨a, ea, hk⟩ := mem_blkO hm
    exact (k.nob hT).own r a.block 0 (by rw [ea]; exact congrArg some (r.spot a ea).1) (by simp [hk]))
end
/-- A record's type, and its zero's cells. -/
structure RT (T : TypeId) (z : List Value) : Prop where
  row : ∃ d, Try.prog.underlying T = some d ∧ d.isRow = true
  info : (Try.prog.info? T).map (fun i => (i.zero, i.size)) = some (some (.agg z.toArray), z.length)
theorem RT.size {T : TypeId} {z : List Value} (h : RT T z) : (Try.prog.info? T).map (·.size) = some z.length := by
  have h2 := h.info
  rcases hi : Try.prog.info? T with _ | i
  · rw [hi] at h2; cases h2
  · rw [hi] at h2
    simp only [Option.map_some, Option.some.injEq, Prod.mk.injEq] at h2
    simp [h2.2]
theorem RT.zero {T : TypeId} {z : List Value} (h : RT T z) (w : World) : (zeroValue T).run Try.prog w = .ok (.agg z.toArray) w := by
  have h2 := h.info
  rcases hi : Try.prog.info? T with _ | i
  · rw [hi] at h2; cases h2
  · rw [hi] at h2
    simp only [Option.map_some, Option.some.injEq, Prod.mk.injEq] at h2
    simp [zeroValue, typeInfo, hi, h2.1]
theorem HT.rt {T : TypeId} (h : HT T) : RT T zeroH.cells := ⟨h.1, by
  have h2 := h.2
  rcases hi : Try.prog.info? T with _ | i
  · rw [hi] at h2; cases h2
  · rw [hi] at h2
    simp only [Option.map_some, Option.some.injEq, Prod.mk.injEq] at h2 ⊢
    exact ⟨h2.1, h2.2.1⟩⟩
/-- Every cell is one cell. -/
def ones (cs : List Value) : Prop := ∀ v ∈ cs, v.oneCell' = true
section
variable {w : World} {ops : Array Oper} {rest : List Oper} {o : Oper} {a : Act} {Q : Exit → Act → World → Prop} {T T' : TypeId} {z : List Value}
theorem wpList_ldB (rt : RT T z) (hgd : o.guard = none) (x : Operand) (hop : o.op = .load T x) (g k : Nat) (hx : a.eval x = .pointer (some ⟨g, k, none⟩)) (cs vs : List Value) (hc : Blk T' w g cs) (hv : (cs.drop k).take z.length = vs) (hl : vs.length = z.length)
    (hk : wpList Try.prog ops Q rest (a.put o.dst (.agg vs.toArray)) w) : wpList Try.prog ops Q (o :: rest) a w := by
  obtain ⟨d, hu, hd⟩ := rt.row
  refine wpList_load_mid hgd _ x hop g k hx vs d (by rw [← hv]; exact hc.range k _) hu hd (by rw [hl]; exact rt.size) hk
theorem wpList_stB (rt : RT T z) (hgd : o.guard = none) (x y : Operand) (hop : o.op = .store T x y) (g k : Nat) (hx : a.eval x = .pointer (some ⟨g, k, none⟩)) (cs vs : List Value) (hy : a.eval y = .agg vs.toArray) (h1 : ones vs) (hl : vs.length = z.length) (hc : Blk T' w g cs) (hr : k + z.length ≤ cs.length)
    (hk : ∀ w', Blk T' w' g (putsL cs k vs) → Oth [g] w w' → w'.heap.size = w.heap.size → wpList Try.prog ops Q rest (a.put o.dst undef) w') : wpList Try.prog ops Q (o :: rest) a w := by
  refine wpList_store_mid hgd _ x y hop g k vs.toArray hx hy (by rw [List.size_toArray, hl]; exact hc.there _ _ hr) (by rw [List.size_toArray, hl]; exact rt.size) (all_oneCell_toArray h1) ?_
  exact hk _ (hc.puts _ _ _ _) (oth_setCells g _ _ _ _ (Oth.refl _ _)) (size_setCellsH g _ _ _)
/-- Boxed; made: the world behind it by a name of its own. -/
theorem wpList_boxB (hgd : o.guard = none) (T : TypeId) (x : Operand) (hop : o.op = .box T x) (cs : List Value) (hx : a.eval x = .agg cs.toArray)
    (hk : ∀ w' q, Blk T w' q cs → Below w.heap.size w w' → w.heap.size ≤ q → wpList Try.prog ops Q rest (a.put o.dst (.pointer (some ⟨q, 0, none⟩))) w') : wpList Try.prog ops Q (o :: rest) a w := by
  have hk := hk _ _ (Blk.new _ _ _ _ rfl) (below_alloc _ _) (Nat.le_refl _)
  refine wpList_plain hgd fun K hK => ?_
  have hr : (Instr.box T (.agg cs.toArray)).run Try.prog w = .ok (.pointer (some ⟨w.heap.size, 0, none⟩)) (w.alloc (.cells cs.toArray T)) := rfl
  unfold Oper.wp execOp
  simp only [hop, hx, Sem.run_bind, hr, Result.andThen_ok]
  exact hK _ _ hk
theorem wpList_newB (rt : RT T z) (hgd : o.guard = none) (hop : o.op = .alloc T)
    (hk : ∀ w' q, Blk T w' q z → Below w.heap.size w w' → w.heap.size ≤ q → wpList Try.prog ops Q rest (a.put o.dst (.pointer (some ⟨q, 0, none⟩))) w') : wpList Try.prog ops Q (o :: rest) a w := by
  have hk := hk _ _ (Blk.new _ _ _ _ rfl) (below_alloc _ _) (Nat.le_refl _)
  refine wpList_plain hgd fun K hK => ?_
  have hz := rt.zero w
  have hr : (Instr.alloc T true (.tuple #[])).run Try.prog w = .ok (.pointer (some ⟨w.heap.size, 0, none⟩)) (w.alloc (.cells z.toArray T)) := by
    unfold Instr.alloc
    simp only [Sem.run_bind, hz, Result.andThen_ok]
    rfl
  unfold Oper.wp execOp
  simp only [hop, Sem.run_bind, hr, Result.andThen_ok]
  exact hK _ _ hk
end
theorem ldB_m {T T' : TypeId} {z : List Value} (rt : RT T z) {w : World} {g k : Nat} {cs vs : List Value} (hc : Blk T' w g cs) (hv : (cs.drop k).take z.length = vs) (hl : vs.length = z.length) : ldHd T (.pointer (some ⟨g, k, none⟩)) w = .ok (.value (.agg vs.toArray)) w := by
  obtain ⟨d, hu, hd⟩ := rt.row
  have := run_loadAt_mid (P := Try.prog) w g k T vs d (by rw [← hv]; exact hc.range k _) hu hd (by rw [hl]; exact rt.size)
  unfold ldHd
  simp only [Sem.run_bind, this, Result.andThen_ok, Sem.run_pure]
theorem stB_m {T T' : TypeId} {z : List Value} (rt : RT T z) {w : World} {g k : Nat} {cs vs : List Value} (hc : Blk T' w g cs) (h1 : ones vs) (hl : vs.length = z.length) (hr : k + z.length ≤ cs.length) : stHd T (.pointer (some ⟨g, k, none⟩)) (.agg vs.toArray) w = .ok .skip (w.setCells g k vs) := by
  have := run_storeAt_mid (P := Try.prog) w g k T vs.toArray (by rw [List.size_toArray, hl]; exact hc.there _ _ hr) (by rw [List.size_toArray, hl]; exact rt.size) (all_oneCell_toArray h1)
  unfold stHd
  simp only [Sem.run_bind]
  rw [this]
  rfl
/-- A result that lies in a record's variable: alone; before a number. -/
theorem res_rec {fn : Func} {p : Tmp} {T : TypeId} {z : List Value} (rt : RT T z) (hr : fn.results = #[.cell p T]) (tmps : Array Value) (w : World) (b : Nat) (cs : List Value) (hp : tmps.getD p undef = .pointer (some ⟨b, 0, none⟩)) (hc : Blk T w b cs) (hl : cs.length = z.length) :
    (results fn tmps).run Try.prog w = .ok (.agg cs.toArray) w := by
  obtain ⟨d, hu, hd⟩ := rt.row
  have hrg : w.rangeAt b 0 cs := by have := hc.range 0 cs.length; simpa using this
  have hl := run_loadVar_mid (P := Try.prog) w b 0 T cs d hrg hu hd (by rw [hl]; exact rt.size)
  have hl2 : (loadVar T ⟨b, 0, none⟩).run Try.prog w = .ok (.agg cs.toArray) w := hl
  rw [Array.getD_eq_getD_getElem?] at hp
  simp only [results, hr]
  simp [hp, asAddr, hl2]
theorem res_rec2 {fn : Func} {p r : Tmp} {T : TypeId} {z : List Value} (rt : RT T z) (hr : fn.results = #[.cell p T, .tmp r]) (tmps : Array Value) (w : World) (b : Nat) (cs : List Value) (v : Value) (hp : tmps.getD p undef = .pointer (some ⟨b, 0, none⟩)) (hv : tmps.getD r undef = v) (hc : Blk T w b cs) (hl : cs.length = z.length) :
    (results fn tmps).run Try.prog w = .ok (.tuple #[.agg cs.toArray, v]) w := by
  obtain ⟨d, hu, hd⟩ := rt.row
  have hrg : w.rangeAt b 0 cs := by have := hc.range 0 cs.length; simpa using this
  have hl := run_loadVar_mid (P := Try.prog) w b 0 T cs d hrg hu hd (by rw [hl]; exact rt.size)
  have hl2 : (loadVar T ⟨b, 0, none⟩).run Try.prog w = .ok (.agg cs.toArray) w := hl
  rw [Array.getD_eq_getD_getElem?] at hp hv
  simp only [results, hr]
  simp [hp, hv, asAddr, hl2]

/-! Initials, plainly. -/
/-- An Initial's header, token, rest. -/
abbrev IPl := Pl × List UInt8 × List UInt8
def zeroIP : IPl := (zeroP, [], [])
def typ (f : UInt8) : Nat := f.toNat / 16 % 4
/-- A header's error. -/
def chk (p : Pl) : Int := if p.1.toNat < 128 ∨ p.2.1 ≠ 1 ∨ typ p.1 ≠ 0 then 14 else if 20 < p.2.2.1.length ∨ 20 < p.2.2.2.length then 15 else 0
/-- A token behind its length. -/
def tokL (l : List UInt8) : Option (List UInt8 × List UInt8) := if tkE l = 0 ∧ tkV l ≤ (l.drop (tkN l)).length then some ((l.drop (tkN l)).take (tkV l), (l.drop (tkN l)).drop (tkV l)) else none
def itk (p : Pl) (l : List UInt8) : IPl × Int := match tokL l with | none => (zeroIP, 12) | some (t, q) => ((p, t, q), 0)
/-- Parse. -/
def iprs (l : List UInt8) : IPl × Int := if (prs l).2.2 ≠ 0 then (zeroIP, (prs l).2.2) else if chk (prs l).1 ≠ 0 then (zeroIP, chk (prs l).1) else itk (prs l).1 (prs l).2.1
/-- An Initial's bytes. -/
def irawP (p : IPl) : List UInt8 := rawP p.1 ++ longP p.2.1 ++ p.2.2
/-- Bytes. -/
def ibyt (p : IPl) : List UInt8 × Int := if chk p.1 ≠ 0 then ([], chk p.1) else (irawP p, 0)
/-- What Make makes, ahead of the zeros; Make. -/
def madeP (to frm tok rest : List UInt8) : IPl := ((192, 1, to, frm), tok, rest)
def mkI (p : IPl) (z : Int) : List UInt8 × Int := if 65535 < z then ([], 11) else if chk p.1 ≠ 0 then ([], chk p.1) else (irawP p ++ List.replicate (z.toNat - (irawP p).length) 0, 0)
theorem long_tok (l : List UInt8) : longS (0, l) = match tokL l with | none => ([], 12, l) | some (t, q) => (t, 0, q) := by
  unfold longS
  rw [show variS (0, l) = (tkV l, tkE l, l.drop (tkN l)) from if_pos rfl]
  unfold tokL
  rcases tk_cases l with ⟨h0, h1⟩ | ⟨h0, h1, h2⟩
  · rw [h0]
    by_cases h : tkV l ≤ (l.drop (tkN l)).length
    · rw [if_pos ⟨rfl, h⟩, countS_ok (by simp only; rw [takeS_ok h])]
      simp only
      rw [takeS_ok h]
    · rw [if_neg (fun k => h k.2), countS_no (by simp only; rw [takeS_end (by omega)]; exact (show (12 : Int) ≠ 0 by decide))]
      simp only
      rw [takeS_end (by omega)]
  · rw [if_neg (by rw [h0]; exact fun k => absurd k.1 (by decide)), h0, countS_no (by simp only; rw [takeS_1 (s := (12, _)) (show (12 : Int) ≠ 0 by decide)]; exact (show (12 : Int) ≠ 0 by decide))]
    simp only
    rw [takeS_1 (s := (12, _)) (show (12 : Int) ≠ 0 by decide)]
theorem chk_cases (p : Pl) : (chk p = 14 ∧ (p.1.toNat < 128 ∨ p.2.1 ≠ 1 ∨ typ p.1 ≠ 0)) ∨ (chk p = 15 ∧ ¬ (p.1.toNat < 128 ∨ p.2.1 ≠ 1 ∨ typ p.1 ≠ 0) ∧ (20 < p.2.2.1.length ∨ 20 < p.2.2.2.length)) ∨ (chk p = 0 ∧ (¬ p.1.toNat < 128 ∧ p.2.1 = 1 ∧ typ p.1 = 0 ∧ p.2.2.1.length ≤ 20 ∧ p.2.2.2.length ≤ 20)) := by
  unfold chk
  by_cases h : p.1.toNat < 128 ∨ p.2.1 ≠ 1 ∨ typ p.1 ≠ 0
  · exact .inl ⟨if_pos h, h⟩
  · rw [if_neg h]
    by_cases h2 : 20 < p.2.2.1.length ∨ 20 < p.2.2.2.length
    · exact .inr (.inl ⟨if_pos h2, h, h2⟩)
    · exact .inr (.inr ⟨if_neg h2, by omega⟩)
theorem chk_good {p : Pl} (h : chk p = 0) : Pgood p ∧ p.2.1 = 1 ∧ typ p.1 = 0 ∧ p.2.2.1.length ≤ 20 ∧ p.2.2.2.length ≤ 20 := by
  rcases chk_cases p with ⟨e, _⟩ | ⟨e, _⟩ | ⟨_, h1, h2, h3, h4, h5⟩
  · rw [h] at e; exact absurd e (by decide)
  · rw [h] at e; exact absurd e (by decide)
  · exact ⟨⟨h1, by omega, by omega, by omega⟩, h2, h3, h4, h5⟩

/-! Initials in memory. -/
structure In where
  h : Hd
  T : Option Addr
  e : Nat
  t : List UInt8
  R : Option Addr
  g : Nat
  r : List UInt8
def In.pl (i : In) : IPl := (i.h.pl, i.t, i.r)
def In.cells (i : In) : List Value := [.int .u8 (i.h.f.toNat : Int), .int .u32 (i.h.v : Int), .slice i.h.A i.h.a.length i.h.c, .slice i.h.B i.h.b.length i.h.d, .slice i.T i.t.length i.e, .slice i.R i.r.length i.g]
def In.val (i : In) : Value := .agg i.cells.toArray
def zeroI : In := ⟨zeroH, none, 0, [], none, 0, []⟩
theorem zeroI_pl : zeroI.pl = zeroIP := rfl
structure In.ok (w : World) (i : In) : Prop where
  h : i.h.ok w
  t : RB w w.heap.size i.T i.t.length i.t
  r : RB w w.heap.size i.R i.r.length i.r
  ct : i.t.length ≤ i.e ∧ i.e ≤ maxLen
  cr : i.r.length ≤ i.g ∧ i.g ≤ maxLen
structure In.own (w : World) (base : Nat) (i : In) : Prop where
  h : i.h.own w base
  t : OwnB w base i.T i.t.length i.e i.t
  r : OwnB w base i.R i.r.length i.g i.r
/-- Block x is the Initial i, of type T. -/
def Ic (T : TypeId) (w : World) (x : Nat) (i : In) : Prop := Blk T w x i.cells
section
variable {T : TypeId} {w w' : World} {x base base' : Nat} {i : In} {S : List Nat}
theorem In.own.ok (k : i.own w base) : i.ok w := ⟨k.h.ok, k.t.rb, k.r.rb, k.t.cap, k.r.cap⟩
theorem In.ok.step (k : i.ok w) (hb : Below w.heap.size w w') : i.ok w' := ⟨k.h.step hb, k.t.step hb, k.r.step hb, k.ct, k.cr⟩
theorem In.own.step (k : i.own w base) (hb : Below w.heap.size w w') : i.own w' base := ⟨k.h.step hb, k.t.below hb, k.r.below hb⟩
theorem In.own.base_le (k : i.own w base) (hb : base' ≤ base) : i.own w base' := ⟨k.h.base_le hb, k.t.base_le hb, k.r.base_le hb⟩
theorem In.own.zero (w : World) (base : Nat) : zeroI.own w base := ⟨Hd.own.zero _ _, OwnB.nil_ _ _, OwnB.nil_ _ _⟩
theorem In.own.off (k : i.own w base) (ho : Oth S w w') (hS : NoB S w) : i.own w' base := ⟨k.h.off ho hS, k.t.offS ho hS, k.r.offS ho hS⟩
theorem Ic.blk (k : Ic T w x i) : Blk T w x i.cells := k
theorem Ic.c0 (k : Ic T w x i) : w.cell? ⟨x, 0, none⟩ = some (.int .u8 (i.h.f.toNat : Int)) := k.blk.cell 0
theorem Ic.c1 (k : Ic T w x i) : w.cell? ⟨x, 1, none⟩ = some (.int .u32 (i.h.v : Int)) := k.blk.cell 1
theorem Ic.c2 (k : Ic T w x i) : w.cell? ⟨x, 2, none⟩ = some (.slice i.h.A i.h.a.length i.h.c) := k.blk.cell 2
theorem Ic.c3 (k : Ic T w x i) : w.cell? ⟨x, 3, none⟩ = some (.slice i.h.B i.h.b.length i.h.d) := k.blk.cell 3
theorem Ic.c4 (k : Ic T w x i) : w.cell? ⟨x, 4, none⟩ = some (.slice i.T i.t.length i.e) := k.blk.cell 4
theorem Ic.c5 (k : Ic T w x i) : w.cell? ⟨x, 5, none⟩ = some (.slice i.R i.r.length i.g) := k.blk.cell 5
theorem Ic.step (k : Ic T w x i) (hb : Below w.heap.size w w') : Ic T w' x i := k.blk.step hb
theorem Ic.oth (k : Ic T w x i) (ho : Oth S w w') (hx : x ∉ S) : Ic T w' x i := k.blk.oth ho hx
theorem Ic.set4 (k : Ic T w x i) (A : Option Addr) (c : Nat) (a : List UInt8) : Ic T (w.setCell ⟨x, 4, none⟩ (.slice A a.length c)) x { i with T := A, e := c, t := a } := k.blk.set 4 _
theorem Ic.set5 (k : Ic T w x i) (A : Option Addr) (c : Nat) (a : List UInt8) : Ic T (w.setCell ⟨x, 5, none⟩ (.slice A a.length c)) x { i with R := A, g := c, r := a } := k.blk.set 5 _
theorem Ic.whole (k : Ic T w x i) (j : In) : Ic T (w.setCells x 0 j.cells) x j := k.blk.puts j.cells 0 _ _
end
theorem in_ones (i : In) : ones i.cells := fun v hv => by
  simp only [In.cells, List.mem_cons, List.not_mem_nil, or_false] at hv
  rcases hv with rfl | rfl | rfl | rfl | rfl | rfl <;> rfl
theorem hd_ones (h : Hd) : ones h.cells := fun v hv => by
  simp only [Hd.cells, List.mem_cons, List.not_mem_nil, or_false] at hv
  rcases hv with rfl | rfl | rfl | rfl <;> rfl
theorem rt_ini : RT 29 zeroI.cells := ⟨row_of (by kernel_rfl), by kernel_rfl⟩
theorem rt_inr : RT 35 zeroI.cells := ⟨row_of (by kernel_rfl), by kernel_rfl⟩
theorem ex_ldI (ev : Operand → Value) (x : Operand) (d : Option Tmp) (ty : TypeId) (ps : String) (af : Array Edge) (g : Option (Nat × Bool)) (w : World) : (execOp ev ⟨d, .load 29 x, ty, ps, af, g⟩).run Try.prog w = ldHd 29 (ev x) w := rfl
theorem ex_ldIr (ev : Operand → Value) (x : Operand) (d : Option Tmp) (ty : TypeId) (ps : String) (af : Array Edge) (g : Option (Nat × Bool)) (w : World) : (execOp ev ⟨d, .load 35 x, ty, ps, af, g⟩).run Try.prog w = ldHd 35 (ev x) w := rfl
theorem ex_stI (ev : Operand → Value) (x y : Operand) (d : Option Tmp) (ty : TypeId) (ps : String) (af : Array Edge) (g : Option (Nat × Bool)) (w : World) : (execOp ev ⟨d, .store 29 x y, ty, ps, af, g⟩).run Try.prog w = stHd 29 (ev x) (ev y) w := rfl
theorem ex_stIr (ev : Operand → Value) (x y : Operand) (d : Option Tmp) (ty : TypeId) (ps : String) (af : Array Edge) (g : Option (Nat × Bool)) (w : World) : (execOp ev ⟨d, .store 35 x y, ty, ps, af, g⟩).run Try.prog w = stHd 35 (ev x) (ev y) w := rfl
/-- The whole Initial; its header. -/
theorem Ic.ld {T T' : TypeId} {w : World} {x : Nat} {i : In} (k : Ic T w x i) (rt : RT T' zeroI.cells) : ldHd T' (.pointer (some ⟨x, 0, none⟩)) w = .ok (.value i.val) w := ldB_m rt k.blk rfl rfl
theorem Ic.ldh {T T' : TypeId} {w : World} {x : Nat} {i : In} (k : Ic T w x i) (ht : HT T') : ldHd T' (.pointer (some ⟨x, 0, none⟩)) w = .ok (.value i.h.val) w := ldB_m ht.rt k.blk rfl rfl
theorem Ic.st {T T' : TypeId} {w : World} {x : Nat} {i : In} (k : Ic T w x i) (rt : RT T' zeroI.cells) (j : In) : stHd T' (.pointer (some ⟨x, 0, none⟩)) j.val w = .ok .skip (w.setCells x 0 j.cells) := stB_m rt k.blk (in_ones j) rfl (Nat.le_refl 6)
section
variable {w : World} {ops : Array Oper} {rest : List Oper} {o : Oper} {a : Act} {Q : Exit → Act → World → Prop} {T T' : TypeId}
theorem wpList_ldI (rt : RT T zeroI.cells) (hgd : o.guard = none) (x : Operand) (hop : o.op = .load T x) (g : Nat) (hx : a.eval x = .pointer (some ⟨g, 0, none⟩)) (i : In) (hc : Ic T' w g i)
    (hk : wpList Try.prog ops Q rest (a.put o.dst i.val) w) : wpList Try.prog ops Q (o :: rest) a w := wpList_ldB rt hgd x hop g 0 hx _ i.cells hc.blk rfl rfl hk
theorem wpList_ldIh (ht : HT T) (hgd : o.guard = none) (x : Operand) (hop : o.op = .load T x) (g : Nat) (hx : a.eval x = .pointer (some ⟨g, 0, none⟩)) (i : In) (hc : Ic T' w g i)
    (hk : wpList Try.prog ops Q rest (a.put o.dst i.h.val) w) : wpList Try.prog ops Q (o :: rest) a w := wpList_ldB ht.rt hgd x hop g 0 hx _ i.h.cells hc.blk rfl rfl hk
theorem wpList_stI (rt : RT T zeroI.cells) (hgd : o.guard = none) (x y : Operand) (hop : o.op = .store T x y) (g : Nat) (hx : a.eval x = .pointer (some ⟨g, 0, none⟩)) (i i0 : In) (hy : a.eval y = i.val) (hc : Ic T' w g i0)
    (hk : ∀ w', Ic T' w' g i → Oth [g] w w' → w'.heap.size = w.heap.size → wpList Try.prog ops Q rest (a.put o.dst undef) w') : wpList Try.prog ops Q (o :: rest) a w :=
  wpList_stB rt hgd x y hop g 0 hx i0.cells i.cells hy (in_ones i) rfl hc.blk (Nat.le_refl 6) hk
theorem wpList_stIh (ht : HT T) (hgd : o.guard = none) (x y : Operand) (hop : o.op = .store T x y) (g : Nat) (hx : a.eval x = .pointer (some ⟨g, 0, none⟩)) (h : Hd) (i0 : In) (hy : a.eval y = h.val) (hc : Ic T' w g i0)
    (hk : ∀ w', Ic T' w' g { i0 with h := h } → Oth [g] w w' → w'.heap.size = w.heap.size → wpList Try.prog ops Q rest (a.put o.dst undef) w') : wpList Try.prog ops Q (o :: rest) a w :=
  wpList_stB ht.rt hgd x y hop g 0 hx i0.cells h.cells hy (hd_ones h) rfl hc.blk (show 0 + 4 ≤ 6 by decide) hk
theorem wpList_boxI (hgd : o.guard = none) (T : TypeId) (x : Operand) (hop : o.op = .box T x) (i : In) (hx : a.eval x = i.val)
    (hk : ∀ w' q, Ic T w' q i → Below w.heap.size w w' → w.heap.size ≤ q → wpList Try.prog ops Q rest (a.put o.dst (.pointer (some ⟨q, 0, none⟩))) w') : wpList Try.prog ops Q (o :: rest) a w := wpList_boxB hgd T x hop i.cells hx hk
theorem wpList_newI (rt : RT T zeroI.cells) (hgd : o.guard = none) (hop : o.op = .alloc T)
    (hk : ∀ w' q, Ic T w' q zeroI → Below w.heap.size w w' → w.heap.size ≤ q → wpList Try.prog ops Q rest (a.put o.dst (.pointer (some ⟨q, 0, none⟩))) w') : wpList Try.prog ops Q (o :: rest) a w := wpList_newB rt hgd hop hk
end
/-- A call that gives an Initial and an error's number: all new; to be read. -/
def RetIn (r : IPl × Int) (w : World) (e : Ending) (w' : World) : Prop :=
  ∃ i : In, e = .returned (.tuple #[i.val, .int .i64 r.2]) ∧ i.pl = r.1 ∧ i.own w' w.heap.size ∧ Below w.heap.size w w'
def RetIr (r : IPl × Int) (w : World) (e : Ending) (w' : World) : Prop :=
  ∃ i : In, e = .returned (.tuple #[i.val, .int .i64 r.2]) ∧ i.pl = r.1 ∧ i.ok w' ∧ Below w.heap.size w w'
end Go.Proofs.Ytdagmhngkpbonaa
