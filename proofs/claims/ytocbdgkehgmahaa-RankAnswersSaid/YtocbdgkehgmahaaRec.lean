/- Records: objects of several cells, known by their whole block; what a call keeps of other memory. Nothing is claimed of the program here. -/
import Derived.Test.YtocbdgkehgmahaaBytes
import Derived.Deep.MidRow
import Derived.Laws.IdiomCopy
import Derived.Deep.RegionHeld3
namespace Go.Proofs.Ytocbdgkehgmahaa
open Go.RowKit
set_option linter.unusedVariables false
set_option linter.unusedSimpArgs false

/-! An object of two cells. -/
def Two (T : TypeId) (w : World) (x : Nat) (a b : Value) : Prop := w.heap[x]? = some (.cells #[a, b] T (0, 0))
/-- Every block of w but those of S is in w' as it was; the streams are as they were; no block has gone. -/
structure Oth (S : List Nat) (w w' : World) : Prop where
  os : w'.os = w.os
  tape : w'.tape = w.tape
  output : w'.output = w.output
  size : w.heap.size ≤ w'.heap.size
  block : ∀ k, k < w.heap.size → k ∉ S → w'.heap[k]? = w.heap[k]?
section
variable {T : TypeId} {w w1 w' : World} {x : Nat} {a b : Value}
theorem Two.c0 (h : Two T w x a b) : w.cell? ⟨x, 0, none⟩ = some a := by rw [cell_of_row w x 0 _ T (0, 0) h]; rfl
theorem Two.c1 (h : Two T w x a b) : w.cell? ⟨x, 1, none⟩ = some b := by rw [cell_of_row w x 1 _ T (0, 0) h]; rfl
theorem Two.free (h : Two T w x a b) (k : Nat) : w.frozen? ⟨x, k, none⟩ = false := frozen_of_row w x k _ T h
theorem Two.lt (h : Two T w x a b) : x < w.heap.size := (Array.getElem?_eq_some_iff.1 h).1
theorem Two.set0 (h : Two T w x a b) (v : Value) : Two T (w.setCell ⟨x, 0, none⟩ v) x v b := by
  exact heap_setCell_same w x 0 _ T v h
theorem Two.set1 (h : Two T w x a b) (v : Value) : Two T (w.setCell ⟨x, 1, none⟩ v) x a v := by
  exact heap_setCell_same w x 1 _ T v h
theorem Two.below (h : Two T w x a b) {B : Nat} (hb : Below B w w') (hx : x < B) : Two T w' x a b := (hb.block x hx).trans h
theorem Two.step (h : Two T w x a b) (hb : Below w.heap.size w w') : Two T w' x a b := h.below hb h.lt
theorem Two.oth {S : List Nat} (h : Two T w x a b) (ho : Oth S w w') (hx : x ∉ S) : Two T w' x a b := (ho.block x h.lt hx).trans h
theorem Two.new (w : World) (T : TypeId) (a b : Value) : Two T (w.alloc (.cells #[a, b] T)) w.heap.size a b := heap_alloc_new w _
/-- No byte lies in it. -/
theorem Two.far (h : Two T w x a b) (ha : ∀ u : UInt8, a ≠ bv u) (hb : ∀ u : UInt8, b ≠ bv u) {B n : Nat} {A : Option Addr} {l : List UInt8} (r : RB w B A n l) (hn : 0 < n) : ∀ g o, A = some ⟨g, o, none⟩ → g ≠ x := by
  intro g o e hg
  obtain ⟨g', o', e', _, u, _, hc⟩ := r.at_ (k := 0) hn
  rw [e] at e'
  injection e' with e'
  injection e' with e1 e2
  subst e1
  subst hg
  rw [cell_of_row w g _ _ T (0, 0) h] at hc
  rw [Nat.add_zero] at hc
  rcases o' with _ | _ | k
  · simp at hc; exact ha u hc
  · simp at hc; exact hb u hc
  · simp at hc
theorem Oth.refl (S : List Nat) (w : World) : Oth S w w := ⟨rfl, rfl, rfl, Nat.le_refl _, fun _ _ _ => rfl⟩
theorem Oth.of_below {S : List Nat} (h : Below w.heap.size w w') : Oth S w w' := ⟨h.os, h.tape, h.output, h.size, fun k hk _ => h.block k hk⟩
theorem Oth.trans {S : List Nat} (h : Oth S w w1) (k : Oth S w1 w') : Oth S w w' :=
  ⟨k.os.trans h.os, k.tape.trans h.tape, k.output.trans h.output, Nat.le_trans h.size k.size, fun i hi hb => (k.block i (Nat.lt_of_lt_of_le hi h.size) hb).trans (h.block i hi hb)⟩
theorem Oth.more {S S' : List Nat} (h : Oth S w w') (hs : ∀ k ∈ S, k ∈ S') : Oth S' w w' := ⟨h.os, h.tape, h.output, h.size, fun k hk hn => h.block k hk (fun e => hn (hs k e))⟩
theorem Oth.below {S : List Nat} (h : Oth S w w') {lo : Nat} (h1 : ∀ k ∈ S, lo ≤ k) (h2 : lo ≤ w.heap.size) : Below lo w w' :=
  ⟨h.os, h.tape, h.output, h.size, fun k hk => h.block k (Nat.lt_of_lt_of_le hk h2) (fun e => absurd (h1 k e) (by omega))⟩
theorem Oth.set {S : List Nat} (h : Oth S w w1) (hx : x ∈ S) (k : Nat) (v : Value) : Oth S w (w1.setCell ⟨x, k, none⟩ v) :=
  ⟨h.os, h.tape, h.output, by simpa using h.size, fun i hi hn => (heap_setCell_other w1 _ i v (fun e => hn (by rw [e]; exact hx))).trans (h.block i hi hn)⟩
theorem RB.oth {S : List Nat} {A : Option Addr} {n : Nat} {l : List UInt8} (h : RB w w.heap.size A n l) (ho : Oth S w w') (ha : 0 < n → ∀ g o, A = some ⟨g, o, none⟩ → g ∉ S) : RB w' w'.heap.size A n l :=
  ⟨h.1, fun hn => by
    obtain ⟨g, o, e, hg, hc⟩ := h.2 hn
    refine ⟨g, o, e, Nat.lt_of_lt_of_le hg ho.size, fun i hi => ?_⟩
    rw [← hc i hi]
    exact World.cell?_of_block (w := w) (ho.block g hg (ha hn g o e))⟩
theorem OwnB.oth {S : List Nat} {A : Option Addr} {base n c : Nat} {l : List UInt8} (h : OwnB w base A n c l) (ho : Oth S w w') (ha : ∀ g o, A = some ⟨g, o, none⟩ → g ∉ S) : OwnB w' base A n c l := by
  refine ⟨h.1, ?_⟩
  rcases h.2 with h0 | ⟨g, cap, cur, hv, hbg, hh, r⟩
  · exact .inl h0
  · have hA : A = some ⟨g, 0, none⟩ := by injection hv
    exact .inr ⟨g, cap, cur, hv, hbg, (ho.block g (Array.getElem?_eq_some_iff.1 hh).1 (ha g 0 hA)).trans hh, r⟩
/-- Bytes of a call's own lie in no object. -/
theorem Two.own (h : Two T w x a b) (hT : T ≠ 5) {A : Option Addr} {base n c : Nat} {l : List UInt8} (r : OwnB w base A n c l) : ∀ g o, A = some ⟨g, o, none⟩ → g ≠ x := by
  intro g o e hg
  rcases r.2 with ⟨h0, _⟩ | ⟨g', cap, cur, hv, _, hh, _⟩
  · rw [e] at h0; cases h0
  · rw [e] at hv
    injection hv with hv
    injection hv with hv
    injection hv with e1
    subst e1
    subst hg
    rw [show w.heap[g]? = _ from h] at hh
    injection hh with hh
    injection hh with _ e2
    exact hT e2
end
theorem int_ne_bv (z : Int) : ∀ u : UInt8, Value.int .i64 z ≠ bv u := fun u e => by cases e
theorem slice_ne_bv (A : Option Addr) (n c : Nat) : ∀ u : UInt8, Value.slice A n c ≠ bv u := fun u e => by cases e

/-- Bytes that lie in a block of bytes. -/
def RBo (w : World) (A : Option Addr) (n : Nat) (l : List UInt8) : Prop := RB w w.heap.size A n l ∧ (0 < n → ∀ g o, A = some ⟨g, o, none⟩ → ∃ cs fr, w.heap[g]? = some (.cells cs 5 fr))
/-- The blocks of S are no blocks of bytes. -/
def NoB (S : List Nat) (w : World) : Prop := ∀ k ∈ S, ∀ cs fr, w.heap[k]? ≠ some (.cells cs 5 fr)
section
variable {T : TypeId} {w w' : World} {x n base c : Nat} {A : Option Addr} {l : List UInt8} {a b : Value} {S : List Nat}
theorem RBo.rb (h : RBo w A n l) : RB w w.heap.size A n l := h.1
theorem RBo.len (h : RBo w A n l) : l.length = n := h.1.len
theorem RBo.step (h : RBo w A n l) (hb : Below w.heap.size w w') : RBo w' A n l :=
  ⟨h.1.step hb, fun hn g o e => by
    obtain ⟨cs, fr, hc⟩ := h.2 hn g o e
    exact ⟨cs, fr, (hb.block g (Array.getElem?_eq_some_iff.1 hc).1).trans hc⟩⟩
theorem RBo.oth (h : RBo w A n l) (ho : Oth S w w') (hS : NoB S w) : RBo w' A n l :=
  ⟨h.1.oth ho (fun hn g o e hg => by
    obtain ⟨cs, fr, hc⟩ := h.2 hn g o e
    exact hS g hg cs fr hc), fun hn g o e => by
    obtain ⟨cs, fr, hc⟩ := h.2 hn g o e
    exact ⟨cs, fr, (ho.block g (Array.getElem?_eq_some_iff.1 hc).1 (fun hg => hS g hg cs fr hc)).trans hc⟩⟩
theorem RBo.part (h : RBo w A n l) {i j c : Nat} (hij : i ≤ j) (hj : j ≤ n) (hc : n ≤ c) : RBo w (cutA A c i) (j - i) ((l.take j).drop i) :=
  ⟨h.1.part hij hj hc, fun hn g o e => by
    obtain ⟨b, o', e', _⟩ := h.1.2 (by omega)
    subst e'
    unfold cutA at e
    split at e
    · exact h.2 (by omega) _ _ e
    · simp only [Option.map_some, Option.some.injEq] at e
      have hadd : (⟨b, o', none⟩ : Addr).add i = ⟨b, o' + i, none⟩ := by unfold Addr.add; split <;> simp_all
      rw [hadd] at e
      injection e with e1 e2
      subst e1
      exact h.2 (by omega) _ _ rfl⟩
theorem RBo.of_own (h : OwnB w base A n c l) : RBo w A n l :=
  ⟨h.rb, fun hn g o e => by
    rcases h.2 with ⟨_, h0⟩ | ⟨g', cap, cur, hv, _, hh, _⟩
    · omega
    · rw [e] at hv
      injection hv with hv
      injection hv with hv
      injection hv with e1
      subst e1
      exact ⟨_, _, hh⟩⟩
theorem Two.nob (h : Two T w x a b) (hT : T ≠ 5) : NoB [x] w := fun k hk cs fr e => by
  rw [List.mem_singleton.1 hk, show w.heap[x]? = _ from h] at e
  injection e with e
  injection e with _ e
  exact hT e
end
/-- The block of an address. -/
def blkO (A : Option Addr) : List Nat := match A with | some a => [a.block] | none => []
theorem mem_blkO {A : Option Addr} {g : Nat} (h : g ∈ blkO A) : ∃ a, A = some a ∧ a.block = g := by
  cases A with
  | none => simp [blkO] at h
  | some a => exact ⟨a, rfl, by simpa [blkO, eq_comm] using h⟩
theorem Oth.of_grown {w w' : World} {A : Option Addr} {n c : Nat} (h : w.grownBy w' (Value.ownBlock (.slice A n c))) : Oth (blkO A) w w' :=
  ⟨h.os, h.tape, h.output, h.size, fun k hk hn => h.block k hk (fun e => hn (by
    cases A with
    | none => simp [Value.ownBlock] at e
    | some a => simp [Value.ownBlock] at e; simp [blkO, e]))⟩
theorem OwnB.spot {w : World} {base n c : Nat} {A : Option Addr} {l : List UInt8} (h : OwnB w base A n c l) : ∀ a, A = some a → a = ⟨a.block, 0, none⟩ ∧ base ≤ a.block ∧ a.block < w.heap.size := by
  intro a e
  rcases h.2 with ⟨hv, _⟩ | ⟨g, cap, cur, hv, hb, hh, _⟩
  · rw [e] at hv; cases hv
  · rw [e] at hv
    injection hv with hv
    injection hv with hv
    subst hv
    exact ⟨rfl, hb, (Array.getElem?_eq_some_iff.1 hh).1⟩
section
variable {w w' : World} {n c base : Nat} {A : Option Addr} {l : List UInt8} {S : List Nat}
theorem NoB.own (k : NoB S w) (r : OwnB w base A n c l) : ∀ g o, A = some ⟨g, o, none⟩ → g ∉ S := by
  intro g o e hg
  rcases r.2 with ⟨h0, _⟩ | ⟨g', cap, cur, hv, _, hh, _⟩
  · rw [e] at h0; cases h0
  · rw [e] at hv
    injection hv with hv
    injection hv with hv
    injection hv with e1
    subst e1
    exact k g hg _ _ hh
theorem OwnB.offS (r : OwnB w base A n c l) (ho : Oth S w w') (k : NoB S w) : OwnB w' base A n c l := r.oth ho (k.own r)
end
theorem size_setCellsH (g : Nat) : ∀ (vs : List Value) (o : Nat) (w : World), (w.setCells g o vs).heap.size = w.heap.size := by
  intro vs
  induction vs with
  | nil => intro o w; rfl
  | cons v r ih => intro o w; rw [World.setCells, ih]; simp
theorem oth_setCells (g : Nat) : ∀ (vs : List Value) (o : Nat) (w0 w : World), Oth [g] w0 w → Oth [g] w0 (w.setCells g o vs) := by
  intro vs
  induction vs with
  | nil => intro o w0 w h; exact h
  | cons v r ih => intro o w0 w h; rw [World.setCells]; exact ih _ _ _ (h.set (x := g) (by simp) o v)
theorem row_of {T : TypeId} (h : (Try.prog.underlying T).map (·.isRow) = some true) : ∃ d, Try.prog.underlying T = some d ∧ d.isRow = true := by
  rcases hu : Try.prog.underlying T with _ | d
  · rw [hu] at h; cases h
  · rw [hu] at h; injection h with h; exact ⟨d, rfl, h⟩
noncomputable def ldHd (T : TypeId) (v : Value) (w : World) : Result Next := Sem.run Try.prog (do let r ← Instr.loadAt T v; pure (Next.value r)) w
noncomputable def stHd (T : TypeId) (v x : Value) (w : World) : Result Next := Sem.run Try.prog (do Instr.storeAt T v x; pure Next.skip) w

/-! Records. -/
/-- Block x holds the cells cs: one object of type T. -/
def Blk (T : TypeId) (w : World) (x : Nat) (cs : List Value) : Prop := w.heap[x]? = some (.cells cs.toArray T (0, 0))
/-- Cells, some of them stored anew. -/
def putsL : List Value → Nat → List Value → List Value
  | cs, _, [] => cs
  | cs, o, v :: r => putsL (cs.set o v) (o + 1) r
theorem putsL_len : ∀ (vs cs : List Value) (o : Nat), (putsL cs o vs).length = cs.length
  | [], _, _ => rfl
  | v :: r, cs, o => by rw [putsL, putsL_len r, List.length_set]
section
variable {T : TypeId} {w w' : World} {x : Nat} {cs : List Value} {S : List Nat}
theorem Blk.cell (k : Blk T w x cs) (j : Nat) : w.cell? ⟨x, j, none⟩ = cs[j]? := by rw [cell_of_row w x j _ T (0, 0) k]; simp
theorem Blk.free (k : Blk T w x cs) (j : Nat) : w.frozen? ⟨x, j, none⟩ = false := frozen_of_row w x j _ T k
theorem Blk.lt (k : Blk T w x cs) : x < w.heap.size := (Array.getElem?_eq_some_iff.1 k).1
theorem Blk.oth (k : Blk T w x cs) (ho : Oth S w w') (hx : x ∉ S) : Blk T w' x cs := (ho.block x k.lt hx).trans k
theorem Blk.step (k : Blk T w x cs) (hb : Below w.heap.size w w') : Blk T w' x cs := (hb.block x k.lt).trans k
theorem Blk.new (w : World) (T : TypeId) (cs : List Value) (x : Nat) (hx : x = w.heap.size) : Blk T (w.alloc (.cells cs.toArray T)) x cs := by subst hx; exact heap_alloc_new w _
theorem Blk.set (k : Blk T w x cs) (j : Nat) (v : Value) : Blk T (w.setCell ⟨x, j, none⟩ v) x (cs.set j v) := by
  have h := heap_setCell_same w x j _ T v k
  unfold Blk
  rw [h]
  simp
theorem Blk.puts : ∀ (vs : List Value) (o : Nat) (w : World) (cs : List Value), Blk T w x cs → Blk T (w.setCells x o vs) x (putsL cs o vs)
  | [], o, w, cs, k => k
  | v :: r, o, w, cs, k => by rw [World.setCells, putsL]; exact Blk.puts r (o + 1) _ _ (k.set o v)
theorem Blk.nob (k : Blk T w x cs) (hT : T ≠ 5) : NoB [x] w := fun j hj ds fr e => by
  rw [List.mem_singleton.1 hj, show w.heap[x]? = _ from k] at e
  injection e with e
  injection e with _ e
  exact hT e
theorem Blk.range (k : Blk T w x cs) (o n : Nat) : w.rangeAt x o ((cs.drop o).take n) := fun j v hv => by
  rw [k.cell]
  rw [List.getElem?_take] at hv
  split at hv
  · rw [List.getElem?_drop] at hv; exact hv
  · cases hv
theorem Blk.there (k : Blk T w x cs) (o n : Nat) (h : o + n ≤ cs.length) : w.there x o n := fun j hj => by
  refine ⟨?_, k.free _⟩
  rw [k.cell, List.getElem?_eq_getElem (by omega)]
  rfl
theorem Blk.far (k : Blk T w x cs) {T' : TypeId} {y : Nat} {ds : List Value} (t : Blk T' w y ds) (hT : T ≠ T') : x ≠ y := fun e => by
  subst e
  have e := (show w.heap[x]? = _ from k).symm.trans t
  injection e with e
  injection e with _ e
  exact hT e
/-- A record lies apart from bytes that grow. -/
theorem Blk.app {base n c : Nat} {A : Option Addr} {l : List UInt8} (k : Blk T w x cs) (hT : T ≠ 5) (r : OwnB w base A n c l) (ho : Oth (blkO A) w w') : Blk T w' x cs :=
  k.oth ho (fun hm => by
    obtain ⟨a, ea, hk⟩ := mem_blkO hm
    exact (k.nob hT).own r a.block 0 (by rw [ea]; exact congrArg some (r.spot a ea).1) (by simp [hk]))
end
/-- A record's type, and its zero's cells. -/
structure RT (T : TypeId) (z : List Value) : Prop where
  row : ∃ d, Try.prog.underlying T = some d ∧ d.isRow = true
  info : (Try.prog.info? T).map (fun i => (i.zero, i.size)) = some (some (.agg z.toArray), z.length)
theorem RT.size {T : TypeId} {z : List Value} (h : RT T z) : (Try.prog.info? T).map (·.size) = some z.length := by
  have h2 := h.info
  rcases hi : Try.prog.info? T with _ | i
  · rw [hi] at h2; cases h2
  · rw [hi] at h2
    simp only [Option.map_some, Option.some.injEq, Prod.mk.injEq] at h2
    simp [h2.2]
theorem RT.zero {T : TypeId} {z : List Value} (h : RT T z) (w : World) : (zeroValue T).run Try.prog w = .ok (.agg z.toArray) w := by
  have h2 := h.info
  rcases hi : Try.prog.info? T with _ | i
  · rw [hi] at h2; cases h2
  · rw [hi] at h2
    simp only [Option.map_some, Option.some.injEq, Prod.mk.injEq] at h2
    simp [zeroValue, typeInfo, hi, h2.1]
/-- Every cell is one cell. -/
def ones (cs : List Value) : Prop := ∀ v ∈ cs, v.oneCell' = true
section
variable {w : World} {ops : Array Oper} {rest : List Oper} {o : Oper} {a : Act} {Q : Exit → Act → World → Prop} {T T' : TypeId} {z : List Value}
theorem wpList_ldB (rt : RT T z) (hgd : o.guard = none) (x : Operand) (hop : o.op = .load T x) (g k : Nat) (hx : a.eval x = .pointer (some ⟨g, k, none⟩)) (cs vs : List Value) (hc : Blk T' w g cs) (hv : (cs.drop k).take z.length = vs) (hl : vs.length = z.length)
    (hk : wpList Try.prog ops Q rest (a.put o.dst (.agg vs.toArray)) w) : wpList Try.prog ops Q (o :: rest) a w := by
  obtain ⟨d, hu, hd⟩ := rt.row
  refine wpList_load_mid hgd _ x hop g k hx vs d (by rw [← hv]; exact hc.range k _) hu hd (by rw [hl]; exact rt.size) hk
theorem wpList_stB (rt : RT T z) (hgd : o.guard = none) (x y : Operand) (hop : o.op = .store T x y) (g k : Nat) (hx : a.eval x = .pointer (some ⟨g, k, none⟩)) (cs vs : List Value) (hy : a.eval y = .agg vs.toArray) (h1 : ones vs) (hl : vs.length = z.length) (hc : Blk T' w g cs) (hr : k + z.length ≤ cs.length)
    (hk : ∀ w', Blk T' w' g (putsL cs k vs) → Oth [g] w w' → w'.heap.size = w.heap.size → wpList Try.prog ops Q rest (a.put o.dst undef) w') : wpList Try.prog ops Q (o :: rest) a w := by
  refine wpList_store_mid hgd _ x y hop g k vs.toArray hx hy (by rw [List.size_toArray, hl]; exact hc.there _ _ hr) (by rw [List.size_toArray, hl]; exact rt.size) (all_oneCell_toArray h1) ?_
  exact hk _ (hc.puts _ _ _ _) (oth_setCells g _ _ _ _ (Oth.refl _ _)) (size_setCellsH g _ _ _)
/-- Boxed; made: the world behind it by a name of its own. -/
theorem wpList_boxB (hgd : o.guard = none) (T : TypeId) (x : Operand) (hop : o.op = .box T x) (cs : List Value) (hx : a.eval x = .agg cs.toArray)
    (hk : ∀ w' q, Blk T w' q cs → Below w.heap.size w w' → w.heap.size ≤ q → wpList Try.prog ops Q rest (a.put o.dst (.pointer (some ⟨q, 0, none⟩))) w') : wpList Try.prog ops Q (o :: rest) a w := by
  have hk := hk _ _ (Blk.new _ _ _ _ rfl) (below_alloc _ _) (Nat.le_refl _)
  refine wpList_plain hgd fun K hK => ?_
  have hr : (Instr.box T (.agg cs.toArray)).run Try.prog w = .ok (.pointer (some ⟨w.heap.size, 0, none⟩)) (w.alloc (.cells cs.toArray T)) := rfl
  unfold Oper.wp execOp
  simp only [hop, hx, Sem.run_bind, hr, Result.andThen_ok]
  exact hK _ _ hk
theorem wpList_newB (rt : RT T z) (hgd : o.guard = none) (hop : o.op = .alloc T)
    (hk : ∀ w' q, Blk T w' q z → Below w.heap.size w w' → w.heap.size ≤ q → wpList Try.prog ops Q rest (a.put o.dst (.pointer (some ⟨q, 0, none⟩))) w') : wpList Try.prog ops Q (o :: rest) a w := by
  have hk := hk _ _ (Blk.new _ _ _ _ rfl) (below_alloc _ _) (Nat.le_refl _)
  refine wpList_plain hgd fun K hK => ?_
  have hz := rt.zero w
  have hr : (Instr.alloc T true (.tuple #[])).run Try.prog w = .ok (.pointer (some ⟨w.heap.size, 0, none⟩)) (w.alloc (.cells z.toArray T)) := by
    unfold Instr.alloc
    simp only [Sem.run_bind, hz, Result.andThen_ok]
    rfl
  unfold Oper.wp execOp
  simp only [hop, Sem.run_bind, hr, Result.andThen_ok]
  exact hK _ _ hk
end
/-- A store of one cell into a record. -/
theorem wpList_stC {w : World} {ops : Array Oper} {rest : List Oper} {o : Oper} {a : Act} {Q : Exit → Act → World → Prop} {T ty : TypeId} (hty : (Try.prog.info? ty).map (·.size) = some 1) (hgd : o.guard = none) (x y : Operand) (hop : o.op = .store ty x y) (g j : Nat) (hx : a.eval x = .pointer (some ⟨g, j, none⟩)) (v : Value) (hy : a.eval y = v) (h1 : v.oneCell' = true) (cs : List Value) (hc : Blk T w g cs) (hj : j < cs.length)
    (hk : ∀ w', Blk T w' g (cs.set j v) → Oth [g] w w' → w'.heap.size = w.heap.size → wpList Try.prog ops Q rest (a.put o.dst undef) w') : wpList Try.prog ops Q (o :: rest) a w := by
  have hrun : (storeVar ty ⟨g, j, none⟩ v).run Try.prog w = .ok () (w.setCell ⟨g, j, none⟩ v) := by
    have h2 := run_storeCells_cells (P := Try.prog) g j [v] 0 w (fun i hi => by
      obtain rfl : i = 0 := by simpa using hi
      show (w.cell? ⟨g, j, none⟩).isSome = true
      rw [hc.cell, List.getElem?_eq_getElem hj]; rfl) (fun i _ => hc.free _) (fun u hu => by simp at hu; subst hu; exact h1)
    have hcs : v.cells = #[v] := by cases v <;> first | rfl | cases h1
    cases hq : Try.prog.info? ty with
    | none => simp [hq] at hty
    | some i =>
      have hs : i.size = 1 := by simpa [hq] using hty
      simp only [Nat.add_zero] at h2
      simp [storeVar, sizeOf, typeInfo, hq, hcs, hs, h2, World.setCells]
  have hk := hk _ (hc.set j v) ((Oth.refl [g] w).set (x := g) (by simp) j v) (by simp)
  refine wpList_plain hgd fun K hK => ?_
  unfold Oper.wp execOp
  simp only [hop, hx, hy, Instr.storeAt, Instr.sureAddr, Sem.run_bind, Sem.run_pure, Result.andThen_ok, hrun]
  exact hK _ _ hk
theorem ldB_m {T T' : TypeId} {z : List Value} (rt : RT T z) {w : World} {g k : Nat} {cs vs : List Value} (hc : Blk T' w g cs) (hv : (cs.drop k).take z.length = vs) (hl : vs.length = z.length) : ldHd T (.pointer (some ⟨g, k, none⟩)) w = .ok (.value (.agg vs.toArray)) w := by
  obtain ⟨d, hu, hd⟩ := rt.row
  have := run_loadAt_mid (P := Try.prog) w g k T vs d (by rw [← hv]; exact hc.range k _) hu hd (by rw [hl]; exact rt.size)
  unfold ldHd
  simp only [Sem.run_bind, this, Result.andThen_ok, Sem.run_pure]
theorem stB_m {T T' : TypeId} {z : List Value} (rt : RT T z) {w : World} {g k : Nat} {cs vs : List Value} (hc : Blk T' w g cs) (h1 : ones vs) (hl : vs.length = z.length) (hr : k + z.length ≤ cs.length) : stHd T (.pointer (some ⟨g, k, none⟩)) (.agg vs.toArray) w = .ok .skip (w.setCells g k vs) := by
  have := run_storeAt_mid (P := Try.prog) w g k T vs.toArray (by rw [List.size_toArray, hl]; exact hc.there _ _ hr) (by rw [List.size_toArray, hl]; exact rt.size) (all_oneCell_toArray h1)
  unfold stHd
  simp only [Sem.run_bind]
  rw [this]
  rfl
/-- A result that lies in a record's variable: alone; before a number. -/
theorem res_rec {fn : Func} {p : Tmp} {T : TypeId} {z : List Value} (rt : RT T z) (hr : fn.results = #[.cell p T]) (tmps : Array Value) (w : World) (b : Nat) (cs : List Value) (hp : tmps.getD p undef = .pointer (some ⟨b, 0, none⟩)) (hc : Blk T w b cs) (hl : cs.length = z.length) :
    (results fn tmps).run Try.prog w = .ok (.agg cs.toArray) w := by
  obtain ⟨d, hu, hd⟩ := rt.row
  have hrg : w.rangeAt b 0 cs := by have := hc.range 0 cs.length; simpa using this
  have hl := run_loadVar_mid (P := Try.prog) w b 0 T cs d hrg hu hd (by rw [hl]; exact rt.size)
  have hl2 : (loadVar T ⟨b, 0, none⟩).run Try.prog w = .ok (.agg cs.toArray) w := hl
  rw [Array.getD_eq_getD_getElem?] at hp
  simp only [results, hr]
  simp [hp, asAddr, hl2]
theorem res_rec2 {fn : Func} {p r : Tmp} {T : TypeId} {z : List Value} (rt : RT T z) (hr : fn.results = #[.cell p T, .tmp r]) (tmps : Array Value) (w : World) (b : Nat) (cs : List Value) (v : Value) (hp : tmps.getD p undef = .pointer (some ⟨b, 0, none⟩)) (hv : tmps.getD r undef = v) (hc : Blk T w b cs) (hl : cs.length = z.length) :
    (results fn tmps).run Try.prog w = .ok (.tuple #[.agg cs.toArray, v]) w := by
  obtain ⟨d, hu, hd⟩ := rt.row
  have hrg : w.rangeAt b 0 cs := by have := hc.range 0 cs.length; simpa using this
  have hl := run_loadVar_mid (P := Try.prog) w b 0 T cs d hrg hu hd (by rw [hl]; exact rt.size)
  have hl2 : (loadVar T ⟨b, 0, none⟩).run Try.prog w = .ok (.agg cs.toArray) w := hl
  rw [Array.getD_eq_getD_getElem?] at hp hv
  simp only [results, hr]
  simp [hp, hv, asAddr, hl2]

end Go.Proofs.Ytocbdgkehgmahaa
