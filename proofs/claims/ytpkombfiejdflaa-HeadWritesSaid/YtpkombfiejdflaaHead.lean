/- Headers in memory (layer 10), and what is parsed and written, in plain words. Nothing is claimed of the program here. -/
import Derived.Test.YtpkombfiejdflaaScanB
import Derived.Test.YtpkombfiejdflaaScanX
import Derived.Test.YtpkombfiejdflaaUseBytes
import Derived.Deep.MidRow
import Derived.Deep.RegionHeld3
namespace Go.Proofs.Ytpkombfiejdflaa
open Go.RowKit
set_option linter.unusedVariables false
set_option linter.unusedSimpArgs false

/-! Plain. -/
/-- A header's first byte, version, ids. -/
abbrev Pl := UInt8 × Nat × List UInt8 × List UInt8
def zeroP : Pl := (0, 0, [], [])
/-- An id behind its count. -/
def idL : List UInt8 → Option (List UInt8 × List UInt8)
  | [] => none
  | n :: t => if t.length < n.toNat then none else some (t.take n.toNat, t.drop n.toNat)
/-- The ids behind the version. -/
def prs2 (f : UInt8) (v : Nat) (l : List UInt8) : Pl × List UInt8 × Int :=
  match idL l with
  | none => (zeroP, [], 12)
  | some (a, r) => match idL r with
    | none => (zeroP, [], 12)
    | some (b, q) => ((f, v, a, b), q, 0)
/-- Parse. -/
def prs (l : List UInt8) : Pl × List UInt8 × Int :=
  match l with
  | [] => (zeroP, [], 12)
  | f :: t => if f.toNat < 128 then (zeroP, [], 14) else if t.length < 4 then (zeroP, [], 12) else prs2 f (numL (t.take 4)) (t.drop 4)
/-- A header's bytes. -/
def rawP (p : Pl) : List UInt8 := p.1 :: (putL p.2.1 4 ++ (UInt8.ofNat p.2.2.1.length :: p.2.2.1) ++ (UInt8.ofNat p.2.2.2.length :: p.2.2.2))
/-- Bytes. -/
def byt (p : Pl) : List UInt8 × Int := if p.1.toNat < 128 then ([], 14) else if 255 < p.2.2.1.length ∨ 255 < p.2.2.2.length then ([], 15) else (rawP p, 0)
/-- Id. -/
def idN (l : List UInt8) (n : Int) : List UInt8 × Int := if n < 0 ∨ 255 < n then ([], 11) else if l.length < n.toNat + 1 then ([], 12) else ((l.drop 1).take n.toNat, 0)
/-- Long. -/
def longL (l : List UInt8) : Bool := match l with | [] => false | f :: _ => decide (128 ≤ f.toNat)

/-! In memory. -/
/-- A header, and where its ids lie. -/
structure Hd where
  f : UInt8
  v : Nat
  A : Option Addr
  c : Nat
  a : List UInt8
  B : Option Addr
  d : Nat
  b : List UInt8
def Hd.pl (h : Hd) : Pl := (h.f, h.v, h.a, h.b)
def Hd.cells (h : Hd) : List Value := [.int .u8 (h.f.toNat : Int), .int .u32 (h.v : Int), .slice h.A h.a.length h.c, .slice h.B h.b.length h.d]
def Hd.val (h : Hd) : Value := .agg h.cells.toArray
def zeroH : Hd := ⟨0, 0, none, 0, [], none, 0, []⟩
theorem zeroH_pl : zeroH.pl = zeroP := rfl
/-- Its ids can be read. -/
structure Hd.ok (w : World) (h : Hd) : Prop where
  a : RB w w.heap.size h.A h.a.length h.a
  b : RB w w.heap.size h.B h.b.length h.b
  ca : h.a.length ≤ h.c ∧ h.c ≤ maxLen
  cb : h.b.length ≤ h.d ∧ h.d ≤ maxLen
  v32 : h.v ≤ 4294967295
/-- Its ids are a call's own. -/
structure Hd.own (w : World) (base : Nat) (h : Hd) : Prop where
  a : OwnB w base h.A h.a.length h.c h.a
  b : OwnB w base h.B h.b.length h.d h.b
  v32 : h.v ≤ 4294967295
/-- Block x is the header h, of type T. -/
def Hc (T : TypeId) (w : World) (x : Nat) (h : Hd) : Prop := w.heap[x]? = some (.cells h.cells.toArray T (0, 0))
section
variable {T : TypeId} {w w1 w' : World} {x n c base base' : Nat} {h g : Hd} {A : Option Addr} {l : List UInt8} {S : List Nat}
theorem Hd.own.ok (k : h.own w base) : h.ok w := ⟨k.a.rb, k.b.rb, k.a.cap, k.b.cap, k.v32⟩
theorem Hd.ok.step (k : h.ok w) (hb : Below w.heap.size w w') : h.ok w' := ⟨k.a.step hb, k.b.step hb, k.ca, k.cb, k.v32⟩
theorem Hd.own.step (k : h.own w base) (hb : Below w.heap.size w w') : h.own w' base := ⟨k.a.below hb, k.b.below hb, k.v32⟩
theorem Hd.own.base_le (k : h.own w base) (hb : base' ≤ base) : h.own w base' := ⟨k.a.base_le hb, k.b.base_le hb, k.v32⟩
theorem Hd.own.zero (w : World) (base : Nat) : zeroH.own w base := ⟨OwnB.nil_ _ _, OwnB.nil_ _ _, by decide⟩
theorem Hc.cell (k : Hc T w x h) (j : Nat) : w.cell? ⟨x, j, none⟩ = h.cells.toArray[j]? := by rw [cell_of_row w x j _ T (0, 0) k]
theorem Hc.c0 (k : Hc T w x h) : w.cell? ⟨x, 0, none⟩ = some (.int .u8 (h.f.toNat : Int)) := k.cell 0
theorem Hc.c1 (k : Hc T w x h) : w.cell? ⟨x, 1, none⟩ = some (.int .u32 (h.v : Int)) := k.cell 1
theorem Hc.c2 (k : Hc T w x h) : w.cell? ⟨x, 2, none⟩ = some (.slice h.A h.a.length h.c) := k.cell 2
theorem Hc.c3 (k : Hc T w x h) : w.cell? ⟨x, 3, none⟩ = some (.slice h.B h.b.length h.d) := k.cell 3
theorem Hc.free (k : Hc T w x h) (j : Nat) : w.frozen? ⟨x, j, none⟩ = false := frozen_of_row w x j _ T k
theorem Hc.lt (k : Hc T w x h) : x < w.heap.size := (Array.getElem?_eq_some_iff.1 k).1
theorem Hc.oth (k : Hc T w x h) (ho : Oth S w w') (hx : x ∉ S) : Hc T w' x h := (ho.block x k.lt hx).trans k
theorem Hc.step (k : Hc T w x h) (hb : Below w.heap.size w w') : Hc T w' x h := (hb.block x k.lt).trans k
theorem Hc.new (w : World) (T : TypeId) (h : Hd) (x : Nat) (hx : x = w.heap.size) : Hc T (w.alloc (.cells h.cells.toArray T)) x h := by subst hx; exact heap_alloc_new w _
theorem Hc.set0 (k : Hc T w x h) (f : UInt8) : Hc T (w.setCell ⟨x, 0, none⟩ (.int .u8 (f.toNat : Int))) x { h with f := f } := heap_setCell_same w x 0 _ T _ k
theorem Hc.set1 (k : Hc T w x h) (v : Nat) : Hc T (w.setCell ⟨x, 1, none⟩ (.int .u32 (v : Int))) x { h with v := v } := heap_setCell_same w x 1 _ T _ k
theorem Hc.set2 (k : Hc T w x h) (A : Option Addr) (c : Nat) (a : List UInt8) : Hc T (w.setCell ⟨x, 2, none⟩ (.slice A a.length c)) x { h with A := A, c := c, a := a } := heap_setCell_same w x 2 _ T _ k
theorem Hc.set3 (k : Hc T w x h) (A : Option Addr) (c : Nat) (a : List UInt8) : Hc T (w.setCell ⟨x, 3, none⟩ (.slice A a.length c)) x { h with B := A, d := c, b := a } := heap_setCell_same w x 3 _ T _ k
theorem Hc.range (k : Hc T w x h) : w.rangeAt x 0 h.cells := fun j v hv => by
  rw [Nat.zero_add, k.cell j]
  simpa using hv
theorem Hc.there (k : Hc T w x h) : w.there x 0 4 := fun j hj => by
  refine ⟨?_, k.free _⟩
  rw [Nat.zero_add, k.cell j]
  rw [List.getElem?_toArray, List.getElem?_eq_getElem (by simpa [Hd.cells] using hj)]
  rfl
/-- Bytes of a call's own lie in no header. -/
theorem Hc.nob (k : Hc T w x h) (hT : T ≠ 5) : NoB [x] w := fun j hj cs fr e => by
  rw [List.mem_singleton.1 hj, show w.heap[x]? = _ from k] at e
  injection e with e
  injection e with _ e
  exact hT e
theorem NoB.own (k : NoB S w) (r : OwnB w base A n c l) : ∀ g o, A = some ⟨g, o, none⟩ → g ∉ S := by
  intro g o e hg
  rcases r.2 with ⟨h0, _⟩ | ⟨g', cap, cur, hv, _, hh, _⟩
  · rw [e] at h0; cases h0
  · rw [e] at hv
    injection hv with hv
    injection hv with hv
    injection hv with e1
    subst e1
    exact k g hg _ _ hh
theorem OwnB.off (r : OwnB w base A n c l) (ho : Oth S w w') (k : NoB S w) : OwnB w' base A n c l := r.oth ho (k.own r)
theorem Hd.own.off (k : h.own w base) (ho : Oth S w w') (hS : NoB S w) : h.own w' base := ⟨k.a.off ho hS, k.b.off ho hS, k.v32⟩
theorem Hc.ne (k : Hc T w x h) {T' : TypeId} {y : Nat} {a b : Value} (t : Two T' w y a b) (hT : T ≠ T') : x ≠ y := fun e => by
  subst e
  have e := (show w.heap[x]? = _ from k).symm.trans t
  injection e with e
  injection e with _ e
  exact hT e
end
theorem size_setCells (g : Nat) : ∀ (vs : List Value) (o : Nat) (w : World), (w.setCells g o vs).heap.size = w.heap.size := by
  intro vs
  induction vs with
  | nil => intro o w; rfl
  | cons v r ih => intro o w; rw [World.setCells, ih]; simp
theorem oth_setCells (g : Nat) : ∀ (vs : List Value) (o : Nat) (w0 w : World), Oth [g] w0 w → Oth [g] w0 (w.setCells g o vs) := by
  intro vs
  induction vs with
  | nil => intro o w0 w h; exact h
  | cons v r ih => intro o w0 w h; rw [World.setCells]; exact ih _ _ _ (h.set (x := g) (by simp) o v)
theorem Hc.whole {T : TypeId} {w : World} {x : Nat} {h : Hd} (k : Hc T w x h) (g : Hd) : Hc T (w.setCells x 0 g.cells) x g := by
  have k0 := k.set0 g.f
  have k1 := k0.set1 g.v
  have k2 := k1.set2 g.A g.c g.a
  exact k2.set3 g.B g.d g.b

/-! Loads and stores. -/
/-- The types of headers: the code's and the reference's. -/
def HT (T : TypeId) : Prop := (∃ d, Try.prog.underlying T = some d ∧ d.isRow = true) ∧ (Try.prog.info? T).map (fun i => (i.zero, i.size, i.bytes)) = some (some zeroH.val, 4, 56)
theorem row_of {T : TypeId} (h : (Try.prog.underlying T).map (·.isRow) = some true) : ∃ d, Try.prog.underlying T = some d ∧ d.isRow = true := by
  rcases hu : Try.prog.underlying T with _ | d
  · rw [hu] at h; cases h
  · rw [hu] at h; injection h with h; exact ⟨d, rfl, h⟩
theorem ht_head : HT 27 := ⟨row_of (by kernel_rfl), by kernel_rfl⟩
theorem ht_ref : HT 31 := ⟨row_of (by kernel_rfl), by kernel_rfl⟩
theorem HT.size {T : TypeId} (h : HT T) : (Try.prog.info? T).map (·.size) = some 4 := by
  obtain ⟨i, hi, _, h2, _⟩ := info_parts h.2
  rw [hi]; simp [h2]
theorem HT.zero {T : TypeId} (h : HT T) (w : World) : (zeroValue T).run Try.prog w = .ok zeroH.val w := by
  obtain ⟨i, hi, hz, _⟩ := info_parts h.2
  simp [zeroValue, typeInfo, hi, hz]
theorem hd_all (h : Hd) : h.cells.toArray.all (·.oneCell') = true := all_oneCell_toArray (fun v hv => by
  simp only [Hd.cells, List.mem_cons, List.not_mem_nil, or_false] at hv
  rcases hv with rfl | rfl | rfl | rfl <;> rfl)
section
variable {w : World} {ops : Array Oper} {rest : List Oper} {o : Oper} {a : Act} {Q : Exit → Act → World → Prop} {T : TypeId}
theorem wpList_ldH (ht : HT T) (hgd : o.guard = none) (x : Operand) (hop : o.op = .load T x) (g : Nat) (hx : a.eval x = .pointer (some ⟨g, 0, none⟩)) (h : Hd) (hc : Hc T w g h)
    (hk : wpList Try.prog ops Q rest (a.put o.dst h.val) w) : wpList Try.prog ops Q (o :: rest) a w := by
  obtain ⟨d, hu, hd⟩ := ht.1
  exact wpList_load_mid hgd _ x hop g 0 hx _ d hc.range hu hd ht.size hk
theorem wpList_stH (ht : HT T) (hgd : o.guard = none) (x y : Operand) (hop : o.op = .store T x y) (g : Nat) (hx : a.eval x = .pointer (some ⟨g, 0, none⟩)) (h h0 : Hd) (hy : a.eval y = h.val) (hc : Hc T w g h0)
    (hk : ∀ w', Hc T w' g h → Oth [g] w w' → w'.heap.size = w.heap.size → wpList Try.prog ops Q rest (a.put o.dst undef) w') : wpList Try.prog ops Q (o :: rest) a w := by
  refine wpList_store_mid hgd _ x y hop g 0 h.cells.toArray hx hy hc.there ht.size (hd_all h) ?_
  exact hk _ (hc.whole h) (oth_setCells g _ _ _ _ (Oth.refl _ _)) (size_setCells g _ _ _)
theorem wpList_boxH (hgd : o.guard = none) (T : TypeId) (x : Operand) (hop : o.op = .box T x) (h : Hd) (hx : a.eval x = h.val)
    (hk : wpList Try.prog ops Q rest (a.put o.dst (.pointer (some ⟨w.heap.size, 0, none⟩))) (w.alloc (.cells h.cells.toArray T))) : wpList Try.prog ops Q (o :: rest) a w := by
  refine wpList_plain hgd fun K hK => ?_
  have hr : (Instr.box T h.val).run Try.prog w = .ok (.pointer (some ⟨w.heap.size, 0, none⟩)) (w.alloc (.cells h.cells.toArray T)) := rfl
  unfold Oper.wp execOp
  simp only [hop, hx, Sem.run_bind, hr, Result.andThen_ok]
  exact hK _ _ hk
theorem wpList_allocH (ht : HT T) (hgd : o.guard = none) (hop : o.op = .alloc T)
    (hk : wpList Try.prog ops Q rest (a.put o.dst (.pointer (some ⟨w.heap.size, 0, none⟩))) (w.alloc (.cells zeroH.cells.toArray T))) : wpList Try.prog ops Q (o :: rest) a w := by
  refine wpList_plain hgd fun K hK => ?_
  have hz := ht.zero w
  have hr : (Instr.alloc T true (.tuple #[])).run Try.prog w = .ok (.pointer (some ⟨w.heap.size, 0, none⟩)) (w.alloc (.cells zeroH.cells.toArray T)) := by
    unfold Instr.alloc
    simp only [Sem.run_bind, hz, Result.andThen_ok]
    rfl
  unfold Oper.wp execOp
  simp only [hop, Sem.run_bind, hr, Result.andThen_ok]
  exact hK _ _ hk
end
/-- Boxed; made: the world behind it by a name of its own. -/
theorem wpList_boxN {w : World} {ops : Array Oper} {rest : List Oper} {o : Oper} {a : Act} {Q : Exit → Act → World → Prop} (hgd : o.guard = none) (T : TypeId) (x : Operand) (hop : o.op = .box T x) (h : Hd) (hx : a.eval x = h.val)
    (hk : ∀ w' q, Hc T w' q h → Below w.heap.size w w' → w.heap.size ≤ q → wpList Try.prog ops Q rest (a.put o.dst (.pointer (some ⟨q, 0, none⟩))) w') : wpList Try.prog ops Q (o :: rest) a w :=
  wpList_boxH hgd T x hop h hx (hk _ _ (Hc.new _ _ _ _ rfl) (below_alloc _ _) (Nat.le_refl _))
theorem wpList_allocN {w : World} {ops : Array Oper} {rest : List Oper} {o : Oper} {a : Act} {Q : Exit → Act → World → Prop} {T : TypeId} (ht : HT T) (hgd : o.guard = none) (hop : o.op = .alloc T)
    (hk : ∀ w' q, Hc T w' q zeroH → Below w.heap.size w w' → w.heap.size ≤ q → wpList Try.prog ops Q rest (a.put o.dst (.pointer (some ⟨q, 0, none⟩))) w') : wpList Try.prog ops Q (o :: rest) a w :=
  wpList_allocH ht hgd hop (hk _ _ (Hc.new _ _ _ _ rfl) (below_alloc _ _) (Nat.le_refl _))
/-- A load of a whole header, as a word of its own (for regions that draw their order). -/
noncomputable def ldHd (T : TypeId) (v : Value) (w : World) : Result Next := Sem.run Try.prog (do let r ← Instr.loadAt T v; pure (Next.value r)) w
theorem ex_ldHd (ev : Operand → Value) (x : Operand) (d : Option Tmp) (ty : TypeId) (ps : String) (af : Array Edge) (g : Option (Nat × Bool)) (w : World) : (execOp ev ⟨d, .load 27 x, ty, ps, af, g⟩).run Try.prog w = ldHd 27 (ev x) w := rfl
theorem ex_ldHr (ev : Operand → Value) (x : Operand) (d : Option Tmp) (ty : TypeId) (ps : String) (af : Array Edge) (g : Option (Nat × Bool)) (w : World) : (execOp ev ⟨d, .load 31 x, ty, ps, af, g⟩).run Try.prog w = ldHd 31 (ev x) w := rfl
theorem ldHd_m {T : TypeId} (ht : HT T) {w : World} {g : Nat} {h : Hd} (hc : Hc T w g h) : ldHd T (.pointer (some ⟨g, 0, none⟩)) w = .ok (.value h.val) w := by
  obtain ⟨d, hu, hd⟩ := ht.1
  have := run_loadAt_mid (P := Try.prog) w g 0 T h.cells d hc.range hu hd ht.size
  unfold ldHd
  simp only [Sem.run_bind, this, Result.andThen_ok, Sem.run_pure]
  rfl
noncomputable def stHd (T : TypeId) (v x : Value) (w : World) : Result Next := Sem.run Try.prog (do Instr.storeAt T v x; pure Next.skip) w
theorem ex_stHd (ev : Operand → Value) (x y : Operand) (d : Option Tmp) (ty : TypeId) (ps : String) (af : Array Edge) (g : Option (Nat × Bool)) (w : World) : (execOp ev ⟨d, .store 27 x y, ty, ps, af, g⟩).run Try.prog w = stHd 27 (ev x) (ev y) w := rfl
theorem ex_stHr (ev : Operand → Value) (x y : Operand) (d : Option Tmp) (ty : TypeId) (ps : String) (af : Array Edge) (g : Option (Nat × Bool)) (w : World) : (execOp ev ⟨d, .store 31 x y, ty, ps, af, g⟩).run Try.prog w = stHd 31 (ev x) (ev y) w := rfl
theorem stHd_m {T : TypeId} (ht : HT T) {w : World} {g : Nat} {h0 : Hd} (hc : Hc T w g h0) (h : Hd) : stHd T (.pointer (some ⟨g, 0, none⟩)) h.val w = .ok .skip (w.setCells g 0 h.cells) := by
  have := run_storeAt_mid (P := Try.prog) w g 0 T h.cells.toArray hc.there ht.size (hd_all h)
  unfold stHd Hd.val
  simp only [Sem.run_bind]
  rw [this]
  rfl
/-- A result that lies in a variable of a header: alone; before bytes and a number. -/
theorem res_hd {fn : Func} {p : Tmp} {T : TypeId} (ht : HT T) (hr : fn.results = #[.cell p T]) (tmps : Array Value) (w : World) (b : Nat) (h : Hd) (hp : tmps.getD p undef = .pointer (some ⟨b, 0, none⟩)) (hc : Hc T w b h) :
    (results fn tmps).run Try.prog w = .ok h.val w := by
  obtain ⟨d, hu, hd⟩ := ht.1
  have hl := run_loadVar_mid (P := Try.prog) w b 0 T h.cells d hc.range hu hd ht.size
  have hl2 : (loadVar T ⟨b, 0, none⟩).run Try.prog w = .ok h.val w := hl
  rw [Array.getD_eq_getD_getElem?] at hp
  simp only [results, hr]
  simp [hp, asAddr, hl2]
theorem res_hd3 {fn : Func} {p q r : Tmp} {T : TypeId} (ht : HT T) (hr : fn.results = #[.cell p T, .tmp q, .tmp r]) (tmps : Array Value) (w : World) (b : Nat) (h : Hd) (u v : Value) (hp : tmps.getD p undef = .pointer (some ⟨b, 0, none⟩)) (hq : tmps.getD q undef = u) (hv : tmps.getD r undef = v) (hc : Hc T w b h) :
    (results fn tmps).run Try.prog w = .ok (.tuple #[h.val, u, v]) w := by
  obtain ⟨d, hu, hd⟩ := ht.1
  have hl := run_loadVar_mid (P := Try.prog) w b 0 T h.cells d hc.range hu hd ht.size
  have hl2 : (loadVar T ⟨b, 0, none⟩).run Try.prog w = .ok h.val w := hl
  rw [Array.getD_eq_getD_getElem?] at hp hq hv
  simp only [results, hr]
  simp [hp, hq, hv, asAddr, hl2]
/-- A call that gives a header, bytes, and an error's number: all new. -/
def RetHd (r : Pl × List UInt8 × Int) (w : World) (e : Ending) (w' : World) : Prop :=
  ∃ (h : Hd) (A : Option Addr) (n c : Nat), e = .returned (.tuple #[h.val, .slice A n c, .int .i64 r.2.2]) ∧ h.pl = r.1 ∧ h.own w' w.heap.size ∧ OwnB w' w.heap.size A n c r.2.1 ∧ Below w.heap.size w w'
end Go.Proofs.Ytpkombfiejdflaa
