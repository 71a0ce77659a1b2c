/- Elements in blocks: whole loads and stores (layer 4). No conditions. -/
import Derived.Test.YtilpdojliaiokaaPolyFn
namespace Go.Proofs.Ytilpdojliaiokaa
open Go.RowKit
set_option linter.unusedVariables false

/-- Two words as cells; block g holds them, and they may be written. -/
def es (h l : Nat) : List Value := [.int .u64 (h : Int), .int .u64 (l : Int)]
def Ew (w : World) (g h l : Nat) : Prop := w.rangeAt g 0 (es h l) ∧ w.there g 0 2
theorem es_all (h l : Nat) : (es h l).toArray.all (·.oneCell') = true := all_oneCell_toArray (fun v hv => by
  simp only [es, List.mem_cons, List.not_mem_nil, or_false] at hv
  rcases hv with rfl | rfl <;> rfl)
section
variable {w w' : World} {g h l B : Nat}
theorem Ew.at0 (e : Ew w g h l) : w.cell? ⟨g, 0, none⟩ = some (.int .u64 (h : Int)) := e.1 0 _ rfl
theorem Ew.at1 (e : Ew w g h l) : w.cell? ⟨g, 1, none⟩ = some (.int .u64 (l : Int)) := e.1 1 _ rfl
theorem Ew.free0 (e : Ew w g h l) : w.frozen? ⟨g, 0, none⟩ = false := (e.2 0 (by omega)).2
theorem Ew.free1 (e : Ew w g h l) : w.frozen? ⟨g, 1, none⟩ = false := (e.2 1 (by omega)).2
theorem Ew.mk (c0 : w.cell? ⟨g, 0, none⟩ = some (.int .u64 (h : Int))) (c1 : w.cell? ⟨g, 1, none⟩ = some (.int .u64 (l : Int))) (f0 : w.frozen? ⟨g, 0, none⟩ = false) (f1 : w.frozen? ⟨g, 1, none⟩ = false) : Ew w g h l := by
  refine ⟨fun j v hv => ?_, fun j hj => ?_⟩
  · match j, hv with
    | 0, hv => injection hv with hv; rw [← hv]; exact c0
    | 1, hv => injection hv with hv; rw [← hv]; exact c1
    | j + 2, hv => simp [es] at hv
  · match j, hj with
    | 0, _ => exact ⟨by rw [c0]; rfl, f0⟩
    | 1, _ => exact ⟨by rw [c1]; rfl, f1⟩
    | j + 2, hj => omega
theorem Ew.lt (e : Ew w g h l) : g < w.heap.size := World.block_lt_of_cell? w _ e.at0
theorem Ew.block (e : Ew w g h l) (hb : w'.heap[g]? = w.heap[g]?) : Ew w' g h l :=
  Ew.mk ((World.cell?_of_block hb).trans e.at0) ((World.cell?_of_block hb).trans e.at1) ((World.frozen?_of_block hb).trans e.free0) ((World.frozen?_of_block hb).trans e.free1)
theorem Ew.below (e : Ew w g h l) (hb : Below B w w') (hg : g < B) : Ew w' g h l := e.block (hb.block g hg)
theorem Ew.alloc (e : Ew w g h l) (ob : Obj) : Ew (w.alloc ob) g h l := e.below ((Below.refl w.heap.size w).alloc (Nat.le_refl _) ob) e.lt
theorem Ew.setCells (e : Ew w g h l) {b : Nat} (hb : b ≠ g) (o : Nat) (vs : List Value) : Ew (w.setCells b o vs) g h l := e.block (heap_setCells b g (fun x => hb x.symm) vs o w)
theorem Ew.setCell (e : Ew w g h l) {p : Addr} (hp : p.block ≠ g) (v : Value) : Ew (w.setCell p v) g h l := e.block (Below.heap_setCell w p v g (fun x => hp x.symm))
theorem Ew.whole (e : Ew w g h l) (h' l' : Nat) : Ew (w.setCells g 0 (es h' l')) g h' l' := by
  have hin : ∀ q, q < (es h' l').length → (w.cell? ⟨g, 0 + q, none⟩).isSome = true := fun q hq => (e.2 q hq).1
  have h0 := World.cell?_setCells_in g (es h' l') 0 w hin 0 (by simp [es])
  have h1 := World.cell?_setCells_in g (es h' l') 0 w hin 1 (by simp [es])
  exact Ew.mk h0 h1 ((World.frozen?_setCells _ _ _ _ _).trans e.free0) ((World.frozen?_setCells _ _ _ _ _).trans e.free1)
theorem Ew.new (w : World) (h l n : Nat) (hn : n = w.heap.size) : Ew (w.alloc (.cells (es h l).toArray 36)) n h l := by
  subst hn
  refine Ew.mk ?_ ?_ (World.frozen?_alloc_at _ _ _ _ rfl) (World.frozen?_alloc_at _ _ _ _ rfl)
  · rw [World.cell?_alloc_at _ _ _ _ rfl]; rfl
  · rw [World.cell?_alloc_at _ _ _ _ rfl]; rfl
end
section
variable {w : World} {ops : Array Oper} {rest : List Oper} {o : Oper} {a : Act} {Q : Exit → Act → World → Prop}
theorem wpList_ldE (hgd : o.guard = none) (x : Operand) (hop : o.op = .load 36 x) (g : Nat) (hx : a.eval x = .pointer (some ⟨g, 0, none⟩)) (h l : Nat) (hc : Ew w g h l)
    (hk : wpList Try.prog ops Q rest (a.put o.dst (EV h l)) w) : wpList Try.prog ops Q (o :: rest) a w := by
  obtain ⟨d, hu, hd⟩ := row_elem
  exact wpList_load_mid hgd _ x hop g 0 hx (es h l) d hc.1 hu hd sz_elem hk
theorem wpList_stE (hgd : o.guard = none) (x y : Operand) (hop : o.op = .store 36 x y) (g : Nat) (hx : a.eval x = .pointer (some ⟨g, 0, none⟩)) (h l h0 l0 : Nat) (hy : a.eval y = EV h l) (hc : Ew w g h0 l0)
    (hk : wpList Try.prog ops Q rest (a.put o.dst undef) (w.setCells g 0 (es h l))) : wpList Try.prog ops Q (o :: rest) a w :=
  wpList_store_mid hgd _ x y hop g 0 (es h l).toArray hx hy hc.2 sz_elem (es_all h l) (by simpa using hk)
end
theorem res_ew {fn : Func} {p : Tmp} (hr : fn.results = #[.cell p 36]) (tmps : Array Value) (w : World) (b H L : Nat) (ht : tmps.getD p undef = .pointer (some ⟨b, 0, none⟩)) (hc : Ew w b H L) :
    (results fn tmps).run Try.prog w = .ok (EV H L) w := res_cellE hr tmps w b H L ht hc.1
end Go.Proofs.Ytilpdojliaiokaa
