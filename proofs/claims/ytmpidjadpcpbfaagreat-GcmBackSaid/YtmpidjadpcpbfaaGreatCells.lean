/- A block of memory that is known cell by cell, through a function of the cell's number. No conditions; nothing is claimed of the program here. -/
import Derived.Test.YtmpidjadpcpbfaaGreatBase
import Derived.Laws.NewBlocks
namespace Go.Proofs.YtmpidjadpcpbfaaGreat
open Go.RowKit
set_option linter.unusedVariables false

/-- The first n cells of block g hold what f says, and may be written. -/
def Cells (w : World) (g n : Nat) (f : Nat → Value) : Prop := ∀ j, j < n → w.cell? ⟨g, j, none⟩ = some (f j) ∧ w.frozen? ⟨g, j, none⟩ = false
/-- f, but v at k. -/
def upd (f : Nat → Value) (k : Nat) (v : Value) : Nat → Value := fun j => if j = k then v else f j
theorem upd_same (f : Nat → Value) (k : Nat) (v : Value) : upd f k v k = v := if_pos rfl
theorem upd_other (f : Nat → Value) (k j : Nat) (v : Value) (h : j ≠ k) : upd f k v j = f j := if_neg h
section
variable {w w' : World} {g n k B : Nat} {f : Nat → Value}
theorem Cells.cell (h : Cells w g n f) (hk : k < n) : w.cell? ⟨g, k, none⟩ = some (f k) := (h k hk).1
theorem Cells.free (h : Cells w g n f) (hk : k < n) : w.frozen? ⟨g, k, none⟩ = false := (h k hk).2
theorem Cells.lt (h : Cells w g n f) (hn : 0 < n) : g < w.heap.size := by
  have h0 := h.cell hn
  unfold World.cell? at h0
  rcases hg : w.heap[g]? with _ | o
  · simp [hg] at h0
  · exact (Array.getElem?_eq_some_iff.1 hg).1
theorem Cells.set (h : Cells w g n f) (hk : k < n) (v : Value) : Cells (w.setCell ⟨g, k, none⟩ v) g n (upd f k v) := by
  intro j hj
  refine ⟨?_, by simp [h.free hj]⟩
  by_cases e : j = k
  · subst e
    rw [upd_same]
    exact World.cell?_setCell_same w _ v (h.cell hj)
  · rw [upd_other _ _ _ _ e]
    refine (World.cell?_setCell_other w ⟨g, k, none⟩ ⟨g, j, none⟩ v ?_).trans (h.cell hj)
    intro h2
    injection h2 with _ h3
    exact e h3.symm
theorem Cells.other (h : Cells w g n f) {a : Addr} (ha : a.block ≠ g) (v : Value) : Cells (w.setCell a v) g n f := by
  intro j hj
  refine ⟨(World.cell?_setCell_other w a ⟨g, j, none⟩ v ?_).trans (h.cell hj), by simp [h.free hj]⟩
  intro h2
  subst h2
  exact ha rfl
theorem Cells.drew (h : Cells w g n f) : Cells w.drew g n f := fun j hj => ⟨by simpa using h.cell hj, by simpa using h.free hj⟩
theorem Cells.drewN (h : Cells w g n f) (q : Nat) : Cells (w.drewN q) g n f := h
theorem Cells.below (h : Cells w g n f) (hb : Below B w w') (hg : g < B) : Cells w' g n f := fun j hj =>
  ⟨(hb.cell (p := ⟨g, j, none⟩) hg).trans (h.cell hj), (hb.frozen (p := ⟨g, j, none⟩) hg).trans (h.free hj)⟩
theorem Cells.alloc (h : Cells w g n f) (hn : 0 < n) (o : Obj) : Cells (w.alloc o) g n f := fun j hj => by
  have hl := h.lt hn
  exact ⟨(World.cell?_alloc_past _ _ _ hl).trans (h.cell hj), (World.frozen?_alloc_past _ _ _ hl).trans (h.free hj)⟩
theorem Cells.congr {f' : Nat → Value} (h : Cells w g n f) (e : ∀ j, j < n → f j = f' j) : Cells w g n f' := fun j hj => by rw [← e j hj]; exact h j hj
theorem Cells.new (w : World) (cs : Array Value) (e : TypeId) (n : Nat) (hn : cs.size = n) (f : Nat → Value) (hf : ∀ j, j < n → cs[j]? = some (f j)) (g : Nat) (hg : g = w.heap.size) : Cells (w.alloc (.cells cs e)) g n f := by
  subst hg
  intro j hj
  refine ⟨?_, ?_⟩
  · have := cell_of_row (w.alloc (.cells cs e)) w.heap.size j _ e (0, 0) (heap_alloc_new w _)
    rw [this]
    exact hf j hj
  · have hh : (w.alloc (.cells cs e)).heap[w.heap.size]? = some (.cells cs e (0, 0)) := heap_alloc_new w _
    unfold World.frozen?
    rw [hh]
    simp
end
end Go.Proofs.YtmpidjadpcpbfaaGreat
