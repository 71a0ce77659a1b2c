/- aes's cipher as an object in memory: its tables' address, its round keys, its count. No conditions; nothing is claimed of the program here. -/
import Derived.Test.YtbpbpkmjkbndbaaAesTurn
import Derived.Test.YtbpbpkmjkbndbaaAesKeyFlat
namespace Go.Proofs.Ytbpbpkmjkbndbaa
open Go.RowKit
set_option linter.unusedVariables false

/-- A block one of whose first five cells is no byte is none of those that an object of five bytes' tables, or more, leads to. -/
theorem Tab.apartJ {w w' : World} {lo b : Nat} {l : List UInt8} {d : Bool} (h : Tab w lo b l d) (hl : 5 ≤ l.length) {g : Nat} (j : Nat) (hj : j < 5) (hg : ¬ ∃ x : UInt8, w.cell? ⟨g, j, none⟩ = some (bv x)) (hb : g ≠ b) (ho : ∀ k, k < w.heap.size → k ≠ g → w'.heap[k]? = w.heap[k]?) : Tab w' lo b l d := by
  obtain ⟨f, hlo, hc, ⟨A, n, c, e0, hn, ⟨hll, hby⟩, htm⟩, h1, h2, h4, hd⟩ := h
  have keep : ∀ q m F, 0 < m → q ≠ g → Cells w q m F → Cells w' q m F := fun q m F hm hq hcl k hk => ⟨(World.cell?_of_block (ho q (hcl.lt hm) hq)).trans (hcl k hk).1, (World.frozen?_of_block (ho q (hcl.lt hm) hq)).trans (hcl k hk).2⟩
  refine ⟨f, hlo, keep b 773 f (by omega) (fun e => hb e.symm) hc, ⟨A, n, c, e0, hn, ⟨hll, fun hn0 => ?_⟩, fun y hy => ?_⟩, h1, h2, h4, hd⟩
  · obtain ⟨q, q1, q2, q3, q4⟩ := hby hn0
    refine ⟨q, q1, q2, q3, keep q n _ hn0 (fun e => hg ⟨l.getD j 0, ?_⟩) q4⟩
    have := q4.cell (show j < n by omega)
    rw [e] at this
    exact this
  · rcases htm y hy with h | ⟨p, p1, p2, p3, p4⟩
    · exact .inl h
    · refine .inr ⟨p, p1, p2, p3, keep p 256 _ (by omega) (fun e => hg ⟨mulB (UInt8.ofNat y) (UInt8.ofNat j), ?_⟩) p4⟩
      have := p4.cell (show j < 256 by omega)
      rw [e] at this
      rw [this]
      unfold prodAt
      rw [if_pos (by omega)]
/-- A cipher at block cb: its tables' block b, its keys' bytes l, its count's value v. -/
structure Cf (cb b : Nat) (v : Value) (W : World) (l : List UInt8) : Prop where
  ptr : W.cell? ⟨cb, 0, none⟩ = some (.pointer (some ⟨b, 0, none⟩))
  ar : Ar W cb 1 l
  cnt : W.cell? ⟨cb, 177, none⟩ = some v
  free : W.frozen? ⟨cb, 177, none⟩ = false
  ne : cb ≠ b
  len : l.length = 176
section
variable {cb b lo : Nat} {v : Value} {W W' : World} {l : List UInt8}
theorem Cf.lt (h : Cf cb b v W l) : cb < W.heap.size := World.block_lt_of_cell? W _ h.ptr
theorem Cf.block (h : Cf cb b v W l) (hb : W'.heap[cb]? = W.heap[cb]?) : Cf cb b v W' l :=
  ⟨(World.cell?_of_block hb).trans h.ptr, h.ar.block hb, (World.cell?_of_block hb).trans h.cnt, (World.frozen?_of_block hb).trans h.free, h.ne, h.len⟩
theorem Cf.but (h : Cf cb b v W l) (hb : But b W W') : Cf cb b v W' l := h.block (hb.block cb h.lt h.ne)
theorem Cf.below (h : Cf cb b v W l) (hb : Below W.heap.size W W') : Cf cb b v W' l := h.block (hb.block cb h.lt)
theorem Cf.drew (h : Cf cb b v W l) : Cf cb b v W.drew l := h.block rfl
theorem Cf.lay (h : Cf cb b v W l) (i : Nat) (m : List UInt8) (hm : i + m.length ≤ 176) : Cf cb b v (W.setCells cb (1 + i) (bvs m)) (layL l i m) where
  ptr := by
    rw [World.cell?_setCells_out cb (bvs m) (1 + i) W ⟨cb, 0, none⟩ (fun _ _ => by left; show 0 < 1 + i; omega)]
    exact h.ptr
  ar := h.ar.lay i m (by rw [h.len]; exact hm)
  cnt := by
    rw [World.cell?_setCells_out cb (bvs m) (1 + i) W ⟨cb, 177, none⟩ (fun _ _ => by rw [bvs_length]; right; show 1 + i + m.length ≤ 177; omega)]
    exact h.cnt
  free := by rw [World.frozen?_setCells]; exact h.free
  ne := h.ne
  len := by rw [layL_len _ _ _ (by rw [h.len]; exact hm)]; exact h.len
theorem Cf.count (h : Cf cb b v W l) (u : Value) : Cf cb b u (W.setCell ⟨cb, 177, none⟩ u) l where
  ptr := by rw [World.cell?_setCell_other _ _ _ _ (by simp)]; exact h.ptr
  ar := Ar.mk (fun j x hx => by
      have hj := (List.getElem?_eq_some_iff.1 hx).1
      have := h.len
      rw [World.cell?_setCell_other _ _ _ _ (by intro e; injection e with _ e3; omega)]; exact h.ar.cell hx) (fun j hj => by simp [h.ar.free hj])
  cnt := World.cell?_setCell_same W _ u h.cnt
  free := by simp [h.free]
  ne := h.ne
  len := h.len
/-- The cipher's block is none of those that an object of tables leads to. -/
theorem Cf.nob (h : Cf cb b v W l) : ¬ ∃ x : UInt8, W.cell? ⟨cb, 0, none⟩ = some (bv x) := fun ⟨x, hx⟩ => by
  rw [h.ptr] at hx
  injection hx with hx
  unfold bv at hx
  injection hx
end
end Go.Proofs.Ytbpbpkmjkbndbaa
