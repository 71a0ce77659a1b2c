/- Arrays of bools as values, and parts of blocks that hold bools (as XArr has bytes). No conditions; nothing is claimed of the program here. -/
import Derived.Test.YtmpidjadpcpbfaaGreatArr
namespace Go.Proofs.YtmpidjadpcpbfaaGreat
open Go.RowKit
set_option linter.unusedVariables false

/-- A bool as a cell holds it; bools as cells. -/
def tv (b : Bool) : Value := .bool b
def tvs (l : List Bool) : List Value := l.map tv
theorem tvs_length (l : List Bool) : (tvs l).length = l.length := by simp [tvs]
theorem tvs_one (l : List Bool) : ∀ u ∈ tvs l, u.oneCell' = true := by
  intro u hu
  obtain ⟨_, _, rfl⟩ := List.mem_map.1 hu
  rfl
/-- An array of bools as a value. -/
def BV (l : List Bool) : Value := .agg (tvs l).toArray
/-- Block g holds the bytes l from its cell o on, and they may be written. -/
def Br (w : World) (g o : Nat) (l : List Bool) : Prop := w.rangeAt g o (tvs l) ∧ w.there g o (tvs l).length
/-- The bytes from i on, n of them. -/
def cutT (l : List Bool) (i n : Nat) : List Bool := (l.drop i).take n
/-- m laid over l from i on. -/
def layT (l : List Bool) (i : Nat) (m : List Bool) : List Bool := l.take i ++ (m ++ l.drop (i + m.length))
theorem cutT_len (l : List Bool) (i n : Nat) (h : i + n ≤ l.length) : (cutT l i n).length = n := by simp [cutT]; omega
theorem layT_len (l : List Bool) (i : Nat) (m : List Bool) (h : i + m.length ≤ l.length) : (layT l i m).length = l.length := by simp [layT]; omega
theorem cutT_at (l : List Bool) (i n j : Nat) (hj : j < n) : (cutT l i n)[j]? = l[i + j]? := by
  rw [cutT, List.getElem?_take, if_pos hj, List.getElem?_drop]
theorem layT_at (l m : List Bool) (i j : Nat) (hi : i ≤ l.length) : (layT l i m)[j]? = if i ≤ j ∧ j < i + m.length then m[j - i]? else l[j]? := by
  unfold layT
  by_cases h1 : j < i
  · rw [List.getElem?_append_left (by rw [List.length_take]; omega), List.getElem?_take, if_pos h1, if_neg (by omega)]
  · rw [List.getElem?_append_right (by rw [List.length_take]; omega), List.length_take, show min i l.length = i from Nat.min_eq_left hi]
    by_cases h2 : j < i + m.length
    · rw [List.getElem?_append_left (by omega), if_pos ⟨by omega, h2⟩]
    · rw [List.getElem?_append_right (by omega), if_neg (by omega), List.getElem?_drop]
      congr 1; omega
theorem tvs_at' (l : List Bool) (j : Nat) : (tvs l)[j]? = l[j]?.map tv := by simp [tvs]

section
variable {w w' : World} {g o i B : Nat} {l m : List Bool}
theorem Br.cell {x : Bool} (h : Br w g o l) {j : Nat} (hx : l[j]? = some x) : w.cell? ⟨g, o + j, none⟩ = some (tv x) := h.1 j (tv x) (by rw [tvs_at', hx]; rfl)
theorem Br.free (h : Br w g o l) {j : Nat} (hj : j < l.length) : w.frozen? ⟨g, o + j, none⟩ = false := (h.2 j (by rw [tvs_length]; exact hj)).2
theorem Br.mk (hc : ∀ j x, l[j]? = some x → w.cell? ⟨g, o + j, none⟩ = some (tv x)) (hf : ∀ j, j < l.length → w.frozen? ⟨g, o + j, none⟩ = false) : Br w g o l := by
  refine ⟨fun j v hv => ?_, fun j hj => ?_⟩
  · rw [tvs_at'] at hv
    rcases hx : l[j]? with _ | x
    · rw [hx] at hv; simp at hv
    · rw [hx] at hv
      injection hv with hv
      rw [← hv]
      exact hc j x hx
  · rw [tvs_length] at hj
    exact ⟨by rw [hc j l[j] (List.getElem?_eq_getElem hj)]; rfl, hf j hj⟩
theorem Br.lt (h : Br w g o l) (hn : 0 < l.length) : g < w.heap.size := World.block_lt_of_cell? w _ (h.cell (List.getElem?_eq_getElem hn))
theorem Br.same (h : Br w g o l) (hc : ∀ k, w'.cell? ⟨g, k, none⟩ = w.cell? ⟨g, k, none⟩) (hf : ∀ k, w'.frozen? ⟨g, k, none⟩ = w.frozen? ⟨g, k, none⟩) : Br w' g o l :=
  Br.mk (fun j x hx => (hc _).trans (h.cell hx)) (fun j hj => (hf _).trans (h.free hj))
theorem Br.block (h : Br w g o l) (hb : w'.heap[g]? = w.heap[g]?) : Br w' g o l := h.same (fun k => World.cell?_of_block hb) (fun k => World.frozen?_of_block hb)
theorem Br.below (h : Br w g o l) (hb : Below B w w') (hg : g < B) : Br w' g o l := h.block (hb.block g hg)
theorem Br.drew (h : Br w g o l) : Br w.drew g o l := h.same (fun k => by simp) (fun k => by simp)
theorem Br.drewN (h : Br w g o l) (q : Nat) : Br (w.drewN q) g o l := h
theorem Br.alloc (h : Br w g o l) (hg : g < w.heap.size) (ob : Obj) : Br (w.alloc ob) g o l := h.below ((Below.refl w.heap.size w).alloc (Nat.le_refl _) ob) hg
theorem Br.setCell (h : Br w g o l) {p : Addr} (hp : p.block ≠ g) (v : Value) : Br (w.setCell p v) g o l :=
  h.block (Below.heap_setCell w p v g (fun e => hp e.symm))
theorem Br.setCells (h : Br w g o l) {b : Nat} (hb : b ≠ g) (o' : Nat) (vs : List Value) : Br (w.setCells b o' vs) g o l :=
  h.block (heap_setCells b g (fun e => hb e.symm) vs o' w)
/-- A new block of bytes. -/
theorem Br.new (w : World) (l : List Bool) (T : TypeId) : Br (w.alloc (.cells (tvs l).toArray T)) w.heap.size 0 l := by
  refine Br.mk (fun j x hx => ?_) (fun j hj => ?_)
  · rw [World.cell?_alloc_at _ _ _ _ rfl, Nat.zero_add]
    simp [tvs_at', hx]
  · exact World.frozen?_alloc_at _ _ _ _ rfl
/-- A part. -/
theorem Br.part (h : Br w g o l) (i n : Nat) (hn : i + n ≤ l.length) : Br w g (o + i) (cutT l i n) := by
  refine Br.mk (fun j x hx => ?_) (fun j hj => ?_)
  · have hj : j < n := by
      have := (List.getElem?_eq_some_iff.1 hx).1
      rw [cutT_len l i n hn] at this
      exact this
    rw [cutT_at l i n j hj] at hx
    rw [Nat.add_assoc]
    exact h.cell hx
  · rw [cutT_len l i n hn] at hj
    rw [Nat.add_assoc]
    exact h.free (by omega)
/-- Bytes stored into a part. -/
theorem Br.lay (h : Br w g o l) (i : Nat) (m : List Bool) (hm : i + m.length ≤ l.length) : Br (w.setCells g (o + i) (tvs m)) g o (layT l i m) := by
  refine Br.mk (fun j x hx => ?_) (fun j hj => ?_)
  · rw [layT_at l m i j (by omega)] at hx
    by_cases hin : i ≤ j ∧ j < i + m.length
    · rw [if_pos hin] at hx
      have := World.cell?_setCells_in g (tvs m) (o + i) w (fun q hq => by
        rw [tvs_length] at hq
        rw [Nat.add_assoc, h.cell (List.getElem?_eq_getElem (show i + q < l.length by omega))]; rfl) (j - i) (by rw [tvs_length]; omega)
      rw [show o + i + (j - i) = o + j by omega] at this
      rw [this]
      have hq : (tvs m)[j - i]? = some (tv x) := by rw [tvs_at', hx]; rfl
      rw [← hq, List.getElem?_eq_getElem]
    · rw [if_neg hin] at hx
      rw [World.cell?_setCells_out g (tvs m) (o + i) w ⟨g, o + j, none⟩ (fun _ _ => by rw [tvs_length]; show o + j < o + i ∨ o + i + m.length ≤ o + j; omega)]
      exact h.cell hx
  · rw [layT_len l i m hm] at hj
    rw [World.frozen?_setCells]
    exact h.free hj
theorem Br.whole (h : Br w g o l) (m : List Bool) (hm : m.length = l.length) : Br (w.setCells g o (tvs m)) g o m := by
  have := h.lay 0 m (by omega)
  rw [show layT l 0 m = m by simp [layT, hm]] at this
  exact this
/-- One byte stored. -/
theorem Br.set (h : Br w g o l) {k : Nat} (hk : k < l.length) (x : Bool) : Br (w.setCell ⟨g, o + k, none⟩ (tv x)) g o (l.set k x) := by
  refine Br.mk (fun j y hy => ?_) (fun j hj => ?_)
  · rw [List.getElem?_set] at hy
    by_cases e : k = j
    · subst e
      rw [if_pos rfl, if_pos hk] at hy
      injection hy with hy
      subst hy
      exact World.cell?_setCell_same w _ _ (h.cell (List.getElem?_eq_getElem hk))
    · rw [if_neg e] at hy
      rw [World.cell?_setCell_other _ _ _ _ (fun e2 => e (by injection e2 with _ e3; omega))]
      exact h.cell hy
  · rw [List.length_set] at hj
    simp [h.free hj]
theorem Br.join (h : Br w g o l) (h' : Br w g (o + l.length) m) : Br w g o (l ++ m) := by
  refine Br.mk (fun j y hy => ?_) (fun j hj => ?_)
  · by_cases hj : j < l.length
    · rw [List.getElem?_append_left hj] at hy; exact h.cell hy
    · rw [List.getElem?_append_right (by omega)] at hy
      have := h'.cell hy
      rw [show o + l.length + (j - l.length) = o + j by omega] at this
      exact this
  · by_cases hj2 : j < l.length
    · exact h.free hj2
    · have := h'.free (j := j - l.length) (by simp at hj; omega)
      rw [show o + l.length + (j - l.length) = o + j by omega] at this
      exact this
theorem all_tvs (l : List Bool) : (tvs l).toArray.all (·.oneCell') = true := all_oneCell_toArray (fun v hv => tvs_one l v hv)
end
end Go.Proofs.YtmpidjadpcpbfaaGreat
