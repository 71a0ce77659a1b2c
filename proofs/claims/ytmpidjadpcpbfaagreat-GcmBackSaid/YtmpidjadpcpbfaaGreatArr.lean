/- Arrays of bytes as values, and parts of blocks that hold bytes. No conditions; nothing is claimed of the program here. -/
import Derived.Test.YtmpidjadpcpbfaaGreatCells
import Derived.Test.YtmpidjadpcpbfaaGreatBytes
import Derived.Deep.MidRow
namespace Go.Proofs.YtmpidjadpcpbfaaGreat
open Go.RowKit
set_option linter.unusedVariables false

/-- An array of bytes as a value. -/
def AV (l : List UInt8) : Value := .agg (bvs l).toArray
/-- Block g holds the bytes l from its cell o on, and they may be written. -/
def Ar (w : World) (g o : Nat) (l : List UInt8) : Prop := w.rangeAt g o (bvs l) ∧ w.there g o (bvs l).length
/-- The bytes from i on, n of them. -/
def cutL (l : List UInt8) (i n : Nat) : List UInt8 := (l.drop i).take n
/-- m laid over l from i on. -/
def layL (l : List UInt8) (i : Nat) (m : List UInt8) : List UInt8 := l.take i ++ (m ++ l.drop (i + m.length))
theorem cutL_len (l : List UInt8) (i n : Nat) (h : i + n ≤ l.length) : (cutL l i n).length = n := by simp [cutL]; omega
theorem layL_len (l : List UInt8) (i : Nat) (m : List UInt8) (h : i + m.length ≤ l.length) : (layL l i m).length = l.length := by simp [layL]; omega
theorem cutL_at (l : List UInt8) (i n j : Nat) (hj : j < n) : (cutL l i n)[j]? = l[i + j]? := by
  rw [cutL, List.getElem?_take, if_pos hj, List.getElem?_drop]
theorem layL_at (l m : List UInt8) (i j : Nat) (hi : i ≤ l.length) : (layL l i m)[j]? = if i ≤ j ∧ j < i + m.length then m[j - i]? else l[j]? := by
  unfold layL
  by_cases h1 : j < i
  · rw [List.getElem?_append_left (by rw [List.length_take]; omega), List.getElem?_take, if_pos h1, if_neg (by omega)]
  · rw [List.getElem?_append_right (by rw [List.length_take]; omega), List.length_take, show min i l.length = i from Nat.min_eq_left hi]
    by_cases h2 : j < i + m.length
    · rw [List.getElem?_append_left (by omega), if_pos ⟨by omega, h2⟩]
    · rw [List.getElem?_append_right (by omega), if_neg (by omega), List.getElem?_drop]
      congr 1; omega
theorem bvs_at' (l : List UInt8) (j : Nat) : (bvs l)[j]? = l[j]?.map bv := by simp [bvs]

section
variable {w w' : World} {g o i B : Nat} {l m : List UInt8}
theorem Ar.cell {x : UInt8} (h : Ar w g o l) {j : Nat} (hx : l[j]? = some x) : w.cell? ⟨g, o + j, none⟩ = some (bv x) := h.1 j (bv x) (by rw [bvs_at', hx]; rfl)
theorem Ar.free (h : Ar w g o l) {j : Nat} (hj : j < l.length) : w.frozen? ⟨g, o + j, none⟩ = false := (h.2 j (by rw [bvs_length]; exact hj)).2
theorem Ar.mk (hc : ∀ j x, l[j]? = some x → w.cell? ⟨g, o + j, none⟩ = some (bv x)) (hf : ∀ j, j < l.length → w.frozen? ⟨g, o + j, none⟩ = false) : Ar w g o l := by
  refine ⟨fun j v hv => ?_, fun j hj => ?_⟩
  · rw [bvs_at'] at hv
    rcases hx : l[j]? with _ | x
    · rw [hx] at hv; simp at hv
    · rw [hx] at hv
      injection hv with hv
      rw [← hv]
      exact hc j x hx
  · rw [bvs_length] at hj
    exact ⟨by rw [hc j l[j] (List.getElem?_eq_getElem hj)]; rfl, hf j hj⟩
theorem Ar.lt (h : Ar w g o l) (hn : 0 < l.length) : g < w.heap.size := World.block_lt_of_cell? w _ (h.cell (List.getElem?_eq_getElem hn))
theorem Ar.same (h : Ar w g o l) (hc : ∀ k, w'.cell? ⟨g, k, none⟩ = w.cell? ⟨g, k, none⟩) (hf : ∀ k, w'.frozen? ⟨g, k, none⟩ = w.frozen? ⟨g, k, none⟩) : Ar w' g o l :=
  Ar.mk (fun j x hx => (hc _).trans (h.cell hx)) (fun j hj => (hf _).trans (h.free hj))
theorem Ar.block (h : Ar w g o l) (hb : w'.heap[g]? = w.heap[g]?) : Ar w' g o l := h.same (fun k => World.cell?_of_block hb) (fun k => World.frozen?_of_block hb)
theorem Ar.below (h : Ar w g o l) (hb : Below B w w') (hg : g < B) : Ar w' g o l := h.block (hb.block g hg)
theorem Ar.drew (h : Ar w g o l) : Ar w.drew g o l := h.same (fun k => by simp) (fun k => by simp)
theorem Ar.drewN (h : Ar w g o l) (q : Nat) : Ar (w.drewN q) g o l := h
theorem Ar.alloc (h : Ar w g o l) (hg : g < w.heap.size) (ob : Obj) : Ar (w.alloc ob) g o l := h.below ((Below.refl w.heap.size w).alloc (Nat.le_refl _) ob) hg
theorem Ar.setCell (h : Ar w g o l) {p : Addr} (hp : p.block ≠ g) (v : Value) : Ar (w.setCell p v) g o l :=
  h.block (Below.heap_setCell w p v g (fun e => hp e.symm))
theorem heap_setCells (b : Nat) (k : Nat) (hk : k ≠ b) : ∀ (vs : List Value) (o : Nat) (w : World), (w.setCells b o vs).heap[k]? = w.heap[k]?
  | [], _, _ => rfl
  | v :: r, o, w => by
    rw [World.setCells, heap_setCells b k hk r (o + 1)]
    exact Below.heap_setCell w ⟨b, o, none⟩ v k hk
theorem Ar.setCells (h : Ar w g o l) {b : Nat} (hb : b ≠ g) (o' : Nat) (vs : List Value) : Ar (w.setCells b o' vs) g o l :=
  h.block (heap_setCells b g (fun e => hb e.symm) vs o' w)
/-- A new block of bytes. -/
theorem Ar.new (w : World) (l : List UInt8) (T : TypeId) : Ar (w.alloc (.cells (bvs l).toArray T)) w.heap.size 0 l := by
  refine Ar.mk (fun j x hx => ?_) (fun j hj => ?_)
  · rw [World.cell?_alloc_at _ _ _ _ rfl, Nat.zero_add]
    simp [bvs_at', hx]
  · exact World.frozen?_alloc_at _ _ _ _ rfl
/-- A part. -/
theorem Ar.part (h : Ar w g o l) (i n : Nat) (hn : i + n ≤ l.length) : Ar w g (o + i) (cutL l i n) := by
  refine Ar.mk (fun j x hx => ?_) (fun j hj => ?_)
  · have hj : j < n := by
      have := (List.getElem?_eq_some_iff.1 hx).1
      rw [cutL_len l i n hn] at this
      exact this
    rw [cutL_at l i n j hj] at hx
    rw [Nat.add_assoc]
    exact h.cell hx
  · rw [cutL_len l i n hn] at hj
    rw [Nat.add_assoc]
    exact h.free (by omega)
/-- Bytes stored into a part. -/
theorem Ar.lay (h : Ar w g o l) (i : Nat) (m : List UInt8) (hm : i + m.length ≤ l.length) : Ar (w.setCells g (o + i) (bvs m)) g o (layL l i m) := by
  refine Ar.mk (fun j x hx => ?_) (fun j hj => ?_)
  · rw [layL_at l m i j (by omega)] at hx
    by_cases hin : i ≤ j ∧ j < i + m.length
    · rw [if_pos hin] at hx
      have := World.cell?_setCells_in g (bvs m) (o + i) w (fun q hq => by
        rw [bvs_length] at hq
        rw [Nat.add_assoc, h.cell (List.getElem?_eq_getElem (show i + q < l.length by omega))]; rfl) (j - i) (by rw [bvs_length]; omega)
      rw [show o + i + (j - i) = o + j by omega] at this
      rw [this]
      have hq : (bvs m)[j - i]? = some (bv x) := by rw [bvs_at', hx]; rfl
      rw [← hq, List.getElem?_eq_getElem]
    · rw [if_neg hin] at hx
      rw [World.cell?_setCells_out g (bvs m) (o + i) w ⟨g, o + j, none⟩ (fun _ _ => by rw [bvs_length]; show o + j < o + i ∨ o + i + m.length ≤ o + j; omega)]
      exact h.cell hx
  · rw [layL_len l i m hm] at hj
    rw [World.frozen?_setCells]
    exact h.free hj
theorem Ar.whole (h : Ar w g o l) (m : List UInt8) (hm : m.length = l.length) : Ar (w.setCells g o (bvs m)) g o m := by
  have := h.lay 0 m (by omega)
  rw [show layL l 0 m = m by simp [layL, hm]] at this
  exact this
/-- One byte stored. -/
theorem Ar.set (h : Ar w g o l) {k : Nat} (hk : k < l.length) (x : UInt8) : Ar (w.setCell ⟨g, o + k, none⟩ (bv x)) g o (l.set k x) := by
  refine Ar.mk (fun j y hy => ?_) (fun j hj => ?_)
  · rw [List.getElem?_set] at hy
    by_cases e : k = j
    · subst e
      rw [if_pos rfl, if_pos hk] at hy
      injection hy with hy
      subst hy
      exact World.cell?_setCell_same w _ _ (h.cell (List.getElem?_eq_getElem hk))
    · rw [if_neg e] at hy
      rw [World.cell?_setCell_other _ _ _ _ (fun e2 => e (by injection e2 with _ e3; omega))]
      exact h.cell hy
  · rw [List.length_set] at hj
    simp [h.free hj]
theorem Ar.join (h : Ar w g o l) (h' : Ar w g (o + l.length) m) : Ar w g o (l ++ m) := by
  refine Ar.mk (fun j y hy => ?_) (fun j hj => ?_)
  · by_cases hj : j < l.length
    · rw [List.getElem?_append_left hj] at hy; exact h.cell hy
    · rw [List.getElem?_append_right (by omega)] at hy
      have := h'.cell hy
      rw [show o + l.length + (j - l.length) = o + j by omega] at this
      exact this
  · by_cases hj2 : j < l.length
    · exact h.free hj2
    · have := h'.free (j := j - l.length) (by simp at hj; omega)
      rw [show o + l.length + (j - l.length) = o + j by omega] at this
      exact this
theorem below_setCells {a : World} (h : Below B a w) {b : Nat} (hb : B ≤ b) (o : Nat) (vs : List Value) : Below B a (w.setCells b o vs) := by
  induction vs generalizing o w with
  | nil => exact h
  | cons v r ih => rw [World.setCells]; exact ih (h.setCell (p := ⟨b, o, none⟩) hb v) (o + 1)
theorem size_setCells (w : World) (b : Nat) : ∀ (vs : List Value) (o : Nat), (w.setCells b o vs).heap.size = w.heap.size := by
  intro vs
  induction vs generalizing w with
  | nil => intro o; rfl
  | cons v r ih => intro o; rw [World.setCells, ih]; simp
theorem all_bvs (l : List UInt8) : (bvs l).toArray.all (·.oneCell') = true := all_oneCell_toArray (fun v hv => bvs_one l v hv)
/-- A slice over a block's bytes. -/
theorem Ar.rb (h : Ar w g o l) (hB : g < B) : RB w B (some ⟨g, o, none⟩) l.length l := ⟨rfl, fun _ => ⟨g, o, rfl, hB, fun i hi => h.cell (List.getElem?_eq_getElem hi)⟩⟩
end
end Go.Proofs.YtmpidjadpcpbfaaGreat
