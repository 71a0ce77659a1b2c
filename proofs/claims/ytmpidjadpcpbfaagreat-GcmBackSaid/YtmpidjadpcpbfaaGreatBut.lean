/- All blocks that were there are as they were, but one. No conditions; nothing is claimed of the program here. -/
import Derived.Test.YtmpidjadpcpbfaaGreatBytes
namespace Go.Proofs.YtmpidjadpcpbfaaGreat
open Go.RowKit
set_option linter.unusedVariables false

/-- Every block of w but b is in w' as it was; the streams are as they were; no block has gone. -/
structure But (b : Nat) (w w' : World) : Prop where
  os : w'.os = w.os
  tape : w'.tape = w.tape
  output : w'.output = w.output
  size : w.heap.size ≤ w'.heap.size
  block : ∀ k, k < w.heap.size → k ≠ b → w'.heap[k]? = w.heap[k]?

section
variable {b : Nat} {w w1 w' : World}
theorem But.refl (b : Nat) (w : World) : But b w w := ⟨rfl, rfl, rfl, Nat.le_refl _, fun _ _ _ => rfl⟩
theorem But.of_below (h : Below w.heap.size w w') : But b w w' := ⟨h.os, h.tape, h.output, h.size, fun k hk _ => h.block k hk⟩
theorem But.trans (h : But b w w1) (k : But b w1 w') : But b w w' :=
  ⟨k.os.trans h.os, k.tape.trans h.tape, k.output.trans h.output, Nat.le_trans h.size k.size, fun i hi hb => (k.block i (Nat.lt_of_lt_of_le hi h.size) hb).trans (h.block i hi hb)⟩
theorem But.drew (h : But b w w1) : But b w w1.drew := ⟨h.os, h.tape, h.output, h.size, h.block⟩
theorem But.drewN (h : But b w w1) (q : Nat) : But b w (w1.drewN q) := ⟨h.os, h.tape, h.output, h.size, h.block⟩
/-- A store into block b, or into a block that is new. -/
theorem But.setCell (h : But b w w1) {p : Addr} (hp : p.block = b ∨ w.heap.size ≤ p.block) (v : Value) : But b w (w1.setCell p v) :=
  ⟨h.os, h.tape, h.output, by simpa using h.size, fun k hk hb => (Below.heap_setCell w1 p v k (by rcases hp with hp | hp <;> omega)).trans (h.block k hk hb)⟩
theorem But.self (h : But b w w1) (o : Nat) (v : Value) : But b w (w1.setCell ⟨b, o, none⟩ v) := h.setCell (.inl rfl) v
theorem But.alloc (h : But b w w1) (o : Obj) : But b w (w1.alloc o) := h.trans (But.of_below (below_alloc w1 o))
theorem But.below (h : But b w w') {lo : Nat} (h1 : lo ≤ b) (h2 : b < w.heap.size) : Below lo w w' :=
  ⟨h.os, h.tape, h.output, h.size, fun k hk => h.block k (by omega) (by omega)⟩
theorem But.cell (h : But b w w') {p : Addr} (hp : p.block < w.heap.size) (hb : p.block ≠ b) : w'.cell? p = w.cell? p := World.cell?_of_block (w := w) (h.block p.block hp hb)
theorem But.frozen (h : But b w w') {p : Addr} (hp : p.block < w.heap.size) (hb : p.block ≠ b) : w'.frozen? p = w.frozen? p := World.frozen?_of_block (w := w) (h.block p.block hp hb)
theorem RB.but {B n : Nat} {A : Option Addr} {l : List UInt8} (h : RB w B A n l) (hb : But b w w') (hB : B ≤ w.heap.size) (hne : ∀ g o, 0 < n → A = some ⟨g, o, none⟩ → g ≠ b) : RB w' B A n l :=
  ⟨h.1, fun hn => by
    obtain ⟨g, o, e, hg, hc⟩ := h.2 hn
    exact ⟨g, o, e, hg, fun i hi => (hb.cell (p := ⟨g, o + i, none⟩) (by show g < _; omega) (hne g o hn e)).trans (hc i hi)⟩⟩
end
end Go.Proofs.YtmpidjadpcpbfaaGreat
