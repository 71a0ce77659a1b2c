/- Layer 16: what a walk of a statement carries: rows of bytes, configurations in variables. No condition; nothing is claimed of the program here. -/
import Derived.Test.YtkcchidklcnnnaaGreatMdL
import Derived.Test.YtkcchidklcnnnaaGreatHvV
namespace Go.Proofs.YtkcchidklcnnnaaGreat
open Go.RowKit
set_option linter.unusedVariables false
set_option linter.unusedSimpArgs false
structure MK (v : World) (rows : List (Option Addr × Nat × Nat × List UInt8)) (cs : List (TypeId × Nat × Cfg)) (w : World) : Prop where
  hw : HW v rows w
  cf : ∀ r ∈ cs, Blk r.1 w r.2.1 r.2.2.cells ∧ r.2.2.ok
section
variable {v w w1 w' : World} {rows : List (Option Addr × Nat × Nat × List UInt8)} {cs : List (TypeId × Nat × Cfg)} {A : Option Addr} {n c q : Nat} {l : List UInt8} {T : TypeId} {g : Cfg}
theorem MK.start (w : World) : MK w [] [] w := ⟨HW.start w, fun r hr => by cases hr⟩
theorem MK.step (k : MK v rows cs w) (hb : Below w.heap.size w w') : MK v rows cs w' := ⟨k.hw.step hb, fun r hr => ⟨(k.cf r hr).1.step hb, (k.cf r hr).2⟩⟩
theorem MK.add (k : MK v rows cs w) (h : RB w w.heap.size A n l) (h1 : n ≤ c) (h2 : c ≤ maxLen) : MK v ((A, n, c, l) :: rows) cs w := ⟨k.hw.add h h1 h2, k.cf⟩
theorem MK.own (k : MK v rows cs w) (hb : Below w.heap.size w w') (ho : OwnB w' w.heap.size A n c l) : MK v ((A, n, c, l) :: rows) cs w' := ⟨k.hw.own hb ho, (k.step hb).cf⟩
theorem MK.lit (k : MK v rows cs w) (ls : List UInt8) (ds : Array Value) (n : Nat) (hc : ds = (bvs ls).toArray) (hn : ls.length = n) (hm : n ≤ maxLen) : MK v ((some ⟨w.heap.size, 0, none⟩, n, n, ls) :: rows) cs (w.alloc (.cells ds 5)) :=
  ⟨k.hw.lit ls ds n hc hn hm, (k.step (below_alloc w _)).cf⟩
/-- An argument's box. -/
theorem MK.boxed (k : MK v rows cs w) (hb : Below w.heap.size w w') (hc : Blk T w' q g.cells) (h : g.ok) : MK v rows ((T, q, g) :: cs) w' := ⟨k.hw.step hb, fun r hr => by
  rcases List.mem_cons.1 hr with rfl | hr
  · exact ⟨hc, h⟩
  · exact (k.step hb).cf r hr⟩
/-- A variable that is made and stored. -/
theorem MK.var (k : MK v rows cs w) (hb : Below w.heap.size w w1) (hq : w.heap.size ≤ q) (ho : Oth [q] w1 w') (hc : Blk T w' q (putsL zeroC.cells 0 g.cells)) (h : g.ok) : MK v rows ((T, q, g) :: cs) w' := by
  have hb2 : Below w.heap.size w w' := hb.trans (ho.below (fun j hj => by rw [List.mem_singleton.1 hj]; exact hq) hb.size)
  rw [puts_whole _ _ ((Cfg.cells_len h).trans zeroC_len.symm)] at hc
  exact k.boxed hb2 hc h
end
end Go.Proofs.YtkcchidklcnnnaaGreat

/- Layer 16: a walk's rows and configurations behind a store into bytes of its own. No condition; nothing is claimed of the program here. -/
namespace Go.Proofs.YtkcchidklcnnnaaGreat
open Go.RowKit
set_option linter.unusedVariables false
set_option linter.unusedSimpArgs false
section
variable {v w w1 w' : World} {rows : List (Option Addr × Nat × Nat × List UInt8)} {cs : List (TypeId × Nat × Cfg)} {A : Option Addr} {n c q : Nat} {l : List UInt8} {T : TypeId} {g : Cfg}
/-- What a later walk carried, seen from an earlier world; fewer rows, fewer variables. -/
theorem MK.over {u : World} {rows2 : List (Option Addr × Nat × Nat × List UInt8)} {cs2 : List (TypeId × Nat × Cfg)} (k : MK v rows cs w) (hb : Below u.heap.size u v) (h1 : ∀ r ∈ rows2, r ∈ rows) (h2 : ∀ r ∈ cs2, r ∈ cs) : MK u rows2 cs2 w :=
  ⟨⟨hb.trans (k.hw.bel.mono hb.size), fun r hr => k.hw.row r (h1 r hr)⟩, fun r hr => k.cf r (h2 r hr)⟩
end
end Go.Proofs.YtkcchidklcnnnaaGreat

