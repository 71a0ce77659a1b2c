/- Layer 14: what a walk of a statement carries, and the statements' own first step. No condition. -/
import Derived.Test.YtkcchidklcnnnaaGreatHvU
import Derived.Test.YtkcchidklcnnnaaGreatUseBytes
namespace Go.Proofs.YtkcchidklcnnnaaGreat
open Go.RowKit
set_option linter.unusedVariables false
set_option linter.unusedSimpArgs false
/-- What a walk over rows of bytes carries. -/
structure HW (v : World) (rows : List (Option Addr × Nat × Nat × List UInt8)) (w : World) : Prop where
  bel : Below v.heap.size v w
  row : ∀ r ∈ rows, RB w w.heap.size r.1 r.2.1 r.2.2.2 ∧ r.2.1 ≤ r.2.2.1 ∧ r.2.2.1 ≤ maxLen
section
variable {v w w' : World} {rows : List (Option Addr × Nat × Nat × List UInt8)} {A A2 : Option Addr} {n c n2 c2 : Nat} {l l2 : List UInt8}
theorem HW.start (w : World) : HW w [] w := ⟨Below.refl _ _, fun r hr => by cases hr⟩
theorem HW.step (k : HW v rows w) (hb : Below w.heap.size w w') : HW v rows w' := ⟨bel_next k.bel hb, fun r hr => ⟨(k.row r hr).1.step hb, (k.row r hr).2⟩⟩
theorem HW.add (k : HW v rows w) (h : RB w w.heap.size A n l) (h1 : n ≤ c) (h2 : c ≤ maxLen) : HW v ((A, n, c, l) :: rows) w := ⟨k.bel, fun r hr => by
  rcases List.mem_cons.1 hr with rfl | hr
  · exact ⟨h, h1, h2⟩
  · exact k.row r hr⟩
theorem HW.own (k : HW v rows w) (hb : Below w.heap.size w w') (ho : OwnB w' w.heap.size A n c l) : HW v ((A, n, c, l) :: rows) w' := (k.step hb).add ho.rb ho.cap.1 ho.cap.2
theorem HW.own2 (k : HW v rows w) (hb : Below w.heap.size w w') (ho : OwnB w' w.heap.size A n c l) (ho2 : OwnB w' w.heap.size A2 n2 c2 l2) : HW v ((A2, n2, c2, l2) :: (A, n, c, l) :: rows) w' := (k.own hb ho).add ho2.rb ho2.cap.1 ho2.cap.2
theorem HW.lit (k : HW v rows w) (ls : List UInt8) (cs : Array Value) (n : Nat) (hc : cs = (bvs ls).toArray) (hn : ls.length = n) (hm : n ≤ maxLen) : HW v ((some ⟨w.heap.size, 0, none⟩, n, n, ls) :: rows) (w.alloc (.cells cs 5)) :=
  (k.step (below_alloc w _)).add (RB.lit w ls cs n w.heap.size hc hn rfl) (Nat.le_refl _) hm
end
attribute [local irreducible] foursL pairsL cutR trimL joinL blockL joinR trimR blockR maskB edgeN layN sdL
end Go.Proofs.YtkcchidklcnnnaaGreat
