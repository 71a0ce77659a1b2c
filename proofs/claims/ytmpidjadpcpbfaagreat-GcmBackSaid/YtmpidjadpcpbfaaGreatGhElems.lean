/- Layer 5's statements: rows of coefficients as the program has them. Condition: the slice's cells are readable, and not too many. -/
import Derived.Test.YtmpidjadpcpbfaaGreatRefGhash
import Derived.Test.YtmpidjadpcpbfaaGreatElemsX
namespace Go.Proofs.YtmpidjadpcpbfaaGreat
open Go.RowKit
set_option linter.unusedVariables false

theorem Xw.kept {W W1 : World} {g x : Nat} (h : Xw W g x) (hb : Below W.heap.size W W1) : Xw W1 g x := Ew.below h hb (Ew.lt h)
theorem of_bB (x : Nat) (hx : x < 2 ^ 128) (A : Option Addr) (c : Nat) (w : World) (hc : 16 ≤ c) (hr : RB w w.heap.size A 16 (bB x)) :
    Calls Tryz.prog 40 #[.slice A 16 c] w fun e w' => e = .returned (.tuple #[PE x, .int .i64 0]) ∧ Below w.heap.size w w' := by
  have h := of_ok A c (bB x) w hc hr.len hr
  have e : EV (oH (bB x)) (oL (bB x)) = PE x := by
    have h1 := pe_lt x hx
    unfold bB PE
    rw [(o_eB _ _ h1.1 h1.2).1, (o_eB _ _ h1.1 h1.2).2]
  rw [e] at h
  exact h
theorem rbytes_co (x : Nat) (w : World) (hx : x < 2 ^ 128) : Calls Tryz.prog 53 #[BV (co x)] w (RetB 16 (bB x) w) := by
  have h := pbytes_any (bB x) w (bB_len x)
  rw [bB_bits x hx] at h
  exact h
attribute [local irreducible] co tvs bB PE bitsOf

end Go.Proofs.YtmpidjadpcpbfaaGreat
