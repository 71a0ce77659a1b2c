/- Layer 14's references Cut, Trim, Block. Conditions: the slices' cells are readable, lengths are at most a million. -/
import Derived.Test.YtgmedeldjlmlmaaHvB
import Derived.Test.YtgmedeldjlmlmaaRec
namespace Go.Proofs.Ytgmedeldjlmlmaa
open Go.RowKit
set_option linter.unusedVariables false
set_option linter.unusedSimpArgs false
/-- Two new rows and an error's number. -/
def RetBBE (a b : List UInt8) (code : Int) (w : World) (e : Ending) (w' : World) : Prop :=
  ∃ A n c A' n' c', e = .returned (.tuple #[.slice A n c, .slice A' n' c', .int .i64 code]) ∧ OwnB w' w.heap.size A n c a ∧ OwnB w' w.heap.size A' n' c' b ∧ Below w.heap.size w w'
theorem OwnB.apart {w w' : World} {B base2 n c n2 c2 : Nat} {A A2 : Option Addr} {l2 : List UInt8} (h2 : OwnB w base2 A2 n2 c2 l2) (h : ∀ a, A = some a → a.block < B) (hB : B ≤ base2) (hg : w.grownBy w' (Value.ownBlock (.slice A n c))) : OwnB w' base2 A2 n2 c2 l2 :=
  h2.oth (Oth.of_grown hg) (fun g o e hm => by
    obtain ⟨a, ea, hk⟩ := mem_blkO hm
    have h3 := (h2.spot _ e).2.1
    have h4 := h a ea
    simp only at h3
    omega)
attribute [local irreducible] foursL pairsL cutR trimL joinL blockL szN

end Go.Proofs.Ytgmedeldjlmlmaa
