/- What the references share on rows of bytes: Long tells whether they are more than so many. Condition: the rows' cells are readable. -/
import Derived.Test.YtmpidjadpcpbfaaGreatRR
namespace Go.Proofs.YtmpidjadpcpbfaaGreat
open Go.RowKit
set_option linter.unusedVariables false

/-- Are there more rows than so many, or more bytes? -/
def longB (ps : List (List UInt8)) (m : Nat) : Bool := decide (m < ps.length ∨ m < totL ps)
end Go.Proofs.YtmpidjadpcpbfaaGreat
