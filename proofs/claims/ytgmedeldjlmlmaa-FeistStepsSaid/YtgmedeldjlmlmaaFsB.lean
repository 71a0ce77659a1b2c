/- Layer 15's reference: Pass and Passes. Conditions: the slices' cells are readable, lengths are at most a million, the key has sixteen bytes. -/
import Derived.Test.YtgmedeldjlmlmaaFsA
namespace Go.Proofs.Ytgmedeldjlmlmaa
open Go.RowKit
set_option linter.unusedVariables false
set_option linter.unusedSimpArgs false
attribute [local irreducible] foursL pairsL cutR trimL joinL blockL joinR trimR blockR maskB edgeN szI szN encL tableL xorL addL passP passesP mixL ontoR passR passesR atP

theorem all_len {o : List Int} {k : Nat} (h : (o.take k).all okP = true) (hk : o.length ≤ k) : o.all okP = true := by rwa [List.take_of_length_le hk] at h
end Go.Proofs.Ytgmedeldjlmlmaa
