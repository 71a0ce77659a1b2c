/- Layer 15's reference: a half's pass onto the other one, Pass, Passes. Conditions: the slices' cells are readable, lengths are at most a million, the key has sixteen bytes. -/
import Derived.Test.YtgmedeldjlmlmaaFsP
import Derived.Test.YtgmedeldjlmlmaaHvE
import Derived.Test.YtgmedeldjlmlmaaRefAesAll
import Derived.Test.YtgmedeldjlmlmaaAesInvW
import Derived.Test.YtgmedeldjlmlmaaIntM
namespace Go.Proofs.Ytgmedeldjlmlmaa
open Go.RowKit
set_option linter.unusedVariables false
set_option linter.unusedSimpArgs false
theorem onto_cases (E : List UInt8 → List UInt8) (f t : List UInt8) (z p : Int) (left : Bool) : (∃ V, ontoR E f t z p left = (V, 0)) ∨ ontoR E f t z p left = ([], 11) := by
  unfold ontoR
  split
  · exact .inl ⟨_, rfl⟩
  · exact .inr rfl
theorem enc_E {key : List UInt8} (hk : key.length = 16) : ∀ b : List UInt8, b.length = 16 → (encL key tableL b).length = 16 := fun b hb => encL_len key tableL b hk hb
theorem xorL_pre {a s : List UInt8} {k : Nat} {x y : UInt8} (ha : a[k]? = some x) (hs : s[k]? = some y) : (xorL a s).take (k + 1) = (xorL a s).take k ++ [x ^^^ y] := take_snoc (by
  unfold xorL
  rw [List.getElem?_zipWith, ha, hs])
attribute [local irreducible] foursL pairsL cutR trimL joinL blockL joinR trimR blockR maskB edgeN szI szN encL tableL xorL addL passP passesP mixL ontoR passR passesR atP

end Go.Proofs.Ytgmedeldjlmlmaa
