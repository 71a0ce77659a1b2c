/- Layer 21's reference: what becomes of an Initial. Conditions: what is said of the mint and its ring; arguments of at most a thousand bytes. -/
import Derived.Test.YthppjgdnibfefaaGreatMiK
set_option linter.unusedVariables false
set_option linter.unusedSimpArgs false
set_option maxRecDepth 100000
set_option maxHeartbeats 32000000
namespace Go.Proofs.YthppjgdnibfefaaGreat
open Go.RowKit
attribute [local go_sem ↓] ex_stFr ex_ldFr ex_ldIr
attribute [local irreducible] openT sealT seqT fstT retryM outM smakeR instR retR newR untilM activeM rtryM
def RetOr (u:Oc) (w:World) (e:Ending) (w':World):Prop:=∃ B d,e=.returned (ocV u B d)∧OwnB w' w.heap.size B u.b.length d u.b∧Below w.heap.size w w'
end Go.Proofs.YthppjgdnibfefaaGreat
