/- Layer 9's readers, third part: the reference's reader answers as the code's. Conditions: as in Scan. -/
import Derived.Test.YthppjgdnibfefaaGreatScanRd
set_option linter.unusedVariables false
set_option linter.unusedSimpArgs false
set_option maxRecDepth 100000
set_option maxHeartbeats 32000000
namespace Go.Proofs.YthppjgdnibfefaaGreat
open Go.RowKit
theorem RdQ.fail {w:World} {x:Nat} {l:List UInt8} (h:RdQ w x (0,l)) (e:Int):Oth [x] w (w.setCell ⟨x,1,none⟩ (.int .i64 e))∧RdQ (w.setCell ⟨x,1,none⟩ (.int .i64 e)) x (e,l):=by
 have hrow:∀ {B n:Nat} {A:Option Addr} {l:List UInt8} (r:RB w B A n l),0<n→∀ g o,A=some ⟨g,o,none⟩→g∉[x]:=fun r=>h.row r
 obtain ⟨A,m,c,h1,h2,h3⟩:=h
 have ho:=(Oth.refl [x] w).set (x:=x) (by simp) 1 (.int .i64 e)
 exact ⟨ho,A,m,c,h1.set1 _,h2.oth ho (hrow h2),h3⟩
end Go.Proofs.YthppjgdnibfefaaGreat
