import Derived.Test.YthppjgdnibfefaaGreatAesAll
set_option linter.all false
set_option maxRecDepth 100000
set_option maxHeartbeats 32000000
namespace Go.Proofs.YthppjgdnibfefaaGreat
open Go.RowKit
section
variable {w w1 w3 w4 w':World} {base n c cb b lo:Nat} {A:YA} {l key:YB}
theorem But.behind (h:But b w w1) (k:Below w.heap.size w1 w'):But b w w':=⟨k.os.trans h.os,k.tape.trans h.tape,k.output.trans h.output,Nat.le_trans h.size k.size,fun i hi hb=>(k.block i hi).trans (h.block i hi hb)⟩
theorem OwnB.but (h:OwnB w base A n c l) (hb:But cb w w') (hc:cb<base):OwnB w' base A n c l:=by
 refine ⟨h.1,?_⟩
 rcases h.2 with h0 | ⟨g,cap,cur,hv,hbg,hh,r⟩
 ·exact .inl h0
 ·exact .inr ⟨g,cap,cur,hv,hbg,(hb.block g (Array.getElem?_eq_some_iff.1 hh).1 (by omega)).trans hh,r⟩
theorem OwnB.far (h:OwnB w base A n c l) (hb:cb<base):Away A cb:=fun g o e=>by
 subst e
 have:=(World.ownsRow.lt h g rfl).1
 omega
theorem RB.far (h:RB w base A n l) (hn:0<n) (hb:base≤cb):Away A cb:=fun g o e=>by
 obtain ⟨g2,o2,e2,hg,_⟩:=h.2 hn
 rw [e] at e2
 injection e2 with e2
 injection e2 with e2
 omega
theorem RB.grew {row:Option Nat} (h:RB w w.heap.size A n l) (hg:w.grownBy w' row) (ha:∀ g,row=some g→Away A g):RB w' w'.heap.size A n l:=by
 refine ⟨h.1,fun hn=>?_⟩
 obtain ⟨g,o,e,hlt,hc⟩:=h.2 hn
 refine ⟨g,o,e,Nat.lt_of_lt_of_le hlt hg.size,fun i hi=>?_⟩
 rw [←hc i hi]
 exact World.cell?_of_block (w:=w) (hg.block g hlt (fun er=>ha g er.symm g o e rfl))
theorem RB.aside' (h:RB w w.heap.size A n l) (hb:But cb w w') (ha:Away A cb):RB w' w'.heap.size A n l:=(h.but hb (Nat.le_refl _) (fun g o _ e=>ha g o e)).more hb.size
theorem Ob.hold (h0:Ob cb b lo key 0 w) (hb:But cb w w3) (h3:Ob cb b lo key n w3) (h4:Below w.heap.size w3 w4):Ob cb b lo key n w4 :=
 ⟨h3.cf.block (h4.block cb h0.lt),h0.tab.apartJ (by decide) 0 (by omega) h0.cf.nob h0.cf.ne (fun q hl hq=>(hb.behind h4).block q hl hq),h3.len,h3.few⟩
end
