import Derived.Test.YthppjgdnibfefaaGreatMiM
set_option linter.all false
set_option maxRecDepth 100000
set_option maxHeartbeats 32000000
namespace Go.Proofs.YthppjgdnibfefaaGreat
open Go.RowKit
structure MX (N F:Nat) (v:World) (mi mr x y:Nat) (k r:Ms) (D:XD) (w:World):Prop where
 pr:PRe N F v x y k.s r.s [mi,mr] w D.A D.c D.es D.B D.d D.ks
 mb:Blk 71 w mi (AgW k x)
 rb:Blk 57 w mr (AhV r y)
 lo:v.heap.size≤mi∧v.heap.size≤mr
 kr:AcX k.p=true
 rr:AcX r.p=true
section
variable {N F N' F':Nat} {v w w':World} {mi mr x y:Nat} {k r k' r':Ms} {D:XD} {rows:List Rw}
theorem MX.ne (h:MX N F v mi mr x y k r D w):mi≠mr:=h.mb.far h.rb (by decide)
theorem MX.bel (h:MX N F v mi mr x y k r D w):Below v.heap.size v w:=h.pr.bel
theorem MX.gi (h:MX N F v mi mr x y k r D w):mi<w.heap.size∧mi≠x∧mi≠y∧mi∉blkO D.A∧mi∉blkO D.B∧(∀ e∈D.es,e.1.o mi)∧∀ k∈D.ks,mi∉blkO k.A:=h.pr.gs mi (by simp)
theorem MX.gr (h:MX N F v mi mr x y k r D w):mr<w.heap.size∧mr≠x∧mr≠y∧mr∉blkO D.A∧mr∉blkO D.B∧(∀ e∈D.es,e.1.o mr)∧∀ k∈D.ks,mr∉blkO k.A:=h.pr.gs mr (by simp)
theorem MX.my (h:MX N F v mi mr x y k r D w):MY v x D.A D.c D.es N F mi k [] w :=
 ⟨h.pr.bel,h.pr.rn,h.mb,⟨h.gi.2.1,h.gi.2.2.2.1,h.gi.2.2.2.2.2.1⟩,h.lo.1,(fun r hr=>by cases hr),h.pr.ee,h.pr.os,h.kr⟩
theorem MX.step (h:MX N F v mi mr x y k r D w) (hb:Below w.heap.size w w'):MX N F v mi mr x y k r D w' :=
 ⟨h.pr.oth (S:=[]) (Oth.of_below hb) (hb.mono h.pr.bel.size) (fun g hg=>by cases hg),h.mb.step hb,h.rb.step hb,h.lo,h.kr,h.rr⟩
theorem MX.up (h:MX N F v mi mr x y k r D w) (hn:N≤N') (hf:F≤F'):MX N' F' v mi mr x y k r D w :=
 ⟨⟨h.pr.bel,h.pr.rn.up hn hf,h.pr.rs,h.pr.ee,h.pr.kk,h.pr.yo,h.pr.gs,h.pr.os,h.pr.ot,Nat.le_trans h.pr.n1 hn,h.pr.ko⟩,h.mb,h.rb,h.lo,h.kr,h.rr⟩
theorem MX.took (h:MX N F v mi mr x y k r D w) (ho:Oth (mi::esS D.es) w w') (hy:MY v x D.A D.c D.es N' F' mi k' rows w') (hn:N≤N') (hs:k'.s=k.s):MX N' F' v mi mr x y k' r D w':=by
 have hno:∀ g,g≠mi→(∀ e∈D.es,e.1.o g)→g∉mi::esS D.es:=fun g h1 h2 hm=>by
  rcases List.mem_cons.1 hm with e | hm
  ·exact h1 e
  ·exact h.pr.rn.out_es h2 hm
 refine ⟨⟨hy.bel,hy.rn,h.pr.rs.off ho (hno y h.gi.2.2.1.symm (fun e he=>(h.pr.yo e he).1)) (fun g hg=>hno g (fun e=>h.gi.2.2.2.2.1 (by rw [←e];exact hg)) (fun e he=>(h.pr.yo e he).2 g hg)) (fun q hq g hg=>hno g (fun e=>h.gi.2.2.2.2.2.2 q hq (by rw [←e];exact hg)) (fun e he=>h.pr.ko e he q hq g hg)),by rw [hs];exact h.pr.ee,h.pr.kk,h.pr.yo,fun g hg=>⟨Nat.lt_of_lt_of_le (h.pr.gs g hg).1 ho.size,(h.pr.gs g hg).2⟩,by rw [hs];exact h.pr.os,h.pr.ot,Nat.le_trans h.pr.n1 hn,h.pr.ko⟩,hy.mb,h.rb.oth ho (hno mr h.ne.symm h.gr.2.2.2.2.2.1),h.lo,hy.pr,h.rr⟩
theorem MX.rput (h:MX N F v mi mr x y k r D w) (ho:Oth [mr] w w') (hb:Blk 57 w' mr (AhV r' y)) (hs:r'.s=r.s) (hp:AcX r'.p=true):MX N F v mi mr x y k r' D w' :=
 ⟨by rw [hs];exact h.pr.oth ho (ho.below (fun g hg=>by rw [List.mem_singleton.1 hg];exact h.lo.2) h.pr.bel.size) (fun g hg=>by rw [List.mem_singleton.1 hg];simp),h.mb.oth ho (by simpa using h.ne),hb,h.lo,h.kr,hp⟩
theorem MX.put (h:MX N F v mi mr x y k r D w) (ho:Oth [mi] w w') (hb:Blk 71 w' mi (AgW k' x)) (hs:k'.s=k.s) (hp:AcX k'.p=true):MX N F v mi mr x y k' r D w' :=
 ⟨by rw [hs];exact h.pr.oth ho (ho.below (fun g hg=>by rw [List.mem_singleton.1 hg];exact h.lo.1) h.pr.bel.size) (fun g hg=>by rw [List.mem_singleton.1 hg];simp),hb,h.rb.oth ho (by simpa using h.ne.symm),h.lo,hp,h.rr⟩
theorem MX.rings (h:MX N F v mi mr x y k r D w) {s t:Rg} (hp:PR N F v x y s t [mi,mr] w') (hk:Kp [mi,mr] w w'):∃ D',MX N F v mi mr x y { k with s:=s } { r with s:=t } D' w':=by
 obtain ⟨A,c,es,B,d,ks,hq⟩:=hp
 exact ⟨⟨A,c,es,B,d,ks⟩,hq,h.mb.kp hk (by simp),h.rb.kp hk (by simp),h.lo,h.kr,h.rr⟩
theorem MX.pr_ (h:MX N F v mi mr x y k r D w):PR N F v x y k.s r.s [mi,mr] w:=⟨_,_,_,_,_,_,h.pr⟩
end
