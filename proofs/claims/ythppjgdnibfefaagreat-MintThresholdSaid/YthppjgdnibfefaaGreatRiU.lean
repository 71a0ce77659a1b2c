/- Layer 19: SameInts; a ring and the reference's beside each other, and what each call leaves of both. Condition: what is said of them. -/
import Derived.Test.YthppjgdnibfefaaGreatRiR
import Derived.Test.YthppjgdnibfefaaGreatRowsIn
import Derived.Test.YthppjgdnibfefaaGreatGcmShow
set_option linter.unusedVariables false
set_option linter.unusedSimpArgs false
set_option maxRecDepth 100000
set_option maxHeartbeats 32000000
namespace Go.Proofs.YthppjgdnibfefaaGreat
open Go.RowKit
structure Cr where
 t:Int
 q:Int
 A:Option Addr
 n:Nat
 c:Nat
 key:List UInt8
def Cr.cells (k:Cr):List Value:=[.int .i64 k.t,.int .i64 k.q,.slice k.A k.n k.c]
def Cr.val (k:Cr):Value:=.agg k.cells.toArray
def Cr.ok (k:Cr) (B:Nat) (w:World):Prop:=RB w B k.A k.n k.key∧k.n≤k.c∧k.c≤maxLen
def doR (s:Rg) (k:Cr):Rg×Int:=if k.t=0 then instR s k.q k.key else if k.t=1 then retR s k.q else (s,0)
theorem Cr.one (k:Cr):ones k.cells:=by
 intro v hv
 unfold Cr.cells at hv
 simp only [List.mem_cons,List.not_mem_nil,or_false] at hv
 rcases hv with rfl | rfl | rfl <;> rfl
structure PRe (N F:Nat) (v:World) (x y:Nat) (s t:Rg) (G:List Nat) (w:World) (A:Option Addr) (c:Nat) (es:Ens) (B:Option Addr) (d:Nat) (ks:List KR):Prop where
 bel:Below v.heap.size v w
 rn:Rn v.heap.size w x A c es N F
 rs:Rs v.heap.size w y B d ks
 ee:rgE es=s
 kk:rgK ks=t
 yo:∀ e∈es,e.1.out y∧∀ g∈blkO B,e.1.out g
 gs:∀ g∈G,g<w.heap.size∧g≠x∧g≠y∧g∉blkO A∧g∉blkO B∧(∀ e∈es,e.1.out g)∧∀ k∈ks,g∉blkO k.A
 os:okR s
 ot:okR t
 n1:1≤N
 ko:∀ e∈es,∀ k∈ks,∀ g∈blkO k.A,e.1.out g
def PR (N F:Nat) (v:World) (x y:Nat) (s t:Rg) (G:List Nat) (w:World):Prop:=∃ A c es B d ks,PRe N F v x y s t G w A c es B d ks
def Kp (G:List Nat) (w w':World):Prop:=∀ g∈G,w'.heap[g]?=w.heap[g]?
theorem Blk.kp {T:TypeId} {w w':World} {g:Nat} {cs:List Value} {G:List Nat} (h:Blk T w g cs) (k:Kp G w w') (hg:g∈G):Blk T w' g cs:=(k g hg).trans h
theorem OwnB.kp {w w':World} {base n c:Nat} {A:Option Addr} {l:List UInt8} {G:List Nat} (h:OwnB w base A n c l) (k:Kp G w w') (hg:∀ g∈blkO A,g∈G):OwnB w' base A n c l:=by
 refine ⟨h.1,?_⟩
 rcases h.2 with h0 | ⟨g,cap,cur,hv,hbg,hh,r⟩
 ·exact .inl h0
 ·have hA:A=some ⟨g,0,none⟩:=by injection hv
  exact .inr ⟨g,cap,cur,hv,hbg,(k g (hg g (by rw [hA];simp [blkO]))).trans hh,r⟩
theorem own_lt {w:World} {base n c:Nat} {A:Option Addr} {l:List UInt8} (h:OwnB w base A n c l):∀ g∈blkO A,base≤g∧g<w.heap.size:=fun g hg=>by
 obtain ⟨a,ea,hga⟩:=mem_blkO hg
 exact World.ownsRow.lt h g (by show Value.ownBlock (.slice A n c)=some g;rw [ea];exact congrArg some hga)
section
variable {N F N' F':Nat} {v w w':World} {x y c d:Nat} {s t s':Rg} {G S:List Nat} {A B:Option Addr} {es:Ens} {ks:List KR}
theorem PRe.oth (h:PRe N F v x y s t G w A c es B d ks) (ho:Oth S w w') (hb:Below v.heap.size w w') (hS:∀ g∈S,g∈G):PRe N F v x y s t G w' A c es B d ks:=by
 have hk:∀ k∈ks,∀ g∈blkO k.A,g∉S:=fun k hk g hg hm=>(h.gs g (hS g hm)).2.2.2.2.2.2 k hk hg
 refine ⟨h.bel.trans hb,h.rn.off ho (fun hm=>(h.gs x (hS x hm)).2.1 rfl) (fun g hg hm=>(h.gs g (hS g hm)).2.2.2.1 hg) (fun e he g hg=>(h.gs g (hS g hg)).2.2.2.2.2.1 e he),h.rs.off ho (fun hm=>(h.gs y (hS y hm)).2.2.1 rfl) (fun g hg hm=>(h.gs g (hS g hm)).2.2.2.2.1 hg) hk,h.ee,h.kk,h.yo,fun g hg=>⟨Nat.lt_of_lt_of_le (h.gs g hg).1 ho.size,(h.gs g hg).2⟩,h.os,h.ot,h.n1,h.ko⟩
theorem PR.step (h:PR N F v x y s t G w) (hb:Below w.heap.size w w'):PR N F v x y s t G w':=by
 obtain ⟨A,c,es,B,d,ks,h⟩:=h
 exact ⟨A,c,es,B,d,ks,h.oth (S:=[]) (Oth.of_below hb) (hb.mono h.bel.size) (fun g hg=>by cases hg)⟩
theorem PR.bel (h:PR N F v x y s t G w):Below v.heap.size v w:=by
 obtain ⟨A,c,es,B,d,ks,h⟩:=h
 exact h.bel
theorem PR.up (h:PR N F v x y s t G w) (hn:N≤N') (hf:F≤F'):PR N' F' v x y s t G w:=by
 obtain ⟨A,c,es,B,d,ks,h⟩:=h
 exact ⟨A,c,es,B,d,ks,h.bel,h.rn.up hn hf,h.rs,h.ee,h.kk,h.yo,h.gs,h.os,h.ot,Nat.le_trans h.n1 hn,h.ko⟩
theorem PR.ok (h:PR N F v x y s t G w):okR s∧okR t:=by
 obtain ⟨A,c,es,B,d,ks,h⟩:=h
 exact ⟨h.os,h.ot⟩
theorem PR.fresh (h:PR N F v x y s t G w) (L:List Nat) (hL:∀ g∈L,w.heap.size≤g∧g<w'.heap.size) (hb:Below w.heap.size w w'):PR N F v x y s t (L++G) w':=by
 obtain ⟨A,c,es,B,d,ks,h⟩:=h
 have k:=h.oth (S:=[]) (Oth.of_below hb) (hb.mono h.bel.size) (fun g hg=>by cases hg)
 refine ⟨A,c,es,B,d,ks,k.bel,k.rn,k.rs,k.ee,k.kk,k.yo,fun g hg=>?_,k.os,k.ot,k.n1,k.ko⟩
 rcases List.mem_append.1 hg with hg | hg
 ·obtain ⟨h1,h2⟩:=hL g hg
  have hx:=h.rn.blk.lt
  have hy:=h.rs.blk.lt
  refine ⟨h2,by omega,by omega,fun hm=>?_,fun hm=>?_,fun e he=>.inr (Nat.le_trans (h.rn.ok e he).1.le h1),fun r hr hm=>?_⟩
  ·have:=(h.rn.grd.lt g hm).2;omega
  ·have:=(h.rs.grd.lt g hm).2;omega
  ·have:=(own_lt (h.rs.key r hr) g hm).2;omega
 ·exact k.gs g hg
theorem PR.new {x y:Nat} (hn:1≤N) (h1:Rn v.heap.size w x none 0 [] N F) (h2:Rs v.heap.size w y none 0 []) (hb:Below v.heap.size v w):PR N F v x y [] [] [] w :=
 ⟨none,0,[],none,0,[],hb,h1,h2,rfl,rfl,fun e he=>(by cases he),fun g hg=>(by cases hg),nil_okR,nil_okR,hn,fun e he=>(by cases he)⟩
theorem PRe.len (h:PRe N F v x y s t G w A c es B d ks):es.length≤16∧ks.length≤16:=by
 have h1:=h.os.n
 have h2:=h.ot.n
 rw [←h.ee,rg_len] at h1
 rw [←h.kk,rgK_len] at h2
 exact ⟨h1,h2⟩
end
def RetP19 (N F:Nat) (v:World) (x y:Nat) (s t:Rg) (G:List Nat) (a:Int) (w:World) (e:Ending) (w':World):Prop:=e=.returned (.int .i64 a)∧PR N F v x y s t G w'∧Kp G w w'
end Go.Proofs.YthppjgdnibfefaaGreat
namespace Go.Proofs.YthppjgdnibfefaaGreat
open Go.RowKit
def CRs (w:World) (B:Nat) (A:Option Addr) (n:Nat) (ks:List Cr):Prop :=
 ks.length=n∧(∀ k∈ks,k.ok B w)∧(0<n→∃ b o,A=some ⟨b,o,none⟩∧b<B∧∀ (i:Nat) k,ks[i]?=some k→w.rangeAt b (o+i*3) k.cells)
theorem Cr.ok.below {k:Cr} {B:Nat} {w w':World} (h:k.ok B w) (hb:Below B w w'):k.ok B w':=⟨h.1.below hb,h.2⟩
theorem Cr.ok.more {k:Cr} {B B':Nat} {w:World} (h:k.ok B w) (hB:B≤B'):k.ok B' w:=⟨h.1.more hB,h.2⟩
section
variable {w w':World} {B n:Nat} {A:Option Addr} {ks:List Cr}
theorem CRs.below (h:CRs w B A n ks) (hb:Below B w w'):CRs w' B A n ks :=
 ⟨h.1,fun k hk=>(h.2.1 k hk).below hb,fun hn=>by
  obtain ⟨b,o,e,hbb,hc⟩:=h.2.2 hn
  exact ⟨b,o,e,hbb,fun i p hp j v hv=>(hb.cell (p:=⟨b,o+i*3+j,none⟩) hbb).trans (hc i p hp j v hv)⟩⟩
theorem CRs.at_ {i:Nat} (h:CRs w B A n ks) (hi:i<n):∃ b o k,A=some ⟨b,o,none⟩∧ks[i]?=some k∧k.ok B w∧w.rangeAt b (o+i*3) k.cells∧w.cell? ⟨b,o+i*3+2,none⟩=some (.slice k.A k.n k.c):=by
 obtain ⟨b,o,e,hb,hc⟩:=h.2.2 (by omega)
 have hl:i<ks.length:=by rw [h.1];exact hi
 exact ⟨b,o,ks[i],e,List.getElem?_eq_getElem hl,h.2.1 _ (List.getElem_mem hl),hc i _ (List.getElem?_eq_getElem hl),hc i _ (List.getElem?_eq_getElem hl) 2 _ rfl⟩
theorem CRs.lit (w:World) (k:Cr) (hk:k.ok w.heap.size w) (cs:Array Value) (hc:cs=k.cells.toArray) (T:TypeId):CRs (w.alloc (.cells cs T)) (w.alloc (.cells cs T)).heap.size (some ⟨w.heap.size,0,none⟩) 1 [k]:=by
 subst hc
 have hb:=below_alloc w (.cells k.cells.toArray T)
 refine ⟨rfl,fun j hj=>by rw [List.mem_singleton.1 hj];exact (hk.below hb).more hb.size,fun _=>⟨w.heap.size,0,rfl,by simp,fun i p hp j v hv=>?_⟩⟩
 have hi:i=0:=by have:=(List.getElem?_eq_some_iff.1 hp).1;simpa using this
 subst hi
 injection hp with hp
 subst hp
 simp only [Nat.zero_mul,Nat.zero_add]
 rw [cell_of_row _ w.heap.size j _ T (0,0) (heap_alloc_new w _)]
 simpa using hv
end
def RetD19 (N F:Nat) (v:World) (x y:Nat) (s t:Rg) (k:Cr) (w:World) (e:Ending) (w':World):Prop:=e=.returned (.bool ((doR s k).2 == (doR t k).2))∧PR N F v x y (doR s k).1 (doR t k).1 [] w'
def RetG19 (N F:Nat) (v:World) (x y:Nat) (s t:Rg) (G:List Nat) (k:Cr) (w:World) (e:Ending) (w':World):Prop:=e=.returned (.bool ((doR s k).2 == (doR t k).2))∧PR N F v x y (doR s k).1 (doR t k).1 G w'∧Kp G w w'
theorem PR.kp {N F:Nat} {v w w':World} {x y:Nat} {s t:Rg} {G:List Nat} (h:PR N F v x y s t G w) (hb:Below w.heap.size w w'):Kp G w w':=by
 obtain ⟨A,c,es,B,d,ks,h⟩:=h
 exact fun g hg=>hb.block g (h.gs g hg).1
theorem Kp.trans {G:List Nat} {w w1 w2:World} (h:Kp G w w1) (k:Kp G w1 w2):Kp G w w2:=fun g hg=>(k g hg).trans (h g hg)
end Go.Proofs.YthppjgdnibfefaaGreat
namespace Go.Proofs.YthppjgdnibfefaaGreat
open Go.RowKit
def zr19:List UInt8:=List.replicate 16 0
def S1r:Rg:=[(3,zr19)]
def S2r:Rg:=[(3,zr19),(7,zr19)]
def S3r:Rg:=[(3,zr19),(7,zr19),(5,zr19)]
def LR1 (v:World) (x:Nat) (s:Rg) (w:World):Prop:=Below v.heap.size v w∧∃ A c es,Rn v.heap.size w x A c es 1 0∧rgE es=s
def LR2 (v:World) (x:Nat) (s:Rg) (y:Nat) (u:Rg) (w:World):Prop:=Below v.heap.size v w∧∃ A c es vc B d fs,Rn v.heap.size w x A c es 1 0∧rgE es=s∧Rn vc w y B d fs 1 0∧rgE fs=u∧∀ g∈x::blkO A,g<vc
section
variable {v w w':World} {x y:Nat} {s u:Rg}
theorem LR1.step (h:LR1 v x s w) (hb:Below w.heap.size w w'):LR1 v x s w':=by
 obtain ⟨hv,A,c,es,h1,h2⟩:=h
 exact ⟨bel_next hv hb,A,c,es,h1.step hb,h2⟩
theorem LR2.step (h:LR2 v x s y u w) (hb:Below w.heap.size w w'):LR2 v x s y u w':=by
 obtain ⟨hv,A,c,es,vc,B,d,fs,h1,h2,h3,h4,h5⟩:=h
 exact ⟨bel_next hv hb,A,c,es,vc,B,d,fs,h1.step hb,h2,h3.step hb,h4,h5⟩
theorem LR2.one (h:LR2 v x s y u w):LR1 v x s w:=by
 obtain ⟨hv,A,c,es,vc,B,d,fs,h1,h2,h3,h4,h5⟩:=h
 exact ⟨hv,A,c,es,h1,h2⟩
theorem LR2.other (h:LR2 v x s y u w):∃ vc B d fs,Rn vc w y B d fs 1 0∧rgE fs=u:=by
 obtain ⟨hv,A,c,es,vc,B,d,fs,h1,h2,h3,h4,h5⟩:=h
 exact ⟨vc,B,d,fs,h3,h4⟩
end
end Go.Proofs.YthppjgdnibfefaaGreat
namespace Go.Proofs.YthppjgdnibfefaaGreat
open Go.RowKit
def upR (ks:List Cr) (i:Nat):Rg:=(ks.take i).foldl (fun s k=>(doR s k).1) []
theorem ex_ldCr (ev:Operand→Value) (x:Operand) (d:Option Tmp) (ty:TypeId) (ps:String) (af:Array Edge) (g:Option (Nat×Bool)) (w:World):(execOp ev ⟨d,.load 113 x,ty,ps,af,g⟩).run Tryz.prog w=ldHd 113 (ev x) w:=rfl
section
variable {v w w':World} {x y c d:Nat} {s t:Rg} {G S:List Nat} {A B:Option Addr} {es:Ens} {ks:List KR}
theorem Rs.base_le {b base:Nat} (h:Rs base w y B d ks) (hb:b≤base):Rs b w y B d ks:=⟨h.blk,h.grd.base_le hb,h.key,Nat.le_trans hb h.low⟩
theorem PR.pair (h1:Rn v.heap.size w x A c es 1 0) (hv:Below v.heap.size v w) (hb:Below w.heap.size w w') (h2:Rs w.heap.size w' y B d ks) (he:rgE es=s) (hk:rgK ks=t) (os:okR s) (ot:okR t) (hko:∀ k∈ks,∀ g∈blkO k.A,g<v.heap.size):PR 1 0 v x y s t [] w' :=
 ⟨A,c,es,B,d,ks,bel_next hv hb,h1.step hb,h2.base_le hv.size,he,hk,fun e hm=>⟨.inr (Nat.le_trans (h1.ok e hm).1.le h2.low),fun g hg=>.inr (Nat.le_trans (h1.ok e hm).1.le (h2.grd.lt g hg).1)⟩,fun g hg=>(by cases hg),os,ot,Nat.le_refl _,fun e he k hk g hg=>.inl (Nat.lt_of_lt_of_le (hko k hk g hg) (h1.ok e he).2.2.1)⟩
def RG (v:World) (x:Nat) (s:Rg) (G:List Nat) (w:World):Prop:=Below v.heap.size v w∧okR s∧∃ A c es,Rn v.heap.size w x A c es 1 0∧rgE es=s∧∀ g∈G,g<w.heap.size∧g≠x∧g∉blkO A
theorem RG.step (h:RG v x s G w) (hb:Below w.heap.size w w'):RG v x s G w':=by
 obtain ⟨hv,os,A,c,es,h1,h2,h3⟩:=h
 exact ⟨bel_next hv hb,os,A,c,es,h1.step hb,h2,fun g hg=>⟨Nat.lt_of_lt_of_le (h3 g hg).1 hb.size,(h3 g hg).2⟩⟩
theorem RG.fresh (h:RG v x s G w) (L:List Nat) (hL:∀ g∈L,w.heap.size≤g∧g<w'.heap.size) (hb:Below w.heap.size w w'):RG v x s (L++G) w':=by
 obtain ⟨hv,os,A,c,es,h1,h2,h3⟩:=h
 refine ⟨bel_next hv hb,os,A,c,es,h1.step hb,h2,fun g hg=>?_⟩
 rcases List.mem_append.1 hg with hg | hg
 ·obtain ⟨a,b⟩:=hL g hg
  have:=h1.blk.lt
  exact ⟨b,by omega,fun hm=>by have:=(h1.grd.lt g hm).2;omega⟩
 ·exact ⟨Nat.lt_of_lt_of_le (h3 g hg).1 hb.size,(h3 g hg).2⟩
theorem RG.all {s':Rg} (h1:Rn v.heap.size w x A c es 1 0) (hv:Below v.heap.size v w) (h3:∀ g∈G,g<w.heap.size∧g≠x∧g∉blkO A) (hr:RetRn v.heap.size x A es 1 0 s' w w') (os:okR s'):RG v x s' G w'∧Kp G w w':=by
 obtain ⟨A',c',es',r1,r2,r3,r4,r5⟩:=hr
 refine ⟨⟨hv.trans (r3.below (fun g hg=>by
  rcases List.mem_cons.1 hg with rfl | hg
  ·exact h1.low
  ·exact (h1.grd.lt g hg).1) hv.size),os,A',c',es',r1,r2,fun g hg=>⟨Nat.lt_of_lt_of_le (h3 g hg).1 r3.size,(h3 g hg).2.1,fun hm=>?_⟩⟩,fun g hg=>r3.block g (h3 g hg).1 (fun hm=>?_)⟩
 ·rcases r5 g hm with z | z
  ·exact (h3 g hg).2.2 z
  ·have:=(h3 g hg).1;omega
 ·rcases List.mem_cons.1 hm with e | hm
  ·exact (h3 g hg).2.1 e
  ·exact (h3 g hg).2.2 hm
theorem RG.pr (h:RG v x s [] w) (hb:Below w.heap.size w w') (hy:Blk 102 w' y [.slice none 0 0]) (hl:w.heap.size≤y):PR 1 0 v x y s [] [] w':=by
 obtain ⟨hv,os,A,c,es,h1,h2,_⟩:=h
 exact PR.pair h1 hv hb (Rs.new hy hl) h2 rfl os nil_okR (fun k hk=>(by cases hk))
theorem RG.ok (h:RG v x s G w):okR s:=h.2.1
theorem OwnZ.kp {base n:Nat} {l:List Int} (h:OwnZ w base A n c l) (k:Kp G w w') (hg:∀ g∈blkO A,g∈G):OwnZ w' base A n c l:=by
 refine ⟨⟨h.1.1,?_⟩,h.2⟩
 rcases h.1.2 with h0 | ⟨g,cap,cur,hv,hbg,hh,r⟩
 ·exact .inl h0
 ·have hA:A=some ⟨g,0,none⟩:=by injection hv
  exact .inr ⟨g,cap,cur,hv,hbg,(k g (hg g (by rw [hA];simp [blkO]))).trans hh,r⟩
theorem RG.none (h:RG v x s G w):RG v x s [] w:=by
 obtain ⟨hv,os,A,c,es,h1,h2,h3⟩:=h
 exact ⟨hv,os,A,c,es,h1,h2,fun g hg=>(by cases hg)⟩
end
end Go.Proofs.YthppjgdnibfefaaGreat
namespace Go.Proofs.YthppjgdnibfefaaGreat
attribute [local irreducible] wsW keyUpTo keyF lastW turn0 encUp decUp aftL encL tableL blksL blkL strmL putL numL xorL turnAt fstL hkL tagL trnL bB sumG nB sealR openR tagR
open Go.RowKit
def RetEB (e:EB) (N F M:Nat) (L:List UInt8) (E:Int) (w:World) (r:Ending) (w':World):Prop :=
 ∃ A c,r=.returned (.tuple #[.slice A M c,.int .i64 E])∧OwnB w' w.heap.size A M c L∧Oth e.S w w'∧e.Ok N F w'
theorem away_of {e:EB} {A:Option Addr} (h:∀ g∈blkO A,g∉e.S):AwayS A e.S:=fun x hx g o ea he=>by
 subst he
 exact h g (by rw [ea];simp [blkO]) hx
theorem eb_seal (e:EB) (N F:Nat) (w:World) (h:e.Ok N F w) (hn:N+1≤1000000000) (A1 A2 A3:Option Addr) (n1 c1 n2 c2 n3 c3:Nat) (l t a:List UInt8) (h1:RB w w.heap.size A1 n1 l) (h2:RB w w.heap.size A2 n2 t) (h3:RB w w.heap.size A3 n3 a) (m3:n3≤c3) (a3:0<n3→∀ g∈blkO A3,g∉e.S) (hn2:n2≤65535) (hn3:n3≤65535) (M:Nat) (L:List UInt8) (E:Int) (hR:sealR e.key l t a=(L,E)) (hM:L.length=M) :
  Calls Tryz.prog 130 #[.pointer (some ⟨e.x,0,none⟩),.slice A1 n1 c1,.slice A2 n2 c2,.slice A3 n3 c3] w (RetEB e (N+1) F M L E w):=by
 obtain ⟨p,f,hi,hf,hz⟩:=h
 rw [←hi.x]
 refine (gseal_r p N f A1 A2 A3 n1 c1 n2 c2 n3 c3 l t a w hz hn h1 h2 h3 m3 (fun h0=>by rw [hi.same];exact away_of (a3 h0)) hn2 hn3).mono fun r w' hr=>?_
 obtain ⟨A,c,he,ho,hoff,hz'⟩:=hr.to f M L E rfl (by rw [hi.key];exact hR) hM
 exact ⟨A,c,he,ho,by rw [←hi.same];exact ⟨hoff.os,hoff.tape,hoff.output,hoff.size,hoff.block⟩,p,f,hi,hf,hz'⟩
theorem eb_open (e:EB) (N F:Nat) (w:World) (h:e.Ok N F w) (hn:N+1≤1000000000) (hF:F≤1000000000) (A1 A2 A3:Option Addr) (n1 c1 n2 c2 n3 c3:Nat) (l s a:List UInt8) (h1:RB w w.heap.size A1 n1 l) (h2:RB w w.heap.size A2 n2 s) (h3:RB w w.heap.size A3 n3 a) (m2:n2≤c2) (m3:n3≤c3) (a1:0<n1→∀ g∈blkO A1,g∉e.S) (a2:0<n2→∀ g∈blkO A2,g∉e.S) (a3:0<n3→∀ g∈blkO A3,g∉e.S) (hn2:n2≤65551) (hn3:n3≤65535) (M:Nat) (L:List UInt8) (E:Int) (hR:openR e.key l s a=(L,E)) (hM:L.length=M) :
  Calls Tryz.prog 82 #[.pointer (some ⟨e.x,0,none⟩),.slice A1 n1 c1,.slice A2 n2 c2,.slice A3 n3 c3] w (RetEB e (N+1) (F+1) M L E w):=by
 obtain ⟨p,f,hi,hf,hz⟩:=h
 rw [←hi.x]
 refine (gopen_r p N f A1 A2 A3 n1 c1 n2 c2 n3 c3 l s a w hz hn (by omega) h1 h2 h3 m2 m3 (fun h0=>by rw [hi.same];exact away_of (a1 h0)) (fun h0=>by rw [hi.same];exact away_of (a2 h0)) (fun h0=>by rw [hi.same];exact away_of (a3 h0)) hn2 hn3).mono fun r w' hr=>?_
 obtain ⟨A,c,he,ho,hoff,hz'⟩:=hr.to _ M L E rfl (by rw [hi.key];exact hR) hM
 exact ⟨A,c,he,ho,by rw [←hi.same];exact ⟨hoff.os,hoff.tape,hoff.output,hoff.size,hoff.block⟩,p,_,hi,by split <;> omega,hz'⟩
section
variable {v w w':World} {base x c N F N' F' n d M:Nat} {A B:Option Addr} {es:Ens} {e0:EB×Int} {l L:List UInt8} {E:Int} {r:Ending} {S:List Nat}
theorem Rn.parted (h:Rn base w x A c es N F):∀ a∈es,∀ b∈es,a=b∨a.1.H≤b.1.L∨b.1.H≤a.1.L:=fun a ha b hb=>by
 obtain ⟨i,hi,rfl⟩:=List.getElem_of_mem ha
 obtain ⟨j,hj,rfl⟩:=List.getElem_of_mem hb
 have hp:=List.pairwise_iff_getElem.1 h.pw
 rcases Nat.lt_trichotomy i j with hl | hl | hl
 ·exact .inr (.inl (hp i j hi hj hl))
 ·subst hl;exact .inl rfl
 ·exact .inr (.inr (hp j i hj hi hl))
theorem EB.Ok.not_in {e:EB} {g:Nat} (h:e.Ok N F w) (ho:e.out g):g∉e.S:=fun hm=>by
 have:=h.in_ g hm
 unfold EB.out at ho
 omega
theorem Rn.call (h:Rn base w x A c es N F) (h0:e0∈es) (ho:Oth e0.1.S w w') (hk:e0.1.Ok N' F' w') (hn:N≤N') (hf:F≤F'):Rn base w' x A c es N' F':=by
 obtain ⟨k1,k2,k3,k4,k5⟩:=h.ok e0 h0
 refine ⟨h.blk.oth ho (k1.not_in k4),h.grd.oth ho (fun g hg=>k1.not_in (k5 g hg)),fun e he=>⟨?_,(h.ok e he).2⟩,h.pw,h.low⟩
 rcases h.parted e he e0 h0 with rfl | hd
 ·exact hk
 ·exact ((h.ok e he).1.off ho (fun g hg=>by
   have:=k1.in_ g hg
   unfold EB.out
   omega)).up hn hf
structure BX (v:World) (x:Nat) (A:Option Addr) (c:Nat) (es:Ens) (N F:Nat) (rows:List (Option Addr×Nat×Nat×List UInt8)) (w:World):Prop where
 bel:Below v.heap.size v w
 rn:Rn v.heap.size w x A c es N F
 row:∀ r∈rows,RB w w.heap.size r.1 r.2.1 r.2.2.2∧r.2.1≤r.2.2.1∧(0<r.2.1→∀ g∈blkO r.1,∀ e∈es,e.1.out g)
variable {rows:List (Option Addr×Nat×Nat×List UInt8)}
theorem BX.step (h:BX v x A c es N F rows w) (hb:Below w.heap.size w w'):BX v x A c es N F rows w' :=
 ⟨bel_next h.bel hb,h.rn.step hb,fun r hr=>⟨(h.row r hr).1.step hb,(h.row r hr).2⟩⟩
theorem BX.arg (h:BX v x A c es N F rows w) (hr:RB v v.heap.size B n l) (hc:n≤d):BX v x A c es N F ((B,n,d,l)::rows) w :=
 ⟨h.bel,h.rn,fun r hm=>by
  rcases List.mem_cons.1 hm with rfl | hm
  ·refine ⟨hr.step h.bel,hc,fun h0 g hg e he=>.inl ?_⟩
   obtain ⟨b,o,eb,hlt,_⟩:=hr.2 h0
   rw [show B=some ⟨b,o,none⟩ from eb] at hg
   obtain rfl:g=b:=by simpa [blkO] using hg
   exact Nat.lt_of_lt_of_le hlt (h.rn.ok e he).2.2.1
  ·exact h.row r hm⟩
theorem BX.own (h:BX v x A c es N F rows w) (hb:Below w.heap.size w w') (ho:OwnB w' w.heap.size B n d l):BX v x A c es N F ((B,n,d,l)::rows) w' :=
 ⟨bel_next h.bel hb,h.rn.step hb,fun r hm=>by
  rcases List.mem_cons.1 hm with rfl | hm
  ·exact ⟨ho.rb,ho.cap.1,fun _ g hg e he=>.inr (Nat.le_trans (h.rn.ok e he).1.le (own_lt ho g hg).1)⟩
  ·exact ⟨(h.row r hm).1.step hb,(h.row r hm).2⟩⟩
theorem BX.call (h:BX v x A c es N F rows w) (h0:e0∈es) (hr:RetEB e0.1 N' F' M L E w r w') (hn:N≤N') (hf:F≤F'):∃ B d,r=.returned (.tuple #[.slice B M d,.int .i64 E])∧BX v x A c es N' F' ((B,M,d,L)::rows) w':=by
 obtain ⟨B,d,he,ho,hoth,hok⟩:=hr
 obtain ⟨k1,k2,k3,k4,k5⟩:=h.rn.ok e0 h0
 have hlo:∀ g∈e0.1.S,v.heap.size≤g:=fun g hg=>Nat.le_trans k3 (k1.in_ g hg).1
 refine ⟨B,d,he,h.bel.trans (hoth.below hlo h.bel.size),h.rn.call h0 hoth hok hn hf,fun q hm=>?_⟩
 rcases List.mem_cons.1 hm with rfl | hm
 ·exact ⟨ho.rb,ho.cap.1,fun _ g hg e he=>.inr (Nat.le_trans (h.rn.ok e he).1.le (own_lt ho g hg).1)⟩
 ·obtain ⟨r1,r2,r3⟩:=h.row q hm
  exact ⟨r1.oth hoth (fun h0' g o eg=>k1.not_in (r3 h0' g (by rw [eg];simp [blkO]) e0 h0)),r2,r3⟩
theorem BX.not (h:BX v x A c es N F rows w) (h0:e0∈es) (hm:(B,n,d,l)∈rows):0<n→∀ g∈blkO B,g∉e0.1.S:=fun hn g hg=>(h.rn.ok e0 h0).1.not_in ((h.row _ hm).2.2 hn g hg e0 h0)
end
theorem PRe.call {N F N' F':Nat} {v w w':World} {x y c d:Nat} {s t:Rg} {G:List Nat} {A B:Option Addr} {es:Ens} {ks:List KR} {e0:EB×Int} (h:PRe N F v x y s t G w A c es B d ks) (h0:e0∈es) (ho:Oth e0.1.S w w') (hk:e0.1.Ok N' F' w') (hn:N≤N') (hf:F≤F'):PRe N' F' v x y s t G w' A c es B d ks∧Kp G w w':=by
 obtain ⟨k1,k2,k3,k4,k5⟩:=h.rn.ok e0 h0
 have hlo:∀ g∈e0.1.S,v.heap.size≤g:=fun g hg=>Nat.le_trans k3 (k1.in_ g hg).1
 refine ⟨⟨h.bel.trans (ho.below hlo h.bel.size),h.rn.call h0 ho hk hn hf,h.rs.off ho (k1.not_in (h.yo e0 h0).1) (fun g hg=>k1.not_in ((h.yo e0 h0).2 g hg)) (fun k hk2 g hg=>k1.not_in (h.ko e0 h0 k hk2 g hg)),h.ee,h.kk,h.yo,fun g hg=>⟨Nat.lt_of_lt_of_le (h.gs g hg).1 ho.size,(h.gs g hg).2⟩,h.os,h.ot,Nat.le_trans h.n1 hn,h.ko⟩,fun g hg=>ho.block g (h.gs g hg).1 (k1.not_in ((h.gs g hg).2.2.2.2.2.1 e0 h0))⟩
theorem PRe.add {N F N' F':Nat} {v w w':World} {x y c d:Nat} {s t:Rg} {G:List Nat} {A B:Option Addr} {es:Ens} {ks:List KR} (h:PRe N F v x y s t G w A c es B d ks) (k:PRe N' F' v x y s t G w' A c es B d ks) (L:List Nat) (hL:∀ g∈L,w.heap.size≤g∧g<w'.heap.size):PRe N' F' v x y s t (L++G) w' A c es B d ks:=by
 refine ⟨k.bel,k.rn,k.rs,k.ee,k.kk,k.yo,fun g hg=>?_,k.os,k.ot,k.n1,k.ko⟩
 rcases List.mem_append.1 hg with hg | hg
 ·obtain ⟨h1,h2⟩:=hL g hg
  have hx:=h.rn.blk.lt
  have hy:=h.rs.blk.lt
  refine ⟨h2,by omega,by omega,fun hm=>?_,fun hm=>?_,fun e he=>.inr (Nat.le_trans (h.rn.ok e he).1.le h1),fun r hr hm=>?_⟩
  ·have:=(h.rn.grd.lt g hm).2;omega
  ·have:=(h.rs.grd.lt g hm).2;omega
  ·have:=(own_lt (h.rs.key r hr) g hm).2;omega
 ·exact k.gs g hg
structure XD where
 A:Option Addr
 c:Nat
 es:Ens
 B:Option Addr
 d:Nat
 ks:List KR
def RowG (v:World) (G:List Nat) (w:World) (r:Option Addr×Nat×Nat×List UInt8):Prop:=RB w w.heap.size r.1 r.2.1 r.2.2.2∧r.2.1≤r.2.2.1∧(0<r.2.1→∀ g∈blkO r.1,g∈G∨g<v.heap.size)
structure TX (N F:Nat) (v:World) (x y:Nat) (s t:Rg) (D:XD) (G:List Nat) (rows:List (Option Addr×Nat×Nat×List UInt8)) (w:World):Prop where
 pr:PRe N F v x y s t G w D.A D.c D.es D.B D.d D.ks
 row:∀ r∈rows,RowG v G w r
section
variable {N F N' F':Nat} {v w w':World} {x y n c d M:Nat} {s t s' t':Rg} {D:XD} {G:List Nat} {A B:Option Addr} {rows:List (Option Addr×Nat×Nat×List UInt8)} {l L:List UInt8} {E:Int} {r:Ending} {a:Int} {e0:EB×Int}
theorem RowG.keep {q:Option Addr×Nat×Nat×List UInt8} (h:RowG v G w q) (hk:Kp G w w') (hv:∀ k,k<v.heap.size→w'.heap[k]?=w.heap[k]?) (hG:∀ g∈G,g<w'.heap.size) (hs:v.heap.size≤w'.heap.size):RowG v G w' q:=by
 obtain ⟨h1,h2,h3⟩:=h
 refine ⟨⟨h1.1,fun hn=>?_⟩,h2,h3⟩
 obtain ⟨b,o,e,hlt,hc⟩:=h1.2 hn
 have hb:=h3 hn b (by rw [show q.1=some ⟨b,o,none⟩ from e];simp [blkO])
 refine ⟨b,o,e,hb.elim (hG b) (fun k=>by omega),fun i hi=>?_⟩
 rw [←hc i hi]
 exact World.cell?_of_block (w:=w) (a:=⟨b,o+i,none⟩) (hb.elim (hk b) (hv b))
theorem PR.tx (h:PR N F v x y s t G w):∃ D,TX N F v x y s t D G [] w:=by
 obtain ⟨A,c,es,B,d,ks,h⟩:=h
 exact ⟨⟨A,c,es,B,d,ks⟩,h,fun r hr=>(by cases hr)⟩
theorem TX.out (h:TX N F v x y s t D G rows w):PR N F v x y s t G w:=⟨_,_,_,_,_,_,h.pr⟩
theorem TX.bel (h:TX N F v x y s t D G rows w):Below v.heap.size v w:=h.pr.bel
theorem TX.step (h:TX N F v x y s t D G rows w) (hb:Below w.heap.size w w'):TX N F v x y s t D G rows w' :=
 ⟨h.pr.oth (S:=[]) (Oth.of_below hb) (hb.mono h.pr.bel.size) (fun g hg=>by cases hg),fun q hq=>⟨(h.row q hq).1.step hb,(h.row q hq).2⟩⟩
theorem TX.arg (h:TX N F v x y s t D G rows w) (hr:RB v v.heap.size B n l) (hc:n≤d):TX N F v x y s t D G ((B,n,d,l)::rows) w :=
 ⟨h.pr,fun q hq=>by
  rcases List.mem_cons.1 hq with rfl | hq
  ·refine ⟨hr.step h.pr.bel,hc,fun h0 g hg=>.inr ?_⟩
   obtain ⟨b,o,eb,hlt,_⟩:=hr.2 h0
   rw [show B=some ⟨b,o,none⟩ from eb] at hg
   obtain rfl:g=b:=by simpa [blkO] using hg
   exact hlt
  ·exact h.row q hq⟩
theorem TX.own (h:TX N F v x y s t D G rows w) (hb:Below w.heap.size w w') (ho:OwnB w' w.heap.size B n d l):TX N F v x y s t D (blkO B++G) ((B,n,d,l)::rows) w' :=
 ⟨h.pr.add (h.step hb).pr (blkO B) (fun g hg=>own_lt ho g hg),fun q hq=>by
  rcases List.mem_cons.1 hq with rfl | hq
  ·exact ⟨ho.rb,ho.cap.1,fun _ g hg=>.inl (List.mem_append_left _ hg)⟩
  ·exact ⟨(h.row q hq).1.step hb,(h.row q hq).2.1,fun h0 g hg=>((h.row q hq).2.2 h0 g hg).imp (List.mem_append_right _) id⟩⟩
theorem TX.box (h:TX N F v x y s t D G rows w) (h0:e0∈D.es) (hr:RetEB e0.1 N' F' M L E w r w') (hn:N≤N') (hf:F≤F'):∃ B d,r=.returned (.tuple #[.slice B M d,.int .i64 E])∧TX N' F' v x y s t D (blkO B++G) ((B,M,d,L)::rows) w':=by
 obtain ⟨B,d,he,ho,hoth,hok⟩:=hr
 obtain ⟨hp,hk⟩:=h.pr.call h0 hoth hok hn hf
 refine ⟨B,d,he,h.pr.add hp (blkO B) (fun g hg=>own_lt ho g hg),fun q hq=>?_⟩
 rcases List.mem_cons.1 hq with rfl | hq
 ·exact ⟨ho.rb,ho.cap.1,fun _ g hg=>.inl (List.mem_append_left _ hg)⟩
 ·have z:=(h.row q hq).keep hk (fun k hlt=>(hp.bel.block k hlt).trans (h.pr.bel.block k hlt).symm) (fun g hg=>(hp.gs g hg).1) hp.bel.size
  exact ⟨z.1,z.2.1,fun h0 g hg=>(z.2.2 h0 g hg).imp (List.mem_append_right _) id⟩
theorem TX.not (h:TX N F v x y s t D G rows w) (h0:e0∈D.es) (hm:(B,n,d,l)∈rows):0<n→∀ g∈blkO B,g∉e0.1.S:=fun hn g hg=>by
 obtain ⟨k1,k2,k3,k4,k5⟩:=h.pr.rn.ok e0 h0
 rcases (h.row _ hm).2.2 hn g hg with hG | hl
 ·exact k1.not_in ((h.pr.gs g hG).2.2.2.2.2.1 e0 h0)
 ·exact fun hs=>by have:=(k1.in_ g hs).1;omega
end
end Go.Proofs.YthppjgdnibfefaaGreat
