import Derived.Test.YthppjgdnibfefaaGreatMiP
import Derived.Test.YthppjgdnibfefaaGreatTkO
set_option linter.all false
set_option maxRecDepth 100000
set_option maxHeartbeats 32000000
namespace Go.Proofs.YthppjgdnibfefaaGreat
open Tryz
open Go.RowKit
def Pn.cells (p:Pn):List Value:=[.int .i64 p.m,.bool p.sh,.int .i64 p.t,.int .u64 (p.life:Int)]
def Pn.val (p:Pn):Value:=.agg p.cells.toArray
def zPn:Pn:=⟨0,false,0,0⟩
theorem pn_ones (p:Pn):ones p.cells:=fun v hv=>by
 simp only [Pn.cells,List.mem_cons,List.not_mem_nil,or_false] at hv
 rcases hv with rfl | rfl | rfl | rfl <;> rfl
theorem ApX:RT 24 zPn.cells:=⟨AsJ (by kernel_rfl),by kernel_rfl⟩
theorem BiJ:RT 35 zPn.cells:=⟨AsJ (by kernel_rfl),by kernel_rfl⟩
def AgW (k:Ms) (x:Nat):List Value:=[.int .i64 k.p.m,.bool k.p.sh,.int .i64 k.p.t,.int .u64 (k.p.life:Int),.int .i64 k.n,.int .i64 k.l,.pointer (some ⟨x,0,none⟩),.int .i64 k.f,.int .i64 k.m,.int .i64 k.d]
def AhV (k:Ms) (y:Nat):List Value:=[.int .i64 k.p.m,.bool k.p.sh,.int .i64 k.p.t,.int .u64 (k.p.life:Int),.pointer (some ⟨y,0,none⟩),.int .i64 k.n,.int .i64 k.l,.int .i64 k.f,.int .i64 k.m,.int .i64 k.d]
def ocC (o:Oc) (A:YA) (c:Nat):List Value:=[.int .i64 o.k,.bool o.c,.int .i64 o.e,.slice A o.b.length c,.int .i64 o.u]
def ocV (o:Oc) (A:YA) (c:Nat):Value:=.agg (ocC o A c).toArray
def zOc:List Value:=[.int .i64 0,.bool false,.int .i64 0,.slice none 0 0,.int .i64 0]
theorem EsW (o:Oc) (A:YA) (c:Nat):ones (ocC o A c):=fun v hv=>by
 simp only [ocC,List.mem_cons,List.not_mem_nil,or_false] at hv
 rcases hv with rfl | rfl | rfl | rfl | rfl <;> rfl
theorem AbW:RT 73 zOc:=⟨AsJ (by kernel_rfl),by kernel_rfl⟩
theorem AbY:RT 104 zOc:=⟨AsJ (by kernel_rfl),by kernel_rfl⟩
def Ms.few (k:Ms) (K:Int):Prop:=(0≤k.n∧k.n≤K)∧(0≤k.l∧k.l≤K)∧(0≤k.f∧k.f≤K)∧(0≤k.m∧k.m≤K)∧(0≤k.d∧k.d≤K)
theorem Ms.few.more {k:Ms} {K K':Int} (h:k.few K) (hK:K≤K'):k.few K':=by unfold Ms.few at h ⊢;omega
theorem EyK (p:Pn):(newM p).few 0:=by unfold Ms.few newM;simp
theorem AhX {k:Ms} {K:Int} (h:k.few K):(AbK k).few (K+1):=by unfold Ms.few AbK at *;dsimp only at *;omega
theorem AkJ {k:Ms} {K:Int} (o:Oc) (h:k.few K):(cntM k o).few (K+1):=by
 unfold Ms.few cntM at *
 dsimp only at *
 refine ⟨by omega,by omega,?_,?_,?_⟩ <;> split <;> omega
theorem few_tick {k:Ms} {K:Int} (h:k.few K):(AuK k).few K:=by unfold Ms.few AuK at *;dsimp only at *;omega
theorem EyJ {k:Ms} {K:Int} (p:Pn) (h:k.few K):(setM k p).1.few K:=by
 unfold setM
 split
 ·exact h
 ·exact h
theorem few_s {k:Ms} {K:Int} (s:Rg) (h:k.few K):({ k with s:=s }:Ms).few K:=h
structure Cm where
 t:Int
 q:Int
 p:Pn
 A:Option Addr
 a:Nat
 cl:List UInt8
 B:Option Addr
 b:Nat
 rl:List UInt8
 i:In
 now:Nat
def Cm.cells (k:Cm):List Value:=[.int .i64 k.t,.int .i64 k.q,.int .i64 k.p.m,.bool k.p.sh,.int .i64 k.p.t,.int .u64 (k.p.life:Int),.slice k.A k.cl.length k.a,.slice k.B k.rl.length k.b,.int .u8 (k.i.h.f.toNat:Int),.int .u32 (k.i.h.v:Int),.slice k.i.h.A k.i.h.a.length k.i.h.c,.slice k.i.h.B k.i.h.b.length k.i.h.d,.slice k.i.T k.i.t.length k.i.e,.slice k.i.R k.i.r.length k.i.g,.int .u64 (k.now:Int)]
def Cm.val (k:Cm):Value:=.agg k.cells.toArray
def zCm:List Value:=[.int .i64 0,.int .i64 0,.int .i64 0,.bool false,.int .i64 0,.int .u64 0,.slice none 0 0,.slice none 0 0,.int .u8 0,.int .u32 0,.slice none 0 0,.slice none 0 0,.slice none 0 0,.slice none 0 0,.int .u64 0]
theorem cm_ones (k:Cm):ones k.cells:=fun v hv=>by
 simp only [Cm.cells,List.mem_cons,List.not_mem_nil,or_false] at hv
 rcases hv with rfl | rfl | rfl | rfl | rfl | rfl | rfl | rfl | rfl | rfl | rfl | rfl | rfl | rfl | rfl <;> rfl
theorem AsY:RT 48 zCm:=⟨AsJ (by kernel_rfl),by kernel_rfl⟩
structure Cm.ok (k:Cm) (w:World):Prop where
 c:RB w w.heap.size k.A k.cl.length k.cl
 r:RB w w.heap.size k.B k.rl.length k.rl
 cc:k.cl.length≤k.a∧k.a≤maxLen
 cr:k.rl.length≤k.b∧k.b≤maxLen
 i:k.i.ok w
 now:k.now<2 ^ 64
 life:k.p.life<2 ^ 64
theorem Cm.ok.step {k:Cm} {w w':World} (h:k.ok w) (hb:Below w.heap.size w w'):k.ok w':=⟨h.c.step hb,h.r.step hb,h.cc,h.cr,h.i.step hb,h.now,h.life⟩
structure Cm.sm (k:Cm):Prop where
 c:k.cl.length≤100
 r:k.rl.length≤100
 a:k.i.h.a.length≤100
 b:k.i.h.b.length≤100
 t:k.i.t.length≤300
 i:k.i.r.length≤100
def doM (k:Ms) (c:Cm):Ms :=
 if c.t=0 then (DzJ k c.cl c.i.pl c.now c.rl).1 else if c.t=1 then AuK k else if c.t=2 then (setM k c.p).1
 else if c.t=3 then { k with s:=(AlJ k.s c.q c.rl).1 } else if c.t=4 then { k with s:=(retR k.s c.q).1 } else k
def upM (p:Pn) (ks:List Cm) (i:Nat):Ms:=(ks.take i).foldl doM (newM p)
theorem BvQ {p:Pn} {ks:List Cm} {i:Nat} {k:Cm} (h:ks[i]?=some k):upM p ks (i+1)=doM (upM p ks i) k:=by
 unfold upM
 rw [List.take_add_one,h]
 simp
theorem few_do {k:Ms} {K:Int} (c:Cm) (h:k.few K):(doM k c).few (K+2):=by
 unfold doM DzJ
 split
 ·exact (AkJ _ (AhX h)).more (by omega)
 ·split
  ·exact (few_tick h).more (by omega)
  ·split
   ·exact (EyJ _ h).more (by omega)
   ·split
    ·exact Ms.few.more (k:={ k with s:=(AlJ k.s c.q c.rl).1 }) h (by omega)
    ·split
     ·exact Ms.few.more (k:={ k with s:=(retR k.s c.q).1 }) h (by omega)
     ·exact h.more (by omega)
theorem BnY (p:Pn) (ks:List Cm):∀ i:Nat,(upM p ks i).few (2*(i:Int))
 | 0=>EyK p
 | i+1=>by
  rcases e:ks[i]? with _ | k
  ·have:upM p ks (i+1)=upM p ks i:=by unfold upM;rw [List.take_add_one,e];simp
   rw [this];exact (BnY p ks i).more (by omega)
  ·rw [BvQ e]
   exact (few_do k (BnY p ks i)).more (by omega)
def CMs (w:World) (A:YA) (n:Nat) (ks:List Cm):Prop :=
 ks.length=n∧(∀ k∈ks,k.ok w)∧(0<n→∃ b o,A=some ⟨b,o,none⟩∧b<w.heap.size∧∀ (i:Nat) k,ks[i]?=some k→w.rangeAt b (o+i*15) k.cells)
theorem CMs.step {w w':World} {A:YA} {n:Nat} {ks:List Cm} (h:CMs w A n ks) (hb:Below w.heap.size w w'):CMs w' A n ks :=
 ⟨h.1,fun k hk=>(h.2.1 k hk).step hb,fun hn=>by
  obtain ⟨b,o,a1,a2,a3⟩:=h.2.2 hn
  exact ⟨b,o,a1,Nat.lt_of_lt_of_le a2 hb.size,fun i k hk j v hv=>by
   have z:=a3 i k hk j v hv
   exact (hb.cell (p:=⟨b,o+i*15+j,none⟩) a2).trans z⟩⟩
theorem CMs.at_ {w:World} {A:YA} {n:Nat} {ks:List Cm} {i:Nat} (h:CMs w A n ks) (hi:i<n):∃ b o k,A=some ⟨b,o,none⟩∧ks[i]?=some k∧k∈ks∧k.ok w∧w.rangeAt b (o+i*15) k.cells:=by
 obtain ⟨b,o,e,_,hc⟩:=h.2.2 (by omega)
 have hl:i<ks.length:=by rw [h.1];exact hi
 have hk:ks[i]?=some ks[i]:=List.getElem?_eq_getElem hl
 exact ⟨b,o,ks[i],e,hk,List.getElem_mem hl,h.2.1 _ (List.getElem_mem hl),hc i _ hk⟩
theorem CMs.lit (w:World) (k:Cm) (hk:k.ok w) (cs:Array Value) (hc:cs=k.cells.toArray) (T:TypeId):CMs (w.alloc (.cells cs T)) (some ⟨w.heap.size,0,none⟩) 1 [k]:=by
 refine ⟨rfl,fun q hq=>?_,fun _=>⟨w.heap.size,0,rfl,by simp,fun i q hq j v hv=>?_⟩⟩
 ·rw [List.mem_singleton.1 hq]
  exact hk.step (AaK _ _)
 ·match i with
  | 0 =>
   simp only [List.getElem?_cons_zero,Option.some.injEq] at hq;subst hq;have b:Blk T (w.alloc (.cells cs T)) w.heap.size k.cells:=by rw [hc];exact Blk.new w T _ _ rfl
   simp only [Nat.zero_mul,Nat.zero_add];rw [b.cell]
   exact hv
  | i+1=>simp at hq
def esS (es:Ens):List Nat:=es.flatMap (·.1.S)
theorem CoZ {es:Ens} {g:Nat}:g∈esS es ↔ ∃ e∈es,g∈e.1.S:=List.mem_flatMap
structure RetBx (es:Ens) (N F:Nat) (w w':World):Prop where
 oth:Oth (esS es) w w'
 ok:∀ e∈es,e.1.Ok N F w'
section
variable {base x c N F N' F' n d M:Nat} {w w1 w' v:World} {A B:YA} {es:Ens} {l L:YB} {E:Int} {r:Ending} {e0:EB×Int} {S:List Nat}
theorem Rn.out_es (h:Rn base w x A c es N F) {g:Nat} (ho:∀ e∈es,e.1.o g):g∉esS es:=fun hm=>by
 obtain ⟨e,he,hg⟩:=CoZ.1 hm
 exact (h.ok e he).1.not_in (ho e he) hg
theorem Rn.box_all (h:Rn base w x A c es N F) (k:RetBx es N' F' w w'):Rn base w' x A c es N' F' :=
 ⟨h.blk.oth k.oth (h.out_es (fun e he=>(h.ok e he).2.2.2.1)),h.grd.oth k.oth (fun g hg=>h.out_es (fun e he=>(h.ok e he).2.2.2.2 g hg)),fun e he=>⟨k.ok e he,(h.ok e he).2⟩,h.pw,h.low⟩
theorem Rn.low_es (h:Rn base w x A c es N F) {g:Nat} (hg:g∈esS es):base≤g:=by
 obtain ⟨e,he,hg⟩:=CoZ.1 hg
 exact Nat.le_trans (h.ok e he).2.2.1 ((h.ok e he).1.in_ g hg).1
theorem RetBx.trans (h:RetBx es N F w w1) (k:RetBx es N' F' w1 w'):RetBx es N' F' w w':=⟨h.oth.trans k.oth,k.ok⟩
theorem RetBx.of_below (h:Rn base w x A c es N F) (hb:Below w.heap.size w w'):RetBx es N F w w':=⟨Oth.of_below hb,fun e he=>((h.step hb).ok e he).1⟩
theorem RetBx.up (h:RetBx es N F w w') (hn:N≤N') (hf:F≤F'):RetBx es N' F' w w':=⟨h.oth,fun e he=>(h.ok e he).up hn hf⟩
theorem RetBx.of_box (h:Rn base w x A c es N F) (h0:e0∈es) (ho:Oth e0.1.S w w') (hk:e0.1.Ok N' F' w') (hn:N≤N') (hf:F≤F'):RetBx es N' F' w w' :=
 ⟨ho.more (fun g hg=>CoZ.2 ⟨e0,h0,hg⟩),fun e he=>((h.call h0 ho hk hn hf).ok e he).1⟩
structure Ra (es:Ens) (w:World) (A:YA) (n c:Nat) (l:YB):Prop where
 rb:RB w w.heap.size A n l
 cap:n≤c∧c≤maxLen
 o:0<n→∀ g∈blkO A,∀ e∈es,e.1.o g
theorem Ra.step (h:Ra es w B n d l) (hb:Below w.heap.size w w'):Ra es w' B n d l:=⟨h.rb.step hb,h.cap,h.o⟩
theorem Ra.box (h:Ra es w B n d l) (hr:Rn base w x A c es N F) (k:RetBx es N' F' w w'):Ra es w' B n d l :=
 ⟨h.rb.oth k.oth (fun hn g o e=>hr.out_es (h.o hn g (by rw [e];simp [blkO]))),h.cap,h.o⟩
theorem Ra.own (h:OwnB w' w.heap.size B n d l) (hr:Rn base w x A c es N F):Ra es w' B n d l :=
 ⟨h.rb,h.cap,fun _ g hg e he=>.inr (Nat.le_trans (hr.ok e he).1.le (BbV h g hg).1)⟩
theorem Ra.away (h:Ra es w B n d l) (hr:Rn base w x A c es N F) (hn:0<n):∀ g∈blkO B,∀ e∈es,g∉e.1.S:=fun g hg e he=>(hr.ok e he).1.not_in (h.o hn g hg e he)
theorem Ra.arg (h:RB v v.heap.size B n l) (hc:n≤d∧d≤maxLen) (hv:Below v.heap.size v w) (hr:Rn v.heap.size w x A c es N F):Ra es w B n d l :=
 ⟨h.step hv,hc,fun hn g hg e he=>.inl (by
  obtain ⟨b,o,eb,hlt,_⟩:=h.2 hn
  rw [show B=some ⟨b,o,none⟩ from eb] at hg
  rw [show g=b by simpa [blkO] using hg]
  exact Nat.lt_of_lt_of_le hlt (hr.ok e he).2.2.1)⟩
theorem Ra.cut (h:Ra es w B n d l) {B':YA} {n' d':Nat} {l':YB} (hr:RB w w.heap.size B' n' l') (hc:n'≤d'∧d'≤maxLen) (hb:0<n'→0<n∧∀ g∈blkO B',g∈blkO B):Ra es w B' n' d' l' :=
 ⟨hr,hc,fun hn g hg e he=>h.o (hb hn).1 g ((hb hn).2 g hg) e he⟩
structure In.aw (i:In) (es:Ens) (w:World):Prop where
 a:Ra es w i.h.A i.h.a.length i.h.c i.h.a
 b:Ra es w i.h.B i.h.b.length i.h.d i.h.b
 t:Ra es w i.T i.t.length i.e i.t
 r:Ra es w i.R i.r.length i.g i.r
 v32:i.h.v≤4294967295
theorem In.aw.arg {i:In} (h:i.ok v) (hv:Below v.heap.size v w) (hr:Rn v.heap.size w x A c es N F):i.aw es w :=
 ⟨Ra.arg h.h.a h.h.ca hv hr,Ra.arg h.h.b h.h.cb hv hr,Ra.arg h.t h.ct hv hr,Ra.arg h.r h.cr hv hr,h.h.v32⟩
structure MY (v:World) (x:Nat) (A:YA) (c:Nat) (es:Ens) (N F mi:Nat) (k:Ms) (rows:List Rw) (w:World):Prop where
 bel:Below v.heap.size v w
 rn:Rn v.heap.size w x A c es N F
 mb:Blk 71 w mi (AgW k x)
 mo:mi≠x∧mi∉blkO A∧∀ e∈es,e.1.o mi
 lo:v.heap.size≤mi
 row:∀ r∈rows,Ra es w r.1 r.2.1 r.2.2.1 r.2.2.2
 ee:rgE es=k.s
 os:okR k.s
 pr:AcX k.p=true
variable {mi:Nat} {k k':Ms} {rows rows':List Rw}
theorem MY.len (h:MY v x A c es N F mi k rows w):es.length≤16:=by
 have:=h.os.n
 rw [←h.ee,BlW] at this
 exact this
theorem MY.step (h:MY v x A c es N F mi k rows w) (hb:Below w.heap.size w w'):MY v x A c es N F mi k rows w':=⟨AaJ h.bel hb,h.rn.step hb,h.mb.step hb,h.mo,h.lo,fun r hr=>(h.row r hr).step hb,h.ee,h.os,h.pr⟩
theorem MY.box (h:MY v x A c es N F mi k rows w) (q:RetBx es N' F' w w'):MY v x A c es N' F' mi k rows w' :=
 ⟨h.bel.trans (q.oth.below (fun g hg=>h.rn.low_es hg) h.bel.size),h.rn.box_all q,h.mb.oth q.oth (h.rn.out_es h.mo.2.2),h.mo,h.lo,fun r hr=>(h.row r hr).box h.rn q,h.ee,h.os,h.pr⟩
theorem MY.own (h:MY v x A c es N F mi k rows w) (hb:Below w.heap.size w w') (ho:OwnB w' w.heap.size B n d l):MY v x A c es N F mi k ((B,n,d,l)::rows) w' :=
 ⟨AaJ h.bel hb,h.rn.step hb,h.mb.step hb,h.mo,h.lo,fun r hr=>by
  rcases List.mem_cons.1 hr with rfl | hr
  ·exact Ra.own ho h.rn
  ·exact (h.row r hr).step hb,h.ee,h.os,h.pr⟩
theorem MY.cons (h:MY v x A c es N F mi k rows w) (ho:Ra es w B n d l):MY v x A c es N F mi k ((B,n,d,l)::rows) w :=
 ⟨h.bel,h.rn,h.mb,h.mo,h.lo,fun r hr=>by
  rcases List.mem_cons.1 hr with rfl | hr
  ·exact ho
  ·exact h.row r hr,h.ee,h.os,h.pr⟩
theorem MY.sub (h:MY v x A c es N F mi k rows w) (hr:∀ r∈rows',r∈rows):MY v x A c es N F mi k rows' w:=⟨h.bel,h.rn,h.mb,h.mo,h.lo,fun q hq=>h.row q (hr q hq),h.ee,h.os,h.pr⟩
theorem MY.up (h:MY v x A c es N F mi k rows w) (hn:N≤N') (hf:F≤F'):MY v x A c es N' F' mi k rows w:=⟨h.bel,h.rn.up hn hf,h.mb,h.mo,h.lo,h.row,h.ee,h.os,h.pr⟩
theorem Blk.not_row {T:TypeId} {w:World} {x B n:Nat} {cs:List Value} {A:YA} {l:YB} (k:Blk T w x cs) (hc:∀ v∈cs,∀ u,v≠bv u) (r:RB w B A n l) (hn:0<n):∀ g o,A=some ⟨g,o,none⟩→g∉[x]:=by
 intro g o e hg
 rw [List.mem_singleton.1 hg] at e
 obtain ⟨b,o',e',_,hcell⟩:=r.2 hn
 rw [e] at e'
 injection e' with e'
 injection e' with e1 e2
 subst e1;subst e2
 have hl:0<l.length:=by rw [r.len];exact hn
 have h0:=hcell 0 hl
 rw [k.cell] at h0
 exact hc _ (List.mem_of_getElem? h0) _ rfl
theorem mint_nb (k:Ms) (x:Nat):∀ v∈AgW k x,∀ u,v≠bv u:=fun v hv u e=>by
 simp only [AgW,List.mem_cons,List.not_mem_nil,or_false] at hv
 rcases hv with rfl | rfl | rfl | rfl | rfl | rfl | rfl | rfl | rfl | rfl <;> cases e
theorem DjV (k:Ms) (x:Nat):∀ v∈AhV k x,∀ u,v≠bv u:=fun v hv u e=>by
 simp only [AhV,List.mem_cons,List.not_mem_nil,or_false] at hv
 rcases hv with rfl | rfl | rfl | rfl | rfl | rfl | rfl | rfl | rfl | rfl <;> cases e
theorem MY.put (h:MY v x A c es N F mi k rows w) (ho:Oth [mi] w w') (hb:Blk 71 w' mi (AgW k' x)) (hs:k'.s=k.s) (hp:AcX k'.p=true):MY v x A c es N F mi k' rows w' :=
 ⟨h.bel.trans (ho.below (fun g hg=>by rw [List.mem_singleton.1 hg];exact h.lo) h.bel.size),h.rn.off ho (by simpa using Ne.symm h.mo.1) (fun g hg hm=>h.mo.2.1 (by rw [←List.mem_singleton.1 hm];exact hg)) (fun e he g hg=>by rw [List.mem_singleton.1 hg];exact h.mo.2.2 e he),hb,h.mo,h.lo,fun r hr=>⟨(h.row r hr).rb.oth ho (fun hn=>h.mb.not_row (mint_nb k x) (h.row r hr).rb hn),(h.row r hr).cap,(h.row r hr).o⟩,by rw [hs];exact h.ee,by rw [hs];exact h.os,hp⟩
theorem AxK (h:MY v x A c es N F mi k rows w) (hN:N+1≤1000000000) (hF:F≤1000000000) (A1 A2:YA) (n1 c1 n2 c2:Nat) (l1 l2:YB) (h1:RB w w.heap.size A1 n1 l1) (h2:Ra es w A2 n2 c2 l2) (b1:n1≤1000) (b2:n2≤65000) (now:Nat) (T:Tk) (E:Int) (hR:AdQ k.s l1 l2 now=(T,E)) :
  Calls prog 26 #[.pointer (some ⟨x,0,none⟩),.slice A1 n1 c1,.slice A2 n2 c2,.int .u64 (now:Int)] w fun e w'=>∃ f:Fd,e=.returned (.tuple #[f.val,.int .i64 E])∧f.tk=T∧f.own w' w.heap.size∧RetBx es (N+1) (F+1) w w':=by
 have hl:=h.len
 have os:okR (rgE es):=by rw [h.ee];exact h.os
 have e2:=h2.rb.len
 have m2:=h2.cap.1
 have no:∀ E',E'≠0→((n2<29∧E'=12)∨(29≤n2∧hasR k.s (fstT l2)=false∧E'=17))→(T,E)=(zTk,E') →
   Calls prog 26 #[.pointer (some ⟨x,0,none⟩),.slice A1 n1 c1,.slice A2 n2 c2,.int .u64 (now:Int)] w fun e w'=>∃ f:Fd,e=.returned (.tuple #[f.val,.int .i64 E])∧f.tk=T∧f.own w' w.heap.size∧RetBx es (N+1) (F+1) w w':=by
  intro E' hE hs hT
  injection hT with t1 t2
  subst t1 t2
  refine (topen_no _ x A c es N F w h.rn (by omega) A1 A2 n1 c1 n2 c2 l1 l2 h1 h2.rb m2 (by omega) (by omega) now _ hE (by rw [h.ee];exact hs)).mono ?_
  rintro e w' ⟨rfl,hb⟩
  exact ⟨zeroF,rfl,rfl,Fd.own.zero _ _,(RetBx.of_below h.rn hb).up (Nat.le_succ N) (Nat.le_succ F)⟩
 by_cases hs:n2<29
 ·have hh:=hR
  unfold AdQ at hh;rw [if_pos (by omega)] at hh;exact no 12 (by decide) (.inl ⟨hs,rfl⟩) hh.symm
 cases hv:hasR k.s (fstT l2)
 ·have hh:=hR
  unfold AdQ at hh;rw [if_neg (by omega),if_pos hv] at hh;exact no 17 (by decide) (.inr ⟨by omega,hv,rfl⟩) hh.symm
 ·refine (EjJ _ x A c es N F w h.rn (by omega) A1 A2 n1 c1 n2 c2 l1 l2 h1 h2.rb m2 (by omega) (by omega) os (by omega) (by rw [h.ee];exact hv) hN hF (h2.away h.rn (by omega)) now T E (by rw [h.ee];exact hR)).mono ?_
  rintro e w' ⟨e0,hm,f,he,ht,hown,ho,hk⟩;exact ⟨f,he,ht,hown,RetBx.of_box h.rn hm ho hk (Nat.le_succ N) (Nat.le_succ F)⟩
theorem my_seal (h:MY v x A c es N F mi k rows w) (hN:N+1≤1000000000) (q:Int) (A1 A2:YA) (n1 c1 n2 c2:Nat) (l1 l2:YB) (h1:Ra es w A1 n1 c1 l1) (h2:RB w w.heap.size A2 n2 l2) (b1:n1≤1000) (b2:n2≤1000) (f:Fd) (hf:f.ok w) (M:Nat) (L:YB) (E:Int) (hR:AjZ k.s q l1 l2 f.tk=(L,E)) (hM:L.length=M) :
  Calls prog 147 #[.pointer (some ⟨x,0,none⟩),.int .i64 q,.slice A1 n1 c1,.slice A2 n2 c2,f.val] w fun e w'=>∃ B d,e=.returned (.tuple #[.slice B M d,.int .i64 E])∧OwnB w' w.heap.size B M d L∧RetBx es (N+1) F w w':=by
 have hl:=h.len
 have os:okR (rgE es):=by rw [h.ee];exact h.os
 cases hv:hasR k.s q
 ·rw [EnJ hv] at hR
  injection hR with t1 t2;subst t1 t2;subst hM;refine (tseal_no _ x A c es N F q w h.rn (by omega) (by rw [h.ee];exact hv) A1 A2 n1 c1 n2 c2 f).mono ?_;rintro e w' ⟨rfl,hb⟩;exact ⟨none,0,rfl,OwnB.nil_ _ _,(RetBx.of_below h.rn hb).up (Nat.le_succ N) (Nat.le_refl F)⟩
 ·refine (EiV _ x A c es N F q w h.rn (by omega) os (by rw [h.ee];exact hv) A1 A2 n1 c1 n2 c2 l1 l2 h1.rb h2 f hf hN b1 b2 (fun hn=>h1.away h.rn hn) M L E (by rw [h.ee];exact hR) hM).mono ?_
  rintro e w' ⟨e0,hm,B,d,he,hown,ho,hk⟩;exact ⟨B,d,he,hown,RetBx.of_box h.rn hm ho hk (Nat.le_succ N) (Nat.le_refl F)⟩
end
