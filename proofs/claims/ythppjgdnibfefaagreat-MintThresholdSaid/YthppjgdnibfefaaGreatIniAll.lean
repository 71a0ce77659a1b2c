/- Records (objects of several cells, known by their whole block), Initials in memory (layer 11), and what is parsed and written, in plain words. Nothing is claimed of the program here. -/
import Derived.Test.YthppjgdnibfefaaGreatHeadAll
set_option linter.unusedVariables false
set_option linter.unusedSimpArgs false
set_option maxRecDepth 100000
set_option maxHeartbeats 32000000
namespace Go.Proofs.YthppjgdnibfefaaGreat
open Go.RowKit
theorem HT.rt {T:TypeId} (h:HT T):RT T zeroH.cells:=⟨h.1,by
 have h2:=h.2
 rcases hi:Tryz.prog.info? T with _ | i
 ·rw [hi] at h2;cases h2
 ·rw [hi] at h2
  simp only [Option.map_some,Option.some.injEq,Prod.mk.injEq] at h2 ⊢
  exact ⟨h2.1,h2.2.1⟩⟩
abbrev IPl:=Pl×List UInt8×List UInt8
def zeroIP:IPl:=(zeroP,[],[])
def typ (f:UInt8):Nat:=f.toNat / 16 % 4
def chk (p:Pl):Int:=if p.1.toNat<128∨p.2.1≠1∨typ p.1≠0 then 14 else if 20<p.2.2.1.length∨20<p.2.2.2.length then 15 else 0
def tokL (l:List UInt8):Option (List UInt8×List UInt8):=if tkE l=0∧tkV l≤(l.drop (tkN l)).length then some ((l.drop (tkN l)).take (tkV l),(l.drop (tkN l)).drop (tkV l)) else none
def itk (p:Pl) (l:List UInt8):IPl×Int:=match tokL l with | none=>(zeroIP,12) | some (t,q)=>((p,t,q),0)
def iprs (l:List UInt8):IPl×Int:=if (prs l).2.2≠0 then (zeroIP,(prs l).2.2) else if chk (prs l).1≠0 then (zeroIP,chk (prs l).1) else itk (prs l).1 (prs l).2.1
def irawP (p:IPl):List UInt8:=rawP p.1++longP p.2.1++p.2.2
def ibyt (p:IPl):List UInt8×Int:=if chk p.1≠0 then ([],chk p.1) else (irawP p,0)
def madeP (to frm tok rest:List UInt8):IPl:=((192,1,to,frm),tok,rest)
def mkI (p:IPl) (z:Int):List UInt8×Int:=if 65535<z then ([],11) else if chk p.1≠0 then ([],chk p.1) else (irawP p++List.replicate (z.toNat - (irawP p).length) 0,0)
structure In where
 h:Hd
 T:Option Addr
 e:Nat
 t:List UInt8
 R:Option Addr
 g:Nat
 r:List UInt8
def In.pl (i:In):IPl:=(i.h.pl,i.t,i.r)
def In.cells (i:In):List Value:=[.int .u8 (i.h.f.toNat:Int),.int .u32 (i.h.v:Int),.slice i.h.A i.h.a.length i.h.c,.slice i.h.B i.h.b.length i.h.d,.slice i.T i.t.length i.e,.slice i.R i.r.length i.g]
def In.val (i:In):Value:=.agg i.cells.toArray
def zeroI:In:=⟨zeroH,none,0,[],none,0,[]⟩
structure In.ok (w:World) (i:In):Prop where
 h:i.h.ok w
 t:RB w w.heap.size i.T i.t.length i.t
 r:RB w w.heap.size i.R i.r.length i.r
 ct:i.t.length≤i.e∧i.e≤maxLen
 cr:i.r.length≤i.g∧i.g≤maxLen
structure In.own (w:World) (base:Nat) (i:In):Prop where
 h:i.h.own w base
 t:OwnB w base i.T i.t.length i.e i.t
 r:OwnB w base i.R i.r.length i.g i.r
def Ic (T:TypeId) (w:World) (x:Nat) (i:In):Prop:=Blk T w x i.cells
section
variable {T:TypeId} {w w':World} {x base base':Nat} {i:In} {S:List Nat}
theorem In.own.ok (k:i.own w base):i.ok w:=⟨k.h.ok,k.t.rb,k.r.rb,k.t.cap,k.r.cap⟩
theorem In.ok.step (k:i.ok w) (hb:Below w.heap.size w w'):i.ok w':=⟨k.h.step hb,k.t.step hb,k.r.step hb,k.ct,k.cr⟩
theorem In.own.step (k:i.own w base) (hb:Below w.heap.size w w'):i.own w' base:=⟨k.h.step hb,k.t.below hb,k.r.below hb⟩
theorem In.own.base_le (k:i.own w base) (hb:base'≤base):i.own w base':=⟨k.h.base_le hb,k.t.base_le hb,k.r.base_le hb⟩
theorem In.own.zero (w:World) (base:Nat):zeroI.own w base:=⟨Hd.own.zero _ _,OwnB.nil_ _ _,OwnB.nil_ _ _⟩
theorem In.own.off (k:i.own w base) (ho:Oth S w w') (hS:NoB S w):i.own w' base:=⟨k.h.off ho hS,k.t.offS ho hS,k.r.offS ho hS⟩
theorem Ic.blk (k:Ic T w x i):Blk T w x i.cells:=k
theorem Ic.c0 (k:Ic T w x i):w.cell? ⟨x,0,none⟩=some (.int .u8 (i.h.f.toNat:Int)):=k.blk.cell 0
theorem Ic.c1 (k:Ic T w x i):w.cell? ⟨x,1,none⟩=some (.int .u32 (i.h.v:Int)):=k.blk.cell 1
theorem Ic.c2 (k:Ic T w x i):w.cell? ⟨x,2,none⟩=some (.slice i.h.A i.h.a.length i.h.c):=k.blk.cell 2
theorem Ic.c3 (k:Ic T w x i):w.cell? ⟨x,3,none⟩=some (.slice i.h.B i.h.b.length i.h.d):=k.blk.cell 3
theorem Ic.c4 (k:Ic T w x i):w.cell? ⟨x,4,none⟩=some (.slice i.T i.t.length i.e):=k.blk.cell 4
theorem Ic.c5 (k:Ic T w x i):w.cell? ⟨x,5,none⟩=some (.slice i.R i.r.length i.g):=k.blk.cell 5
theorem Ic.step (k:Ic T w x i) (hb:Below w.heap.size w w'):Ic T w' x i:=k.blk.step hb
theorem Ic.oth (k:Ic T w x i) (ho:Oth S w w') (hx:x∉S):Ic T w' x i:=k.blk.oth ho hx
theorem Ic.set4 (k:Ic T w x i) (A:Option Addr) (c:Nat) (a:List UInt8):Ic T (w.setCell ⟨x,4,none⟩ (.slice A a.length c)) x { i with T:=A,e:=c,t:=a }:=k.blk.set 4 _
theorem Ic.set5 (k:Ic T w x i) (A:Option Addr) (c:Nat) (a:List UInt8):Ic T (w.setCell ⟨x,5,none⟩ (.slice A a.length c)) x { i with R:=A,g:=c,r:=a }:=k.blk.set 5 _
theorem Ic.whole (k:Ic T w x i) (j:In):Ic T (w.setCells x 0 j.cells) x j:=k.blk.puts j.cells 0 _ _
end
theorem in_ones (i:In):ones i.cells:=fun v hv=>by
 simp only [In.cells,List.mem_cons,List.not_mem_nil,or_false] at hv
 rcases hv with rfl | rfl | rfl | rfl | rfl | rfl <;> rfl
theorem rt_ini:RT 46 zeroI.cells:=⟨row_of (by kernel_rfl),by kernel_rfl⟩
theorem ex_ldI (ev:Operand→Value) (x:Operand) (d:Option Tmp) (ty:TypeId) (ps:String) (af:Array Edge) (g:Option (Nat×Bool)) (w:World):(execOp ev ⟨d,.load 46 x,ty,ps,af,g⟩).run Tryz.prog w=ldHd 46 (ev x) w:=rfl
theorem ex_ldIr (ev:Operand→Value) (x:Operand) (d:Option Tmp) (ty:TypeId) (ps:String) (af:Array Edge) (g:Option (Nat×Bool)) (w:World):(execOp ev ⟨d,.load 108 x,ty,ps,af,g⟩).run Tryz.prog w=ldHd 108 (ev x) w:=rfl
theorem ex_stI (ev:Operand→Value) (x y:Operand) (d:Option Tmp) (ty:TypeId) (ps:String) (af:Array Edge) (g:Option (Nat×Bool)) (w:World):(execOp ev ⟨d,.store 46 x y,ty,ps,af,g⟩).run Tryz.prog w=stHd 46 (ev x) (ev y) w:=rfl
theorem ex_stIr (ev:Operand→Value) (x y:Operand) (d:Option Tmp) (ty:TypeId) (ps:String) (af:Array Edge) (g:Option (Nat×Bool)) (w:World):(execOp ev ⟨d,.store 108 x y,ty,ps,af,g⟩).run Tryz.prog w=stHd 108 (ev x) (ev y) w:=rfl
theorem Ic.ld {T T':TypeId} {w:World} {x:Nat} {i:In} (k:Ic T w x i) (rt:RT T' zeroI.cells):ldHd T' (.pointer (some ⟨x,0,none⟩)) w=.ok (.value i.val) w:=ldB_m rt k.blk rfl rfl
theorem Ic.st {T T':TypeId} {w:World} {x:Nat} {i:In} (k:Ic T w x i) (rt:RT T' zeroI.cells) (j:In):stHd T' (.pointer (some ⟨x,0,none⟩)) j.val w=.ok .skip (w.setCells x 0 j.cells):=stB_m rt k.blk (in_ones j) rfl (Nat.le_refl 6)
section
variable {w:World} {ops:Array Oper} {rest:List Oper} {o:Oper} {a:Act} {Q:Exit→Act→World→Prop} {T T':TypeId}
theorem wpList_ldI (rt:RT T zeroI.cells) (hgd:o.guard=none) (x:Operand) (hop:o.op=.load T x) (g:Nat) (hx:a.eval x=.pointer (some ⟨g,0,none⟩)) (i:In) (hc:Ic T' w g i)
  (hk:wpList Tryz.prog ops Q rest (a.put o.dst i.val) w):wpList Tryz.prog ops Q (o::rest) a w:=wpList_ldB rt hgd x hop g 0 hx _ i.cells hc.blk rfl rfl hk
theorem wpList_stI (rt:RT T zeroI.cells) (hgd:o.guard=none) (x y:Operand) (hop:o.op=.store T x y) (g:Nat) (hx:a.eval x=.pointer (some ⟨g,0,none⟩)) (i i0:In) (hy:a.eval y=i.val) (hc:Ic T' w g i0)
  (hk:∀ w',Ic T' w' g i→Oth [g] w w'→w'.heap.size=w.heap.size→wpList Tryz.prog ops Q rest (a.put o.dst undef) w'):wpList Tryz.prog ops Q (o::rest) a w :=
 wpList_stB rt hgd x y hop g 0 hx i0.cells i.cells hy (in_ones i) rfl hc.blk (Nat.le_refl 6) hk
theorem wpList_boxI (hgd:o.guard=none) (T:TypeId) (x:Operand) (hop:o.op=.box T x) (i:In) (hx:a.eval x=i.val)
  (hk:∀ w' q,Ic T w' q i→Below w.heap.size w w'→w.heap.size≤q→wpList Tryz.prog ops Q rest (a.put o.dst (.pointer (some ⟨q,0,none⟩))) w'):wpList Tryz.prog ops Q (o::rest) a w:=wpList_boxB hgd T x hop i.cells hx hk
theorem wpList_newI (rt:RT T zeroI.cells) (hgd:o.guard=none) (hop:o.op=.alloc T)
  (hk:∀ w' q,Ic T w' q zeroI→Below w.heap.size w w'→w.heap.size≤q→wpList Tryz.prog ops Q rest (a.put o.dst (.pointer (some ⟨q,0,none⟩))) w'):wpList Tryz.prog ops Q (o::rest) a w:=wpList_newB rt hgd hop hk
end
def RetIn (r:IPl×Int) (w:World) (e:Ending) (w':World):Prop :=
 ∃ i:In,e=.returned (.tuple #[i.val,.int .i64 r.2])∧i.pl=r.1∧i.own w' w.heap.size∧Below w.heap.size w w'
def RetIr (r:IPl×Int) (w:World) (e:Ending) (w':World):Prop :=
 ∃ i:In,e=.returned (.tuple #[i.val,.int .i64 r.2])∧i.pl=r.1∧i.ok w'∧Below w.heap.size w w'
structure IW (v:World) (rows:List (Option Addr×Nat×Nat×List UInt8)) (is:List In) (bs:List (TypeId×Nat×In)) (w:World):Prop where
 bel:Below v.heap.size v w
 row:∀ r∈rows,RB w w.heap.size r.1 r.2.1 r.2.2.2∧r.2.1≤r.2.2.1∧r.2.2.1≤maxLen
 ini:∀ i∈is,i.ok w
 box:∀ b∈bs,Ic b.1 w b.2.1 b.2.2
section
variable {v w w' w2 w3:World} {rows:List (Option Addr×Nat×Nat×List UInt8)} {is:List In} {bs:List (TypeId×Nat×In)} {n c base x:Nat} {A:Option Addr} {l:List UInt8} {e:Ending} {T:TypeId} {i:In}
theorem IW.step (k:IW v rows is bs w) (hb:Below w.heap.size w w'):IW v rows is bs w' :=
 ⟨bel_next k.bel hb,fun r hr=>⟨(k.row r hr).1.step hb,(k.row r hr).2⟩,fun i hi=>(k.ini i hi).step hb,fun b hm=>(k.box b hm).step hb⟩
theorem IW.add (k:IW v rows is bs w) (hr:RB w w.heap.size A n l) (h1:n≤c) (h2:c≤maxLen):IW v ((A,n,c,l)::rows) is bs w :=
 ⟨k.bel,fun r hm=>by rcases List.mem_cons.1 hm with rfl | hm;exact ⟨hr,h1,h2⟩;exact k.row r hm,k.ini,k.box⟩
theorem IW.own (k:IW v rows is bs w) (hb:Below w.heap.size w w') (ho:OwnB w' base A n c l):IW v ((A,n,c,l)::rows) is bs w':=(k.step hb).add ho.rb ho.cap.1 ho.cap.2
theorem IW.lit (k:IW v rows is bs w) (l:List UInt8) (cs:Array Value) (n:Nat) (hc:cs=(bvs l).toArray) (hn:l.length=n) (hm:n≤maxLen):IW v ((some ⟨w.heap.size,0,none⟩,n,n,l)::rows) is bs (w.alloc (.cells cs 5)) :=
 (k.step (below_alloc _ _)).add (RB.lit w l cs n _ hc hn rfl) (Nat.le_refl _) hm
theorem IW.addi (k:IW v rows is bs w) (hh:i.ok w):IW v rows (i::is) bs w :=
 ⟨k.bel,k.row,fun g hm=>by rcases List.mem_cons.1 hm with rfl | hm;exact hh;exact k.ini g hm,k.box⟩
theorem IW.ret {r:IPl×Int} (k:IW v rows is bs w) (q:RetIn r w e w'):∃ i:In,e=.returned (.tuple #[i.val,.int .i64 r.2])∧i.pl=r.1∧i.own w' w.heap.size∧IW v rows (i::is) bs w':=by
 obtain ⟨i,he,hp,ho,hb⟩:=q
 exact ⟨i,he,hp,ho,(k.step hb).addi ho.ok⟩
theorem IW.var (k:IW v rows is bs w) (hb:Below w.heap.size w w2) (hx:w.heap.size≤x) (hc:Ic T w3 x i) (ho:Oth [x] w2 w3):IW v rows is ((T,x,i)::bs) w3:=by
 have k':=k.step (hb.trans (ho.below (fun j hj=>by rw [List.mem_singleton.1 hj];exact hx) hb.size))
 exact ⟨k'.bel,k'.row,k'.ini,fun b hm=>by rcases List.mem_cons.1 hm with rfl | hm;exact hc;exact k'.box b hm⟩
theorem IW.start (w:World):IW w [] [] [] w:=⟨Below.refl _ _,fun r hr=>(by cases hr),fun r hr=>(by cases hr),fun r hr=>(by cases hr)⟩
theorem IW.part (k:IW v rows is bs w) (hi:i∈is):IW v ((i.h.A,i.h.a.length,i.h.c,i.h.a)::(i.h.B,i.h.b.length,i.h.d,i.h.b)::(i.T,i.t.length,i.e,i.t)::(i.R,i.r.length,i.g,i.r)::rows) is bs w:=by
 have q:=k.ini i hi
 exact (((k.add q.r q.cr.1 q.cr.2).add q.t q.ct.1 q.ct.2).add q.h.b q.h.cb.1 q.h.cb.2).add q.h.a q.h.ca.1 q.h.ca.2
end
end Go.Proofs.YthppjgdnibfefaaGreat
namespace Go.Proofs.YthppjgdnibfefaaGreat
open Go.RowKit
theorem shr_and (x:UInt8):bits .and .u8 ((x.toNat:Int) / 16) 3=((typ x:Nat):Int):=each_b (fun x=>bits .and .u8 ((x.toNat:Int) / 16) 3=((typ x:Nat):Int)) (by decide +kernel) x
theorem typ_any (f:UInt8) (w:World) :
  Calls Tryz.prog 57 #[.int .u8 (f.toNat:Int)] w fun e w'=>e=.returned (.int .i64 (typ f:Int))∧w=w':=by
 have h:=shr_and f
 have ht:typ f<4:=Nat.mod_lt _ (by decide)
 have hf:=f.toNat_lt
 go_enter Tryz.func57,Tryz.ntmps57
 go_wp2_with fail
 go_ret
 exact ⟨rfl,rfl⟩
end Go.Proofs.YthppjgdnibfefaaGreat
namespace Go.Proofs.YthppjgdnibfefaaGreat
open Go.RowKit
def inOf (h:Hd):In:=⟨h,none,0,[],none,0,[]⟩
structure IP (v:World) (q:Nat) (h:Hd) (A:Option Addr) (n c:Nat) (l:List UInt8) (w:World):Prop where
 bel:Below v.heap.size v w
 lq:v.heap.size≤q
 hq:Ic 46 w q zeroI
 own:h.own w v.heap.size
 r:OwnB w v.heap.size A n c l
structure IK (v:World) (q p x:Nat) (i:In) (s:Int×List UInt8) (w:World):Prop where
 bel:Below v.heap.size v w
 lq:v.heap.size≤q
 lp:v.heap.size≤p
 lx:v.heap.size≤x
 qp:q≠p
 hq:Ic 46 w q zeroI
 hp:Ic 46 w p i
 rd:RdR w x s
 own:i.own w v.heap.size
theorem Blk.ne2 {T T':TypeId} {w:World} {x y:Nat} {cs:List Value} {a b:Value} (k:Blk T w x cs) (t:Two T' w y a b) (hT:T≠T'):x≠y:=fun e=>by
 subst e
 have e:=(show w.heap[x]?=_ from k).symm.trans t
 injection e with e
 injection e with _ e
 exact hT e
section
variable {v w w' w2 w3:World} {q p x n c:Nat} {h:Hd} {i i':In} {s s':Int×List UInt8} {A:Option Addr} {l:List UInt8}
theorem IP.step (k:IP v q h A n c l w) (hb:Below w.heap.size w w'):IP v q h A n c l w':=⟨bel_next k.bel hb,k.lq,k.hq.step hb,k.own.step hb,k.r.below hb⟩
theorem IP.var (k:IP v q h A n c l w) (hb:Below w.heap.size w w2) (hx:w.heap.size≤x) (ho:Oth [x] w2 w3):IP v q h A n c l w3:=k.step (hb.trans (ho.below (fun j hj=>by rw [List.mem_singleton.1 hj];exact hx) hb.size))
theorem IK.qx (k:IK v q p x i s w):q≠x:=by obtain ⟨A,n,c,t,_⟩:=k.rd;exact k.hq.blk.ne2 t (by decide)
theorem IK.px (k:IK v q p x i s w):p≠x:=by obtain ⟨A,n,c,t,_⟩:=k.rd;exact k.hp.blk.ne2 t (by decide)
theorem IK.call (k:IK v q p x i s w) (ho:Oth [x] w w') (hr:RdR w' x s'):IK v q p x i s' w' :=
 ⟨k.bel.trans (ho.below (fun j hj=>by rw [List.mem_singleton.1 hj];exact k.lx) k.bel.size),k.lq,k.lp,k.lx,k.qp,k.hq.oth ho (by simpa using k.qx),k.hp.oth ho (by simpa using k.px),hr,k.own.off ho k.rd.nob⟩
theorem IK.put (k:IK v q p x i s w) (j:Nat) (u:Value) (hh:Ic 46 (w.setCell ⟨p,j,none⟩ u) p i') (ho:In.own (w.setCell ⟨p,j,none⟩ u) v.heap.size i'):IK v q p x i' s (w.setCell ⟨p,j,none⟩ u):=by
 have hO:Oth [p] w (w.setCell ⟨p,j,none⟩ u):=(Oth.refl [p] w).set (x:=p) (by simp) j u
 exact ⟨k.bel.trans (hO.below (fun j hj=>by rw [List.mem_singleton.1 hj];exact k.lp) k.bel.size),k.lq,k.lp,k.lx,k.qp,k.hq.oth hO (by simpa using k.qp),hh,k.rd.off hO (by simpa using k.px.symm) (k.hp.blk.nob (by decide)),ho⟩
theorem IK.offs (k:IK v q p x i s w) (j:Nat) (u:Value):Oth [p] w (w.setCell ⟨p,j,none⟩ u)∧NoB [p] w:=⟨(Oth.refl [p] w).set (x:=p) (by simp) j u,k.hp.blk.nob (by decide)⟩
theorem IK.put4 (k:IK v q p x i s w) (r:OwnB w v.heap.size A n c l):IK v q p x { i with T:=A,e:=c,t:=l } s (w.setCell ⟨p,4,none⟩ (.slice A n c)):=by
 have hl:=r.len
 subst hl
 have ⟨hO,hN⟩:=k.offs 4 (.slice A l.length c)
 exact k.put 4 _ (k.hp.set4 A c l) ⟨k.own.h.off hO hN,r.offS hO hN,k.own.r.offS hO hN⟩
theorem IK.put5 (k:IK v q p x i s w) (r:OwnB w v.heap.size A n c l):IK v q p x { i with R:=A,g:=c,r:=l } s (w.setCell ⟨p,5,none⟩ (.slice A n c)):=by
 have hl:=r.len
 subst hl
 have ⟨hO,hN⟩:=k.offs 5 (.slice A l.length c)
 exact k.put 5 _ (k.hp.set5 A c l) ⟨k.own.h.off hO hN,k.own.t.offS hO hN,r.offS hO hN⟩
end
def RetInD (r:IPl×Int) (w:World) (e:Ending) (w':World):Prop :=
 ∃ i:In,e=.returned (.tuple #[i.val,.int .i64 r.2])∧i.pl=r.1∧i.own w' w.heap.size∧Below w.heap.size w w'∧∀ g∈blkO i.T,g∉blkO i.R
attribute [local irreducible] prs longS restS chk
end Go.Proofs.YthppjgdnibfefaaGreat
namespace Go.Proofs.YthppjgdnibfefaaGreat
open Go.RowKit
attribute [local go_sem ↓] ex_ldHd ex_stHd ex_ldHr ex_stHr ex_ldI ex_ldIr ex_stI ex_stIr
structure IQ (v:World) (q y:Nat) (h:Hd) (A:Option Addr) (n c:Nat) (l:List UInt8) (w:World):Prop where
 bel:Below v.heap.size v w
 lq:v.heap.size≤q
 qy:q≠y
 hq:Ic 108 w q zeroI
 hd:Hc 106 w y h
 own:h.own w v.heap.size
 r:OwnB w v.heap.size A n c l
theorem IQ.step {v w w':World} {q y n c:Nat} {h:Hd} {A:Option Addr} {l:List UInt8} (k:IQ v q y h A n c l w) (hb:Below w.heap.size w w'):IQ v q y h A n c l w':=⟨bel_next k.bel hb,k.lq,k.qy,k.hq.step hb,k.hd.step hb,k.own.step hb,k.r.below hb⟩
attribute [local irreducible] prs chk tkV tkN tkE
end Go.Proofs.YthppjgdnibfefaaGreat
namespace Go.Proofs.YthppjgdnibfefaaGreat
open Go.RowKit
attribute [local go_sem ↓] ex_ldHd ex_stHd ex_ldHr ex_stHr ex_ldI ex_ldIr ex_stI ex_stIr
end Go.Proofs.YthppjgdnibfefaaGreat
