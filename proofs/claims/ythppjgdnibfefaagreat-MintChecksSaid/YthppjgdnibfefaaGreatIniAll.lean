import Derived.Test.YthppjgdnibfefaaGreatHeadAll
set_option linter.all false
set_option maxRecDepth 100000
set_option maxHeartbeats 32000000
namespace Go.Proofs.YthppjgdnibfefaaGreat
open Tryz
open Go.RowKit
theorem HT.rt {T:TypeId} (h:HT T):RT T zeroH.cells:=⟨h.1,by
 have h2:=h.2
 rcases hi:prog.info? T with _ | i
 ·rw [hi] at h2;cases h2
 ·rw [hi] at h2
  simp only [Option.map_some,Option.some.injEq,Prod.mk.injEq] at h2 ⊢
  exact ⟨h2.1,h2.2.1⟩⟩
abbrev IPl:=Pl×List UInt8×List UInt8
def BkW:IPl:=(BiQ,[],[])
def typ (f:UInt8):Nat:=f.toNat / 16 % 4
def chk (p:Pl):Int:=if p.1.toNat<128∨p.2.1≠1∨typ p.1≠0 then 14 else if 20<p.2.2.1.length∨20<p.2.2.2.length then 15 else 0
structure In where
 h:Hd
 T:Option Addr
 e:Nat
 t:List UInt8
 R:Option Addr
 g:Nat
 r:List UInt8
def In.pl (i:In):IPl:=(i.h.pl,i.t,i.r)
def In.cells (i:In):List Value:=[.int .u8 (i.h.f.toNat:Int),.int .u32 (i.h.v:Int),.slice i.h.A i.h.a.length i.h.c,.slice i.h.B i.h.b.length i.h.d,.slice i.T i.t.length i.e,.slice i.R i.r.length i.g]
def In.val (i:In):Value:=.agg i.cells.toArray
def zeroI:In:=⟨zeroH,none,0,[],none,0,[]⟩
structure In.ok (w:World) (i:In):Prop where
 h:i.h.ok w
 t:RB w w.heap.size i.T i.t.length i.t
 r:RB w w.heap.size i.R i.r.length i.r
 ct:i.t.length≤i.e∧i.e≤maxLen
 cr:i.r.length≤i.g∧i.g≤maxLen
structure In.own (w:World) (base:Nat) (i:In):Prop where
 h:i.h.own w base
 t:OwnB w base i.T i.t.length i.e i.t
 r:OwnB w base i.R i.r.length i.g i.r
def Ic (T:TypeId) (w:World) (x:Nat) (i:In):Prop:=Blk T w x i.cells
section
variable {T:TypeId} {w w':World} {x base base':Nat} {i:In} {S:List Nat}
theorem In.own.ok (k:i.own w base):i.ok w:=⟨k.h.ok,k.t.rb,k.r.rb,k.t.cap,k.r.cap⟩
theorem In.ok.step (k:i.ok w) (hb:Below w.heap.size w w'):i.ok w':=⟨k.h.step hb,k.t.step hb,k.r.step hb,k.ct,k.cr⟩
theorem In.own.step (k:i.own w base) (hb:Below w.heap.size w w'):i.own w' base:=⟨k.h.step hb,k.t.below hb,k.r.below hb⟩
theorem In.own.zero (w:World) (base:Nat):zeroI.own w base:=⟨Hd.own.zero _ _,OwnB.nil_ _ _,OwnB.nil_ _ _⟩
theorem In.own.off (k:i.own w base) (ho:Oth S w w') (hS:NoB S w):i.own w' base:=⟨k.h.off ho hS,k.t.offS ho hS,k.r.offS ho hS⟩
theorem Ic.blk (k:Ic T w x i):Blk T w x i.cells:=k
theorem Ic.c0 (k:Ic T w x i):w.cell? ⟨x,0,none⟩=some (.int .u8 (i.h.f.toNat:Int)):=k.blk.cell 0
theorem Ic.c1 (k:Ic T w x i):w.cell? ⟨x,1,none⟩=some (.int .u32 (i.h.v:Int)):=k.blk.cell 1
theorem Ic.c2 (k:Ic T w x i):w.cell? ⟨x,2,none⟩=some (.slice i.h.A i.h.a.length i.h.c):=k.blk.cell 2
theorem Ic.c3 (k:Ic T w x i):w.cell? ⟨x,3,none⟩=some (.slice i.h.B i.h.b.length i.h.d):=k.blk.cell 3
theorem Ic.c4 (k:Ic T w x i):w.cell? ⟨x,4,none⟩=some (.slice i.T i.t.length i.e):=k.blk.cell 4
theorem Ic.c5 (k:Ic T w x i):w.cell? ⟨x,5,none⟩=some (.slice i.R i.r.length i.g):=k.blk.cell 5
theorem Ic.step (k:Ic T w x i) (hb:Below w.heap.size w w'):Ic T w' x i:=k.blk.step hb
theorem Ic.oth (k:Ic T w x i) (ho:Oth S w w') (hx:x∉S):Ic T w' x i:=k.blk.oth ho hx
theorem Ic.set4 (k:Ic T w x i) (A:YA) (c:Nat) (a:YB):Ic T (w.setCell ⟨x,4,none⟩ (.slice A a.length c)) x { i with T:=A,e:=c,t:=a }:=k.blk.set 4 _
theorem Ic.set5 (k:Ic T w x i) (A:YA) (c:Nat) (a:YB):Ic T (w.setCell ⟨x,5,none⟩ (.slice A a.length c)) x { i with R:=A,g:=c,r:=a }:=k.blk.set 5 _
theorem Ic.whole (k:Ic T w x i) (j:In):Ic T (w.setCells x 0 j.cells) x j:=k.blk.puts j.cells 0 _ _
end
theorem EvZ (i:In):ones i.cells:=fun v hv=>by
 simp only [In.cells,List.mem_cons,List.not_mem_nil,or_false] at hv
 rcases hv with rfl | rfl | rfl | rfl | rfl | rfl <;> rfl
theorem AoW:RT 46 zeroI.cells:=⟨AsJ (by kernel_rfl),by kernel_rfl⟩
theorem BuJ:RT 108 zeroI.cells:=⟨AsJ (by kernel_rfl),by kernel_rfl⟩
theorem BnZ (ev:Operand→Value) (x:Operand) (d:Option Tmp) (ty:TypeId) (ps:String) (af:Array Edge) (g:Option (Nat×Bool)) (w:World):(execOp ev ⟨d,.load 46 x,ty,ps,af,g⟩).run prog w=ldHd 46 (ev x) w:=rfl
theorem BsX (ev:Operand→Value) (x:Operand) (d:Option Tmp) (ty:TypeId) (ps:String) (af:Array Edge) (g:Option (Nat×Bool)) (w:World):(execOp ev ⟨d,.load 108 x,ty,ps,af,g⟩).run prog w=ldHd 108 (ev x) w:=rfl
theorem ex_stI (ev:Operand→Value) (x y:Operand) (d:Option Tmp) (ty:TypeId) (ps:String) (af:Array Edge) (g:Option (Nat×Bool)) (w:World):(execOp ev ⟨d,.store 46 x y,ty,ps,af,g⟩).run prog w=stHd 46 (ev x) (ev y) w:=rfl
theorem EyV (ev:Operand→Value) (x y:Operand) (d:Option Tmp) (ty:TypeId) (ps:String) (af:Array Edge) (g:Option (Nat×Bool)) (w:World):(execOp ev ⟨d,.store 108 x y,ty,ps,af,g⟩).run prog w=stHd 108 (ev x) (ev y) w:=rfl
theorem Ic.ld {T T':TypeId} {w:World} {x:Nat} {i:In} (k:Ic T w x i) (rt:RT T' zeroI.cells):ldHd T' (.pointer (some ⟨x,0,none⟩)) w=.ok (.value i.val) w:=CgK rt k.blk rfl rfl
theorem Ic.ldh {T T':TypeId} {w:World} {x:Nat} {i:In} (k:Ic T w x i) (ht:HT T'):ldHd T' (.pointer (some ⟨x,0,none⟩)) w=.ok (.value i.h.val) w:=CgK ht.rt k.blk rfl rfl
theorem Ic.st {T T':TypeId} {w:World} {x:Nat} {i:In} (k:Ic T w x i) (rt:RT T' zeroI.cells) (j:In):stHd T' (.pointer (some ⟨x,0,none⟩)) j.val w=.ok .skip (w.setCells x 0 j.cells):=stB_m rt k.blk (EvZ j) rfl (Nat.le_refl 6)
section
variable {w:World} {ops:Array Oper} {rest:List Oper} {o:Oper} {a:Act} {Q:Exit→Act→World→Prop} {T T':TypeId}
theorem AgJ (rt:RT T zeroI.cells) (hgd:o.guard=none) (x:Operand) (hop:o.op=.load T x) (g:Nat) (hx:a.eval x=.pointer (some ⟨g,0,none⟩)) (i:In) (hc:Ic T' w g i)
  (hk:wpList prog ops Q rest (a.put o.dst i.val) w):wpList prog ops Q (o::rest) a w:=AtW rt hgd x hop g 0 hx _ i.cells hc.blk rfl rfl hk
theorem AiZ (rt:RT T zeroI.cells) (hgd:o.guard=none) (x y:Operand) (hop:o.op=.store T x y) (g:Nat) (hx:a.eval x=.pointer (some ⟨g,0,none⟩)) (i i0:In) (hy:a.eval y=i.val) (hc:Ic T' w g i0)
  (hk:∀ w',Ic T' w' g i→Oth [g] w w'→w'.heap.size=w.heap.size→wpList prog ops Q rest (a.put o.dst undef) w'):wpList prog ops Q (o::rest) a w :=
 AtK rt hgd x y hop g 0 hx i0.cells i.cells hy (EvZ i) rfl hc.blk (Nat.le_refl 6) hk
theorem AgV (hgd:o.guard=none) (T:TypeId) (x:Operand) (hop:o.op=.box T x) (i:In) (hx:a.eval x=i.val)
  (hk:∀ w' q,Ic T w' q i→Below w.heap.size w w'→w.heap.size≤q→wpList prog ops Q rest (a.put o.dst (.pointer (some ⟨q,0,none⟩))) w'):wpList prog ops Q (o::rest) a w:=AeV hgd T x hop i.cells hx hk
theorem AfZ (rt:RT T zeroI.cells) (hgd:o.guard=none) (hop:o.op=.alloc T)
  (hk:∀ w' q,Ic T w' q zeroI→Below w.heap.size w w'→w.heap.size≤q→wpList prog ops Q rest (a.put o.dst (.pointer (some ⟨q,0,none⟩))) w'):wpList prog ops Q (o::rest) a w:=AbJ rt hgd hop hk
end
def RetIn (r:IPl×Int) (w:World) (e:Ending) (w':World):Prop :=
 ∃ i:In,e=.returned (.tuple #[i.val,.int .i64 r.2])∧i.pl=r.1∧i.own w' w.heap.size∧Below w.heap.size w w'
structure IW (v:World) (rows:List (Option Addr×Nat×Nat×List UInt8)) (is:List In) (bs:List (TypeId×Nat×In)) (w:World):Prop where
 bel:Below v.heap.size v w
 row:∀ r∈rows,RB w w.heap.size r.1 r.2.1 r.2.2.2∧r.2.1≤r.2.2.1∧r.2.2.1≤maxLen
 ini:∀ i∈is,i.ok w
 box:∀ b∈bs,Ic b.1 w b.2.1 b.2.2
section
variable {v w w' w2 w3:World} {rows:List (Option Addr×Nat×Nat×List UInt8)} {is:List In} {bs:List (TypeId×Nat×In)} {n c base x:Nat} {A:YA} {l:YB} {e:Ending} {T:TypeId} {i:In}
theorem IW.step (k:IW v rows is bs w) (hb:Below w.heap.size w w'):IW v rows is bs w' :=
 ⟨AaJ k.bel hb,fun r hr=>⟨(k.row r hr).1.step hb,(k.row r hr).2⟩,fun i hi=>(k.ini i hi).step hb,fun b hm=>(k.box b hm).step hb⟩
theorem IW.add (k:IW v rows is bs w) (hr:RB w w.heap.size A n l) (h1:n≤c) (h2:c≤maxLen):IW v ((A,n,c,l)::rows) is bs w :=
 ⟨k.bel,fun r hm=>by rcases List.mem_cons.1 hm with rfl | hm;exact ⟨hr,h1,h2⟩;exact k.row r hm,k.ini,k.box⟩
theorem IW.own (k:IW v rows is bs w) (hb:Below w.heap.size w w') (ho:OwnB w' base A n c l):IW v ((A,n,c,l)::rows) is bs w':=(k.step hb).add ho.rb ho.cap.1 ho.cap.2
theorem IW.addi (k:IW v rows is bs w) (hh:i.ok w):IW v rows (i::is) bs w :=
 ⟨k.bel,k.row,fun g hm=>by rcases List.mem_cons.1 hm with rfl | hm;exact hh;exact k.ini g hm,k.box⟩
theorem IW.var (k:IW v rows is bs w) (hb:Below w.heap.size w w2) (hx:w.heap.size≤x) (hc:Ic T w3 x i) (ho:Oth [x] w2 w3):IW v rows is ((T,x,i)::bs) w3:=by
 have k':=k.step (hb.trans (ho.below (fun j hj=>by rw [List.mem_singleton.1 hj];exact hx) hb.size))
 exact ⟨k'.bel,k'.row,k'.ini,fun b hm=>by rcases List.mem_cons.1 hm with rfl | hm;exact hc;exact k'.box b hm⟩
theorem IW.start (w:World):IW w [] [] [] w:=⟨Below.refl _ _,fun r hr=>(by cases hr),fun r hr=>(by cases hr),fun r hr=>(by cases hr)⟩
end
open Go.RowKit
theorem shr_and (x:UInt8):bits .and .u8 ((x.toNat:Int) / 16) 3=((typ x:Nat):Int):=each_b (fun x=>bits .and .u8 ((x.toNat:Int) / 16) 3=((typ x:Nat):Int)) (by decide +kernel) x
theorem typ_any (f:UInt8) (w:World) :
  Calls prog 57 #[.int .u8 (f.toNat:Int)] w fun e w'=>e=.returned (.int .i64 (typ f:Int))∧w=w':=by
 have h:=shr_and f
 have ht:typ f<4:=Nat.mod_lt _ (by decide)
 have hf:=f.toNat_lt
 go_enter func57,ntmps57
 go_wp2_with fail
 go_ret
 exact ⟨rfl,rfl⟩
open Go.RowKit
def inOf (h:Hd):In:=⟨h,none,0,[],none,0,[]⟩
structure IP (v:World) (q:Nat) (h:Hd) (A:YA) (n c:Nat) (l:YB) (w:World):Prop where
 bel:Below v.heap.size v w
 lq:v.heap.size≤q
 hq:Ic 46 w q zeroI
 own:h.own w v.heap.size
 r:OwnB w v.heap.size A n c l
structure IK (v:World) (q p x:Nat) (i:In) (s:Int×List UInt8) (w:World):Prop where
 bel:Below v.heap.size v w
 lq:v.heap.size≤q
 lp:v.heap.size≤p
 lx:v.heap.size≤x
 qp:q≠p
 hq:Ic 46 w q zeroI
 hp:Ic 46 w p i
 rd:RdR w x s
 own:i.own w v.heap.size
section
variable {v w w' w2 w3:World} {q p x n c:Nat} {h:Hd} {i i':In} {s s':Int×List UInt8} {A:YA} {l:YB}
end
attribute [local irreducible] prs longS CnY chk
end Go.Proofs.YthppjgdnibfefaaGreat
namespace Go.Proofs.YthppjgdnibfefaaGreat
open Tryz
open Go.RowKit
attribute [local go_sem ↓] AvK AvJ ArZ ArY BnZ BsX ex_stI EyV
structure IQ (v:World) (q y:Nat) (h:Hd) (A:YA) (n c:Nat) (l:YB) (w:World):Prop where
 bel:Below v.heap.size v w
 lq:v.heap.size≤q
 qy:q≠y
 hq:Ic 108 w q zeroI
 hd:Hc 106 w y h
 own:h.own w v.heap.size
 r:OwnB w v.heap.size A n c l
attribute [local irreducible] prs chk tkV tkN tkE
end Go.Proofs.YthppjgdnibfefaaGreat
namespace Go.Proofs.YthppjgdnibfefaaGreat
open Tryz
open Go.RowKit
attribute [local go_sem ↓] AvK AvJ ArZ ArY BnZ BsX ex_stI EyV
theorem iof_any (i:In) (w:World) (hk:i.ok w) (ha:i.h.a.length≤1000000) (hb:i.h.b.length≤1000000) (ht:i.t.length≤1000000) (hr:i.r.length≤1000000) :
  Calls prog 42 #[i.val] w fun e w'=>∃ j:In,e=.returned j.val∧j.pl=i.pl∧j.own w' w.heap.size∧Below w.heap.size w w':=by
 have HK:=η hk
 clear hk
 go_enter func42,ntmps42
 go_wp2_with (first
  | (refine AgV rfl _ (.tmp 0) rfl i rfl ?_;intro w1 q hc1 hb1 hx1;have H1:=η (And.intro hc1 (And.intro hb1 hx1));clear hc1 hb1 hx1)
  | (with_reducible show wpList _ _ _ (⟨_,.alloc _,_,_,_,none⟩::_) _ _;refine AfZ BuJ rfl rfl ?_;intro w2 p hc2 hb2 hx2;have H2:=η (And.intro hc2 (And.intro hb2 hx2));clear hc2 hb2 hx2))
 have hpq:p≠q:=fun e=>by
  have h1:=H1.o.1.blk.lt;have h2:=H2.o.2.2;omega
 have HC2:Ic 46 w2.drew q i:=H1.o.1.step H2.o.2.1.drew
 have HP2:Hid (Ic 108 w2.drew p zeroI):=η H2.o.1
 have BL2:Hid (Below w.heap.size w w2.drew):=η (AaJ H1.o.2.1 H2.o.2.1).drew
 have LP:Hid (w.heap.size≤p):=η (Nat.le_trans H1.o.2.1.size H2.o.2.2)
 clear H1 H2
 refine wp_region_held_drew (S:=fun w'=>Ic 46 w' q i) (by kernel_rfl) HC2 (fun hHeld=>?_)
 (try dsimp only at hHeld)
 have Ω:=η (fun (w:World) (hSw:Ic 46 w q i)=>an hSw.c4 (an hSw.c5 (hSw.ldh AhZ)))
 refine tkJ 0 rfl hHeld ?_
 refine tkJ 1 rfl hHeld ?_
 refine tkJ 3 rfl hHeld ?_
 refine tkJ 4 rfl hHeld ?_
 refine tkJ 6 rfl hHeld ?_
 refine tkJ 7 rfl hHeld ?_
 refine rdI 2 rfl (fun K hK=>?_)
 (try simp only [Act.put,rxT,sxT])
 go_simp
 refine (hof_any i.h _ (by exact HK.o.h.step BL2.o) ha hb).mono ?_
 rintro e w3 ⟨g,rfl,hg,ho,hb3⟩
 rw [show g.val=Value.agg #[.int .u8 (g.f.toNat:Int),.int .u32 (g.v:Int),.slice g.A g.a.length g.c,.slice g.B g.b.length g.d] from rfl]
 have HG:=η hg
 have O3:=η (ho.base_le BL2.o.size)
 have BL3:=η (AaJ BL2.o hb3)
 have HP3:=η (HP2.o.step hb3)
 have HC3:=HC2.step hb3
 clear ho hb3 hg
 (try go_wp2_with fail)
 refine hK.o _ _ HC3 (fun hHeld=>?_)
 clear hK K
 refine rdI 5 rfl (fun K hK=>?_)
 (try simp only [Act.put,rxT,sxT])
 go_simp
 refine (AdX i.T i.t.length i.e 0 i.t _ (by exact HK.o.t.step BL3.o) (by omega)).mono ?_
 rintro e w4 ⟨A4,c4,rfl,ho,hb4⟩
 have O4:=η (ho.base_le BL3.o.size)
 have O3':=η (O3.o.step hb4)
 have BL4:=η (AaJ BL3.o hb4)
 have HP4:=η (HP3.o.step hb4)
 have HC4:=HC3.step hb4
 clear ho hb4 O3
 (try go_wp2_with fail)
 refine hK.o _ _ HC4 (fun hHeld=>?_)
 clear hK K
 refine rdI 8 rfl (fun K hK=>?_)
 (try simp only [Act.put,rxT,sxT])
 go_simp
 refine (AdX i.R i.r.length i.g 0 i.r _ (by exact HK.o.r.step BL4.o) (by omega)).mono ?_
 rintro e w5 ⟨A5,c5,rfl,ho,hb5⟩
 have O5:=η (And.intro (O3'.o.step hb5) (And.intro (O4.o.below hb5) (ho.base_le BL4.o.size)))
 have BL5:=η (AaJ BL4.o hb5)
 have HP5:=η (HP4.o.step hb5)
 have HC5:=HC4.step hb5
 clear ho hb5 O3' O4
 (try go_wp2_with fail)
 refine hK.o _ _ HC5 (fun hHeld=>?_)
 clear hK K
 refine tkJ 9 rfl hHeld ?_
 (try simp only [Act.put,rxT,sxT])
 obtain ⟨J,HV⟩:∃ J:In,Hid (J=⟨g,A4,c4,i.t,A5,c5,i.r⟩):=⟨_,η rfl⟩
 have e9:J.val=.agg #[.int .u8 (g.f.toNat:Int),.int .u32 (g.v:Int),.slice g.A g.a.length g.c,.slice g.B g.b.length g.d,.slice A4 i.t.length c4,.slice A5 i.r.length c5]:=by rw [HV.o];rfl
 have hpl:J.pl=i.pl:=by rw [HV.o];show (g.pl,_,_)=_;rw [HG.o];rfl
 have own9:J.own w5 w.heap.size:=by rw [HV.o];exact ⟨O5.o.1,O5.o.2.1,O5.o.2.2⟩
 have HO9:=η (And.intro hpl own9)
 have qs:=HP5.o.st BuJ J
 have E9:=η e9
 rw [e9] at qs
 clear hpl own9 e9
 refine rdI 10 rfl (fun K hK=>?_)
 (try simp only [rxT])
 go_simp
 refine hK.o _ _ (HC5.oth (AcK p _ _ _ _ (Oth.refl _ _)) (by simpa using hpq.symm)) (fun hHeld=>?_)
 clear hK K
 (try simp only [Act.put,rxT,sxT])
 refine wpAnyH_done (by kernel_rfl) ?_ _
 go_wp2_with fail
 have hX:Oth [p] w5 (w5.setCells p 0 J.cells):=AcK p _ _ _ _ (Oth.refl _ _)
 have hnp:NoB [p] w5:=HP5.o.blk.nob (by decide)
 exact bodyPost_ret (v:=J.val) (AbX BuJ rfl _ _ p J.cells rfl (HP5.o.whole _) rfl) rfl ⟨J,rfl,HO9.o.1,HO9.o.2.off hX hnp,BL5.o.trans (hX.below (fun j hj=>by rw [List.mem_singleton.1 hj];exact LP.o) BL5.o.size)⟩
