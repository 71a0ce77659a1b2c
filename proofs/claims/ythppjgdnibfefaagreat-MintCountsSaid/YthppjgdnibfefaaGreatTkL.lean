import Derived.Test.YthppjgdnibfefaaGreatRiU
import Derived.Test.YthppjgdnibfefaaGreatScanWr
set_option linter.all false
set_option maxRecDepth 100000
set_option maxHeartbeats 32000000
namespace Go.Proofs.YthppjgdnibfefaaGreat
structure Tk where
 e:Nat
 o:List UInt8
 s:List UInt8
deriving DecidableEq
def zTk:Tk:=⟨0,[],[]⟩
def Tk.few (f:Tk):Prop:=f.o.length≤20∧f.s.length≤20
def lenL (l:YB):List UInt8:=UInt8.ofNat l.length::l
def rawT (f:Tk):List UInt8:=putL f.e 8++(lenL f.o++lenL f.s)
def BcX (f:Tk):List UInt8×Int:=if 20<f.o.length∨20<f.s.length then ([],15) else (rawT f,0)
def AhY (b:YB):Tk×Int :=
 let n:=numS 8 (0,b)
 let o:=AfY n.2
 let s:=AfY o.2
 let e:=endS s.2
 if e.1=0 then (if 20<o.1.length∨20<s.1.length then (zTk,10) else (⟨n.1,o.1,s.1⟩,0)) else (zTk,e.1)
def AnX (q:Int) (c:YB):List UInt8:=UInt8.ofNat q.toNat::c
def AjZ (s:Rg) (q:Int) (n c:YB) (f:Tk):List UInt8×Int :=
 if hasR s q=false then ([],17) else if n.length≠12∨64<c.length then ([],11) else if (BcX f).2≠0 then ([],(BcX f).2)
 else (UInt8.ofNat q.toNat::(n++(ApW (keyR s q) n (BcX f).1 (AnX q c)).1),0)
def DlZ (k c:YB) (q:Int) (t:YB) (now:Nat):Tk×Int :=
 let r:=AmK k ((t.drop 1).take 12) (t.drop 13) (AnX q c)
 if r.2≠0 then (zTk,13) else if (AhY r.1).2≠0 then (zTk,(AhY r.1).2) else if (AhY r.1).1.e<now then (zTk,20) else ((AhY r.1).1,0)
def fstT (t:YB):Int:=((t.headD 0).toNat:Int)
def AdQ (s:Rg) (c t:YB) (now:Nat):Tk×Int :=
 if t.length<29 then (zTk,12) else if hasR s (fstT t)=false then (zTk,17) else if 64<c.length∨4096<t.length then (zTk,13) else DlZ (keyR s (fstT t)) c (fstT t) t now
def seqT (t:YB):Int×Bool:=if t≠[]∧fstT t<128 then (fstT t,true) else (0,false)
section
variable {s:Rg} {q:Int} {n n' c t l:YB} {f g:Tk}
theorem numS_8 (x:Nat) (hx:x<2 ^ 64) (l:YB):numS 8 (0,putL x 8++l)=(x,0,l):=by
 have hl:(putL x 8).length=8:=AeY x 8
 unfold numS
 rw [if_neg (by omega)]
 unfold AeQ
 rw [if_neg (by omega),show ((8:Int)).toNat=8 from rfl,AoJ (by rw [List.length_append,hl];omega)]
 rw [List.take_left' hl,List.drop_left' hl]
 have h:=DsJ 8 x
 have hv:numL (putL x 8)=x:=by
  have e:(256:Nat) ^ 8=18446744073709551616:=by decide
  rw [e] at h;omega
 show (numL (putL x 8),(0:Int),l)=(x,0,l)
 rw [hv]
theorem DoZ (o l:YB) (h:o.length≤255):AfY (0,lenL o++l)=(o,0,l):=by
 have h1:numS 1 (0,lenL o++l)=(o.length,0,o++l):=by
  unfold numS;rw [if_neg (by omega)];unfold AeQ lenL;rw [if_neg (by omega),show ((1:Int)).toNat=1 from rfl,AoJ (by simp)];simp only [List.cons_append,List.take_succ_cons,List.take_zero,List.drop_succ_cons,List.drop_zero];unfold numL;simp only [List.foldl_cons,List.foldl_nil];have:(UInt8.ofNat o.length).toNat=o.length:=by simp;omega
  rw [this];simp
 unfold AfY
 rw [h1]
 unfold AwZ
 rw [show AmV (o.length,(0:Int),o++l).1 (o.length,(0:Int),o++l).2=(o,0,l) from by
  show AmV o.length (0,o++l)=_
  rw [AoJ (by simp),List.take_left,List.drop_left]]
 rfl
theorem AqJ (f:Tk):(rawT f).length=10+f.o.length+f.s.length:=by
 unfold rawT lenL
 rw [List.length_append,List.length_append,AeY,List.length_cons,List.length_cons];omega
theorem DyK (h:f.few) (he:f.e<2 ^ 64):AhY (rawT f)=(f,0):=by
 unfold AhY rawT
 have h1:=numS_8 f.e he (lenL f.o++lenL f.s)
 have h2:=DoZ f.o (lenL f.s) (by have:=h.1;omega)
 have h3:=DoZ f.s [] (by have:=h.2;omega)
 rw [List.append_nil] at h3
 simp only [h1,h2,h3]
 have h4:endS (0,[])=(0,[]):=rfl
 simp only [h4,if_true]
 rw [if_neg (by have:=h.1;have:=h.2;omega)]
theorem DnZ (h:f.few):BcX f=(rawT f,0):=by unfold BcX;rw [if_neg (by have:=h.1;have:=h.2;omega)]
theorem EnJ (h:hasR s q=false):AjZ s q n c f=([],17):=by unfold AjZ;rw [if_pos h]
theorem BfZ (h:hasR s q=true) (hn:n.length=12) (hc:c.length≤64) (hf:f.few):AjZ s q n c f=(UInt8.ofNat q.toNat::(n++(ApW (keyR s q) n (rawT f) (AnX q c)).1),0):=by
 unfold AjZ
 rw [if_neg (by rw [h];decide),if_neg (by omega),DnZ hf,if_neg (by simp)]
theorem BvW (k t a:YB) (hn:n.length=12):ApW k n t a=(trnL k n t++tagL k n (trnL k n t) a,0):=by unfold ApW;rw [if_pos hn]
theorem AuW (k t a:YB) (hk:k.length=16) (hn:n.length=12):(ApW k n t a).1.length=t.length+16:=by
 rw [BvW k t a hn,List.length_append,AnZ k n t hk hn,AsX k n _ a hk hn]
theorem CuJ (hn:n.length=12) (b:UInt8) (x:YB):((b::(n++x)).drop 1).take 12=n∧(b::(n++x)).drop 13=x:=by
 constructor
 ·rw [List.drop_succ_cons,List.drop_zero,List.take_left' hn]
 ·rw [List.drop_succ_cons,List.drop_left' hn]
theorem fst_q (hq:0≤q∧q≤127) (x:YB):fstT (UInt8.ofNat q.toNat::x)=q:=by
 unfold fstT
 rw [List.headD_cons]
 have:(UInt8.ofNat q.toNat).toNat=q.toNat:=by simp;omega
 rw [this];omega
theorem FaY (k:YB) (hk:k.length=16) (hn:n.length=12) (hf:f.few) (he:f.e<2 ^ 64) (b:UInt8) (now:Nat) :
  DlZ k c q (b::(n++(ApW k n (rawT f) (AnX q c)).1)) now=if f.e<now then (zTk,20) else (f,0):=by
 unfold DlZ
 obtain ⟨p1,p2⟩:=CuJ hn b (ApW k n (rawT f) (AnX q c)).1
 simp only [p1,p2,ErX k n (rawT f) (AnX q c) hk hn,DyK hf he]
 rw [if_neg (by simp),if_neg (by simp)]
theorem ErY (ok:okR s) (h:hasR s q=true) (hn:n.length=12) (hc:c.length≤64) (hf:f.few) (he:f.e<2 ^ 64) (now:Nat):AdQ s c (AjZ s q n c f).1 now=if f.e<now then (zTk,20) else (f,0):=by
 have hq:0≤q∧q≤127:=by
  obtain ⟨r,hr,e⟩:=List.mem_map.1 (BwZ.1 h);have:=(ok.g r hr).1;rw [←e];exact this
 have hk:=AwV ok h
 rw [BfZ h hn hc hf]
 unfold AdQ
 have hl:(UInt8.ofNat q.toNat::(n++(ApW (keyR s q) n (rawT f) (AnX q c)).1)).length=39+f.o.length+f.s.length:=by
  rw [List.length_cons,List.length_append,AuW _ _ _ hk hn,AqJ,hn];omega
 have hfew:=hf
 unfold Tk.few at hfew
 rw [fst_q hq,if_neg (by rw [hl];omega),if_neg (by rw [h];decide),if_neg (by rw [hl];omega)]
 exact FaY (keyR s q) hk hn hf he _ now
end
def tkTxt:List UInt8:=[0,0,0,0,0,0,0,100,2,1,2,1,3]
def tkB:List UInt8:=[5,0,0,0,0,0,0,0,0,0,0,0,0,3,136,218,206,96,182,163,246,241,41,192,184,114,101,65,156,116,223,146,188,107,117,14,40,86,87,26,54,59]
section
variable {s:Rg} {q p:Int} {k K:YB}
theorem EaZ (ok:okR s) (h:hasR s q=true):0≤q∧q≤127:=by
 obtain ⟨r,hr,e⟩:=List.mem_map.1 (BwZ.1 h)
 have:=(ok.g r hr).1
 rw [←e];exact this
end
open Tryz
open Go.RowKit
structure Fd where
 e:Nat
 A:Option Addr
 c:Nat
 o:List UInt8
 B:Option Addr
 d:Nat
 s:List UInt8
def Fd.tk (f:Fd):Tk:=⟨f.e,f.o,f.s⟩
def Fd.cells (f:Fd):List Value:=[.int .u64 (f.e:Int),.slice f.A f.o.length f.c,.slice f.B f.s.length f.d]
def Fd.val (f:Fd):Value:=.agg f.cells.toArray
def zeroF:Fd:=⟨0,none,0,[],none,0,[]⟩
structure Fd.ok (w:World) (f:Fd):Prop where
 e:f.e<2 ^ 64
 o:RB w w.heap.size f.A f.o.length f.o
 s:RB w w.heap.size f.B f.s.length f.s
 co:f.o.length≤f.c∧f.c≤maxLen
 cs:f.s.length≤f.d∧f.d≤maxLen
structure Fd.own (w:World) (base:Nat) (f:Fd):Prop where
 e:f.e<2 ^ 64
 o:OwnB w base f.A f.o.length f.c f.o
 s:OwnB w base f.B f.s.length f.d f.s
section
variable {T T':TypeId} {w w':World} {x base base':Nat} {f g:Fd} {S:List Nat}
theorem Fd.own.ok (k:f.own w base):f.ok w:=⟨k.e,k.o.rb,k.s.rb,k.o.cap,k.s.cap⟩
theorem Fd.ok.step (k:f.ok w) (hb:Below w.heap.size w w'):f.ok w':=⟨k.e,k.o.step hb,k.s.step hb,k.co,k.cs⟩
theorem Fd.own.step (k:f.own w base) (hb:Below w.heap.size w w'):f.own w' base:=⟨k.e,k.o.below hb,k.s.below hb⟩
theorem Fd.own.base_le (k:f.own w base) (hb:base'≤base):f.own w base':=⟨k.e,k.o.base_le hb,k.s.base_le hb⟩
theorem Fd.own.zero (w:World) (base:Nat):zeroF.own w base:=⟨by decide,OwnB.nil_ _ _,OwnB.nil_ _ _⟩
theorem DkV (f:Fd):ones f.cells:=fun v hv=>by
 simp only [Fd.cells,List.mem_cons,List.not_mem_nil,or_false] at hv
 rcases hv with rfl | rfl | rfl <;> rfl
end
theorem AfX:RT 77 zeroF.cells:=⟨AsJ (by kernel_rfl),by kernel_rfl⟩
theorem AcW:RT 176 zeroF.cells:=⟨AsJ (by kernel_rfl),by kernel_rfl⟩
theorem CkQ (ev:Operand→Value) (x:Operand) (d:Option Tmp) (ty:TypeId) (ps:String) (af:Array Edge) (g:Option (Nat×Bool)) (w:World):(execOp ev ⟨d,.load 77 x,ty,ps,af,g⟩).run prog w=ldHd 77 (ev x) w:=rfl
theorem CeK (ev:Operand→Value) (x:Operand) (d:Option Tmp) (ty:TypeId) (ps:String) (af:Array Edge) (g:Option (Nat×Bool)) (w:World):(execOp ev ⟨d,.load 176 x,ty,ps,af,g⟩).run prog w=ldHd 176 (ev x) w:=rfl
theorem DcZ (ev:Operand→Value) (x y:Operand) (d:Option Tmp) (ty:TypeId) (ps:String) (af:Array Edge) (g:Option (Nat×Bool)) (w:World):(execOp ev ⟨d,.store 77 x y,ty,ps,af,g⟩).run prog w=stHd 77 (ev x) (ev y) w:=rfl
theorem CeJ (ev:Operand→Value) (x y:Operand) (d:Option Tmp) (ty:TypeId) (ps:String) (af:Array Edge) (g:Option (Nat×Bool)) (w:World):(execOp ev ⟨d,.store 176 x y,ty,ps,af,g⟩).run prog w=stHd 176 (ev x) (ev y) w:=rfl
def Fc (T:TypeId) (w:World) (x:Nat) (f:Fd):Prop:=Blk T w x f.cells
section
variable {T T':TypeId} {w w':World} {x:Nat} {f:Fd} {S:List Nat}
theorem Fc.blk (k:Fc T w x f):Blk T w x f.cells:=k
theorem Fc.c0 (k:Fc T w x f):w.cell? ⟨x,0,none⟩=some (.int .u64 (f.e:Int)):=k.blk.cell 0
theorem Fc.c1 (k:Fc T w x f):w.cell? ⟨x,1,none⟩=some (.slice f.A f.o.length f.c):=k.blk.cell 1
theorem Fc.c2 (k:Fc T w x f):w.cell? ⟨x,2,none⟩=some (.slice f.B f.s.length f.d):=k.blk.cell 2
theorem Fc.step (k:Fc T w x f) (hb:Below w.heap.size w w'):Fc T w' x f:=k.blk.step hb
theorem Fc.oth (k:Fc T w x f) (ho:Oth S w w') (hx:x∉S):Fc T w' x f:=k.blk.oth ho hx
theorem Fc.ld (k:Fc T w x f) (rt:RT T' zeroF.cells):ldHd T' (.pointer (some ⟨x,0,none⟩)) w=.ok (.value (.agg #[.int .u64 (f.e:Int),.slice f.A f.o.length f.c,.slice f.B f.s.length f.d])) w:=CgK rt k.blk rfl rfl
theorem Fc.st (k:Fc T w x f) (rt:RT T' zeroF.cells) (j:Fd):stHd T' (.pointer (some ⟨x,0,none⟩)) j.val w=.ok .skip (w.setCells x 0 j.cells):=stB_m rt k.blk (DkV j) rfl (Nat.le_refl 3)
theorem Fc.nex {y:Nat} {a b:Value} (k:Fc T w x f) (t:Two T' w y a b) (hT:T≠T'):x≠y:=fun e=>by
 subst e
 have e:=(show w.heap[x]?=_ from k).symm.trans t
 injection e with e
 injection e with _ e
 exact hT e
theorem Fd.own.off (k:f.own w x) (ho:Oth S w w') (hS:NoB S w):f.own w' x:=⟨k.e,k.o.offS ho hS,k.s.offS ho hS⟩
end
section
variable {w:World} {ops:Array Oper} {rest:List Oper} {o:Oper} {a:Act} {Q:Exit→Act→World→Prop} {T T':TypeId}
theorem AjJ (rt:RT T zeroF.cells) (hgd:o.guard=none) (x:Operand) (hop:o.op=.load T x) (g:Nat) (hx:a.eval x=.pointer (some ⟨g,0,none⟩)) (i:Fd) (hc:Fc T' w g i)
  (hk:wpList prog ops Q rest (a.put o.dst i.val) w):wpList prog ops Q (o::rest) a w:=AtW rt hgd x hop g 0 hx _ i.cells hc.blk rfl rfl hk
theorem AbV (rt:RT T zeroF.cells) (hgd:o.guard=none) (x y:Operand) (hop:o.op=.store T x y) (g:Nat) (hx:a.eval x=.pointer (some ⟨g,0,none⟩)) (i i0:Fd) (hy:a.eval y=i.val) (hc:Fc T' w g i0)
  (hk:∀ w',Fc T' w' g i→Oth [g] w w'→w'.heap.size=w.heap.size→wpList prog ops Q rest (a.put o.dst undef) w'):wpList prog ops Q (o::rest) a w :=
 AtK rt hgd x y hop g 0 hx i0.cells i.cells hy (DkV i) rfl hc.blk (Nat.le_refl 3) hk
theorem AdK (hgd:o.guard=none) (T:TypeId) (x:Operand) (hop:o.op=.box T x) (i:Fd) (hx:a.eval x=i.val)
  (hk:∀ w' q,Fc T w' q i→Below w.heap.size w w'→w.heap.size≤q→wpList prog ops Q rest (a.put o.dst (.pointer (some ⟨q,0,none⟩))) w'):wpList prog ops Q (o::rest) a w:=AeV hgd T x hop i.cells hx hk
theorem AcZ (rt:RT T zeroF.cells) (hgd:o.guard=none) (hop:o.op=.alloc T)
  (hk:∀ w' q,Fc T w' q zeroF→Below w.heap.size w w'→w.heap.size≤q→wpList prog ops Q rest (a.put o.dst (.pointer (some ⟨q,0,none⟩))) w'):wpList prog ops Q (o::rest) a w:=AbJ rt hgd hop hk
end
def DeW (r:Tk×Int) (w:World) (e:Ending) (w':World):Prop :=
 ∃ f:Fd,e=.returned (.tuple #[f.val,.int .i64 r.2])∧f.tk=r.1∧f.own w' w.heap.size∧Below w.heap.size w w'
theorem EsY (z:Int) (s:Int×List UInt8):(numS z s).1<2 ^ 64:=by
 rw [ArQ]
 have h1:=BgX z s
 have h2:=BdX _ (AeQ z (numT z s)).1 rfl
 refine Nat.lt_of_lt_of_le h2 ?_
 rw [show (2:Nat) ^ 64=256 ^ 8 by decide]
 exact Nat.pow_le_pow_right (by decide) h1
theorem jn2 (w:World) (A1 A2:YA) (n1 n2 c1 c2:Nat) (l1 l2:YB) (h1:RB w w.heap.size A1 n1 l1) (h2:RB w w.heap.size A2 n2 l2) (b1:n1≤1000000) (b2:n2≤1000000) (g:Nat) (hg:g=w.heap.size) (M:Nat) (hM:M=n1+n2) (L:YB) (hL:L=l1++l2) :
  Calls prog 59 #[.slice (some ⟨g,0,none⟩) 2 2] (w.alloc (.cells #[.slice A1 n1 c1,.slice A2 n2 c2] 41)) fun e w'=>∃ A c,e=.returned (.slice A M c)∧OwnB w' w.heap.size A M c L∧Below w.heap.size w w':=by
 subst hg hM hL
 have e1:=h1.len
 have e2:=h2.len
 have hrr:=RR.lit w [(A1,c1,l1),(A2,c2,l2)] #[.slice A1 n1 c1,.slice A2 n2 c2] 41 2 w.heap.size (by simp [e1,e2]) rfl rfl (fun r hr=>by
  simp only [List.mem_cons,List.not_mem_nil,or_false] at hr
  rcases hr with rfl | rfl
  ·rw [e1];exact h1
  ·rw [e2];exact h2)
 have hto:totL (List.map (fun r:Option Addr×Nat×List UInt8=>r.2.2) [(A1,c1,l1),(A2,c2,l2)])=n1+n2:=by simp [totL,e1,e2]
 have hfl:(List.map (fun r:Option Addr×Nat×List UInt8=>r.2.2) [(A1,c1,l1),(A2,c2,l2)]).flatten=l1++l2:=by simp
 refine (AwX _ 2 2 _ _ hrr (by decide) (by rw [hto];omega)).mono ?_
 rintro e w' ⟨A,c,he,ho,hb⟩
 rw [hto,hfl] at ho
 rw [hto] at he
 exact ⟨A,c,he,ho.base_le (by simp),(AaK w _).trans (hb.mono (by simp))⟩
theorem jn3 (w:World) (A1 A2 A3:YA) (n1 n2 n3 c1 c2 c3:Nat) (l1 l2 l3:YB) (h1:RB w w.heap.size A1 n1 l1) (h2:RB w w.heap.size A2 n2 l2) (h3:RB w w.heap.size A3 n3 l3) (b1:n1≤1000000) (b2:n2≤1000000) (b3:n3≤1000000) (g:Nat) (hg:g=w.heap.size) (M:Nat) (hM:M=n1+(n2+n3)) (L:YB) (hL:L=l1++(l2++l3)) :
  Calls prog 59 #[.slice (some ⟨g,0,none⟩) 3 3] (w.alloc (.cells #[.slice A1 n1 c1,.slice A2 n2 c2,.slice A3 n3 c3] 41)) fun e w'=>∃ A c,e=.returned (.slice A M c)∧OwnB w' w.heap.size A M c L∧Below w.heap.size w w':=by
 subst hg hM hL
 have e1:=h1.len
 have e2:=h2.len
 have e3:=h3.len
 have hrr:=RR.lit w [(A1,c1,l1),(A2,c2,l2),(A3,c3,l3)] #[.slice A1 n1 c1,.slice A2 n2 c2,.slice A3 n3 c3] 41 3 w.heap.size (by simp [e1,e2,e3]) rfl rfl (fun r hr=>by
  simp only [List.mem_cons,List.not_mem_nil,or_false] at hr
  rcases hr with rfl | rfl | rfl
  ·rw [e1];exact h1
  ·rw [e2];exact h2
  ·rw [e3];exact h3)
 have hto:totL (List.map (fun r:Option Addr×Nat×List UInt8=>r.2.2) [(A1,c1,l1),(A2,c2,l2),(A3,c3,l3)])=n1+(n2+n3):=by simp [totL,e1,e2,e3]
 have hfl:(List.map (fun r:Option Addr×Nat×List UInt8=>r.2.2) [(A1,c1,l1),(A2,c2,l2),(A3,c3,l3)]).flatten=l1++(l2++l3):=by simp
 refine (AwX _ 3 3 _ _ hrr (by decide) (by rw [hto];omega)).mono ?_
 rintro e w' ⟨A,c,he,ho,hb⟩
 rw [hto,hfl] at ho
 rw [hto] at he
 exact ⟨A,c,he,ho.base_le (by simp),(AaK w _).trans (hb.mono (by simp))⟩
open Go.RowKit
abbrev Rw:=Option Addr×Nat×Nat×List UInt8
def Fd.rows (f:Fd):List Rw:=[(f.A,f.o.length,f.c,f.o),(f.B,f.s.length,f.d,f.s)]
def RetEF (e:EB) (N F:Nat) (T:Tk) (E:Int) (w:World) (r:Ending) (w':World):Prop :=
 ∃ f:Fd,r=.returned (.tuple #[f.val,.int .i64 E])∧f.tk=T∧f.own w' w.heap.size∧Oth e.S w w'∧e.Ok N F w'
section
variable {N F N' F':Nat} {v w w':World} {x y n c d M:Nat} {s t:Rg} {D:XD} {G:List Nat} {A B:YA} {es:Ens} {rows rows':List Rw} {l L:YB} {E:Int} {r:Ending} {e0:EB×Int} {T:Tk} {f:Fd}
end
