import Derived.Test.YthppjgdnibfefaaGreatScanWr
import Derived.Deep.MidRow
import Derived.Deep.RegionHeld3
set_option linter.all false
set_option maxRecDepth 100000
set_option maxHeartbeats 32000000
namespace Go.Proofs.YthppjgdnibfefaaGreat
open Tryz
open Go.RowKit
abbrev Pl:=UInt8×Nat×List UInt8×List UInt8
def BfZ:Pl:=(0,0,[],[])
def idL:YB→Option (List UInt8×List UInt8)
 | []=>none
 | n::t=>if t.length<n.toNat then none else some (t.take n.toNat,t.drop n.toNat)
def prs2 (f:UInt8) (v:Nat) (l:YB):Pl×List UInt8×Int :=
 match idL l with
 | none=>(BfZ,[],12)
 | some (a,r)=>match idL r with
  | none=>(BfZ,[],12)
  | some (b,q)=>((f,v,a,b),q,0)
def prs (l:YB):Pl×List UInt8×Int :=
 match l with
 | []=>(BfZ,[],12)
 | f::t=>if f.toNat<128 then (BfZ,[],14) else if t.length<4 then (BfZ,[],12) else prs2 f (numL (t.take 4)) (t.drop 4)
def rawP (p:Pl):List UInt8:=p.1::(putL p.2.1 4++(UInt8.ofNat p.2.2.1.length::p.2.2.1)++(UInt8.ofNat p.2.2.2.length::p.2.2.2))
def byt (p:Pl):List UInt8×Int:=if p.1.toNat<128 then ([],14) else if 255<p.2.2.1.length∨255<p.2.2.2.length then ([],15) else (rawP p,0)
def idN (l:YB) (n:Int):List UInt8×Int:=if n<0∨255<n then ([],11) else if l.length<n.toNat+1 then ([],12) else ((l.drop 1).take n.toNat,0)
def lngL (l:YB):Bool:=match l with | []=>false | f::_=>decide (128≤f.toNat)
structure Hd where
 f:UInt8
 v:Nat
 A:Option Addr
 c:Nat
 a:List UInt8
 B:Option Addr
 d:Nat
 b:List UInt8
def Hd.pl (h:Hd):Pl:=(h.f,h.v,h.a,h.b)
def Hd.cells (h:Hd):List Value:=[.int .u8 (h.f.toNat:Int),.int .u32 (h.v:Int),.slice h.A h.a.length h.c,.slice h.B h.b.length h.d]
def Hd.val (h:Hd):Value:=.agg h.cells.toArray
def zeroH:Hd:=⟨0,0,none,0,[],none,0,[]⟩
structure Hd.ok (w:World) (h:Hd):Prop where
 a:RB w w.heap.size h.A h.a.length h.a
 b:RB w w.heap.size h.B h.b.length h.b
 ca:h.a.length≤h.c∧h.c≤maxLen
 cb:h.b.length≤h.d∧h.d≤maxLen
 v32:h.v≤4294967295
structure Hd.own (w:World) (base:Nat) (h:Hd):Prop where
 a:OwnB w base h.A h.a.length h.c h.a
 b:OwnB w base h.B h.b.length h.d h.b
 v32:h.v≤4294967295
def Hc (T:TypeId) (w:World) (x:Nat) (h:Hd):Prop:=w.heap[x]?=some (.cells h.cells.toArray T (0,0))
section
variable {T:TypeId} {w w1 w':World} {x n c base base':Nat} {h g:Hd} {A:YA} {l:YB} {S:List Nat}
theorem Hd.own.ok (k:h.own w base):h.ok w:=⟨k.a.rb,k.b.rb,k.a.cap,k.b.cap,k.v32⟩
theorem Hd.ok.step (k:h.ok w) (hb:Below w.heap.size w w'):h.ok w':=⟨k.a.step hb,k.b.step hb,k.ca,k.cb,k.v32⟩
theorem Hd.own.step (k:h.own w base) (hb:Below w.heap.size w w'):h.own w' base:=⟨k.a.below hb,k.b.below hb,k.v32⟩
theorem Hd.own.base_le (k:h.own w base) (hb:base'≤base):h.own w base':=⟨k.a.base_le hb,k.b.base_le hb,k.v32⟩
theorem Hd.own.zero (w:World) (base:Nat):zeroH.own w base:=⟨OwnB.nil_ _ _,OwnB.nil_ _ _,by decide⟩
theorem Hc.cell (k:Hc T w x h) (j:Nat):w.cell? ⟨x,j,none⟩=h.cells.toArray[j]?:=by rw [cell_of_row w x j _ T (0,0) k]
theorem Hc.c0 (k:Hc T w x h):w.cell? ⟨x,0,none⟩=some (.int .u8 (h.f.toNat:Int)):=k.cell 0
theorem Hc.c1 (k:Hc T w x h):w.cell? ⟨x,1,none⟩=some (.int .u32 (h.v:Int)):=k.cell 1
theorem Hc.c2 (k:Hc T w x h):w.cell? ⟨x,2,none⟩=some (.slice h.A h.a.length h.c):=k.cell 2
theorem Hc.c3 (k:Hc T w x h):w.cell? ⟨x,3,none⟩=some (.slice h.B h.b.length h.d):=k.cell 3
theorem Hc.free (k:Hc T w x h) (j:Nat):w.frozen? ⟨x,j,none⟩=false:=frozen_of_row w x j _ T k
theorem Hc.lt (k:Hc T w x h):x<w.heap.size:=(Array.getElem?_eq_some_iff.1 k).1
theorem Hc.oth (k:Hc T w x h) (ho:Oth S w w') (hx:x∉S):Hc T w' x h:=(ho.block x k.lt hx).trans k
theorem Hc.step (k:Hc T w x h) (hb:Below w.heap.size w w'):Hc T w' x h:=(hb.block x k.lt).trans k
theorem Hc.new (w:World) (T:TypeId) (h:Hd) (x:Nat) (hx:x=w.heap.size):Hc T (w.alloc (.cells h.cells.toArray T)) x h:=by subst hx;exact heap_alloc_new w _
theorem Hc.set0 (k:Hc T w x h) (f:UInt8):Hc T (w.setCell ⟨x,0,none⟩ (.int .u8 (f.toNat:Int))) x { h with f:=f }:=heap_setCell_same w x 0 _ T _ k
theorem Hc.set1 (k:Hc T w x h) (v:Nat):Hc T (w.setCell ⟨x,1,none⟩ (.int .u32 (v:Int))) x { h with v:=v }:=heap_setCell_same w x 1 _ T _ k
theorem Hc.set2 (k:Hc T w x h) (A:YA) (c:Nat) (a:YB):Hc T (w.setCell ⟨x,2,none⟩ (.slice A a.length c)) x { h with A:=A,c:=c,a:=a }:=heap_setCell_same w x 2 _ T _ k
theorem Hc.set3 (k:Hc T w x h) (A:YA) (c:Nat) (a:YB):Hc T (w.setCell ⟨x,3,none⟩ (.slice A a.length c)) x { h with B:=A,d:=c,b:=a }:=heap_setCell_same w x 3 _ T _ k
theorem Hc.range (k:Hc T w x h):w.rangeAt x 0 h.cells:=fun j v hv=>by
 rw [Nat.zero_add,k.cell j]
 simpa using hv
theorem Hc.there (k:Hc T w x h):w.there x 0 4:=fun j hj=>by
 refine ⟨?_,k.free _⟩
 rw [Nat.zero_add,k.cell j]
 rw [List.getElem?_toArray,List.getElem?_eq_getElem (by simpa [Hd.cells] using hj)]
 rfl
theorem Hc.nob (k:Hc T w x h) (hT:T≠5):NoB [x] w:=fun j hj cs fr e=>by
 rw [List.mem_singleton.1 hj,show w.heap[x]?=_ from k] at e
 injection e with e
 injection e with _ e
 exact hT e
theorem Hd.own.off (k:h.own w base) (ho:Oth S w w') (hS:NoB S w):h.own w' base:=⟨k.a.offS ho hS,k.b.offS ho hS,k.v32⟩
theorem Hc.ne (k:Hc T w x h) {T':TypeId} {y:Nat} {a b:Value} (t:Two T' w y a b) (hT:T≠T'):x≠y:=fun e=>by
 subst e
 have e:=(show w.heap[x]?=_ from k).symm.trans t
 injection e with e
 injection e with _ e
 exact hT e
end
theorem Hc.whole {T:TypeId} {w:World} {x:Nat} {h:Hd} (k:Hc T w x h) (g:Hd):Hc T (w.setCells x 0 g.cells) x g:=by
 have k0:=k.set0 g.f
 have k1:=k0.set1 g.v
 have k2:=k1.set2 g.A g.c g.a
 exact k2.set3 g.B g.d g.b
def HT (T:TypeId):Prop:=(∃ d,prog.underlying T=some d∧d.isRow=true)∧(prog.info? T).map (fun i=>(i.zero,i.size,i.bytes))=some (some zeroH.val,4,56)
theorem AgW:HT 44:=⟨AqW (by kernel_rfl),by kernel_rfl⟩
theorem EvX:HT 106:=⟨AqW (by kernel_rfl),by kernel_rfl⟩
theorem HT.size {T:TypeId} (h:HT T):(prog.info? T).map (·.size)=some 4:=by
 obtain ⟨i,hi,_,h2,_⟩:=info_parts h.2
 rw [hi];simp [h2]
theorem HT.zero {T:TypeId} (h:HT T) (w:World):(zeroValue T).run prog w=.ok zeroH.val w:=by
 obtain ⟨i,hi,hz,_⟩:=info_parts h.2
 simp [zeroValue,typeInfo,hi,hz]
theorem hd_all (h:Hd):h.cells.toArray.all (·.oneCell')=true:=all_oneCell_toArray (fun v hv=>by
 simp only [Hd.cells,List.mem_cons,List.not_mem_nil,or_false] at hv
 rcases hv with rfl | rfl | rfl | rfl <;> rfl)
section
variable {w:World} {ops:Array Oper} {rest:List Oper} {o:Oper} {a:Act} {Q:Exit→Act→World→Prop} {T:TypeId}
theorem CeK (ht:HT T) (hgd:o.guard=none) (x:Operand) (hop:o.op=.load T x) (g:Nat) (hx:a.eval x=.pointer (some ⟨g,0,none⟩)) (h:Hd) (hc:Hc T w g h)
  (hk:wpList prog ops Q rest (a.put o.dst h.val) w):wpList prog ops Q (o::rest) a w:=by
 obtain ⟨d,hu,hd⟩:=ht.1
 exact wpList_load_mid hgd _ x hop g 0 hx _ d hc.range hu hd ht.size hk
theorem ArX (ht:HT T) (hgd:o.guard=none) (x y:Operand) (hop:o.op=.store T x y) (g:Nat) (hx:a.eval x=.pointer (some ⟨g,0,none⟩)) (h h0:Hd) (hy:a.eval y=h.val) (hc:Hc T w g h0)
  (hk:∀ w',Hc T w' g h→Oth [g] w w'→w'.heap.size=w.heap.size→wpList prog ops Q rest (a.put o.dst undef) w'):wpList prog ops Q (o::rest) a w:=by
 refine wpList_store_mid hgd _ x y hop g 0 h.cells.toArray hx hy hc.there ht.size (hd_all h) ?_
 exact hk _ (hc.whole h) (AbY g _ _ _ _ (Oth.refl _ _)) (BfX g _ _ _)
theorem DdQ (hgd:o.guard=none) (T:TypeId) (x:Operand) (hop:o.op=.box T x) (h:Hd) (hx:a.eval x=h.val)
  (hk:wpList prog ops Q rest (a.put o.dst (.pointer (some ⟨w.heap.size,0,none⟩))) (w.alloc (.cells h.cells.toArray T))):wpList prog ops Q (o::rest) a w:=by
 refine wpList_plain hgd fun K hK=>?_
 have hr:(Instr.box T h.val).run prog w=.ok (.pointer (some ⟨w.heap.size,0,none⟩)) (w.alloc (.cells h.cells.toArray T)):=rfl
 unfold Oper.wp execOp
 simp only [hop,hx,Sem.run_bind,hr,Result.andThen_ok]
 exact hK _ _ hk
theorem AmQ (ht:HT T) (hgd:o.guard=none) (hop:o.op=.alloc T)
  (hk:wpList prog ops Q rest (a.put o.dst (.pointer (some ⟨w.heap.size,0,none⟩))) (w.alloc (.cells zeroH.cells.toArray T))):wpList prog ops Q (o::rest) a w:=by
 refine wpList_plain hgd fun K hK=>?_
 have hz:=ht.zero w
 have hr:(Instr.alloc T true (.tuple #[])).run prog w=.ok (.pointer (some ⟨w.heap.size,0,none⟩)) (w.alloc (.cells zeroH.cells.toArray T)):=by
  unfold Instr.alloc;simp only [Sem.run_bind,hz,Result.andThen_ok];rfl
 unfold Oper.wp execOp
 simp only [hop,Sem.run_bind,hr,Result.andThen_ok]
 exact hK _ _ hk
end
theorem AlY {w:World} {ops:Array Oper} {rest:List Oper} {o:Oper} {a:Act} {Q:Exit→Act→World→Prop} (hgd:o.guard=none) (T:TypeId) (x:Operand) (hop:o.op=.box T x) (h:Hd) (hx:a.eval x=h.val)
  (hk:∀ w' q,Hc T w' q h→Below w.heap.size w w'→w.heap.size≤q→wpList prog ops Q rest (a.put o.dst (.pointer (some ⟨q,0,none⟩))) w'):wpList prog ops Q (o::rest) a w :=
 DdQ hgd T x hop h hx (hk _ _ (Hc.new _ _ _ _ rfl) (AaK _ _) (Nat.le_refl _))
theorem AqZ {w:World} {ops:Array Oper} {rest:List Oper} {o:Oper} {a:Act} {Q:Exit→Act→World→Prop} {T:TypeId} (ht:HT T) (hgd:o.guard=none) (hop:o.op=.alloc T)
  (hk:∀ w' q,Hc T w' q zeroH→Below w.heap.size w w'→w.heap.size≤q→wpList prog ops Q rest (a.put o.dst (.pointer (some ⟨q,0,none⟩))) w'):wpList prog ops Q (o::rest) a w :=
 AmQ ht hgd hop (hk _ _ (Hc.new _ _ _ _ rfl) (AaK _ _) (Nat.le_refl _))
theorem AtQ (ev:Operand→Value) (x:Operand) (d:Option Tmp) (ty:TypeId) (ps:String) (af:Array Edge) (g:Option (Nat×Bool)) (w:World):(execOp ev ⟨d,.load 44 x,ty,ps,af,g⟩).run prog w=ldHd 44 (ev x) w:=rfl
theorem AqV (ev:Operand→Value) (x:Operand) (d:Option Tmp) (ty:TypeId) (ps:String) (af:Array Edge) (g:Option (Nat×Bool)) (w:World):(execOp ev ⟨d,.load 106 x,ty,ps,af,g⟩).run prog w=ldHd 106 (ev x) w:=rfl
theorem ldHd_m {T:TypeId} (ht:HT T) {w:World} {g:Nat} {h:Hd} (hc:Hc T w g h):ldHd T (.pointer (some ⟨g,0,none⟩)) w=.ok (.value h.val) w:=by
 obtain ⟨d,hu,hd⟩:=ht.1
 have:=run_loadAt_mid (P:=prog) w g 0 T h.cells d hc.range hu hd ht.size
 unfold ldHd
 simp only [Sem.run_bind,this,Result.andThen_ok,Sem.run_pure]
 rfl
theorem AtK (ev:Operand→Value) (x y:Operand) (d:Option Tmp) (ty:TypeId) (ps:String) (af:Array Edge) (g:Option (Nat×Bool)) (w:World):(execOp ev ⟨d,.store 44 x y,ty,ps,af,g⟩).run prog w=stHd 44 (ev x) (ev y) w:=rfl
theorem AqQ (ev:Operand→Value) (x y:Operand) (d:Option Tmp) (ty:TypeId) (ps:String) (af:Array Edge) (g:Option (Nat×Bool)) (w:World):(execOp ev ⟨d,.store 106 x y,ty,ps,af,g⟩).run prog w=stHd 106 (ev x) (ev y) w:=rfl
theorem stHd_m {T:TypeId} (ht:HT T) {w:World} {g:Nat} {h0:Hd} (hc:Hc T w g h0) (h:Hd):stHd T (.pointer (some ⟨g,0,none⟩)) h.val w=.ok .skip (w.setCells g 0 h.cells):=by
 have:=run_storeAt_mid (P:=prog) w g 0 T h.cells.toArray hc.there ht.size (hd_all h)
 unfold stHd Hd.val
 simp only [Sem.run_bind]
 rw [this]
 rfl
theorem res_hd {fn:Func} {p:Tmp} {T:TypeId} (ht:HT T) (hr:fn.results=#[.cell p T]) (tmps:Array Value) (w:World) (b:Nat) (h:Hd) (hp:tmps.getD p undef=.pointer (some ⟨b,0,none⟩)) (hc:Hc T w b h) :
  (results fn tmps).run prog w=.ok h.val w:=by
 obtain ⟨d,hu,hd⟩:=ht.1
 have hl:=run_loadVar_mid (P:=prog) w b 0 T h.cells d hc.range hu hd ht.size
 have hl2:(loadVar T ⟨b,0,none⟩).run prog w=.ok h.val w:=hl
 rw [Array.getD_eq_getD_getElem?] at hp
 simp only [results,hr]
 simp [hp,asAddr,hl2]
theorem ClY {fn:Func} {p q r:Tmp} {T:TypeId} (ht:HT T) (hr:fn.results=#[.cell p T,.tmp q,.tmp r]) (tmps:Array Value) (w:World) (b:Nat) (h:Hd) (u v:Value) (hp:tmps.getD p undef=.pointer (some ⟨b,0,none⟩)) (hq:tmps.getD q undef=u) (hv:tmps.getD r undef=v) (hc:Hc T w b h) :
  (results fn tmps).run prog w=.ok (.tuple #[h.val,u,v]) w:=by
 obtain ⟨d,hu,hd⟩:=ht.1
 have hl:=run_loadVar_mid (P:=prog) w b 0 T h.cells d hc.range hu hd ht.size
 have hl2:(loadVar T ⟨b,0,none⟩).run prog w=.ok h.val w:=hl
 rw [Array.getD_eq_getD_getElem?] at hp hq hv
 simp only [results,hr]
 simp [hp,hq,hv,asAddr,hl2]
def RetHd (r:Pl×List UInt8×Int) (w:World) (e:Ending) (w':World):Prop :=
 ∃ (h:Hd) (A:YA) (n c:Nat),e=.returned (.tuple #[h.val,.slice A n c,.int .i64 r.2.2])∧h.pl=r.1∧h.own w' w.heap.size∧OwnB w' w.heap.size A n c r.2.1∧Below w.heap.size w w'
open Go.RowKit
theorem each_b (p:UInt8→Prop) [DecidablePred p] (h:∀ i:Fin 256,p (UInt8.ofNat i.val)) (x:UInt8):p x:=by
 have:=h ⟨x.toNat,x.toNat_lt⟩
 simpa using this
theorem and_128 (x:UInt8):(bits .and .u8 (x.toNat:Int) 128 != 0)=decide (128≤x.toNat):=each_b (fun x=>(bits .and .u8 (x.toNat:Int) 128 != 0)=decide (128≤x.toNat)) (by decide +kernel) x
theorem EsX (f:UInt8) (t:YB):numS 1 (0,f::t)=(f.toNat,0,t):=by
 rw [ApY]
 have e:AdK 1 (numT 1 (0,f::t))=([f],0,t):=by
  unfold AdK numT;rw [if_neg (by decide),if_neg (by decide)];exact AmW (n:=1) (by simp)
 rw [e]
 simp [numL]
theorem numk_ok (k:Nat) (hk:k≤8) (l:YB) (h:k≤l.length):numS (k:Int) (0,l)=(numL (l.take k),0,l.drop k):=by
 rw [ApY]
 have e:AdK (k:Int) (numT (k:Int) (0,l))=(l.take k,0,l.drop k):=by
  unfold AdK numT;rw [if_neg (by omega),if_neg (by omega),Int.toNat_natCast];exact AmW h
 rw [e]
theorem DqV (k:Nat) (hk:k≤8) (l:YB) (h:l.length<k):numS (k:Int) (0,l)=(0,12,l):=by
 rw [ApY]
 have e:AdK (k:Int) (numT (k:Int) (0,l))=([],12,l):=by
  unfold AdK numT;rw [if_neg (by omega),if_neg (by omega),Int.toNat_natCast];exact AwJ h
 rw [e]
 rfl
theorem numk_err (k:Nat) (hk:k≤8) {s:Int×List UInt8} (h:s.1≠0):numS (k:Int) s=(0,s):=by
 rw [ApY]
 have e:AdK (k:Int) (numT (k:Int) s)=([],s):=by
  unfold AdK numT;rw [if_neg (by omega),if_neg (by omega),Int.toNat_natCast];exact BaX h k
 rw [e]
 rfl
theorem BxW {s:Int×List UInt8} (h:s.1≠0):AeX s=([],s):=by
 unfold AeX
 rw [show numS 1 s=(0,s) from numk_err 1 (by omega) h,BcY (by rw [BaX (s:=s) h];exact h),BaX (s:=s) h]
theorem CuK (l:YB):AeX (0,l)=match idL l with | none=>([],12,l) | some (a,r)=>(a,0,r):=by
 unfold AeX
 rcases l with _ | ⟨n,t⟩
 ·rw [show numS 1 (0,[])=(0,12,[]) from DqV 1 (by omega) [] (by simp)]
  rfl
 ·rw [EsX]
  rw [show idL (n::t)=if t.length<n.toNat then none else some (t.take n.toNat,t.drop n.toNat) from rfl];by_cases h:t.length<n.toNat
  ·rw [if_pos h]
   rw [BcY (by simp only;rw [AwJ h];exact (show (12:Int)≠0 by decide))];simp only;rw [AwJ h]
  ·rw [if_neg h]
   rw [CbZ (by simp only;rw [AmW (by omega)])];simp only;rw [AmW (by omega)]
theorem EpV (f:UInt8) (t:YB) (hf:128≤f.toNat):prs (f::t) =
  if (AeX (AeX (numS 4 (0,t)).2).2).2.1=0 then ((f,(numS 4 (0,t)).1,(AeX (numS 4 (0,t)).2).1,(AeX (AeX (numS 4 (0,t)).2).2).1),(AeX (AeX (numS 4 (0,t)).2).2).2.2,0)
  else (BfZ,[],(AeX (AeX (numS 4 (0,t)).2).2).2.1):=by
 rw [show prs (f::t)=if f.toNat<128 then (BfZ,[],14) else if t.length<4 then (BfZ,[],12) else prs2 f (numL (t.take 4)) (t.drop 4) from rfl,if_neg (by omega)]
 by_cases h:t.length<4
 ·rw [if_pos h,show numS 4 (0,t)=(0,12,t) from DqV 4 (by omega) t h]
  simp only;rw [BxW (s:=(12,t)) (show (12:Int)≠0 by decide)];simp only;rw [BxW (s:=(12,t)) (show (12:Int)≠0 by decide)];rfl
 ·rw [if_neg h,show numS 4 (0,t)=(numL (t.take 4),0,t.drop 4) from numk_ok 4 (by omega) t (by omega)]
  simp only;rw [CuK];unfold prs2;rcases idL (t.drop 4) with _ | ⟨a,r⟩
  ·simp only
   rw [BxW (s:=(12,t.drop 4)) (show (12:Int)≠0 by decide)];rfl
  ·simp only
   rw [CuK];rcases idL r with _ | ⟨b,q⟩
   ·rfl
   ·rfl
theorem num4_le (s:Int×List UInt8):(numS 4 s).1≤4294967295:=by
 rw [ApY]
 have h:(AdK 4 (numT 4 s)).1.length≤4:=by
  unfold AdK;rw [if_neg (by decide)];exact BwX _ _
 have h1:=BbX _ (AdK 4 (numT 4 s)).1 rfl
 have h3:256 ^ (AdK 4 (numT 4 s)).1.length≤256 ^ 4:=Nat.pow_le_pow_right (by omega) h
 have h4:(256:Nat) ^ 4=4294967296:=by decide
 simp only
 omega
theorem rest_0 (l:YB):ClX (0,l)=(l,0,[]):=by
 unfold ClX
 rw [AmW (Nat.le_refl _)]
 simp
theorem BoV (f:UInt8) (v:Bool) (hv:decide (128≤f.toNat)=v) (w:World) :
  Calls prog 124 #[.int .u8 (f.toNat:Int)] w fun e w'=>e=.returned (.bool v)∧w=w':=by
 have hb:=and_128 f
 rw [hv] at hb
 obtain ⟨b,HB⟩:∃ b,Hid (b=bits .and .u8 (f.toNat:Int) 128):=⟨_,η rfl⟩
 have hbb:bits .and .u8 (f.toNat:Int) 128=b:=HB.o.symm
 rw [hbb] at hb
 subst hb
 go_enter func124,ntmps124
 go_wp2_with fail
 go_ret
 exact ⟨rfl,rfl⟩
theorem CzJ (A:YA) (n c:Nat) (l:YB) (w:World) (h:RB w w.heap.size A n l) (v:Bool) (hv:lngL l=v) :
  Calls prog 89 #[.slice A n c] w fun e w'=>e=.returned (.bool v)∧w=w':=by
 have hl:=h.len
 rcases l with _ | ⟨f,t⟩
 ·subst hl
  subst hv;go_enter func89,ntmps89;go_wp2_with fail;go_ret;exact ⟨rfl,rfl⟩
 ·obtain ⟨m,rfl⟩:∃ m,n=m+1:=⟨t.length,by rw [←hl];rfl⟩
  obtain ⟨b,o,rfl,hb,x,hx,hc⟩:=h.at_ (k:=0) (by omega);obtain rfl:f=x:=by simpa using hx
  rw [Nat.add_zero] at hc;have hpos:decide ((0:Int)<((m+1:Nat):Int))=true:=decide_eq_true (by omega);have hI:=BoV f v hv;clear h hl hx hv;go_enter func89,ntmps89;go_wp2_with fail;refine (hI _).mono ?_;rintro e w1 ⟨rfl,rfl⟩;go_wp2_with fail;go_ret;exact ⟨rfl,rfl⟩
structure PK (v:World) (x g q:Nat) (h:Hd) (s:Int×List UInt8) (w:World):Prop where
 bel:Below v.heap.size v w
 lx:v.heap.size≤x
 lg:v.heap.size≤g
 lq:v.heap.size≤q
 gq:g≠q
 rd:RdR w x s
 hd:Hc 44 w g h
 hq:Hc 44 w q zeroH
 own:h.own w v.heap.size
section
variable {v w w':World} {x g q n c:Nat} {h h':Hd} {s s':Int×List UInt8} {e:Ending} {A:YA} {l:YB}
theorem PK.gx (k:PK v x g q h s w):g≠x:=by
 obtain ⟨A,n,c,t,_⟩:=k.rd
 exact k.hd.ne t (by decide)
theorem PK.qx (k:PK v x g q h s w):q≠x:=by
 obtain ⟨A,n,c,t,_⟩:=k.rd
 exact k.hq.ne t (by decide)
theorem PK.call (k:PK v x g q h s w) (ho:Oth [x] w w') (hr:RdR w' x s'):PK v x g q h s' w' :=
 ⟨k.bel.trans (ho.below (fun j hj=>by rw [List.mem_singleton.1 hj];exact k.lx) k.bel.size),k.lx,k.lg,k.lq,k.gq,hr,k.hd.oth ho (by simpa using k.gx),k.hq.oth ho (by simpa using k.qx),k.own.off ho k.rd.nob⟩
theorem PK.step (k:PK v x g q h s w) (hb:Below w.heap.size w w'):PK v x g q h s w' :=
 ⟨AaJ k.bel hb,k.lx,k.lg,k.lq,k.gq,k.rd.step hb,k.hd.step hb,k.hq.step hb,k.own.step hb⟩
theorem PK.put (k:PK v x g q h s w) (j:Nat) (u:Value) (hh:Hc 44 (w.setCell ⟨g,j,none⟩ u) g h') (ho:Hd.own (w.setCell ⟨g,j,none⟩ u) v.heap.size h'):PK v x g q h' s (w.setCell ⟨g,j,none⟩ u):=by
 have hO:Oth [g] w (w.setCell ⟨g,j,none⟩ u):=(Oth.refl [g] w).set (x:=g) (by simp) j u
 exact ⟨k.bel.trans (hO.below (fun j hj=>by rw [List.mem_singleton.1 hj];exact k.lg) k.bel.size),k.lx,k.lg,k.lq,k.gq,k.rd.off hO (by simpa using k.gx.symm) (k.hd.nob (by decide)),hh,k.hq.oth hO (by simpa using k.gq.symm),ho⟩
theorem PK.keep (k:PK v x g q h s w) (j:Nat) (u:Value) {base:Nat} (r:OwnB w base A n c l):OwnB (w.setCell ⟨g,j,none⟩ u) base A n c l :=
 r.offS ((Oth.refl [g] w).set (x:=g) (by simp) j u) (k.hd.nob (by decide))
theorem PK.put0 (k:PK v x g q h s w) (f:UInt8):PK v x g q { h with f:=f } s (w.setCell ⟨g,0,none⟩ (.int .u8 (f.toNat:Int))):=k.put 0 _ (k.hd.set0 f) ⟨k.keep _ _ k.own.a,k.keep _ _ k.own.b,k.own.v32⟩
theorem PK.put1 (k:PK v x g q h s w) (u:Nat) (hu:u≤4294967295):PK v x g q { h with v:=u } s (w.setCell ⟨g,1,none⟩ (.int .u32 (u:Int))):=k.put 1 _ (k.hd.set1 u) ⟨k.keep _ _ k.own.a,k.keep _ _ k.own.b,hu⟩
theorem PK.put2 (k:PK v x g q h s w) (r:OwnB w v.heap.size A n c l):PK v x g q { h with A:=A,c:=c,a:=l } s (w.setCell ⟨g,2,none⟩ (.slice A n c)):=by
 have hl:=r.len
 subst hl
 exact k.put 2 _ (k.hd.set2 A c l) ⟨k.keep _ _ r,k.keep _ _ k.own.b,k.own.v32⟩
theorem PK.put3 (k:PK v x g q h s w) (r:OwnB w v.heap.size A n c l):PK v x g q { h with B:=A,d:=c,b:=l } s (w.setCell ⟨g,3,none⟩ (.slice A n c)):=by
 have hl:=r.len
 subst hl
 exact k.put 3 _ (k.hd.set3 A c l) ⟨k.keep _ _ k.own.a,k.keep _ _ r,k.own.v32⟩
end
open Go.RowKit
attribute [local irreducible] numS AeX ClX prs
attribute [local go_sem ↓] AtQ AtK
theorem wrap8 (n:Nat) (f:UInt8) (h:n=f.toNat):IntKind.u8.wrap (n:Int)=(f.toNat:Int):=by
 subst h
 rw [IntKind.wrap_u8]
 have:=f.toNat_lt
 omega
theorem wrap32 (n:Nat) (h:n≤4294967295):IntKind.u32.wrap (n:Int)=(n:Int):=by
 rw [IntKind.wrap_u32]
 omega
theorem EqJ (A:YA) (n c:Nat) (l:YB) (w:World) (h:RB w w.heap.size A n l) (hn:n≤1000000) :
  Calls prog 56 #[.slice A n c] w (RetHd (prs l) w):=by
 have hl:=h.len
 rcases l with _ | ⟨f,t⟩
 ·have hp:prs []=(BfZ,[],12):=by unfold prs;rfl
  rw [hp];subst hl;have HQ:Hc 44 (w.alloc (.cells zeroH.cells.toArray 44)) w.heap.size zeroH:=Hc.new _ _ _ _ rfl;clear h hp;go_enter func56,ntmps56
  go_wp2_with (first
   | (refine AmQ AgW rfl rfl ?_)
   | (refine ArX AgW rfl (.tmp 2) (.tmp 11) rfl w.heap.size rfl zeroH zeroH rfl (by exact HQ) ?_;intro w2 hc2 ho2 hs2;have H2:=η (And.intro hc2 ho2);clear hc2 ho2 hs2))
  exact bodyPost_ret (v:=.tuple #[zeroH.val,.slice none 0 0,.int .i64 12]) (ClY AgW rfl _ _ w.heap.size zeroH _ _ rfl rfl rfl H2.o.1) rfl ⟨zeroH,none,0,0,rfl,rfl,Hd.own.zero _ _,OwnB.nil_ _ _,(AaK _ _).trans (H2.o.2.below (by simp) (by simp))⟩
 ·by_cases hf:f.toNat<128
  ·have hp:prs (f::t)=(BfZ,[],14):=by unfold prs;exact if_pos hf
   rw [hp];have hv:lngL (f::t)=false:=decide_eq_false (by omega);have HQ:Hc 44 (w.alloc (.cells zeroH.cells.toArray 44)) w.heap.size zeroH:=Hc.new _ _ _ _ rfl;have hne:((n:Int) == 0)=false:=by rw [beq_eq_false_iff_ne];rw [←hl];simp only [List.length_cons];omega
   have HL:=η (CzJ A n c _ _ (h.step (AaK w (.cells zeroH.cells.toArray 44))) _ hv);clear h hp hl hv;go_enter func56,ntmps56
   go_wp2_with (first
    | (refine AmQ AgW rfl rfl ?_))
   refine HL.o.mono ?_;rintro e w1 ⟨rfl,rfl⟩
   go_wp2_with (first
    | (refine ArX AgW rfl (.tmp 2) (.tmp 15) rfl w.heap.size rfl zeroH zeroH rfl (by exact HQ) ?_;intro w2 hc2 ho2 hs2;have H2:=η (And.intro hc2 ho2);clear hc2 ho2 hs2))
   exact bodyPost_ret (v:=.tuple #[zeroH.val,.slice none 0 0,.int .i64 14]) (ClY AgW rfl _ _ w.heap.size zeroH _ _ rfl rfl rfl H2.o.1) rfl ⟨zeroH,none,0,0,rfl,rfl,Hd.own.zero _ _,OwnB.nil_ _ _,(AaK _ _).trans (H2.o.2.below (by simp) (by simp))⟩
  ·rw [EpV f t (by omega)]
   have hv:lngL (f::t)=true:=decide_eq_true (by omega);have hne:((n:Int) == 0)=false:=by rw [beq_eq_false_iff_ne];rw [←hl];simp only [List.length_cons];omega
   have hb0:=AaK w (.cells zeroH.cells.toArray 44);have HL:=η (CzJ A n c _ _ (h.step hb0) _ hv);have hb1:=hb0.trans ((AaK (w.alloc (.cells zeroH.cells.toArray 44)) (.cells zeroH.cells.toArray 44)).mono hb0.size);have HR:=η (DoV A n c _ _ (h.step hb1) hn);have HQ:Hid (Hc 44 ((w.alloc (.cells zeroH.cells.toArray 44)).alloc (.cells zeroH.cells.toArray 44)) w.heap.size zeroH):=η ((Hc.new w _ _ _ rfl).step (AaK _ _));have HG:Hid (Hc 44 ((w.alloc (.cells zeroH.cells.toArray 44)).alloc (.cells zeroH.cells.toArray 44)) (w.heap.size+1) zeroH):=η (Hc.new _ _ _ _ (by simp));have HB:=η hb1;have HN1:Hid (numS 1 (0,f::t)=(f.toNat,0,t)):=η (EsX f t);obtain ⟨r2,HR2⟩:∃ r,Hid (r=numS 4 (0,t)):=⟨_,η rfl⟩;have h32:r2.1≤4294967295:=by rw [HR2.o];exact num4_le _
   rw [←HR2.o];obtain ⟨r3,HR3⟩:∃ r,Hid (r=AeX r2.2):=⟨_,η rfl⟩;rw [←HR3.o];obtain ⟨r4,HR4⟩:∃ r,Hid (r=AeX r3.2):=⟨_,η rfl⟩;rw [←HR4.o];obtain ⟨R,HRR⟩:∃ R:Pl×List UInt8×Int,Hid (R=if r4.2.1=0 then ((f,r2.1,r3.1,r4.1),r4.2.2,0) else (BfZ,[],r4.2.1)):=⟨_,η rfl⟩;rw [←HRR.o];have wf:=wrap8 f.toNat f rfl;have wv:=wrap32 r2.1 h32;clear h hl hv hb0 hb1 hf;go_enter func56,ntmps56
   go_wp2_with (first
    | (refine AmQ AgW rfl rfl ?_))
   refine HL.o.mono ?_;rintro e w1 ⟨rfl,rfl⟩;clear HL
   go_wp2_with (first
    | (refine AmQ AgW rfl rfl ?_))
   refine HR.o.mono ?_;rintro e w3 ⟨x,rfl,hx,hb,hr⟩;have K1:Hid (PK w x (w.heap.size+1) w.heap.size zeroH (0,f::t) w3):=η ⟨HB.o.trans (hb.mono HB.o.size),Nat.le_trans HB.o.size hx,by omega,by omega,by omega,hr,HG.o.step hb,HQ.o.step hb,Hd.own.zero _ _⟩;obtain ⟨g,HGG⟩:∃ g,Hid (w.heap.size+1=g):=⟨_,η rfl⟩;obtain ⟨q,HQQ⟩:∃ g,Hid (w.heap.size=g):=⟨_,η rfl⟩;have K1':Hid (PK w x g q zeroH (0,f::t) w3):=η (by rw [←HGG.o,←HQQ.o];exact K1.o);rw [HGG.o,HQQ.o];clear hx hb hr HR HB HQ HG K1;go_wp2_with fail;refine (BtJ x 1 _ _ K1'.o.rd (by decide)).mono ?_;rw [HN1.o];rintro e w4 ⟨rfl,ho,hr⟩;have K2:=η (K1'.o.call ho hr);have c0:=K2.o.hd.c0;have f0:=K2.o.hd.free 0;clear ho hr K1';go_wp2_with fail;have K3:=η (K2.o.put0 f);clear c0 f0 K2;refine (BtJ x 4 _ _ K3.o.rd (by decide)).mono ?_;rw [←HR2.o];rintro e w5 ⟨rfl,ho,hr⟩;have K4:=η (K3.o.call ho hr);have c0:=K4.o.hd.c1;have f0:=K4.o.hd.free 1;clear ho hr K3;go_wp2_with fail;have K5:=η (K4.o.put1 r2.1 h32);clear c0 f0 K4;refine (BeJ x _ _ K5.o.rd).mono ?_;rw [←HR3.o];rintro e w6 ⟨A1,n1,c1,rfl,ho1,ho,hr⟩;have K6:=η (K5.o.call ho hr);have O6:=η (ho1.base_le K5.o.bel.size);have c0:=K6.o.hd.c2;have f0:=K6.o.hd.free 2;clear ho hr ho1 K5;go_wp2_with fail;have K7:=η (K6.o.put2 O6.o);clear c0 f0 K6 O6;refine (BeJ x _ _ K7.o.rd).mono ?_;rw [←HR4.o];rintro e w7 ⟨A2,n2,c2,rfl,ho1,ho,hr⟩;have K8:=η (K7.o.call ho hr);have O8:=η (ho1.base_le K7.o.bel.size);have c0:=K8.o.hd.c3;have f0:=K8.o.hd.free 3;clear ho hr ho1 K7;go_wp2_with fail;have K9:=η (K8.o.put3 O8.o);clear c0 f0 K8 O8;obtain ⟨w9,HW9⟩:∃ w9,Hid (w7.setCell ⟨g,3,none⟩ (.slice A2 n2 c2)=w9):=⟨_,η rfl⟩;rw [HW9.o] at K9 ⊢;refine (err_any x _ _ K9.o.rd).mono ?_;rintro e w8 ⟨rfl,rfl⟩;by_cases h0:r4.2.1=0
   ·have HE:Hid (R=((f,r2.1,r3.1,r4.1),r4.2.2,0)):=η (by rw [HRR.o,if_pos h0])
    have hb:(r4.2.1 != 0)=false:=by rw [h0];rfl
    go_wp2_with fail;obtain ⟨H9,KH⟩:∃ H9,Hid (PK w x g q H9 r4.2 w9.drew∧H9.pl=(f,r2.1,r3.1,r4.1)):=⟨_,η ⟨K9.o.step (Below.refl _ _).drew,rfl⟩⟩;refine wp_region_held_drew (S:=fun w'=>Hc 44 w' g H9) (by kernel_rfl) KH.o.1.hd (fun hHeld=>?_);(try dsimp only at hHeld);have Ω:=η (fun (w:World) (hSw:Hc 44 w g H9)=>(ldHd_m AgW hSw));refine tkJ 0 rfl hHeld ?_;refine tkJ 1 rfl hHeld ?_;refine rdI 2 rfl (fun K hK=>?_);(try simp only [Act.put,rxT,sxT]);go_simp;refine (EnJ x _ _ KH.o.1.rd).mono ?_;rintro e w8 ⟨A3,n3,c3,rfl,ho1,ho,hr⟩;have K10:=η (KH.o.1.call ho hr);have O10:=η (ho1.base_le KH.o.1.bel.size);have q4:=stHd_m AgW K10.o.hq H9;clear ho hr ho1;(try go_wp2_with fail);refine hK.o _ _ K10.o.hd (fun hHeld=>?_);clear hK K;refine rdI 3 rfl (fun K hK=>?_);(try simp only [Act.put,rxT,sxT]);go_simp;refine hK.o _ _ (K10.o.hd.oth (AbY q _ _ _ _ (Oth.refl _ _)) (by simpa using K10.o.gq)) (fun hHeld=>?_);clear hK K;refine tkJ 4 rfl hHeld ?_;refine tkJ 5 rfl hHeld ?_;(try simp only [Act.put,rxT,sxT]);refine wpAnyH_done (by kernel_rfl) ?_ _;go_wp2_with fail;have hX:Oth [q] w8 (w8.setCells q 0 H9.cells):=AbY q _ _ _ _ (Oth.refl _ _);have hnq:NoB [q] w8:=K10.o.hq.nob (by decide)
    have er:ClX r4.2=(r4.2.2,0,[]):=by
     rw [show r4.2=(0,r4.2.2) from by rw [←h0]];exact rest_0 _
    rw [er] at O10;rw [HE.o];exact bodyPost_ret (v:=.tuple #[H9.val,.slice A3 n3 c3,.int .i64 0]) (ClY AgW rfl _ _ q H9 _ _ rfl rfl rfl (K10.o.hq.whole H9)) rfl ⟨H9,A3,n3,c3,rfl,KH.o.2,K10.o.own.off hX hnq,O10.o.offS hX hnq,K10.o.bel.trans (hX.below (fun j hj=>by rw [List.mem_singleton.1 hj];exact K10.o.lq) K10.o.bel.size)⟩
   ·have HE:Hid (R=(BfZ,[],r4.2.1)):=η (by rw [HRR.o,if_neg h0])
    have hb:(r4.2.1 != 0)=true:=by simpa using h0
    go_wp2_with (first
     | (refine ArX AgW rfl (.tmp 2) (.tmp 36) rfl q rfl zeroH zeroH rfl (by exact K9.o.hq) ?_;intro w2 hc2 ho2 hs2;have H2:=η (And.intro hc2 ho2);clear hc2 ho2 hs2))
    rw [HE.o];exact bodyPost_ret (v:=.tuple #[zeroH.val,.slice none 0 0,.int .i64 r4.2.1]) (ClY AgW rfl _ _ q zeroH _ _ rfl rfl rfl H2.o.1) rfl ⟨zeroH,none,0,0,rfl,rfl,Hd.own.zero _ _,OwnB.nil_ _ _,K9.o.bel.trans (H2.o.2.below (fun j hj=>by rw [List.mem_singleton.1 hj];exact K9.o.lq) K9.o.bel.size)⟩
end Go.Proofs.YthppjgdnibfefaaGreat
namespace Go.Proofs.YthppjgdnibfefaaGreat
open Tryz
open Go.RowKit
theorem EpQ (v:Nat):(putL v 4).length=4:=AdY v 4
theorem putN_4 (v:Nat) (hv:v≤4294967295):putN v 4=(putL v 4,0):=by
 have hd:AeQ v 4=0:=by show v / 256 / 256 / 256 / 256=0;omega
 exact if_pos ⟨by decide,by decide,hd⟩
theorem putN_f (f:UInt8):putN f.toNat 1=([f],0):=by
 have:=f.toNat_lt
 rw [DpK (by omega)]
 simp
theorem CfW (p:YB):(AeK p).1.length≤256:=by
 unfold AeK
 split
 ·simp
 ·simp only [List.length_cons];omega
theorem EzZ (f:UInt8) (v:Nat) (a b:YB) (hf:128≤f.toNat):BsQ (putS (AeK b).1 (AeK b).2 (putS (AeK a).1 (AeK a).2 (0,f::putL v 4)))=byt (f,v,a,b):=by
 unfold byt
 rw [if_neg (by simp only;omega)]
 by_cases ha:255<a.length
 ·rw [if_pos (.inl ha)]
  have e:AeK a=([],15):=if_pos ha;rw [e,DoZ _ _ (by decide),BjX (s:=(15,f::putL v 4)) (show (15:Int)≠0 by decide)];exact DjJ (s:=(15,f::putL v 4)) (show (15:Int)≠0 by decide)
 ·have e:AeK a=(UInt8.ofNat a.length::a,0):=if_neg ha
  rw [e,AwV];by_cases hb:255<b.length
  ·rw [if_pos (.inr hb)]
   have e:AeK b=([],15):=if_pos hb;rw [e,DoZ _ _ (by decide)];exact DjJ (s:=(15,_)) (show (15:Int)≠0 by decide)
  ·rw [if_neg (by simp only;omega)]
   have e:AeK b=(UInt8.ofNat b.length::b,0):=if_neg hb;rw [e,AwV,CpW];unfold rawP;simp
attribute [local irreducible] putS putN AeK BsQ byt putL
attribute [local go_sem ↓] AtQ AtK AqV AqQ
structure BK (v:World) (x q:Nat) (A:YA) (h:Hd) (s:Int×List UInt8) (w:World):Prop where
 bel:Below v.heap.size v w
 lx:v.heap.size≤x
 wr:WrR w x v.heap.size A s
 hd:Hc 44 w q h
theorem RB.ltB {w:World} {B n:Nat} {A:YA} {l:YB} (h:RB w B A n l) (hn:0<n) {g o:Nat} (e:A=some ⟨g,o,none⟩):g<B:=by
 obtain ⟨g',o',e',hg,_⟩:=h.2 hn
 rw [e] at e'
 injection e' with e'
 injection e' with e1
 omega
section
variable {v w w':World} {x q n:Nat} {A B:YA} {h:Hd} {s s':Int×List UInt8} {e:Ending} {val:Value} {l:YB}
theorem BK.step (k:BK v x q A h s w) (hb:Below w.heap.size w w'):BK v x q A h s w':=⟨AaJ k.bel hb,k.lx,k.wr.step hb,k.hd.step hb⟩
theorem BK.away (k:BK v x q A h s w) (r:RB v v.heap.size B n l):0<n→∀ g o,B=some ⟨g,o,none⟩→g∉blkO A:=fun hn g o e hg=>by
 have h1:=r.ltB hn e
 have h2:=(k.wr.own g hg).2.1
 omega
theorem BK.ret (k:BK v x q A h s w) (r:RetW WrR x v.heap.size A s' val w e w'):e=.returned val∧∃ A',BK v x q A' h s' w':=by
 obtain ⟨he,A',h1,h2,h3⟩:=r
 refine ⟨he,A',k.bel.trans (h2.below (fun j hj=>?_) k.bel.size),k.lx,h3,k.hd.oth h2 (fun hm=>?_)⟩
 ·rcases List.mem_cons.1 hj with rfl | hj
  ·exact k.lx
  ·exact (k.wr.own j hj).2.1
 ·rcases List.mem_cons.1 hm with e1 | hm
  ·obtain ⟨n,c,t,_⟩:=k.wr
   exact k.hd.ne t (by decide) e1
  ·obtain ⟨a,ea,hk⟩:=AuV hm
   obtain ⟨n,c,_,t⟩:=k.wr;exact (k.hd.nob (by decide)).own t a.block 0 (by rw [ea];exact congrArg some (t.spot a ea).1) (by simp [hk])
end
theorem EcY (h:Hd) (w:World) (hk:h.ok w) (ha:h.a.length≤1000000) (hb:h.b.length≤1000000) :
  Calls prog 182 #[h.val] w (AgJ (byt h.pl).1.length (byt h.pl).1 (byt h.pl).2 w):=by
 have HK:=η hk
 by_cases hf:h.f.toNat<128
 ·have he:byt h.pl=([],14):=by unfold byt;exact if_pos hf
  rw [he];have HI:=η (fun w=>BoV h.f false (decide_eq_false (by omega)) w);clear hk he;go_enter func182,ntmps182
  go_wp2_with (first
   | (refine AlY rfl _ (.tmp 0) rfl h rfl ?_;intro w1 q hc1 hb1 hx1;have B1:=η hb1;have c0:=hc1.c0;clear hc1 hb1 hx1))
  refine (HI.o _).mono ?_;rintro e w2 ⟨rfl,rfl⟩;go_wp2_with fail;go_ret2;exact ⟨none,0,rfl,OwnB.nil_ _ _,B1.o⟩
 ·have HI:=η (fun w=>BoV h.f true (decide_eq_true (by omega)) w)
  have HE:=η (EzZ h.f h.v h.a h.b (by omega));have hp1:putS (putN h.f.toNat 1).1 (putN h.f.toNat 1).2 (0,[])=(0,[h.f]):=by rw [putN_f,AwV];rfl
  have hp2:putS (putN h.v 4).1 (putN h.v 4).2 (0,[h.f])=(0,h.f::putL h.v 4):=by rw [putN_4 _ hk.v32,AwV];rfl
  have P1:=η hp1;have P2:=η hp2;have h4:=EpQ h.v;obtain ⟨L,HL⟩:∃ L,Hid (L=h.f::putL h.v 4):=⟨_,η rfl⟩;have hL:L.length=5:=by rw [HL.o];simp [h4]
  rw [←HL.o] at P2 HE;have l1:=BtV (AeK h.a).1 (AeK h.a).2 (0,L);have l2:=CfW h.a;obtain ⟨s3,HS3⟩:∃ s,Hid (s=putS (AeK h.a).1 (AeK h.a).2 (0,L)):=⟨_,η rfl⟩;rw [←HS3.o] at l1 HE;have l3:=BtV (AeK h.b).1 (AeK h.b).2 s3;have l4:=CfW h.b;obtain ⟨s4,HS4⟩:∃ s,Hid (s=putS (AeK h.b).1 (AeK h.b).2 s3):=⟨_,η rfl⟩;rw [←HS4.o] at l3 HE;have b3:s3.2.length≤1000:=by simp only at l1;omega
  have b4:s4.2.length≤2000:=by omega
  have hf8:=h.f.toNat_lt;have hv32:=hk.v32;have wf:IntKind.u64.wrap (h.f.toNat:Int)=(h.f.toNat:Int):=by rw [IntKind.wrap_u64];omega
  have wv:IntKind.u64.wrap (h.v:Int)=(h.v:Int):=by rw [IntKind.wrap_u64];omega
  rw [show byt h.pl=byt (h.f,h.v,h.a,h.b) from rfl,←HE.o];obtain ⟨R,HR⟩:∃ R,Hid (R=BsQ s4):=⟨_,η rfl⟩;rw [←HR.o];clear hk hf hp1 hp2 h4 l1 l2 l3 l4 HE;go_enter func182,ntmps182
  go_wp2_with (first
   | (refine AlY rfl _ (.tmp 0) rfl h rfl ?_;intro w1 q hc1 hb1 hx1;have B1:=η hb1;have C1:=η hc1;have c0:=hc1.c0;clear hc1 hb1 hx1))
  refine (HI.o _).mono ?_;rintro e w2 ⟨rfl,rfl⟩;go_wp2_with fail;have HCD:Hc 44 w1.drew q h:=C1.o;refine wp_region_held_drew (S:=fun w'=>Hc 44 w' q h) (by kernel_rfl) HCD (fun hHeld=>?_);(try dsimp only at hHeld);have Ω:=η (fun (w:World) (hSw:Hc 44 w q h)=>an hSw.c0 (an hSw.c1 (an hSw.c2 hSw.c3)));refine tkJ 1 rfl hHeld ?_;refine tkJ 2 rfl hHeld ?_;refine tkJ 3 rfl hHeld ?_;refine tkJ 5 rfl hHeld ?_;refine tkJ 6 rfl hHeld ?_;refine tkJ 7 rfl hHeld ?_;refine rdI 0 rfl (fun K hK=>?_);(try simp only [Act.put,rxT,sxT]);go_simp;refine (BuY _ w.heap.size (by exact B1.o.size)).mono ?_;rintro e w3 ⟨x,rfl,hx,hb3,hw⟩;have K3:Hid (BK w x q none h (0,[]) w3):=η ⟨B1.o.trans (((Below.refl w1.heap.size w1).drew.trans hb3).mono B1.o.size),Nat.le_trans B1.o.size hx,hw,HCD.step hb3⟩;clear hx hb3 hw;(try go_wp2_with fail);refine hK.o _ _ K3.o.hd (fun hHeld=>?_);clear hK K;refine rdI 4 rfl (fun K hK=>?_);(try simp only [Act.put,rxT,sxT]);go_simp;refine (BiV x w.heap.size none h.f.toNat 1 _ _ K3.o.wr K3.o.bel.size (by simp) (by omega)).mono ?_;rw [P1.o];intro e w4 k;obtain ⟨rfl,A4,k4⟩:=K3.o.ret k;have K4:=η k4;clear k k4;(try go_wp2_with fail);refine hK.o _ _ K4.o.hd (fun hHeld=>?_);clear hK K;refine rdI 8 rfl (fun K hK=>?_);(try simp only [Act.put,rxT,sxT]);go_simp;refine (BiV x w.heap.size A4 h.v 4 _ _ K4.o.wr K4.o.bel.size (by simp) (by omega)).mono ?_;rw [P2.o];intro e w5 k;obtain ⟨rfl,A5,k5⟩:=K4.o.ret k;have K5:=η k5;clear k k5;(try go_wp2_with fail);refine hK.o _ _ K5.o.hd (fun hHeld=>?_);clear hK K;refine tkJ 9 rfl hHeld ?_;(try simp only [Act.put,rxT,sxT]);refine wpAnyH_done (by kernel_rfl) ?_ _;go_wp2_with fail;have K5':=η (K5.o.step (Below.refl _ _).drew);refine wp_region_held_drew (S:=fun w'=>Hc 44 w' q h) (by kernel_rfl) K5'.o.hd (fun hHeld=>?_);(try dsimp only at hHeld);refine tkJ 0 rfl hHeld ?_;refine tkJ 1 rfl hHeld ?_;refine tkJ 2 rfl hHeld ?_;refine tkJ 4 rfl hHeld ?_;refine tkJ 5 rfl hHeld ?_;refine rdI 3 rfl (fun K hK=>?_);(try simp only [Act.put,rxT,sxT]);go_simp;refine (AvX x w.heap.size A5 h.A h.a.length h.c h.a _ _ K5'.o.wr (HK.o.a.step K5'.o.bel) (K5'.o.away HK.o.a) (by omega) K5'.o.bel.size (by simp only;omega)).mono ?_;rw [←HS3.o];intro e w6 k;obtain ⟨rfl,A6,k6⟩:=K5'.o.ret k;have K6:=η k6;clear k k6;(try go_wp2_with fail);refine hK.o _ _ K6.o.hd (fun hHeld=>?_);clear hK K;refine rdI 6 rfl (fun K hK=>?_);(try simp only [Act.put,rxT,sxT]);go_simp;refine (AvX x w.heap.size A6 h.B h.b.length h.d h.b _ _ K6.o.wr (HK.o.b.step K6.o.bel) (K6.o.away HK.o.b) (by omega) K6.o.bel.size (by omega)).mono ?_;rw [←HS4.o];intro e w7 k;obtain ⟨rfl,A7,k7⟩:=K6.o.ret k;have K7:=η k7;clear k k7;(try go_wp2_with fail);refine hK.o _ _ K7.o.hd (fun hHeld=>?_);clear hK K;refine rdI 7 rfl (fun K hK=>?_);(try simp only [Act.put,rxT,sxT]);go_simp;refine (BvV x w.heap.size A7 _ _ K7.o.wr (by omega)).mono ?_;rw [←HR.o];rintro e w8 ⟨A8,c8,rfl,ho8,hb8⟩;have K8:=η (K7.o.step hb8);have O8:=η (ho8.base_le K7.o.bel.size)
  clear ho8 hb8;(try go_wp2_with fail);refine hK.o _ _ K8.o.hd (fun hHeld=>?_);clear hK K;refine tkJ 8 rfl hHeld ?_;refine tkJ 9 rfl hHeld ?_;refine tkJ 10 rfl hHeld ?_;refine tkJ 11 rfl hHeld ?_;(try simp only [Act.put,rxT,sxT]);refine wpAnyH_done (by kernel_rfl) ?_ _;go_wp2_with fail;go_ret2;exact ⟨A8,c8,rfl,O8.o,K8.o.bel⟩
end Go.Proofs.YthppjgdnibfefaaGreat
namespace Go.Proofs.YthppjgdnibfefaaGreat
open Tryz
open Go.RowKit
attribute [local go_sem ↓] AtQ AtK AqV AqQ
end Go.Proofs.YthppjgdnibfefaaGreat
namespace Go.Proofs.YthppjgdnibfefaaGreat
open Tryz
open Go.RowKit
theorem prs_kind (f:UInt8) (t:YB) (h:f.toNat<128):prs (f::t)=(BfZ,[],14):=if_pos h
theorem prs_few (f:UInt8) (t:YB) (h:¬f.toNat<128) (h4:t.length<4):prs (f::t)=(BfZ,[],12):=(if_neg h).trans (if_pos h4)
theorem DpW (f:UInt8) (t:YB) (h:¬f.toNat<128) (h4:¬t.length<4):prs (f::t)=prs2 f (numL (t.take 4)) (t.drop 4):=(if_neg h).trans (if_neg h4)
theorem idL_some {l a r:YB} (h:idL l=some (a,r)):∃ f t,l=f::t∧f.toNat≤t.length∧a=t.take f.toNat∧r=t.drop f.toNat:=by
 rcases l with _ | ⟨f,t⟩
 ·cases h
 ·rw [show idL (f::t)=if t.length<f.toNat then none else some (t.take f.toNat,t.drop f.toNat) from rfl] at h
  by_cases h1:t.length<f.toNat
  ·rw [if_pos h1] at h;cases h
  ·rw [if_neg h1] at h
   injection h with h;injection h with h2 h3;exact ⟨f,t,rfl,by omega,h2.symm,h3.symm⟩
attribute [local irreducible] numS AeX ClX prs numL
structure QK (v:World) (g q:Nat) (h:Hd) (w:World):Prop where
 bel:Below v.heap.size v w
 lg:v.heap.size≤g
 lq:v.heap.size≤q
 gq:g≠q
 hd:Hc 106 w g h
 hq:Hc 106 w q zeroH
 own:h.own w v.heap.size
section
variable {v w w':World} {g q n c:Nat} {h h':Hd} {A:YA} {l:YB}
end
attribute [local go_sem ↓] AqV AqQ
end Go.Proofs.YthppjgdnibfefaaGreat
namespace Go.Proofs.YthppjgdnibfefaaGreat
open Tryz
open Go.RowKit
attribute [local irreducible] numS AeX ClX prs numL prs2 idL
attribute [local go_sem ↓] AqV AqQ
end Go.Proofs.YthppjgdnibfefaaGreat
namespace Go.Proofs.YthppjgdnibfefaaGreat
open Tryz
open Go.RowKit
theorem DvJ (p:Pl) (h:¬p.1.toNat<128) (h1:255<p.2.2.1.length∨255<p.2.2.2.length):byt p=([],15):=(if_neg h).trans (if_pos h1)
theorem byt_ok (p:Pl) (h:¬p.1.toNat<128) (h1:¬(255<p.2.2.1.length∨255<p.2.2.2.length)):byt p=(rawP p,0):=(if_neg h).trans (if_neg h1)
theorem CwV (v:Nat):putL v 4=[UInt8.ofNat (v / 256 / 256 / 256),UInt8.ofNat (v / 256 / 256),UInt8.ofNat (v / 256),UInt8.ofNat v]:=rfl
theorem lit5 (f:UInt8) (v:Nat) (hv:v≤4294967295):#[Value.int .u8 (f.toNat:Int),.int .u8 ((v:Int) / 16777216),.int .u8 ((v:Int) / 65536 % 256),.int .u8 ((v:Int) / 256 % 256),.int .u8 ((v:Int) % 256)]=(bvs (f::putL v 4)).toArray:=by
 rw [CwV]
 simp only [bvs,bv,List.map_cons,List.map_nil,UInt8.toNat_ofNat',Array.mk.injEq,List.cons.injEq,Value.int.injEq,true_and,and_true]
 omega
theorem lit1 (n:Nat) (hn:n≤255):#[Value.int .u8 (n:Int)]=(bvs [UInt8.ofNat n]).toArray:=by
 simp only [bvs,bv,List.map_cons,List.map_nil,UInt8.toNat_ofNat',Array.mk.injEq,List.cons.injEq,Value.int.injEq,true_and,and_true]
 omega
theorem Hc.app {T:TypeId} {w w':World} {x base n c:Nat} {h:Hd} {A:YA} {l:YB} (k:Hc T w x h) (hT:T≠5) (r:OwnB w base A n c l) (ho:Oth (blkO A) w w'):Hc T w' x h :=
 k.oth ho (fun hm=>by
  obtain ⟨a,ea,hk⟩:=AuV hm
  exact (k.nob hT).own r a.block 0 (by rw [ea];exact congrArg some (r.spot a ea).1) (by simp [hk]))
attribute [local irreducible] putL byt
attribute [local go_sem ↓] AqV AqQ
theorem DgJ (h:Hd) (w:World) (hk:h.ok w) (ha:h.a.length≤1000000) (hb:h.b.length≤1000000) :
  Calls prog 175 #[h.val] w (AgJ (byt h.pl).1.length (byt h.pl).1 (byt h.pl).2 w):=by
 have HK:=η hk
 have hf8:=h.f.toNat_lt
 by_cases hf:h.f.toNat<128
 ·have he:byt h.pl=([],14):=by unfold byt;exact if_pos hf
  rw [he];clear hk he;go_enter func175,ntmps175
  go_wp2_with (first
   | (refine AlY rfl _ (.tmp 0) rfl h rfl ?_;intro w1 q hc1 hb1 hx1;have B1:=η hb1;have c0:=hc1.c0;clear hc1 hb1 hx1))
  go_ret2;exact ⟨none,0,rfl,OwnB.nil_ _ _,B1.o⟩
 by_cases h1:255<h.a.length
 ·have he:byt h.pl=([],15):=DvJ h.pl hf (.inl h1)
  rw [he];have d1:decide (255<(h.a.length:Int))=true:=decide_eq_true (by omega);clear hk he;go_enter func175,ntmps175
  go_wp2_with (first
   | (refine AlY rfl _ (.tmp 0) rfl h rfl ?_;intro w1 q hc1 hb1 hx1;have B1:=η hb1;have c0:=hc1.c0;have c2:=hc1.c2;have c3:=hc1.c3;clear hc1 hb1 hx1))
  go_ret2;exact ⟨none,0,rfl,OwnB.nil_ _ _,B1.o⟩
 by_cases h2:255<h.b.length
 ·have he:byt h.pl=([],15):=DvJ h.pl hf (.inr h2)
  rw [he];have d1:decide (255<(h.a.length:Int))=false:=decide_eq_false (by omega);have d2:decide (255<(h.b.length:Int))=true:=decide_eq_true (by omega);clear hk he;go_enter func175,ntmps175
  go_wp2_with (first
   | (refine AlY rfl _ (.tmp 0) rfl h rfl ?_;intro w1 q hc1 hb1 hx1;have B1:=η hb1;have c0:=hc1.c0;have c2:=hc1.c2;have c3:=hc1.c3;clear hc1 hb1 hx1))
  go_ret2;exact ⟨none,0,rfl,OwnB.nil_ _ _,B1.o⟩
 have he:byt h.pl=(rawP h.pl,0):=byt_ok h.pl hf (by show ¬(255<h.a.length∨255<h.b.length);omega)
 rw [he]
 have d1:decide (255<(h.a.length:Int))=false:=decide_eq_false (by omega)
 have d2:decide (255<(h.b.length:Int))=false:=decide_eq_false (by omega)
 have hv32:=hk.v32
 clear hk he
 go_enter func175,ntmps175
 go_wp2_with (first
  | (refine AlY rfl _ (.tmp 0) rfl h rfl ?_;intro w1 q hc1 hb1 hx1;have B1:=η hb1;have C1:=η hc1;have c0:=hc1.c0;have c1:=hc1.c1;have c2:=hc1.c2;have c3:=hc1.c3;clear hc1 hb1 hx1))
 have ha255:h.a.length≤255:=by omega
 have hb255:h.b.length≤255:=by omega
 have l5:=lit5 h.f h.v hv32
 obtain ⟨L0,HL0⟩:∃ L,Hid (L=h.f::putL h.v 4):=⟨_,η rfl⟩
 rw [←HL0.o] at l5
 have hl5:L0.length=5:=by rw [HL0.o];simp [CwV]
 obtain ⟨cs,HCS⟩:∃ cs,Hid (cs=#[Value.int .u8 (h.f.toNat:Int),.int .u8 ((h.v:Int) / 16777216),.int .u8 ((h.v:Int) / 65536 % 256),.int .u8 ((h.v:Int) / 256 % 256),.int .u8 ((h.v:Int) % 256)]):=⟨_,η rfl⟩
 rw [←HCS.o] at l5 ⊢
 have OL0:Hid (OwnB (w1.alloc (.cells cs 5)).drew w.heap.size (some ⟨w1.heap.size,0,none⟩) 5 5 L0):=η (OwnB.lit w1 _ L0 cs 5 l5 hl5 (by unfold maxLen;omega) B1.o.size)
 have BL0:Hid (Below w.heap.size w (w1.alloc (.cells cs 5)).drew):=η (AaJ B1.o (AaK _ _)).drew
 have CL0:Hid (Hc 106 (w1.alloc (.cells cs 5)).drew q h):=η (C1.o.step (AaK _ _).drew)
 obtain ⟨v0,HV0⟩:∃ v0,Hid (v0=w1.alloc (.cells cs 5)):=⟨_,η rfl⟩
 obtain ⟨g0,HG0⟩:∃ v0,Hid (v0=w1.heap.size):=⟨_,η rfl⟩
 rw [←HV0.o] at OL0 BL0 CL0 ⊢
 rw [←HG0.o] at OL0 ⊢
 have hwa:IntKind.u8.wrap (h.a.length:Int)=(h.a.length:Int):=by rw [IntKind.wrap_u8];omega
 have hwb:IntKind.u8.wrap (h.b.length:Int)=(h.b.length:Int):=by rw [IntKind.wrap_u8];omega
 have la1:=lit1 h.a.length ha255
 have lb1:=lit1 h.b.length hb255
 have LA1:=η la1
 have LB1:=η lb1
 clear C1 B1 c0 c1 c2 c3 l5 HCS la1 lb1
 refine wp_region_held_drew (S:=fun w'=>Hc 106 w' q h) (by kernel_rfl) CL0.o (fun hHeld=>?_)
 (try dsimp only at hHeld)
 have Ω:=η (fun (w:World) (hSw:Hc 106 w q h)=>an hSw.c0 (an hSw.c1 (an hSw.c2 hSw.c3)))
 refine tkJ 0 rfl hHeld ?_
 refine tkJ 1 rfl hHeld ?_
 refine tkJ 2 rfl hHeld ?_
 refine tkJ 3 rfl hHeld ?_
 refine tkJ 4 rfl hHeld ?_
 refine tkJ 7 rfl hHeld ?_
 refine tkJ 8 rfl hHeld ?_
 refine rdI 5 rfl (fun K hK=>?_)
 (try simp only [Act.put,rxT,sxT])
 go_simp
 (try rw [hwa])
 refine hK.o _ _ (CL0.o.step (AaK _ _)) (fun hHeld=>?_)
 clear hK K
 refine rdI 6 rfl (fun K hK=>?_)
 (try simp only [Act.put,rxT,sxT])
 rw [if_pos (by rfl)]
 refine BfV (.tmp 36) (.tmp 41) rfl w.heap.size _ _ _ L0 rfl (by exact (OL0.o.below (AaK _ (.cells #[.int .u8 (h.a.length:Int)] 5)))) _ (some ⟨v0.drew.heap.size,0,none⟩) 1 1 [UInt8.ofNat h.a.length] rfl (by exact (RB.lit v0.drew [UInt8.ofNat h.a.length] _ 1 _ LA1.o rfl rfl)) (by omega) (by exact (AaJ BL0.o (AaK _ (.cells #[.int .u8 (h.a.length:Int)] 5))).size) ?_
 intro A1 k1 v1 ho hg hb
 have OL1:=η ho
 have BL1:=η ((AaJ BL0.o (AaK _ (.cells #[.int .u8 (h.a.length:Int)] 5))).trans hb)
 have CL1:Hid (Hc 106 v1 q h):=η (Hc.app (CL0.o.step (AaK _ (.cells #[.int .u8 (h.a.length:Int)] 5))) (by decide) (OL0.o.below (AaK _ (.cells #[.int .u8 (h.a.length:Int)] 5))) (Oth.of_grown hg))
 clear ho hg hb
 refine hK.o _ _ CL1.o (fun hHeld=>?_)
 clear hK K
 refine rdI 9 rfl (fun K hK=>?_)
 (try simp only [Act.put,rxT,sxT])
 rw [if_pos (by rfl)]
 refine BfV (.tmp 42) (.tmp 44) rfl w.heap.size _ _ _ (L0++[UInt8.ofNat h.a.length]) rfl (by exact OL1.o) _ h.A h.a.length h.c h.a rfl (by exact (HK.o.a.below BL1.o)) (by omega) (by exact BL1.o.size) ?_
 intro A2 k2 v2 ho hg hb
 have OL2:=η ho
 have BL2:=η (BL1.o.trans hb)
 have CL2:Hid (Hc 106 v2 q h):=η (Hc.app (CL1.o) (by decide) OL1.o (Oth.of_grown hg))
 clear ho hg hb
 refine hK.o _ _ CL2.o (fun hHeld=>?_)
 clear hK K
 refine tkJ 10 rfl hHeld ?_
 (try simp only [Act.put,rxT,sxT])
 refine wpAnyH_done (by kernel_rfl) ?_ _
 go_wp2_with fail
 obtain ⟨m6,hm6⟩:∃ m6,m6=6+h.a.length:=⟨_,rfl⟩
 rw [show 5+1+h.a.length=m6 from by omega] at OL2 ⊢
 (try rw [←hm6])
 have bm6:m6≤300:=by omega
 clear hm6
 obtain ⟨L2,HL2⟩:∃ L2,Hid (L2=L0++[UInt8.ofNat h.a.length]++h.a):=⟨_,η rfl⟩
 rw [←HL2.o] at OL2
 have OD2:Hid (OwnB v2.drew w.heap.size A2 m6 k2 L2):=η OL2.o.drew
 have BD2:Hid (Below w.heap.size w v2.drew):=η BL2.o.drew
 have CD2:Hid (Hc 106 v2.drew q h):=CL2
 clear OL0 BL0 CL0 OL1 BL1 CL1 OL2 BL2 CL2 hHeld
 refine wp_region_held_drew (S:=fun w'=>Hc 106 w' q h) (by kernel_rfl) CD2.o (fun hHeld=>?_)
 (try dsimp only at hHeld)
 refine tkJ 0 rfl hHeld ?_
 refine tkJ 1 rfl hHeld ?_
 refine tkJ 2 rfl hHeld ?_
 refine tkJ 3 rfl hHeld ?_
 refine tkJ 4 rfl hHeld ?_
 refine tkJ 7 rfl hHeld ?_
 refine tkJ 8 rfl hHeld ?_
 refine rdI 5 rfl (fun K hK=>?_)
 (try simp only [Act.put,rxT,sxT])
 go_simp
 (try rw [hwb])
 refine hK.o _ _ (CD2.o.step (AaK _ _)) (fun hHeld=>?_)
 clear hK K
 refine rdI 6 rfl (fun K hK=>?_)
 (try simp only [Act.put,rxT,sxT])
 rw [if_pos (by rfl)]
 refine BfV (.tmp 46) (.tmp 51) rfl w.heap.size _ _ _ L2 rfl (by exact (OD2.o.below (AaK _ (.cells #[.int .u8 (h.b.length:Int)] 5)))) _ (some ⟨v2.drew.heap.size,0,none⟩) 1 1 [UInt8.ofNat h.b.length] rfl (by exact (RB.lit v2.drew [UInt8.ofNat h.b.length] _ 1 _ LB1.o rfl rfl)) (by omega) (by exact (AaJ BD2.o (AaK _ (.cells #[.int .u8 (h.b.length:Int)] 5))).size) ?_
 intro A3 k3 v3 ho hg hb
 have OL3:=η ho
 have BL3:=η ((AaJ BD2.o (AaK _ (.cells #[.int .u8 (h.b.length:Int)] 5))).trans hb)
 have CL3:Hid (Hc 106 v3 q h):=η (Hc.app (CD2.o.step (AaK _ (.cells #[.int .u8 (h.b.length:Int)] 5))) (by decide) (OD2.o.below (AaK _ (.cells #[.int .u8 (h.b.length:Int)] 5))) (Oth.of_grown hg))
 clear ho hg hb
 refine hK.o _ _ CL3.o (fun hHeld=>?_)
 clear hK K
 refine rdI 9 rfl (fun K hK=>?_)
 (try simp only [Act.put,rxT,sxT])
 rw [if_pos (by rfl)]
 refine BfV (.tmp 52) (.tmp 54) rfl w.heap.size _ _ _ (L2++[UInt8.ofNat h.b.length]) rfl (by exact OL3.o) _ h.B h.b.length h.d h.b rfl (by exact (HK.o.b.below BL3.o)) (by omega) (by exact BL3.o.size) ?_
 intro A4 k4 v4 ho hg hb
 have OL4:=η ho
 have BL4:=η (BL3.o.trans hb)
 have CL4:Hid (Hc 106 v4 q h):=η (Hc.app (CL3.o) (by decide) OL3.o (Oth.of_grown hg))
 clear ho hg hb
 refine hK.o _ _ CL4.o (fun hHeld=>?_)
 clear hK K
 refine tkJ 10 rfl hHeld ?_
 refine tkJ 11 rfl hHeld ?_
 (try simp only [Act.put,rxT,sxT])
 refine wpAnyH_done (by kernel_rfl) ?_ _
 go_wp2_with fail
 go_ret2
 have eL:L2++[UInt8.ofNat h.b.length]++h.b=rawP h.pl:=by
  rw [HL2.o,HL0.o];unfold rawP;simp [Hd.pl]
 have O4:=OL4.o
 rw [eL] at O4
 have hn:=O4.len
 rw [←hn] at O4
 exact ⟨A4,k4,by rw [hn];rfl,O4,BL4.o⟩
end Go.Proofs.YthppjgdnibfefaaGreat
namespace Go.Proofs.YthppjgdnibfefaaGreat
open Tryz
open Go.RowKit
attribute [local go_sem ↓] AtQ AtK AqV AqQ
theorem hof_any (h:Hd) (w:World) (hk:h.ok w) (ha:h.a.length≤1000000) (hb:h.b.length≤1000000) :
  Calls prog 71 #[h.val] w fun e w'=>∃ g:Hd,e=.returned g.val∧g.pl=h.pl∧g.own w' w.heap.size∧Below w.heap.size w w':=by
 have HK:=η hk
 have v32:=hk.v32
 clear hk
 go_enter func71,ntmps71
 go_wp2_with (first
  | (refine AlY rfl _ (.tmp 0) rfl h rfl ?_;intro w1 q hc1 hb1 hx1;have H1:=η (And.intro hc1 (And.intro hb1 hx1));clear hc1 hb1 hx1)
  | (with_reducible show wpList _ _ _ (⟨_,.alloc _,_,_,_,none⟩::_) _ _;refine AqZ EvX rfl rfl ?_;intro w2 p hc2 hb2 hx2;have H2:=η (And.intro hc2 (And.intro hb2 hx2));clear hc2 hb2 hx2))
 have hpq:p≠q:=fun e=>by
  have h1:=H1.o.1.lt;have h2:=H2.o.2.2;omega
 have HC2:Hc 44 w2.drew q h:=H1.o.1.step H2.o.2.1.drew
 have HP2:Hid (Hc 106 w2.drew p zeroH):=η H2.o.1
 have BL2:Hid (Below w.heap.size w w2.drew):=η (AaJ H1.o.2.1 H2.o.2.1).drew
 have LP:Hid (w.heap.size≤p):=η (Nat.le_trans H1.o.2.1.size H2.o.2.2)
 clear H1 H2
 refine wp_region_held_drew (S:=fun w'=>Hc 44 w' q h) (by kernel_rfl) HC2 (fun hHeld=>?_)
 (try dsimp only at hHeld)
 have Ω:=η (fun (w:World) (hSw:Hc 44 w q h)=>an hSw.c0 (an hSw.c1 (an hSw.c2 hSw.c3)))
 refine tkJ 0 rfl hHeld ?_
 refine tkJ 1 rfl hHeld ?_
 refine tkJ 2 rfl hHeld ?_
 refine tkJ 3 rfl hHeld ?_
 refine tkJ 4 rfl hHeld ?_
 refine tkJ 5 rfl hHeld ?_
 refine tkJ 7 rfl hHeld ?_
 refine tkJ 8 rfl hHeld ?_
 refine rdI 6 rfl (fun K hK=>?_)
 (try simp only [Act.put,rxT,sxT])
 go_simp
 refine (ArW h.A h.a.length h.c 0 h.a _ (by exact HK.o.a.step BL2.o) (by omega)).mono ?_
 rintro e w3 ⟨A3,c3,rfl,ho,hb3⟩
 have O3:=η (ho.base_le BL2.o.size)
 have BL3:=η (AaJ BL2.o hb3)
 have HP3:=η (HP2.o.step hb3)
 have HC3:=HC2.step hb3
 clear ho hb3
 (try go_wp2_with fail)
 refine hK.o _ _ HC3 (fun hHeld=>?_)
 clear hK K
 refine rdI 9 rfl (fun K hK=>?_)
 (try simp only [Act.put,rxT,sxT])
 go_simp
 refine (ArW h.B h.b.length h.d 0 h.b _ (by exact HK.o.b.step BL3.o) (by omega)).mono ?_
 rintro e w4 ⟨A4,c4,rfl,ho,hb4⟩
 have O4:=η (ho.base_le BL3.o.size)
 have O3':=η (O3.o.below hb4)
 have BL4:=η (AaJ BL3.o hb4)
 have HP4:=η (HP3.o.step hb4)
 have HC4:=HC3.step hb4
 clear ho hb4
 (try go_wp2_with fail)
 refine hK.o _ _ HC4 (fun hHeld=>?_)
 clear hK K
 refine tkJ 10 rfl hHeld ?_
 (try simp only [Act.put,rxT,sxT])
 obtain ⟨H9,HV9⟩:∃ H9:Hd,Hid (H9=⟨h.f,h.v,A3,c3,h.a,A4,c4,h.b⟩):=⟨_,η rfl⟩
 have e9:H9.val=.agg #[.int .u8 (h.f.toNat:Int),.int .u32 (h.v:Int),.slice A3 h.a.length c3,.slice A4 h.b.length c4]:=by rw [HV9.o];rfl
 have hpl:H9.pl=h.pl:=by rw [HV9.o];rfl
 have own9:H9.own w4 w.heap.size:=by rw [HV9.o];exact ⟨O3'.o,O4.o,v32⟩
 have HO9:=η (And.intro hpl own9)
 have qs:=stHd_m EvX HP4.o H9
 have E9:=η e9
 rw [e9] at qs
 clear hpl own9 e9
 refine rdI 11 rfl (fun K hK=>?_)
 (try simp only [rxT])
 go_simp
 refine hK.o _ _ (HC4.oth (AbY p _ _ _ _ (Oth.refl _ _)) (by simpa using hpq.symm)) (fun hHeld=>?_)
 clear hK K
 (try simp only [Act.put,rxT,sxT])
 refine wpAnyH_done (by kernel_rfl) ?_ _
 go_wp2_with fail
 have hX:Oth [p] w4 (w4.setCells p 0 H9.cells):=AbY p _ _ _ _ (Oth.refl _ _)
 have hnp:NoB [p] w4:=HP4.o.nob (by decide)
 exact bodyPost_ret (v:=H9.val) (res_hd EvX rfl _ _ p H9 rfl (HP4.o.whole _)) rfl ⟨H9,rfl,HO9.o.1,HO9.o.2.off hX hnp,BL4.o.trans (hX.below (fun j hj=>by rw [List.mem_singleton.1 hj];exact LP.o) BL4.o.size)⟩
end Go.Proofs.YthppjgdnibfefaaGreat
namespace Go.Proofs.YthppjgdnibfefaaGreat
open Tryz
open Go.RowKit
structure KW (v:World) (rows:List (Option Addr×Nat×Nat×List UInt8)) (hs:List Hd) (bs:List (TypeId×Nat×Hd)) (w:World):Prop where
 bel:Below v.heap.size v w
 row:∀ r∈rows,RB w w.heap.size r.1 r.2.1 r.2.2.2∧r.2.1≤r.2.2.1∧r.2.2.1≤maxLen
 hd:∀ h∈hs,h.ok w
 box:∀ b∈bs,Hc b.1 w b.2.1 b.2.2
section
variable {v w w' w2 w3:World} {rows:List (Option Addr×Nat×Nat×List UInt8)} {hs:List Hd} {bs:List (TypeId×Nat×Hd)} {n c base x:Nat} {A:YA} {l:YB} {e:Ending} {T:TypeId} {h:Hd}
end
attribute [local irreducible] prs byt idN
attribute [local go_sem ↓] AtQ AtK
end Go.Proofs.YthppjgdnibfefaaGreat
namespace Go.Proofs.YthppjgdnibfefaaGreat
open Tryz
open Go.RowKit
theorem DrJ:∀ (k n:Nat),numL (putL n k)+256 ^ k*AeQ n k=n
 | 0,n=>by simp [putL,numL,AeQ]
 | k+1,n=>by
  have ih:=DrJ k (n / 256);rw [putL,AjY,←AxV];have e:(UInt8.ofNat n).toNat=n % 256:=by simp
  rw [e,Nat.pow_succ];have h2:256 ^ k*256*AeQ (n / 256) k=256*(256 ^ k*AeQ (n / 256) k):=by rw [Nat.mul_comm (256 ^ k) 256,Nat.mul_assoc]
  rw [h2];omega
theorem EsW (n:Nat) (hn:n<2 ^ 32):numL (putL n 4)=n:=by
 have h:=DrJ 4 n
 have hd:AeQ n 4=0:=by show n / 256 / 256 / 256 / 256=0;omega
 rw [hd] at h
 omega
theorem DpV:∀ (k:Nat) (l:YB),l.length=k→putL (numL l) k=l
 | 0,l,h=>by rw [List.eq_nil_of_length_eq_zero h];rfl
 | k+1,l,h=>by
  obtain ⟨m,x,rfl⟩:∃ m x,l=m++[x]:=by
   have hne:l≠[]:=fun e=>by rw [e] at h;cases h
   exact ⟨l.dropLast,l.getLast hne,(List.dropLast_concat_getLast hne).symm⟩
  have hm:m.length=k:=by simpa using h
  have hx:=x.toNat_lt;rw [putL,AjY,show (numL m*256+x.toNat) / 256=numL m by omega,DpV k m hm]
  have e:UInt8.ofNat (numL m*256+x.toNat)=x:=by
   apply UInt8.toNat_inj.1;simp
  rw [e]
theorem EvW (a r:YB) (h:a.length≤255):idL (UInt8.ofNat a.length::a++r)=some (a,r):=by
 have e:(UInt8.ofNat a.length).toNat=a.length:=by simp;omega
 rw [List.cons_append,show idL (UInt8.ofNat a.length::(a++r))=if (a++r).length<(UInt8.ofNat a.length).toNat then none else some ((a++r).take (UInt8.ofNat a.length).toNat,(a++r).drop (UInt8.ofNat a.length).toNat) from rfl,e,if_neg (by simp)]
 simp
theorem DsV {l a r:YB} (h:idL l=some (a,r)):a.length≤255∧l=UInt8.ofNat a.length::a++r:=by
 obtain ⟨f,t,rfl,h1,rfl,rfl⟩:=idL_some h
 have hf:=f.toNat_lt
 have hl:(t.take f.toNat).length=f.toNat:=by rw [List.length_take];omega
 refine ⟨by omega,?_⟩
 rw [hl]
 simp
structure Pgood (p:Pl):Prop where
 f:¬p.1.toNat<128
 v:p.2.1≤4294967295
 a:p.2.2.1.length≤255
 b:p.2.2.2.length≤255
theorem DvK {p:Pl} (h:Pgood p):byt p=(rawP p,0):=byt_ok p h.f (by have:=h.a;have:=h.b;omega)
theorem DgW (p:Pl):(rawP p).length=7+p.2.2.1.length+p.2.2.2.length:=by
 unfold rawP
 simp [AdY]
 omega
theorem prs_raw (p:Pl) (h:Pgood p) (r:YB):prs (rawP p++r)=(p,r,0):=by
 obtain ⟨f,v,a,b⟩:=p
 have hf:=h.f
 have hv:v≤4294967295:=h.v
 have h4:(putL v 4).length=4:=AdY v 4
 have e:rawP (f,v,a,b)++r=f::(putL v 4++(UInt8.ofNat a.length::a++(UInt8.ofNat b.length::b++r))):=by
  unfold rawP;simp
 rw [e,DpW f _ hf (by simp [h4])]
 rw [List.take_append_of_le_length (by omega),List.take_of_length_le (by omega),List.drop_append_of_le_length (by omega),List.drop_of_length_le (by omega),List.nil_append,EsW v (by omega)]
 unfold prs2
 rw [EvW a _ h.a]
 simp only
 rw [EvW b _ h.b]
theorem DpX {l:YB} (h:(prs l).2.2=0):Pgood (prs l).1∧rawP (prs l).1++(prs l).2.1=l:=by
 rcases l with _ | ⟨f,t⟩
 ·exact absurd h (by decide)
 ·by_cases hf:f.toNat<128
  ·rw [prs_kind f t hf] at h;exact absurd h (by decide)
  by_cases h4:t.length<4
  ·rw [prs_few f t hf h4] at h;exact absurd h (by decide)
  rw [DpW f t hf h4] at h ⊢
  have h32:numL (t.take 4)≤4294967295:=by
   have h1:=BbX 4 (t.take 4) (by rw [List.length_take];omega);have h2:(256:Nat) ^ 4=4294967296:=by decide
   omega
  have hp:putL (numL (t.take 4)) 4=t.take 4:=DpV 4 (t.take 4) (by rw [List.length_take];omega);have hs:t=t.take 4++t.drop 4:=(List.take_append_drop 4 t).symm;unfold prs2 at h ⊢;rcases h1:idL (t.drop 4) with _ | ⟨a,r⟩
  ·rw [h1] at h;exact absurd (show (12:Int)=0 from h) (by decide)
  ·rw [h1] at h
   simp only at h ⊢;rcases h2:idL r with _ | ⟨b,q⟩
   ·rw [h2] at h;exact absurd (show (12:Int)=0 from h) (by decide)
   ·simp only
    obtain ⟨k1,e1⟩:=DsV h1;obtain ⟨k2,e2⟩:=DsV h2;refine ⟨⟨hf,h32,k1,k2⟩,?_⟩;unfold rawP;simp only;rw [hp]
    conv=>rhs;rw [hs,e1,e2]
    simp
