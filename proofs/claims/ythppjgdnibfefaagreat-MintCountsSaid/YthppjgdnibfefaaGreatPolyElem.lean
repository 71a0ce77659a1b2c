import Derived.Test.YthppjgdnibfefaaGreatPolyMath
import Derived.Test.YthppjgdnibfefaaGreatOctAll
set_option linter.all false
set_option maxRecDepth 100000
set_option maxHeartbeats 32000000
namespace Go.Proofs.YthppjgdnibfefaaGreat
open Tryz
open Go.RowKit
def RetE (h l:Nat) (w:World) (e:Ending) (w':World):Prop:=e=.returned (EV h l)∧Below w.heap.size w w'
theorem AvZ:∃ d,prog.underlying 247=some d∧d.isRow=true:=by
 have h:(prog.underlying 247).map (·.isRow)=some true:=by kernel_rfl
 rcases hu:prog.underlying 247 with _ | d
 ·rw [hu] at h;cases h
 ·rw [hu] at h;injection h with h;exact ⟨d,rfl,h⟩
theorem AuQ:(prog.info? 247).map (·.size)=some 2:=by kernel_rfl
theorem EpQ {fn:Func} {p:Tmp} (h:fn.results=#[.cell p 247]) (tmps:Array Value) (w:World) (b H L:Nat) (ht:tmps.getD p undef=.pointer (some ⟨b,0,none⟩))
  (hc:w.rangeAt b 0 [.int .u64 (H:Int),.int .u64 (L:Int)]):(results fn tmps).run prog w=.ok (EV H L) w:=by
 obtain ⟨d,hu,hd⟩:=AvZ
 have hl:=run_loadVar_mid (P:=prog) w b 0 247 [.int .u64 (H:Int),.int .u64 (L:Int)] d hc hu hd AuQ
 rw [Array.getD_eq_getD_getElem?] at ht
 simp only [results,h]
 simp [ht,asAddr,hl,EV]
theorem and1 (l:Nat) (hl:l<2 ^ 64):bits .and .u64 (l:Int) 1=((l % 2:Nat):Int):=by
 rw [and_one_u64 (l:Int) (by omega) (by omega)]
 omega
theorem BiY (a b:Nat) (ha:a<2 ^ 64) (hb:b<2 ^ 64):bits .xor .u64 (a:Int) (b:Int)=((a ^^^ b:Nat):Int):=by
 have hx:a ^^^ b<2 ^ 64:=Nat.xor_lt_two_pow ha hb
 show IntKind.u64.wrap ((BitVec.ofInt 64 (a:Int) ^^^ BitVec.ofInt 64 (b:Int)).toNat:Int)=_
 rw [BitVec.toNat_xor,ofInt_u64 a (by omega),ofInt_u64 b (by omega),IntKind.wrap_u64]
 omega
theorem shl63 (h:Nat):IntKind.u64.wrap ((h:Int)*9223372036854775808)=((h % 2*2 ^ 63:Nat):Int):=by rw [IntKind.wrap_u64];omega
open Go.RowKit
def es (h l:Nat):List Value:=[.int .u64 (h:Int),.int .u64 (l:Int)]
def Ew (w:World) (g h l:Nat):Prop:=w.rangeAt g 0 (es h l)∧w.there g 0 2
theorem EyW (h l:Nat):(es h l).toArray.all (·.oneCell')=true:=all_oneCell_toArray (fun v hv=>by
 simp only [es,List.mem_cons,List.not_mem_nil,or_false] at hv
 rcases hv with rfl | rfl <;> rfl)
section
variable {w w':World} {g h l B:Nat}
theorem Ew.at0 (e:Ew w g h l):w.cell? ⟨g,0,none⟩=some (.int .u64 (h:Int)):=e.1 0 _ rfl
theorem Ew.at1 (e:Ew w g h l):w.cell? ⟨g,1,none⟩=some (.int .u64 (l:Int)):=e.1 1 _ rfl
theorem Ew.free0 (e:Ew w g h l):w.frozen? ⟨g,0,none⟩=false:=(e.2 0 (by omega)).2
theorem Ew.free1 (e:Ew w g h l):w.frozen? ⟨g,1,none⟩=false:=(e.2 1 (by omega)).2
theorem Ew.mk (c0:w.cell? ⟨g,0,none⟩=some (.int .u64 (h:Int))) (c1:w.cell? ⟨g,1,none⟩=some (.int .u64 (l:Int))) (f0:w.frozen? ⟨g,0,none⟩=false) (f1:w.frozen? ⟨g,1,none⟩=false):Ew w g h l:=by
 refine ⟨fun j v hv=>?_,fun j hj=>?_⟩
 ·match j,hv with
  | 0,hv=>injection hv with hv;rw [←hv];exact c0
  | 1,hv=>injection hv with hv;rw [←hv];exact c1
  | j+2,hv=>simp [es] at hv
 ·match j,hj with
  | 0,_=>exact ⟨by rw [c0];rfl,f0⟩
  | 1,_=>exact ⟨by rw [c1];rfl,f1⟩
  | j+2,hj=>omega
theorem Ew.lt (e:Ew w g h l):g<w.heap.size:=World.block_lt_of_cell? w _ e.at0
theorem Ew.block (e:Ew w g h l) (hb:w'.heap[g]?=w.heap[g]?):Ew w' g h l :=
 Ew.mk ((World.cell?_of_block hb).trans e.at0) ((World.cell?_of_block hb).trans e.at1) ((World.frozen?_of_block hb).trans e.free0) ((World.frozen?_of_block hb).trans e.free1)
theorem Ew.below (e:Ew w g h l) (hb:Below B w w') (hg:g<B):Ew w' g h l:=e.block (hb.block g hg)
theorem Ew.alloc (e:Ew w g h l) (ob:Obj):Ew (w.alloc ob) g h l:=e.below ((Below.refl w.heap.size w).alloc (Nat.le_refl _) ob) e.lt
theorem Ew.setCells (e:Ew w g h l) {b:Nat} (hb:b≠g) (o:Nat) (vs:List Value):Ew (w.setCells b o vs) g h l:=e.block (AcY b g (fun x=>hb x.symm) vs o w)
theorem Ew.setCell (e:Ew w g h l) {p:Addr} (hp:p.block≠g) (v:Value):Ew (w.setCell p v) g h l:=e.block (Below.heap_setCell w p v g (fun x=>hp x.symm))
theorem Ew.whole (e:Ew w g h l) (h' l':Nat):Ew (w.setCells g 0 (es h' l')) g h' l':=by
 have hin:∀ q,q<(es h' l').length→(w.cell? ⟨g,0+q,none⟩).isSome=true:=fun q hq=>(e.2 q hq).1
 have h0:=World.cell?_setCells_in g (es h' l') 0 w hin 0 (by simp [es])
 have h1:=World.cell?_setCells_in g (es h' l') 0 w hin 1 (by simp [es])
 exact Ew.mk h0 h1 ((World.frozen?_setCells _ _ _ _ _).trans e.free0) ((World.frozen?_setCells _ _ _ _ _).trans e.free1)
theorem Ew.new (w:World) (h l n:Nat) (hn:n=w.heap.size):Ew (w.alloc (.cells (es h l).toArray 247)) n h l:=by
 subst hn
 refine Ew.mk ?_ ?_ (World.frozen?_alloc_at _ _ _ _ rfl) (World.frozen?_alloc_at _ _ _ _ rfl)
 ·rw [World.cell?_alloc_at _ _ _ _ rfl];rfl
 ·rw [World.cell?_alloc_at _ _ _ _ rfl];rfl
end
section
variable {w:World} {ops:Array Oper} {rest:List Oper} {o:Oper} {a:Act} {Q:Exit→Act→World→Prop}
theorem BfW (hgd:o.guard=none) (x:Operand) (hop:o.op=.load 247 x) (g:Nat) (hx:a.eval x=.pointer (some ⟨g,0,none⟩)) (h l:Nat) (hc:Ew w g h l)
  (hk:wpList prog ops Q rest (a.put o.dst (EV h l)) w):wpList prog ops Q (o::rest) a w:=by
 obtain ⟨d,hu,hd⟩:=AvZ
 exact wpList_load_mid hgd _ x hop g 0 hx (es h l) d hc.1 hu hd AuQ hk
theorem AoY (hgd:o.guard=none) (x y:Operand) (hop:o.op=.store 247 x y) (g:Nat) (hx:a.eval x=.pointer (some ⟨g,0,none⟩)) (h l h0 l0:Nat) (hy:a.eval y=EV h l) (hc:Ew w g h0 l0)
  (hk:wpList prog ops Q rest (a.put o.dst undef) (w.setCells g 0 (es h l))):wpList prog ops Q (o::rest) a w :=
 wpList_store_mid hgd _ x y hop g 0 (es h l).toArray hx hy hc.2 AuQ (EyW h l) (by simpa using hk)
end
theorem DpX {fn:Func} {p:Tmp} (hr:fn.results=#[.cell p 247]) (tmps:Array Value) (w:World) (b H L:Nat) (ht:tmps.getD p undef=.pointer (some ⟨b,0,none⟩)) (hc:Ew w b H L) :
  (results fn tmps).run prog w=.ok (EV H L) w:=EpQ hr tmps w b H L ht hc.1
open Go.RowKit
def PE (x:Nat):Value:=EV (x / 2 ^ 64) (x % 2 ^ 64)
def Xw (w:World) (g x:Nat):Prop:=Ew w g (x / 2 ^ 64) (x % 2 ^ 64)
def RetP (x:Nat) (w:World) (e:Ending) (w':World):Prop:=e=.returned (PE x)∧Below w.heap.size w w'
theorem BmZ (x:Nat):hl (x / 2 ^ 64) (x % 2 ^ 64)=x:=by unfold hl;omega
theorem EqY (p q:Nat) (hq:q<2 ^ 64):PE (hl p q)=EV p q:=by
 unfold PE
 have h:=hl_inj (hl p q / 2 ^ 64) (hl p q % 2 ^ 64) p q (by omega) hq (BmZ _)
 rw [h.1,h.2]
theorem AtQ {w:World} {ops:Array Oper} {rest:List Oper} {o:Oper} {a:Act} {Q:Exit→Act→World→Prop} (hgd:o.guard=none) (x:Operand) (hop:o.op=.load 247 x) (g:Nat) (hx:a.eval x=.pointer (some ⟨g,0,none⟩)) (n:Nat) (hc:Xw w g n)
  (hk:wpList prog ops Q rest (a.put o.dst (PE n)) w):wpList prog ops Q (o::rest) a w:=BfW hgd x hop g hx _ _ hc hk
theorem AnW {w:World} {ops:Array Oper} {rest:List Oper} {o:Oper} {a:Act} {Q:Exit→Act→World→Prop} (hgd:o.guard=none) (x y:Operand) (hop:o.op=.store 247 x y) (g:Nat) (hx:a.eval x=.pointer (some ⟨g,0,none⟩)) (n m:Nat) (hy:a.eval y=PE n) (hc:Xw w g m)
  (hk:wpList prog ops Q rest (a.put o.dst undef) (w.setCells g 0 (es (n / 2 ^ 64) (n % 2 ^ 64)))):wpList prog ops Q (o::rest) a w:=AoY hgd x y hop g hx _ _ _ _ hy hc hk
theorem ByK {w:World} {ops:Array Oper} {rest:List Oper} {o:Oper} {a:Act} {Q:Exit→Act→World→Prop} (hgd:o.guard=none) (T:TypeId) (x:Operand) (hop:o.op=.box T x) (n:Nat) (hx:a.eval x=PE n)
  (h:wpList prog ops Q rest (a.put o.dst (.pointer (some ⟨w.heap.size,0,none⟩))) (w.alloc (.cells (es (n / 2 ^ 64) (n % 2 ^ 64)).toArray T))):wpList prog ops Q (o::rest) a w:=by
 refine wpList_plain hgd fun K hK=>?_
 have hr:(Instr.box T (PE n)).run prog w=.ok (.pointer (some ⟨w.heap.size,0,none⟩)) (w.alloc (.cells (es (n / 2 ^ 64) (n % 2 ^ 64)).toArray T)):=rfl
 unfold Oper.wp execOp
 simp only [hop,hx,Sem.run_bind,hr,Result.andThen_ok]
 exact hK _ _ h
theorem Ew.set0 {w:World} {g h l:Nat} (e:Ew w g h l) (x:Nat):Ew (w.setCell ⟨g,0,none⟩ (.int .u64 (x:Int))) g x l :=
 Ew.mk (World.cell?_setCell_same' _ _ _ (by rw [e.at0];rfl)) ((World.cell?_setCell_other _ _ _ _ (by simp)).trans e.at1) ((World.frozen?_setCell _ _ _ _).trans e.free0) ((World.frozen?_setCell _ _ _ _).trans e.free1)
theorem Ew.set1 {w:World} {g h l:Nat} (e:Ew w g h l) (x:Nat):Ew (w.setCell ⟨g,1,none⟩ (.int .u64 (x:Int))) g h x :=
 Ew.mk ((World.cell?_setCell_other _ _ _ _ (by simp)).trans e.at0) (World.cell?_setCell_same' _ _ _ (by rw [e.at1];rfl)) ((World.frozen?_setCell _ _ _ _).trans e.free0) ((World.frozen?_setCell _ _ _ _).trans e.free1)
theorem EcK (x:Nat) (hx:x<2 ^ 128):x / 2 ^ 64<2 ^ 64∧x % 2 ^ 64<2 ^ 64:=by omega
open Go.RowKit
theorem next_any (h l:Nat) (w:World) (hh:h<2 ^ 64) (hl':l<2 ^ 64) :
  Calls prog 225 #[EV h l] w (RetE (h / 2 ^^^ (l % 2*16212958658533785600)) (h % 2*2 ^ 63+l / 2) w):=by
 have hj:bits .or .u64 ((l:Int) / 2) (IntKind.u64.wrap ((h:Int)*9223372036854775808))=((h % 2*2 ^ 63+l / 2:Nat):Int):=by
  rw [shl63,show ((l:Int) / 2)=((l / 2:Nat):Int) by omega,u64_or_nat _ _ (by omega) (by omega),Nat.or_comm,nat_join 63 _ _ (by omega) (by omega)]
 obtain ⟨L,HL⟩:∃ L,Hid (L=h % 2*2 ^ 63+l / 2):=⟨_,η rfl⟩
 rw [←HL.o] at hj ⊢
 have h2:(h:Int) / 2=((h / 2:Nat):Int):=by omega
 have h3:h / 2<2 ^ 64:=by omega
 have ha:=and1 l hl'
 have hx:=BiY (h / 2) 16212958658533785600 h3 (by omega)
 obtain ⟨H2,HH2⟩:∃ H2,Hid (H2=h / 2):=⟨_,η rfl⟩
 rw [←HH2.o] at h2 hx ⊢
 obtain ⟨X,HX⟩:∃ X,Hid (X=H2 ^^^ 16212958658533785600):=⟨_,η rfl⟩
 rw [←HX.o] at hx
 have hx':bits .xor .u64 (H2:Int) 16212958658533785600=(X:Int):=hx
 clear hx h3 hh hl'
 obtain ⟨G,HG⟩:∃ G,Hid (G=w.heap.size):=⟨_,η rfl⟩
 obtain ⟨W0,HW0⟩:∃ W0,Hid (W0=(((w.alloc (.cells (es h l).toArray 247)).alloc (.cells (es 0 0).toArray 247)).alloc (.cells (es 0 0).toArray 247)).setCells (w.heap.size+1+1) 0 (es H2 L)):=⟨_,η rfl⟩
 have HN0:Ew (((w.alloc (.cells (es h l).toArray 247)).alloc (.cells (es 0 0).toArray 247)).alloc (.cells (es 0 0).toArray 247)) (w.heap.size+1+1) 0 0:=Ew.new _ 0 0 _ (by simp)
 have HE0:Hid (Ew W0 G h l):=η (by rw [HW0.o,HG.o];exact (((Ew.new w h l _ rfl).alloc _).alloc _).setCells (by omega) _ _)
 have HR0:Hid (Ew W0 (G+1) 0 0):=η (by rw [HW0.o,HG.o];exact ((Ew.new _ 0 0 _ (by simp)).alloc _).setCells (by omega) _ _)
 have HP0:Hid (Ew W0 (G+1+1) H2 L):=η (by rw [HW0.o,HG.o];exact HN0.whole _ _)
 have HB0:Hid (Below w.heap.size w W0):=η (by rw [HW0.o];exact AaQ (((AaK w _).alloc (by simp) _).alloc (by simp;omega) _) (by omega) _ _)
 have HN1:=η HN0
 clear HN0
 have ce0:=HE0.o.at0
 have ce1:=HE0.o.at1
 have cp0:=HP0.o.at0
 have cf0:=HP0.o.free0
 rw [HG.o] at ce0 ce1 cp0 cf0
 rcases Nat.mod_two_eq_zero_or_one l with hm | hm
 ·rw [hm] at ha ⊢
  have ha':bits .and .u64 (l:Int) 1=0:=ha;rw [Nat.zero_mul,Nat.xor_zero];clear ha;unfold EV RetE EV;go_enter func225,ntmps225;go_wp2_with (first | (refine AoY rfl (.tmp 3) (.tmp 14) rfl (w.heap.size+1+1) rfl H2 L 0 0 rfl (by exact HN1.o) ?_;show wpList _ _ _ _ _ ((((w.alloc (.cells (es h l).toArray 247)).alloc (.cells (es 0 0).toArray 247)).alloc (.cells (es 0 0).toArray 247)).setCells (w.heap.size+1+1) 0 (es H2 L));rw [←HW0.o]) | (refine BfW rfl (.tmp 3) rfl (w.heap.size+1+1) rfl H2 L (by rw [←HG.o];exact HP0.o) ?_) | (refine AoY rfl (.tmp 2) (.tmp 23) rfl (w.heap.size+1) rfl H2 L 0 0 rfl (by rw [←HG.o];exact HR0.o) ?_));refine bodyPost_ret (v:=EV H2 L) (DpX rfl _ _ (w.heap.size+1) H2 L rfl ?_) rfl ⟨rfl,?_⟩
  ·rw [←HG.o];exact HR0.o.whole _ _
  ·exact AaQ HB0.o (by omega) _ _
 ·rw [hm] at ha ⊢
  have ha':bits .and .u64 (l:Int) 1=1:=ha;rw [Nat.one_mul,←HX.o];clear ha;unfold EV RetE EV;go_enter func225,ntmps225;go_wp2_with (first | (refine AoY rfl (.tmp 3) (.tmp 14) rfl (w.heap.size+1+1) rfl H2 L 0 0 rfl (by exact HN1.o) ?_;show wpList _ _ _ _ _ ((((w.alloc (.cells (es h l).toArray 247)).alloc (.cells (es 0 0).toArray 247)).alloc (.cells (es 0 0).toArray 247)).setCells (w.heap.size+1+1) 0 (es H2 L));rw [←HW0.o]) | (refine BfW rfl (.tmp 3) rfl (w.heap.size+1+1) rfl X L (by rw [←HG.o];exact HP0.o.set0 X) ?_) | (refine AoY rfl (.tmp 2) (.tmp 23) rfl (w.heap.size+1) rfl X L 0 0 rfl (by rw [←HG.o];exact HR0.o.setCell (by simp) _) ?_));refine bodyPost_ret (v:=EV X L) (DpX rfl _ _ (w.heap.size+1) X L rfl ?_) rfl ⟨rfl,?_⟩
  ·rw [←HG.o];exact (HR0.o.setCell (by simp) _).whole _ _
  ·exact AaQ (HB0.o.setCell (p:=⟨w.heap.size+1+1,0,none⟩) (by simp;omega) _) (by omega) _ _
theorem next_pe (a:Nat) (w:World) (ha:a<2 ^ 128):Calls prog 225 #[PE a] w (RetP (AqV a) w):=by
 have h1:=EcK a ha
 refine (next_any _ _ w h1.1 h1.2).mono ?_
 rintro e w' ⟨rfl,hb⟩
 refine ⟨?_,hb⟩
 have h2:=hl_next (a / 2 ^ 64) (a % 2 ^ 64) h1.2
 rw [BmZ] at h2
 rw [h2,EqY _ _ (by omega)]
open Go.RowKit
def XE (w:World) (B:Nat) (A:YA) (n:Nat) (xs:List Nat):Prop :=
 xs.length=n∧(∀ (i x:Nat),xs[i]?=some x→x<2 ^ 128)∧(0<n→∃ g o,A=some ⟨g,o,none⟩∧g<B∧∀ (i x:Nat),xs[i]?=some x→w.rangeAt g (o+i*2) (es (x / 2 ^ 64) (x % 2 ^ 64)))
attribute [local irreducible] gSum hl
theorem psum_any (A:YA) (n c:Nat) (xs:List Nat) (w:World) (hn:n≤maxLen) (hX:XE w w.heap.size A n xs) :
  Calls prog 207 #[.slice A n c] w (RetP (gSum xs 0) w):=by
 have HX:=η hX
 clear hX
 have hl2:=HX.o.1
 unfold maxLen at hn
 obtain ⟨G,HG⟩:∃ G,Hid (G=w.heap.size):=⟨_,η rfl⟩
 go_enter func207,ntmps207
 go_wp2_with fail
 obtain ⟨W0,HW0⟩:∃ W0,Hid (W0=((w.alloc (.cells (es 0 0).toArray 247)).alloc (.cells (es 0 0).toArray 247))):=⟨_,η rfl⟩
 show Code.wp _ _ _ _ ((w.alloc (.cells (es 0 0).toArray 247)).alloc (.cells (es 0 0).toArray 247))
 have HR0:Hid (Ew W0 G 0 0):=η (by rw [HW0.o,HG.o];exact (Ew.new _ 0 0 _ rfl).alloc _)
 have HP0:Hid (Ew W0 (G+1) 0 0):=η (by rw [HW0.o,HG.o];exact Ew.new _ 0 0 _ (by simp))
 have HB0:Hid (Below w.heap.size w W0):=η (by rw [HW0.o];exact (AaK w _).alloc (by simp) _)
 rw [←HW0.o,←HG.o]
 clear HW0
 go_loopw [8] (fun t wr=>∃ i ph pl:Nat,i≤n∧t=.int .i64 i∧Hid (ph<2 ^ 64∧pl<2 ^ 64∧hl ph pl=gSum (xs.take i) 0)∧Hid (Ew wr G 0 0)∧Hid (Ew wr (G+1) ph pl)∧Hid (Below w.heap.size w wr)) (fun t _=>n - (intOf t).toNat)
 case atStart=>exact ⟨0,0,0,by omega,rfl,η ⟨by omega,by omega,by unfold gSum hl;rfl⟩,HR0,HP0,HB0⟩
 case round =>
  obtain ⟨i,ph,pl,hi,rfl,hv,hr,hp,hb⟩:=hrel;clear HR0 HP0 HB0;by_cases hlt:i<n
  ·obtain ⟨g,o,rfl,hg,hc⟩:=HX.o.2.2 (by omega)
   obtain ⟨x,hx⟩:∃ x,xs[i]?=some x:=⟨_,List.getElem?_eq_getElem (by omega)⟩;have HC:=η (hc i x hx);have HXL:=η (HX.o.2.1 i x hx);have HXI:=η hx;clear hc hx;obtain ⟨xh,HXH⟩:∃ xh,Hid (xh=x / 2 ^ 64∧xh<2 ^ 64):=⟨_,η ⟨rfl,(EcK x HXL.o).1⟩⟩;obtain ⟨xl,HXl⟩:∃ xl,Hid (xl=x % 2 ^ 64∧xl<2 ^ 64):=⟨_,η ⟨rfl,(EcK x HXL.o).2⟩⟩;have HC2:Hid (wr.rangeAt g (o+i*2) (es xh xl)):=η (by rw [HXH.o.1,HXl.o.1];exact fun j v hv=>(hb.o.cell (p:=⟨g,o+i*2+j,none⟩) hg).trans (HC.o j v hv));obtain ⟨X0,HX0⟩:∃ X0,Hid (X0=ph ^^^ xh∧X0<2 ^ 64):=⟨_,η ⟨rfl,Nat.xor_lt_two_pow hv.o.1 HXH.o.2⟩⟩;obtain ⟨X1,HX1⟩:∃ X1,Hid (X1=pl ^^^ xl∧X1<2 ^ 64):=⟨_,η ⟨rfl,Nat.xor_lt_two_pow hv.o.2.1 HXl.o.2⟩⟩;have x0:bits .xor .u64 (ph:Int) (xh:Int)=(X0:Int):=by rw [HX0.o.1];exact BiY ph xh hv.o.1 HXH.o.2
   have x1:bits .xor .u64 (pl:Int) (xl:Int)=(X1:Int):=by rw [HX1.o.1];exact BiY pl xl hv.o.2.1 HXl.o.2
   have HV:Hid (hl X0 X1=gSum (xs.take (i+1)) 0):=η (by rw [HX0.o.1,HX1.o.1,←DuK ph pl xh xl hv.o.2.1 HXl.o.2,hv.o.2.2,HXH.o.1,HXl.o.1,BmZ,List.take_add_one,HXI.o];exact (CcZ _ x 0).symm);obtain ⟨d,hu,hd⟩:=AvZ;have HU:=η hu;have HD:=η hd;clear hu hd;have hSG:G+1<wr.heap.size:=hp.o.lt;obtain ⟨W1,HW1⟩:∃ W1,Hid (W1=(wr.alloc (.cells (es 0 0).toArray 247)).setCells wr.heap.size 0 (es xh xl)):=⟨_,η rfl⟩;have HR1:Hid (Ew W1 G 0 0):=η (by rw [HW1.o];exact (hr.o.alloc _).setCells (by omega) _ _);have HP1:Hid (Ew W1 (G+1) ph pl):=η (by rw [HW1.o];exact (hp.o.alloc _).setCells (by omega) _ _);have HN1:Hid (Ew W1 wr.heap.size xh xl):=η (by rw [HW1.o];exact (Ew.new _ 0 0 _ rfl).whole _ _);have HB1:Hid (Below w.heap.size w W1):=η (by rw [HW1.o];exact AaQ (hb.o.alloc (by rw [←HG.o];omega) _) (by rw [←HG.o];omega) _ _);have c0:=HP1.o.at0;have c1:=HP1.o.at1;have f0:=HP1.o.free0;have f1:=HP1.o.free1;have n0:=HN1.o.at0;have n1:=HN1.o.at1;go_wp2_with (first | (refine wpList_load_mid rfl _ (.tmp 10) rfl g (o+i*2) rfl (es xh xl) d (by exact HC2.o) HU.o HD.o AuQ ?_) | (refine AoY rfl (.tmp 5) (.tmp 11) rfl wr.heap.size rfl xh xl 0 0 rfl (by exact Ew.new _ 0 0 _ rfl) ?_;show wpList _ _ _ _ _ ((wr.alloc (.cells (es 0 0).toArray 247)).setCells wr.heap.size 0 (es xh xl));rw [←HW1.o]));go_roundw
   case rel=>exact ⟨i+1,X0,X1,by omega,by go_num,η ⟨HX0.o.2,HX1.o.2,HV.o⟩,η ((HR1.o.setCell (by simp) _).setCell (by simp) _),η ((HP1.o.set0 _).set1 _),η ((HB1.o.setCell (p:=⟨G+1,0,none⟩) (by rw [HG.o];simp) _).setCell (p:=⟨G+1,1,none⟩) (by rw [HG.o];simp) _)⟩
   case measure=>simp [intOf];omega
  ·obtain rfl:i=n:=by omega
   go_wp2_with (first | (refine BfW rfl (.tmp 3) rfl (G+1) rfl ph pl (by exact hp.o) ?_) | (refine AoY rfl (.tmp 2) (.tmp 25) rfl G rfl ph pl 0 0 rfl (by exact hr.o) ?_))
   have e:PE (gSum xs 0)=EV ph pl:=by
    have h:=hv.o.2.2;rw [←hl2,List.take_length] at h;rw [←h,EqY _ _ hv.o.2.1]
   refine bodyPost_ret (v:=EV ph pl) (DpX rfl _ _ G ph pl rfl (hr.o.whole ph pl)) rfl ⟨by rw [e],?_⟩;exact AaQ hb.o (by rw [HG.o];omega) 0 _
end Go.Proofs.YthppjgdnibfefaaGreat
namespace Go.Proofs.YthppjgdnibfefaaGreat
open Tryz
open Go.RowKit
theorem CeW (n:Nat):∀ k,AfQ n k=n / 256 ^ k
 | 0=>by simp [AfQ]
 | k+1=>by rw [AlY,CeW n k,Nat.div_div_eq_div_mul,Nat.pow_succ]
theorem BqX:∀ (k n:Nat),numL (putL n k)+256 ^ k*AfQ n k=n
 | 0,n=>by simp [putL,numL,AfQ]
 | k+1,n=>by
  have ih:=BqX k (n / 256);rw [putL,AkZ,←AzK];have e:(UInt8.ofNat n).toNat=n % 256:=by simp
  rw [e,Nat.pow_succ];have h2:256 ^ k*256*AfQ (n / 256) k=256*(256 ^ k*AfQ (n / 256) k):=by rw [Nat.mul_comm (256 ^ k) 256,Nat.mul_assoc]
  rw [h2];omega
theorem DvW (n:Nat) (hn:n<2 ^ 64):AfQ n 8=0:=by rw [CeW];exact Nat.div_eq_of_lt (by omega)
theorem CoJ (n:Nat):putL n 8=wB n 8:=by
 apply List.ext_getElem?
 intro q
 by_cases hq:q<8
 ·rw [CoK n 8 q hq,CeW]
  have e:(256:Nat) ^ (8 - 1 - q)=2 ^ (56 - 8*q):=by rw [show (256:Nat)=2 ^ 8 from rfl,←Nat.pow_mul];congr 1;omega
  rw [e];unfold wB;rw [List.getElem?_map,List.getElem?_range hq];rfl
 ·rw [List.getElem?_eq_none (by rw [AeY];omega),List.getElem?_eq_none (by rw [BkZ];omega)]
theorem EtJ (n:Nat) (hn:n<2 ^ 64):numL (wB n 8)=n:=by
 have h:=BqX 8 n
 rw [DvW n hn,CoJ] at h
 omega
theorem CyJ:∀ (k:Nat) (l:YB),l.length=k→putL (numL l) k=l
 | 0,l,h=>by rw [List.eq_nil_of_length_eq_zero h];rfl
 | k+1,l,h=>by
  obtain ⟨m,x,rfl⟩:∃ m x,l=m++[x]:=by
   have hne:l≠[]:=fun e=>by rw [e] at h;cases h
   exact ⟨l.dropLast,l.getLast hne,(List.dropLast_concat_getLast hne).symm⟩
  have hm:m.length=k:=by simpa using h
  have hx:=x.toNat_lt;rw [putL,AkZ,show (numL m*256+x.toNat) / 256=numL m by omega,CyJ k m hm]
  have e:UInt8.ofNat (numL m*256+x.toNat)=x:=by
   apply UInt8.toNat_inj.1;simp
  rw [e]
theorem EhW (l:YB) (h:l.length=8):wB (numL l) 8=l:=by rw [←CoJ];exact CyJ 8 l h
theorem DsV (l:YB) (h:l.length=8):numL l<2 ^ 64:=by have:=BdX 8 l h;omega
def oH (l:YB):Nat:=numL (l.take 8)
def oL (l:YB):Nat:=numL (l.drop 8)
theorem oH_lt (l:YB) (h:l.length=16):oH l<2 ^ 64:=DsV _ (by simp [h])
theorem oL_lt (l:YB) (h:l.length=16):oL l<2 ^ 64:=DsV _ (by simp [h])
theorem eB_o (l:YB) (h:l.length=16):eB (oH l) (oL l)=l:=by
 unfold eB oH oL
 rw [EhW _ (by simp [h]),EhW _ (by simp [h]),List.take_append_drop]
theorem o_eB (h l:Nat) (hh:h<2 ^ 64) (hl':l<2 ^ 64):oH (eB h l)=h∧oL (eB h l)=l:=by
 unfold eB oH oL
 rw [List.take_left' (BkZ h 8),List.drop_left' (BkZ h 8)]
 exact ⟨EtJ h hh,EtJ l hl'⟩
theorem res_ewc {fn:Func} {p q:Tmp} (hr:fn.results=#[.cell p 247,.tmp q]) (tmps:Array Value) (w:World) (b H L:Nat) (c:Value) (ht:tmps.getD p undef=.pointer (some ⟨b,0,none⟩)) (hq:tmps.getD q undef=c) (hc:Ew w b H L) :
  (results fn tmps).run prog w=.ok (.tuple #[EV H L,c]) w:=by
 obtain ⟨d,hu,hd⟩:=AvZ
 have hl:=run_loadVar_mid (P:=prog) w b 0 247 (es H L) d hc.1 hu hd AuQ
 have hl2:(loadVar 247 ⟨b,0,none⟩).run prog w=.ok (EV H L) w:=hl
 rw [Array.getD_eq_getD_getElem?] at ht hq
 simp only [results,hr]
 simp [ht,hq,asAddr,hl2]
theorem oE_at (l:YB):oH l=numL (l.take 8)∧oL l=numL (l.drop 8):=⟨rfl,rfl⟩
attribute [local irreducible] oH oL numL
theorem of_ok (A:YA) (c:Nat) (l:YB) (w:World) (hc:16≤c) (h16:l.length=16) (hr:RB w w.heap.size A 16 l) :
  Calls prog 172 #[.slice A 16 c] w fun e w'=>e=.returned (.tuple #[EV (oH l) (oL l),.int .i64 0])∧Below w.heap.size w w':=by
 obtain ⟨h,HH⟩:∃ h,Hid (h=oH l):=⟨_,η rfl⟩
 obtain ⟨lo,HL⟩:∃ lo,Hid (lo=oL l):=⟨_,η rfl⟩
 rw [←HH.o,←HL.o]
 have HR:=η hr
 have q1:∀ W:World,(Instr.slice 41 (.slice A 16 c) none (some (.int .i64 8)) none).run prog W=.ok (.slice (cutA A c 0) 8 c) W:=BsZ A 16 c 8 (by omega)
 have q2:∀ W:World,(Instr.slice 41 (.slice A 16 c) (some (.int .i64 8)) none none).run prog W=.ok (.slice (cutA A c 8) 8 (c - 8)) W:=BvJ A 16 c 8 (by omega)
 have HN1:Hid (∀ v,Below w.heap.size w v→Calls prog 119 #[.slice (cutA A c 0) 8 c] v fun e w'=>e=.returned (.tuple #[.int .u64 (h:Int),.int .i64 0])∧v=w'):=η (fun v hv=>by
  have hp:=(hr.step hv).part (i:=0) (j:=8) (c:=c) (by omega) (by omega) hc
  rw [HH.o,(oE_at l).1]
  exact CbW _ 8 c _ _ v hp (by omega))
 have HN2:Hid (∀ v,Below w.heap.size w v→Calls prog 119 #[.slice (cutA A c 8) 8 (c - 8)] v fun e w'=>e=.returned (.tuple #[.int .u64 (lo:Int),.int .i64 0])∧v=w'):=η (fun v hv=>by
  have hp:=(hr.step hv).part (i:=8) (j:=16) (c:=c) (by omega) (by omega) hc
  rw [List.take_of_length_le (by omega)] at hp
  rw [HL.o,(oE_at l).2]
  exact CbW _ 8 _ _ _ v hp (by omega))
 clear hr
 go_enter func172,ntmps172
 go_wp2_with (first | (go_at_call 119;refine (HN1.o _ (AaK _ _)).mono ?_;rintro e w1 ⟨rfl,rfl⟩;clear HN1) | (go_at_call 119;refine (HN2.o _ (AaK _ _)).mono ?_;rintro e w1 ⟨rfl,rfl⟩;clear HN2))
 exact bodyPost_ret (v:=.tuple #[EV h lo,.int .i64 0]) (res_ewc rfl _ _ w.heap.size h lo _ rfl rfl (Ew.new w h lo _ rfl)) rfl ⟨rfl,AaK _ _⟩
theorem join_two (w:World) (A1 A2:YA) (c1 c2:Nat) (l1 l2:YB) (h1:RB w w.heap.size A1 8 l1) (h2:RB w w.heap.size A2 8 l2) :
  Calls prog 59 #[.slice (some ⟨w.heap.size,0,none⟩) 2 2] (w.alloc (.cells #[.slice A1 8 c1,.slice A2 8 c2] 41)) fun e w'=>∃ A c,e=.returned (.slice A 16 c)∧OwnB w' w.heap.size A 16 c (l1++l2)∧Below w.heap.size w w':=by
 have e1:=h1.len
 have e2:=h2.len
 have hrr:=RR.lit w [(A1,c1,l1),(A2,c2,l2)] #[.slice A1 8 c1,.slice A2 8 c2] 41 2 w.heap.size (by simp [e1,e2]) rfl rfl (fun r hr=>by
  simp only [List.mem_cons,List.not_mem_nil,or_false] at hr
  rcases hr with rfl | rfl
  ·rw [e1];exact h1
  ·rw [e2];exact h2)
 have ht:totL [l1,l2]=16:=by simp [totL,e1,e2]
 refine (AwX _ 2 2 [l1,l2] _ hrr (by unfold maxLen;omega) (by rw [ht];omega)).mono ?_
 rintro e w' ⟨A,c,rfl,ho,hb⟩
 rw [ht] at ho ⊢
 rw [show [l1,l2].flatten=l1++l2 by simp] at ho
 exact ⟨A,c,rfl,ho.base_le (by simp),(AaK w _).trans (hb.mono (by simp))⟩
attribute [local irreducible] eB wB
theorem FaQ (h l:Nat) (w:World) (hh:h<2 ^ 64) (hl':l<2 ^ 64):Calls prog 186 #[EV h l] w (RetB 16 (eB h l) w):=by
 have HP1:Hid (∀ v,Calls prog 156 #[.int .u64 (h:Int),.int .i64 8] v (AhW 8 (wB h 8) 0 v)):=η (fun v=>(CxZ h 8 v (by omega) (by omega)).mono fun e w' k=>by
  rcases k with ⟨_,k⟩ | ⟨k,_⟩
  ·rw [CoJ] at k;exact k
  ·exact absurd (DvW h hh) k)
 have HP2:Hid (∀ v,Calls prog 156 #[.int .u64 (l:Int),.int .i64 8] v (AhW 8 (wB l 8) 0 v)):=η (fun v=>(CxZ l 8 v (by omega) (by omega)).mono fun e w' k=>by
  rcases k with ⟨_,k⟩ | ⟨k,_⟩
  ·rw [CoJ] at k;exact k
  ·exact absurd (DvW l hl') k)
 have HL1:=η (BkZ h 8)
 have HL2:=η (BkZ l 8)
 have HEB:Hid (eB h l=wB h 8++wB l 8):=η (by unfold eB;rfl)
 obtain ⟨E,HE⟩:∃ E,Hid (E=eB h l):=⟨_,η rfl⟩
 rw [←HE.o]
 clear hh hl'
 unfold EV
 go_enter func186,ntmps186
 go_wp2_with (first | (go_at_call 156;refine (HP1.o _).mono ?_;rintro e w1 ⟨A1,c1,rfl,ho1,hb1⟩;have ho1':=η ho1;have hb1':=η hb1;have hc1:w1.cell? ⟨w.heap.size,1,none⟩=some (.int .u64 (l:Int)):=(by rw [hb1.cell (p:=⟨w.heap.size,1,none⟩) (by simp)];simp [World.cell?_alloc_at _ _ _ _ rfl]);clear HP1 ho1 hb1) | (go_at_call 156;refine (HP2.o _).mono ?_;rintro e w2 ⟨A2,c2,rfl,ho2,hb2⟩;have ho2':=η ho2;have hb2':=η hb2;clear HP2 ho2 hb2) | (go_at_call 59;refine (join_two w2 A1 A2 c1 c2 _ _ (by exact (ho1'.o.below hb2'.o).rb) (by exact ho2'.o.rb)).mono ?_;rintro e w3 ⟨A3,c3,rfl,ho3,hb3⟩;have ho3':=η ho3;have hb3':=η hb3;clear ho3 hb3))
 go_ret
 have hs1:=hb1'.o.size
 have hs2:=hb2'.o.size
 rw [World.size_alloc] at hs1
 refine ⟨A3,c3,rfl,by rw [HE.o,HEB.o];exact ho3'.o.base_le (by omega),?_⟩
 exact (AaK w _).trans ((hb1'.o.mono (by simp)).trans ((hb2'.o.mono (by omega)).trans (hb3'.o.mono (by omega))))
