import Derived.Test.YthppjgdnibfefaaGreatAesInvW
import Derived.Deep.RegionWith
import Derived.Deep.RegionHeld3
set_option linter.all false
set_option maxRecDepth 100000
set_option maxHeartbeats 32000000
namespace Go.Proofs.YthppjgdnibfefaaGreat
open Tryz
open Go.RowKit
theorem BbX:prog.underlying 238=some (.array 4 236):=by kernel_rfl
theorem ArJ:(prog.info? 238).map (·.size)=some 16:=by kernel_rfl
theorem list16s (l:YB) (h:l.length=16):∃ a0 a1 a2 a3 a4 a5 a6 a7 a8 a9 a10 a11 a12 a13 a14 a15,l=[a0,a1,a2,a3,a4,a5,a6,a7,a8,a9,a10,a11,a12,a13,a14,a15]:=by
 match l,h with
 | [a0,a1,a2,a3,a4,a5,a6,a7,a8,a9,a10,a11,a12,a13,a14,a15],_=>exact ⟨a0,a1,a2,a3,a4,a5,a6,a7,a8,a9,a10,a11,a12,a13,a14,a15,rfl⟩
theorem sidx (l:YB) (h:l.length=16) (k:Nat) (hk:k<4) (W:World):(Instr.index 238 (AV l) (.int .i64 (k:Int))).run prog W=.ok (AV (cutL l (4*k) 4)) W:=by
 obtain ⟨a0,a1,a2,a3,a4,a5,a6,a7,a8,a9,a10,a11,a12,a13,a14,a15,rfl⟩:=list16s l h
 rcases (show k=0∨k=1∨k=2∨k=3 by omega) with rfl | rfl | rfl | rfl
 ·show (Instr.index _ _ (.int .i64 0)).run _ _=_;kernel_rfl
 ·show (Instr.index _ _ (.int .i64 1)).run _ _=_;kernel_rfl
 ·show (Instr.index _ _ (.int .i64 2)).run _ _=_;kernel_rfl
 ·show (Instr.index _ _ (.int .i64 3)).run _ _=_;kernel_rfl
def AdZ (r l:YB) (k:Nat):List UInt8:=r.take (4*k)++l.drop (4*k)
theorem AqY (r l:YB) (k:Nat) (hr:r.length=16) (hl:l.length=16) (hk:k≤4):(AdZ r l k).length=16:=by simp [AdZ,hr,hl];omega
theorem BxX (r l:YB) (k:Nat) (hr:r.length=16) (hl:l.length=16) (hk:k<4):layL (AdZ r l k) (4*k) (cutL r (4*k) 4)=AdZ r l (k+1):=by
 apply List.ext_getElem?
 intro j
 have hc:=AoK r (4*k) 4 (by omega)
 rw [CcK _ _ _ _ (by rw [AqY r l k hr hl (by omega)];omega),hc]
 unfold AdZ
 by_cases h:4*k≤j∧j<4*k+4
 ·rw [if_pos h,BtJ _ _ _ _ (by omega),List.getElem?_append_left (by simp [hr];omega),List.getElem?_take,if_pos (by omega)]
  congr 1;omega
 ·rw [if_neg h,List.getElem?_append,List.getElem?_append]
  simp only [List.length_take,hr,List.getElem?_take,List.getElem?_drop];by_cases h2:j<4*k
  ·rw [if_pos (by omega),if_pos h2,if_pos (by omega),if_pos (by omega)]
  ·rw [if_neg (by omega),if_neg (by omega)]
   congr 1;omega
theorem DeZ (r l:YB) (k:Nat) (hr:r.length=16) (hl:l.length=16) (hk:k<4):cutL (AdZ r l k) (4*k) 4=cutL l (4*k) 4:=by
 apply List.ext_getElem?
 intro j
 by_cases hj:j<4
 ·rw [BtJ _ _ _ _ hj,BtJ _ _ _ _ hj]
  unfold AdZ;rw [List.getElem?_append_right (by simp [hr];omega),List.length_take,hr,List.getElem?_drop];congr 1;omega
 ·rw [List.getElem?_eq_none (by simp [cutL];omega),List.getElem?_eq_none (by simp [cutL];omega)]
theorem DmY (r l:YB):AdZ r l 0=l:=by simp [AdZ]
theorem BxY (r l:YB) (hr:r.length=16) (hl:l.length=16):AdZ r l 4=r:=by
 unfold AdZ
 rw [List.take_of_length_le (by omega),List.drop_eq_nil_of_le (by omega),List.append_nil]
theorem xorL_cut (l m:YB) (i n:Nat):cutL (xorL l m) i n=xorL (cutL l i n) (cutL m i n):=by
 unfold cutL xorL
 rw [List.drop_zipWith,List.take_zipWith]
def AaX:List UInt8:=List.replicate 16 0
section
variable {w:World} {ops:Array Oper} {rest:List Oper} {o:Oper} {a:Act} {Q:Exit→Act→World→Prop}
theorem AkW (hgd:o.guard=none) (T:TypeId) (x:Operand) (hop:o.op=.box T x) (l:YB) (hx:a.eval x=AV l)
  (h:wpList prog ops Q rest (a.put o.dst (.pointer (some ⟨w.heap.size,0,none⟩))) (w.alloc (.cells (bvs l).toArray T))):wpList prog ops Q (o::rest) a w:=by
 refine wpList_plain hgd fun K hK=>?_
 have hr:(Instr.box T (AV l)).run prog w=.ok (.pointer (some ⟨w.heap.size,0,none⟩)) (w.alloc (.cells (bvs l).toArray T)):=rfl
 unfold Oper.wp execOp
 simp only [hop,hx,Sem.run_bind,hr,Result.andThen_ok]
 exact hK _ _ h
theorem AgQ (hgd:o.guard=none) (T:TypeId) (x:Operand) (hop:o.op=.load T x) (g d n:Nat) (e:TypeId) (hx:a.eval x=.pointer (some ⟨g,d,none⟩)) (l:YB) (hc:Ar w g d l)
  (hu:prog.underlying T=some (.array n e)) (hi:(prog.info? T).map (·.size)=some l.length)
  (h:wpList prog ops Q rest (a.put o.dst (AV l)) w):wpList prog ops Q (o::rest) a w :=
 wpList_load_mid hgd T x hop g d hx (bvs l) _ hc.1 hu rfl (by rw [AaY];exact hi) h
theorem AlV (hgd:o.guard=none) (T:TypeId) (x y:Operand) (hop:o.op=.store T x y) (g d:Nat) (hx:a.eval x=.pointer (some ⟨g,d,none⟩)) (l l0:YB) (hy:a.eval y=AV l) (hc:Ar w g d l0)
  (hl:l0.length=l.length) (hi:(prog.info? T).map (·.size)=some l.length)
  (h:wpList prog ops Q rest (a.put o.dst undef) (w.setCells g d (bvs l))):wpList prog ops Q (o::rest) a w :=
 wpList_store_mid hgd T x y hop g d (bvs l).toArray hx hy (by have:=hc.2;rw [AaY,hl,←AaY] at this;simpa using this) (by simpa [AaY] using hi) (CrY l) (by simpa using h)
end
theorem wadd_lit (a0 a1 a2 a3 b0 b1 b2 b3 x0 x1 x2 x3:UInt8) (w:World) (h:xorL [a0,a1,a2,a3] [b0,b1,b2,b3]=[x0,x1,x2,x3]) :
  Calls prog 193 #[.agg #[.int .u8 (a0.toNat:Int),.int .u8 (a1.toNat:Int),.int .u8 (a2.toNat:Int),.int .u8 (a3.toNat:Int)],.agg #[.int .u8 (b0.toNat:Int),.int .u8 (b1.toNat:Int),.int .u8 (b2.toNat:Int),.int .u8 (b3.toNat:Int)]] w
   fun e w'=>e=.returned (.agg #[.int .u8 (x0.toNat:Int),.int .u8 (x1.toNat:Int),.int .u8 (x2.toNat:Int),.int .u8 (x3.toNat:Int)])∧Below w.heap.size w w':=by
 have:=DnQ [a0,a1,a2,a3] [b0,b1,b2,b3] w rfl rfl
 rw [h] at this
 exact this
theorem Ar.new1 (w:World) (n:Nat) (hn:n=w.heap.size) (l:YB) (T:TypeId):Ar (w.alloc (.cells (bvs l).toArray T)) n 0 l:=by rw [hn];exact Ar.new w l T
def W3 (l m z:YB) (T:TypeId) (w:World):World:=((w.alloc (.cells (bvs l).toArray T)).alloc (.cells (bvs m).toArray T)).alloc (.cells (bvs z).toArray T)
def W2 (l z:YB) (T:TypeId) (w:World):World:=(w.alloc (.cells (bvs l).toArray T)).alloc (.cells (bvs z).toArray T)
theorem DnV (l m z:YB) (T:TypeId) (w:World):Below w.heap.size w (W3 l m z T w):=((AaK w _).alloc (by simp) _).alloc (by simp;omega) _
theorem BvK (l z:YB) (T:TypeId) (w:World):Below w.heap.size w (W2 l z T w):=(AaK w _).alloc (by simp) _
theorem w3_0 (l m z:YB) (T:TypeId) (w:World):Ar (W3 l m z T w) w.heap.size 0 l:=((Ar.new w l T).alloc (by simp) _).alloc (by simp;omega) _
theorem w3_1 (l m z:YB) (T:TypeId) (w:World):Ar (W3 l m z T w) (w.heap.size+1) 0 m:=(Ar.new1 _ _ (by simp) m T).alloc (by simp) _
theorem w3_2 (l m z:YB) (T:TypeId) (w:World):Ar (W3 l m z T w) (w.heap.size+1+1) 0 z:=Ar.new1 _ _ (by simp) z T
theorem w2_0 (l z:YB) (T:TypeId) (w:World):Ar (W2 l z T w) w.heap.size 0 l:=(Ar.new w l T).alloc (by simp) _
theorem w2_1 (l z:YB) (T:TypeId) (w:World):Ar (W2 l z T w) (w.heap.size+1) 0 z:=Ar.new1 _ _ (by simp) z T
theorem CnJ (l m:YB) (w:World) (hl:l.length=16) (hm:m.length=16) :
  Calls prog 195 #[AV l,AV m] w (RetA (xorL l m) w):=by
 have HL:=η hl
 have HM:=η hm
 obtain ⟨R,HR⟩:∃ R,Hid (R=xorL l m):=⟨_,η rfl⟩
 rw [←HR.o]
 have HA:=η (w3_0 l m AaX 238 w)
 have HB:=η (w3_1 l m AaX 238 w)
 have HC:=η (w3_2 l m AaX 238 w)
 have HW:=η (DnV l m AaX 238 w)
 obtain ⟨G,HG⟩:∃ G,Hid (G=w.heap.size):=⟨_,η rfl⟩
 obtain ⟨W0,HW0⟩:∃ W0,Hid (W0=W3 l m AaX 238 w):=⟨_,η rfl⟩
 clear hl hm
 go_enter func195,ntmps195
 go_wp2_with (first | (refine AkW rfl _ (.tmp 0) rfl l rfl ?_) | (refine AkW rfl _ (.tmp 1) rfl m rfl ?_) | (refine AgQ rfl _ (.tmp 3) rfl (w.heap.size+1) 0 4 _ rfl m (by exact HB.o) BbX (by rw [HM.o];exact ArJ) ?_))
 show Code.wp _ _ _ _ (W3 l m AaX 238 w)
 rw [←HW0.o] at HA HB HC HW ⊢
 rw [←HG.o] at HA HB HC ⊢
 go_loopw [8] (fun i wr=>∃ k:Nat,k≤4∧i=.int .i64 k∧Hid (Ar wr G 0 (AdZ R l k))∧Hid (Ar wr (G+1+1) 0 AaX)∧Hid (Below w.heap.size w wr)) (fun i _=>4 - (intOf i).toNat)
 case atStart=>exact ⟨0,by omega,rfl,HA,HC,HW⟩
 case round =>
  obtain ⟨k,hk,rfl,ha,hc,hb⟩:=hrel;clear HA HB HC HW;have HR16:Hid (R.length=16):=η (by rw [HR.o];simp [xorL,HL.o,HM.o]);by_cases hlt:k<4
  ·have hidx:=sidx m HM.o k hlt
   obtain ⟨b0,b1,b2,b3,hb4⟩:=BeQ (cutL m (4*k) 4) (by rw [AoK _ _ _ (by rw [HM.o];omega)]);obtain ⟨a0,a1,a2,a3,ha4⟩:=BeQ (cutL l (4*k) 4) (by rw [AoK _ _ _ (by rw [HL.o];omega)]);rw [hb4] at hidx;have hidx':∀ W:World,(Instr.index 238 (AV m) (.int .i64 (k:Int))).run prog W=.ok (.agg #[.int .u8 (b0.toNat:Int),.int .u8 (b1.toNat:Int),.int .u8 (b2.toNat:Int),.int .u8 (b3.toNat:Int)]) W:=hidx;have hp:=ha.o.part (4*k) 4 (by rw [AqY R l k HR16.o HL.o (by omega)];omega);rw [DeZ R l k HR16.o HL.o hlt,ha4,Nat.zero_add,Nat.mul_comm 4 k] at hp;obtain ⟨c0,c1,c2,c3⟩:=hp.four;have hgs:G<wr.heap.size:=ha.o.lt (by rw [AqY R l k HR16.o HL.o (by omega)];omega);obtain ⟨x0,x1,x2,x3,hx4⟩:=BeQ (xorL [a0,a1,a2,a3] [b0,b1,b2,b3]) rfl;have HP:=η hp;have HX:Hid (cutL R (4*k) 4=[x0,x1,x2,x3]):=η (by rw [HR.o,xorL_cut,ha4,hb4,hx4]);have HX4:=η hx4;clear hidx hb4 ha4 hp hx4;go_wp2_with fail;go_region_with (go_at_call 193;refine (wadd_lit a0 a1 a2 a3 b0 b1 b2 b3 x0 x1 x2 x3 _ (by exact HX4.o)).mono ?_;rintro e w1 ⟨rfl,hb1⟩;have hbw:Below wr.heap.size wr w1:=(AaK wr _).drew.trans (hb1.mono (by simp));have hp1:=HP.o.below hbw hgs;obtain ⟨k0,k1,k2,k3⟩:=hp1.four;obtain ⟨z0,z1,z2,z3⟩:=hp1.fours rfl;have HB1:=η hbw;clear hb1 hbw hp1)
   all_goals
    go_wp2
    go_roundw
    case rel =>
     have h1:=(ha.o.below HB1.o hgs).lay (4*k) [x0,x1,x2,x3] (by rw [AqY R l k HR16.o HL.o (by omega)];simp;omega);rw [←HX.o,BxX R l k HR16.o HL.o hlt,HX.o,Nat.zero_add,Nat.mul_comm 4 k] at h1;have h2:=(hc.o.below HB1.o (hc.o.lt (by simp [AaX]))).setCells (b:=G) (by omega) (k*4) (bvs [x0,x1,x2,x3]);have h3:=AaQ (hb.o.trans (HB1.o.mono hb.o.size)) (b:=G) (by rw [HG.o];exact Nat.le_refl _) (k*4) (bvs [x0,x1,x2,x3]);exact ⟨k+1,by omega,by go_num,η h1,η h2,η h3⟩
    case measure=>simp [intOf];omega
  ·obtain rfl:k=4:=by omega
   have hal:=ha.o;rw [BxY R l HR16.o HL.o] at hal;have HAL:=η hal;clear hal;go_wp2_with (first | (refine AgQ rfl _ (.tmp 2) rfl G 0 4 _ rfl R (by exact HAL.o) BbX (by rw [HR16.o];exact ArJ) ?_) | (refine AlV rfl _ (.tmp 4) (.tmp 20) rfl (G+1+1) 0 rfl R AaX rfl (by exact hc.o) (by rw [HR16.o];rfl) (by rw [HR16.o];exact ArJ) ?_));refine bodyPost_ret (v:=AV R) (ApZ rfl _ _ (G+1+1) 4 _ R rfl (hc.o.whole R (by rw [HR16.o];rfl)) BbX (by rw [HR16.o];exact ArJ)) rfl ⟨rfl,?_⟩;exact AaQ hb.o (by rw [HG.o];omega) 0 (bvs R)
open Go.RowKit
def mL (F:Nat→UInt8) (r:Nat) (x:UInt8):List UInt8:=(List.range 4).map fun j=>if j<r then F j else if j=r then x else 0
theorem DtK (F:Nat→UInt8) (r:Nat) (x:UInt8):(mL F r x).length=4:=by simp [mL]
theorem mL_zero (F:Nat→UInt8):mL F 0 0=[0,0,0,0]:=by simp [mL,List.range_succ]
theorem mL_set (F:Nat→UInt8) (r:Nat) (x y:UInt8) (hr:r<4):(mL F r x).set r y=mL F r y:=by
 rcases (show r=0∨r=1∨r=2∨r=3 by omega) with rfl | rfl | rfl | rfl <;> simp [mL,List.range_succ]
theorem mL_next (F:Nat→UInt8) (r:Nat) (hr:r<4):mL F r (F r)=mL F (r+1) 0:=by
 rcases (show r=0∨r=1∨r=2∨r=3 by omega) with rfl | rfl | rfl | rfl <;> simp [mL,List.range_succ]
theorem mL_end (F:Nat→UInt8) (x:UInt8):mL F 4 x=[F 0,F 1,F 2,F 3]:=by simp [mL,List.range_succ]
theorem mL_at (F:Nat→UInt8) (r:Nat) (x:UInt8) (hr:r<4):(mL F r x)[r]?=some x:=by
 rcases (show r=0∨r=1∨r=2∨r=3 by omega) with rfl | rfl | rfl | rfl <;> simp [mL,List.range_succ]
def colW (f l:YB):List UInt8:=[AvV l f 0 0 4,AvV l f 0 1 4,AvV l f 0 2 4,AvV l f 0 3 4]
def TabC (w:World) (cb tb lo:Nat):Prop:=w.cell? ⟨cb,0,none⟩=some (.pointer (some ⟨tb,0,none⟩))∧Tab w lo tb [1,2,3,9,11,13,14] true
theorem TabC.below {w w':World} {cb tb lo:Nat} (h:TabC w cb tb lo) (hb:Below w.heap.size w w'):TabC w' cb tb lo :=
 ⟨(hb.cell (p:=⟨cb,0,none⟩) (World.block_lt_of_cell? w _ h.1)).trans h.1,h.2.below hb⟩
def bys:List UInt8:=[1,2,3,9,11,13,14]
theorem rowint (q:Nat→Nat) (j:Nat) (hj:j<4):(#[Value.int .i64 (q 0:Int),.int .i64 (q 1:Int),.int .i64 (q 2:Int),.int .i64 (q 3:Int)]:Array Value)[j]?=some (.int .i64 (q j:Int)):=by
 rcases (show j=0∨j=1∨j=2∨j=3 by omega) with rfl | rfl | rfl | rfl <;> rfl
theorem EjK (cb tb lo:Nat) (l f:YB) (q:Nat→Nat) (w:World) (hl:l.length=4) (h:TabC w cb tb lo) (hq:∀ j,j<4→bys[q j]?=some (f.getD j 0)) :
  Calls prog 215 #[.pointer (some ⟨cb,0,none⟩),AV l,.agg #[.int .i64 (q 0:Int),.int .i64 (q 1:Int),.int .i64 (q 2:Int),.int .i64 (q 3:Int)]] w (RetA (colW f l) w):=by
 obtain ⟨a0,a1,a2,a3,rfl⟩:=BeQ l hl
 obtain ⟨L,HL⟩:∃ L,Hid (L=[a0,a1,a2,a3]):=⟨_,η rfl⟩
 obtain ⟨R,HR⟩:∃ R,Hid (R=RetA (colW f [a0,a1,a2,a3]) w):=⟨_,η rfl⟩
 obtain ⟨G,HG⟩:∃ G,Hid (G=w.heap.size):=⟨_,η rfl⟩
 have HT:=η h
 have HQ:=η hq
 clear h hq hl
 obtain ⟨F,HF⟩:∃ F:Nat→UInt8,Hid (∀ r,F r=AvV L f 0 r 4):=⟨fun r=>AvV L f 0 r 4,η (fun _=>rfl)⟩
 obtain ⟨W0,HW0⟩:∃ W0,Hid (W0=(((w.alloc (.cells #[.int .u8 (a0.toNat:Int),.int .u8 (a1.toNat:Int),.int .u8 (a2.toNat:Int),.int .u8 (a3.toNat:Int)] 236)).alloc (.cells #[.int .i64 (q 0:Int),.int .i64 (q 1:Int),.int .i64 (q 2:Int),.int .i64 (q 3:Int)] 297)).alloc (.cells #[.int .u8 0,.int .u8 0,.int .u8 0,.int .u8 0] 236)).alloc (.cells #[.int .u8 0,.int .u8 0,.int .u8 0,.int .u8 0] 236)):=⟨_,η rfl⟩
 have HB0:Hid (Below w.heap.size w W0):=η (by rw [HW0.o];exact (((AaK w _).alloc (by simp) _).alloc (by simp;omega) _).alloc (by simp;omega) _)
 have HA0:Hid (Ar W0 G 0 L):=η (by
  rw [HW0.o,HG.o,HL.o];exact (((Ar.new w [a0,a1,a2,a3] _).alloc (by simp) _).alloc (by simp;omega) _).alloc (by simp;omega) _)
 have HQ0:Hid (∀ j,j<4→W0.cell? ⟨G+1,j,none⟩=some (.int .i64 (q j:Int))):=η (fun j hj=>by
  rw [HW0.o,HG.o,World.cell?_alloc_past _ _ _ (by simp),World.cell?_alloc_past _ _ _ (by simp),World.cell?_alloc_at _ _ _ _ (by simp)]
  exact rowint q j hj)
 have HR0:Hid (Ar W0 (G+1+1) 0 [0,0,0,0]):=η (by
  rw [HW0.o,HG.o];exact (Ar.new1 _ _ (by simp) [0,0,0,0] _).alloc (by simp) _)
 have HM0:Hid (Ar W0 (G+1+1+1) 0 (mL F 0 0)):=η (by
  rw [HW0.o,HG.o,mL_zero];exact Ar.new1 _ _ (by simp) [0,0,0,0] _)
 rw [←HR.o]
 show Calls _ _ #[_,.agg #[.int .u8 (a0.toNat:Int),.int .u8 (a1.toNat:Int),.int .u8 (a2.toNat:Int),.int .u8 (a3.toNat:Int)],_] _ _
 go_enter func215,ntmps215
 go_wp2_with fail
 rw [←HW0.o,←HG.o]
 go_loopw [13] (fun r wr=>∃ k:Nat,k≤4∧r=.int .i64 k∧Hid (Below w.heap.size w wr)∧Hid (Ar wr G 0 L)∧Hid (∀ j,j<4→wr.cell? ⟨G+1,j,none⟩=some (.int .i64 (q j:Int)))∧Hid (Ar wr (G+1+1) 0 [0,0,0,0])∧Hid (Ar wr (G+1+1+1) 0 (mL F k 0))) (fun r _=>4 - (intOf r).toNat)
 case atStart=>exact ⟨0,by omega,rfl,HB0,HA0,HQ0,HR0,HM0⟩
 case round =>
  obtain ⟨r,hr,rfl,hb,ha,hq,hz,hm⟩:=hrel;clear HB0 HA0 HQ0 HR0 HM0;by_cases hlt:r<4
  ·have hd:decide ((r:Int)<4)=true:=decide_eq_true (by omega)
   have ha4:=ha.o;rw [HL.o] at ha4;obtain ⟨c0,c1,c2,c3⟩:=ha4.four0;clear ha4;go_wp2_with fail;clear c0 c1 c2 c3
   go_loopw [17] (fun i ws=>∃ k:Nat,k≤4∧i=.int .i64 k∧Hid (Below w.heap.size w ws)∧Hid (Ar ws G 0 L)∧Hid (∀ j,j<4→ws.cell? ⟨G+1,j,none⟩=some (.int .i64 (q j:Int)))∧Hid (Ar ws (G+1+1) 0 [0,0,0,0])∧Hid (Ar ws (G+1+1+1) 0 (mL F r (AvV L f 0 r k)))) (fun i _=>4 - (intOf i).toNat)
   case atStart=>exact ⟨0,by omega,rfl,hb,ha,hq,hz,hm⟩
   case round =>
    clear hb ha hq hz hm;obtain ⟨i,hi,rfl,hb,ha,hq,hz,hm⟩:=hrel;by_cases hlt2:i<4
    ·obtain ⟨x,hx⟩:=getX [a0,a1,a2,a3] 4 i rfl hlt2
     have hat:∀ W:World,(Instr.index 236 (.agg #[.int .u8 (a0.toNat:Int),.int .u8 (a1.toNat:Int),.int .u8 (a2.toNat:Int),.int .u8 (a3.toNat:Int)]) (.int .i64 (i:Int))).run prog W=.ok (.int .u8 (x.toNat:Int)) W:=EhV [a0,a1,a2,a3] rfl i hlt2 x hx;obtain ⟨j,HJ,hj4⟩:∃ j:Nat,Hid (j=(i+4 - r) % 4)∧j<4:=⟨_,η rfl,Nat.mod_lt _ (by omega)⟩;have htc:=HT.o.below (w':=wr) (by exact hb.o);have cc:=htc.1;have cq:=hq.o j hj4;have h1:IntKind.i64.wrap (4+(i:Int))=4+(i:Int):=IntWalk.i64_in _ (by omega);have h2:IntKind.i64.wrap (4+(i:Int) - (r:Int))=4+(i:Int) - (r:Int):=IntWalk.i64_in _ (by omega)
     have h3:Int.tmod (4+(i:Int) - (r:Int)) 4=(j:Int):=by
      rw [Int.tmod_eq_emod_of_nonneg (by omega),HJ.o];omega
     have h4:IntKind.i64.wrap (j:Int)=(j:Int):=IntWalk.i64_in _ (by omega);have h5:(j:Int)<4:=by omega
     have h6:(0:Int)≤(j:Int):=by omega
     obtain ⟨y,HY⟩:∃ y,Hid (y=f.getD j 0):=⟨_,η rfl⟩;have HTB:=η htc.2;have HQY:Hid (bys[q j]?=some y):=η (by rw [HY.o];exact HQ.o j hj4);obtain ⟨z,HZ⟩:∃ z,Hid (z=mulB y x):=⟨_,η rfl⟩;obtain ⟨u,HU⟩:∃ u,Hid (u=AvV L f 0 r i):=⟨_,η rfl⟩;have HX:=η hx;rw [←HU.o] at hm
     have HCG:Hid (∀ W:World,Below wr.heap.size wr W→W.cell? ⟨cb,0,none⟩=some (.pointer (some ⟨tb,0,none⟩))∧W.cell? ⟨G+1,j,none⟩=some (.int .i64 (q j:Int))∧W.cell? ⟨G+1+1+1,r,none⟩=some (.int .u8 (u.toNat:Int))∧W.frozen? ⟨G+1+1+1,r,none⟩=false):=η (fun W hW=>by
      have m1:=hm.o.below hW (hm.o.lt (by rw [DtK];omega))
      have m2:=m1.cell (mL_at F r u hlt)
      have m3:=m1.free (j:=r) (by rw [DtK];exact hlt)
      rw [Nat.zero_add] at m2 m3
      exact ⟨(hW.cell (p:=⟨cb,0,none⟩) (World.block_lt_of_cell? wr _ cc)).trans cc,(hW.cell (p:=⟨G+1,j,none⟩) (World.block_lt_of_cell? wr _ cq)).trans cq,m2,m3⟩)
     have hxy:=AlQ u z;obtain ⟨v,HV⟩:∃ v,Hid (v=u ^^^ z):=⟨_,η rfl⟩;rw [←HV.o] at hxy;clear htc hx;go_wp2_with fail;go_region_held3 (fun w'=>w'.cell? ⟨cb,0,none⟩=some (.pointer (some ⟨tb,0,none⟩))∧w'.cell? ⟨G+1,j,none⟩=some (.int .i64 (q j:Int))) (go_keep) (first | (go_at_call 224;refine (at_times lo tb bys true (q j) y x _ (by exact HTB.o) (by exact HQY.o)).mono ?_;rintro e w2 ⟨rfl,_,_,hb2⟩;rw [←HZ.o];have HB2:Hid (Below wr.heap.size wr w2):=η ((Below.refl wr.heap.size wr).drew.trans (show Below wr.heap.size wr.drew w2 from hb2 rfl));clear hb2;obtain ⟨k0,k1,k2,k3⟩:=HCG.o w2 HB2.o));go_wp2;go_roundw
     case rel =>
      have m1:=(hm.o.below HB2.o (hm.o.lt (by rw [DtK];omega))).set (k:=r) (by rw [DtK];exact hlt) v;rw [mL_set _ _ _ _ hlt,Nat.zero_add] at m1
      have hv:v=AvV L f 0 r (i+1):=by
       have:L.getD (4*0+i) 0=x:=by rw [HL.o,Nat.mul_zero,Nat.zero_add];simp [List.getD,HX.o]
       rw [HV.o,HU.o,HZ.o,HY.o,HJ.o,AvV,this]
      have hGw:∀ g o l,0<l.length→Ar wr g o l→g≠G+1+1+1→Ar (w2.setCell ⟨G+1+1+1,r,none⟩ (bv v)) g o l:=fun g o l h0 h1 h2=>(h1.below HB2.o (h1.lt h0)).setCell (fun e=>h2 e.symm) _;refine ⟨i+1,by omega,by go_num,η ((hb.o.trans (HB2.o.mono hb.o.size)).setCell (by rw [HG.o];show w.heap.size≤w.heap.size+1+1+1;omega) _),η (hGw _ _ _ (by rw [HL.o];simp) ha.o (by omega)),η (fun j' hj'=>?_),η (hGw _ _ _ (by simp) hz.o (by omega)),η (by rw [←hv];exact m1)⟩;have c:=hq.o j' hj';exact (World.cell?_setCell_other _ _ _ _ (by intro e;injection e with e1 _;omega)).trans ((HB2.o.cell (p:=⟨G+1,j',none⟩) (World.block_lt_of_cell? wr _ c)).trans c)
     case measure=>simp [intOf];omega
    ·obtain rfl:i=4:=by omega
     have e4:((4:Nat):Int)=4:=rfl;rw [e4];clear e4;go_wp2_with fail;go_roundw
     case rel =>
      have hm2:=hm.o;rw [←HF.o r,mL_next F r hlt] at hm2;exact ⟨r+1,by omega,by go_num,hb,ha,hq,hz,η hm2⟩
     case measure=>simp [intOf];omega
  ·obtain rfl:r=4:=by omega
   have hm2:=hm.o;rw [mL_end] at hm2;obtain ⟨c0,c1,c2,c3⟩:=hm2.four0;obtain ⟨u0,u1,u2,u3⟩:=hz.o.four0;obtain ⟨s0,s1,s2,s3⟩:=hz.o.fours0 rfl;clear hm2;go_wp2_with fail;have hfin:=hz.o.whole [F 0,F 1,F 2,F 3] rfl;have hcol:colW f [a0,a1,a2,a3]=[F 0,F 1,F 2,F 3]:=by rw [←HL.o];unfold colW;rw [HF.o 0,HF.o 1,HF.o 2,HF.o 3]
   refine bodyPost_ret (v:=AV [F 0,F 1,F 2,F 3]) (ApZ rfl _ _ (G+1+1) 4 _ [F 0,F 1,F 2,F 3] rfl hfin BcV AqZ) rfl ?_;rw [HR.o,hcol];exact ⟨rfl,AaQ hb.o (b:=G+1+1) (by rw [HG.o];omega) 0 (bvs [F 0,F 1,F 2,F 3])⟩
theorem mix_row (j:Nat) (hj:j<4):bys[([1,2,0,0]:List Nat).getD j 0]?=some (([2,3,1,1]:YB).getD j 0):=by
 rcases (show j=0∨j=1∨j=2∨j=3 by omega) with rfl | rfl | rfl | rfl <;> rfl
theorem EuV (cb tb lo:Nat) (a0 a1 a2 a3 x0 x1 x2 x3:UInt8) (w:World) (h:TabC w cb tb lo) (hx:colW [2,3,1,1] [a0,a1,a2,a3]=[x0,x1,x2,x3]) :
  Calls prog 215 #[.pointer (some ⟨cb,0,none⟩),.agg #[.int .u8 (a0.toNat:Int),.int .u8 (a1.toNat:Int),.int .u8 (a2.toNat:Int),.int .u8 (a3.toNat:Int)],.agg #[.int .i64 1,.int .i64 2,.int .i64 0,.int .i64 0]] w
   fun e w'=>e=.returned (.agg #[.int .u8 (x0.toNat:Int),.int .u8 (x1.toNat:Int),.int .u8 (x2.toNat:Int),.int .u8 (x3.toNat:Int)])∧Below w.heap.size w w':=by
 have:=EjK cb tb lo [a0,a1,a2,a3] [2,3,1,1] (fun j=>([1,2,0,0]:List Nat).getD j 0) w rfl h mix_row
 rw [hx] at this
 exact this
theorem mix_any (cb tb lo:Nat) (l:YB) (w:World) (hl:l.length=4) (h:TabC w cb tb lo) :
  Calls prog 200 #[.pointer (some ⟨cb,0,none⟩),AV l] w (RetA (colW [2,3,1,1] l) w):=by
 obtain ⟨a0,a1,a2,a3,rfl⟩:=BeQ l hl
 obtain ⟨x0,x1,x2,x3,hx⟩:=BeQ (colW [2,3,1,1] [a0,a1,a2,a3]) rfl
 rw [hx]
 have HX:=η hx
 obtain ⟨R,HR⟩:∃ R,Hid (R=AV [x0,x1,x2,x3]):=⟨_,η rfl⟩
 obtain ⟨G,HG⟩:∃ G,Hid (G=w.heap.size):=⟨_,η rfl⟩
 obtain ⟨W0,HW0⟩:∃ W0,Hid (W0=(w.alloc (.cells #[.int .u8 (a0.toNat:Int),.int .u8 (a1.toNat:Int),.int .u8 (a2.toNat:Int),.int .u8 (a3.toNat:Int)] 236)).alloc (.cells #[.int .u8 0,.int .u8 0,.int .u8 0,.int .u8 0] 236)):=⟨_,η rfl⟩
 have HB0:Hid (Below w.heap.size w W0):=η (by rw [HW0.o];exact (AaK w _).alloc (by simp) _)
 have HT:Hid (TabC W0 cb tb lo):=η (h.below HB0.o)
 have HZ:Hid (Ar W0 (G+1) 0 [0,0,0,0]):=η (by rw [HW0.o,HG.o];exact Ar.new1 _ _ (by simp) [0,0,0,0] _)
 clear hl hx h
 show Calls _ _ #[_,.agg #[.int .u8 (a0.toNat:Int),.int .u8 (a1.toNat:Int),.int .u8 (a2.toNat:Int),.int .u8 (a3.toNat:Int)]] _ _
 unfold RetA
 rw [←HR.o]
 go_enter func200,ntmps200
 go_wp2_with fail
 rw [←HW0.o,←HG.o]
 refine (EuV cb tb lo a0 a1 a2 a3 x0 x1 x2 x3 _ (by exact HT.o) (by exact HX.o)).mono ?_
 rintro e w1 ⟨rfl,hb1⟩
 have hz1:=HZ.o.below hb1 (HZ.o.lt (by simp))
 obtain ⟨u0,u1,u2,u3⟩:=hz1.four0
 obtain ⟨s0,s1,s2,s3⟩:=hz1.fours0 rfl
 have HZ1:=η hz1
 have HB1:=η hb1
 clear hz1 hb1
 go_wp2_with fail
 refine bodyPost_ret (v:=R) (by rw [HR.o];exact ApZ rfl _ _ (G+1) 4 _ [x0,x1,x2,x3] rfl (HZ1.o.whole [x0,x1,x2,x3] rfl) BcV AqZ) rfl ⟨rfl,?_⟩
 exact AaQ (HB0.o.trans (HB1.o.mono HB0.o.size)) (b:=G+1) (by rw [HG.o];omega) 0 (bvs [x0,x1,x2,x3])
open Go.RowKit
theorem map_cut (f:UInt8→UInt8) (l:YB) (i n:Nat):cutL (l.map f) i n=(cutL l i n).map f:=by simp [cutL,List.map_drop,List.map_take]
theorem BeZ (l f:YB) (k r:Nat):∀ n,n≤4→AvV (cutL l (4*k) 4) f 0 r n=AvV l f k r n
 | 0,_=>rfl
 | n+1,h=>by
  rw [AvV,AvV,BeZ l f k r n (by omega)]
  have:(cutL l (4*k) 4).getD (4*0+n) 0=l.getD (4*k+n) 0:=by
   simp only [List.getD_eq_getElem?_getD];rw [BtJ _ _ _ _ (by omega)];congr 2;omega
  rw [this]
theorem CeZ (l f:YB):(AkV l f).length=16:=by simp [AkV]
theorem col_cut (l f:YB) (k:Nat) (hk:k<4):cutL (AkV l f) (4*k) 4=colW f (cutL l (4*k) 4):=by
 unfold colW
 rw [BeZ l f k 0 4 (by omega),BeZ l f k 1 4 (by omega),BeZ l f k 2 4 (by omega),BeZ l f k 3 4 (by omega)]
 rcases (show k=0∨k=1∨k=2∨k=3 by omega) with rfl | rfl | rfl | rfl <;> rfl
theorem DxY (lo b:Nat) (t:YB) (b0 b1 b2 b3 x0 x1 x2 x3:UInt8) (w:World) (ht:5≤t.length) (h:Tab w lo b t true) (hx:List.map subB [b0,b1,b2,b3]=[x0,x1,x2,x3]) :
  Calls prog 210 #[.agg #[.int .u8 (b0.toNat:Int),.int .u8 (b1.toNat:Int),.int .u8 (b2.toNat:Int),.int .u8 (b3.toNat:Int)],.func (.func 197) #[.pointer (some ⟨b,0,none⟩)] #[]] w
   fun e w'=>e=.returned (.agg #[.int .u8 (x0.toNat:Int),.int .u8 (x1.toNat:Int),.int .u8 (x2.toNat:Int),.int .u8 (x3.toNat:Int)])∧Below w.heap.size w w':=by
 have:=weachS lo b t [b0,b1,b2,b3] true w rfl ht h
 rw [hx] at this
 exact this.mono fun e w' hu=>⟨hu.1,hu.2.2.2 rfl⟩
theorem DdK (lo b:Nat) (t:YB) (ht:5≤t.length) (l:YB) (w:World) (hl:l.length=16) (hT:Tab w lo b t true) :
  Calls prog 196 #[AV l,.func (.func 197) #[.pointer (some ⟨b,0,none⟩)] #[]] w (RetA (l.map subB) w):=by
 have HL:=η hl
 obtain ⟨R,HR⟩:∃ R,Hid (R=l.map subB):=⟨_,η rfl⟩
 rw [←HR.o]
 have HR16:Hid (R.length=16):=η (by rw [HR.o];rw [List.length_map];exact hl)
 have HA:=η (w2_0 l AaX 238 w)
 have HC:=η (w2_1 l AaX 238 w)
 have HW:=η (BvK l AaX 238 w)
 obtain ⟨G,HG⟩:∃ G,Hid (G=w.heap.size):=⟨_,η rfl⟩
 obtain ⟨W0,HW0⟩:∃ W0,Hid (W0=W2 l AaX 238 w):=⟨_,η rfl⟩
 have HT0:=η hT
 have HT5:=η ht
 clear ht hT
 clear hl
 have hmf:∀ (fn:Fn) (first cap:Array Value) (w:World),(Instr.makeFunc fn first cap).run prog w=.ok (.func fn first cap) w:=fun _ _ _ _=>rfl
 go_enter func196,ntmps196
 go_wp2_with (first | (refine AkW rfl _ (.tmp 0) rfl l rfl ?_) | (refine AgQ rfl _ (.tmp 2) rfl w.heap.size 0 4 _ rfl l (by exact HA.o) BbX (by rw [HL.o];exact ArJ) ?_))
 show Code.wp _ _ _ _ (W2 l AaX 238 w)
 rw [←HW0.o] at HA HC HW ⊢
 rw [←HG.o] at HA HC ⊢
 go_loopw [8] (fun i wr=>∃ k:Nat,k≤4∧i=.int .i64 k∧Hid (Ar wr G 0 (AdZ R l k))∧Hid (Ar wr (G+1) 0 AaX)∧Hid (Below w.heap.size w wr)) (fun i _=>4 - (intOf i).toNat)
 case atStart=>exact ⟨0,by omega,rfl,HA,HC,HW⟩
 case round =>
  clear HA HC HW;obtain ⟨k,hk,rfl,ha,hc,hb⟩:=hrel;by_cases hlt:k<4
  ·have hidx:=sidx l HL.o k hlt
   obtain ⟨b0,b1,b2,b3,hb4⟩:=BeQ (cutL l (4*k) 4) (by rw [AoK _ _ _ (by rw [HL.o];omega)]);rw [hb4] at hidx;have hidx':∀ W:World,(Instr.index 238 (AV l) (.int .i64 (k:Int))).run prog W=.ok (.agg #[.int .u8 (b0.toNat:Int),.int .u8 (b1.toNat:Int),.int .u8 (b2.toNat:Int),.int .u8 (b3.toNat:Int)]) W:=hidx;have hp:=ha.o.part (4*k) 4 (by rw [AqY R l k HR16.o HL.o (by omega)];omega);rw [DeZ R l k HR16.o HL.o hlt,hb4,Nat.zero_add,Nat.mul_comm 4 k] at hp;have hgs:G<wr.heap.size:=ha.o.lt (by rw [AqY R l k HR16.o HL.o (by omega)];omega);obtain ⟨x0,x1,x2,x3,hx4⟩:=BeQ (List.map subB [b0,b1,b2,b3]) rfl;have HP:=η hp;have HX:Hid (cutL R (4*k) 4=[x0,x1,x2,x3]):=η (by rw [HR.o,map_cut,hb4];exact hx4);have HX4:=η hx4;have HTR:=η ((HT0.o.below hb.o).below (AaK wr (.cells #[.int .u8 (b0.toNat:Int),.int .u8 (b1.toNat:Int),.int .u8 (b2.toNat:Int),.int .u8 (b3.toNat:Int)] 236)));clear hidx hb4 hp hx4;go_wp2_with fail;refine (DxY lo b t b0 b1 b2 b3 x0 x1 x2 x3 _ (by exact HT5.o) (by exact HTR.o) (by exact HX4.o)).mono ?_;rintro e w1 ⟨rfl,hb1⟩;have hbw:Below wr.heap.size wr w1:=(AaK wr _).trans (hb1.mono (by simp));have hp1:=HP.o.below hbw hgs;obtain ⟨k0,k1,k2,k3⟩:=hp1.four;obtain ⟨z0,z1,z2,z3⟩:=hp1.fours rfl;have HB1:=η hbw;clear hb1 hbw hp1;go_wp2_with fail;go_roundw
   case rel =>
    have h1:=(ha.o.below HB1.o hgs).lay (4*k) [x0,x1,x2,x3] (by rw [AqY R l k HR16.o HL.o (by omega)];simp;omega);rw [←HX.o,BxX R l k HR16.o HL.o hlt,HX.o,Nat.zero_add,Nat.mul_comm 4 k] at h1;have h2:=(hc.o.below HB1.o (hc.o.lt (by simp [AaX]))).setCells (b:=G) (by omega) (k*4) (bvs [x0,x1,x2,x3]);have h3:=AaQ (hb.o.trans (HB1.o.mono hb.o.size)) (b:=G) (by rw [HG.o];exact Nat.le_refl _) (k*4) (bvs [x0,x1,x2,x3]);exact ⟨k+1,by omega,by go_num,η h1,η h2,η h3⟩
   case measure=>simp [intOf];omega
  ·obtain rfl:k=4:=by omega
   have hal:=ha.o;rw [BxY R l HR16.o HL.o] at hal;have HAL:=η hal;clear hal;go_wp2_with (first | (refine AgQ rfl _ (.tmp 2) rfl G 0 4 _ rfl R (by exact HAL.o) BbX (by rw [HR16.o];exact ArJ) ?_) | (refine AlV rfl _ (.tmp 4) (.tmp 18) rfl (G+1) 0 rfl R AaX rfl (by exact hc.o) (by rw [HR16.o];rfl) (by rw [HR16.o];exact ArJ) ?_));refine bodyPost_ret (v:=AV R) (ApZ rfl _ _ (G+1) 4 _ R rfl (hc.o.whole R (by rw [HR16.o];rfl)) BbX (by rw [HR16.o];exact ArJ)) rfl ⟨rfl,?_⟩;exact AaQ hb.o (by rw [HG.o];omega) 0 (bvs R)
theorem mix_lit (cb tb lo:Nat) (b0 b1 b2 b3 x0 x1 x2 x3:UInt8) (w:World) (h:TabC w cb tb lo) (hx:colW [2,3,1,1] [b0,b1,b2,b3]=[x0,x1,x2,x3]) :
  Calls prog 200 #[.pointer (some ⟨cb,0,none⟩),.agg #[.int .u8 (b0.toNat:Int),.int .u8 (b1.toNat:Int),.int .u8 (b2.toNat:Int),.int .u8 (b3.toNat:Int)]] w
   fun e w'=>e=.returned (.agg #[.int .u8 (x0.toNat:Int),.int .u8 (x1.toNat:Int),.int .u8 (x2.toNat:Int),.int .u8 (x3.toNat:Int)])∧Below w.heap.size w w':=by
 have:=mix_any cb tb lo [b0,b1,b2,b3] w rfl h
 rw [hx] at this
 exact this
theorem DlQ (cb tb lo:Nat) (l:YB) (w:World) (hl:l.length=16) (hT:TabC w cb tb lo) :
  Calls prog 199 #[AV l,.func (.func 200) #[.pointer (some ⟨cb,0,none⟩)] #[]] w (RetA (AkV l [2,3,1,1]) w):=by
 have HL:=η hl
 obtain ⟨R,HR⟩:∃ R,Hid (R=AkV l [2,3,1,1]):=⟨_,η rfl⟩
 rw [←HR.o]
 have HR16:Hid (R.length=16):=η (by rw [HR.o];exact CeZ _ _)
 have HA:=η (w2_0 l AaX 238 w)
 have HC:=η (w2_1 l AaX 238 w)
 have HW:=η (BvK l AaX 238 w)
 obtain ⟨G,HG⟩:∃ G,Hid (G=w.heap.size):=⟨_,η rfl⟩
 obtain ⟨W0,HW0⟩:∃ W0,Hid (W0=W2 l AaX 238 w):=⟨_,η rfl⟩
 have HT0:=η hT
 clear hT
 clear hl
 have hmf:∀ (fn:Fn) (first cap:Array Value) (w:World),(Instr.makeFunc fn first cap).run prog w=.ok (.func fn first cap) w:=fun _ _ _ _=>rfl
 go_enter func199,ntmps199
 go_wp2_with (first | (refine AkW rfl _ (.tmp 0) rfl l rfl ?_) | (refine AgQ rfl _ (.tmp 2) rfl w.heap.size 0 4 _ rfl l (by exact HA.o) BbX (by rw [HL.o];exact ArJ) ?_))
 show Code.wp _ _ _ _ (W2 l AaX 238 w)
 rw [←HW0.o] at HA HC HW ⊢
 rw [←HG.o] at HA HC ⊢
 go_loopw [8] (fun i wr=>∃ k:Nat,k≤4∧i=.int .i64 k∧Hid (Ar wr G 0 (AdZ R l k))∧Hid (Ar wr (G+1) 0 AaX)∧Hid (Below w.heap.size w wr)) (fun i _=>4 - (intOf i).toNat)
 case atStart=>exact ⟨0,by omega,rfl,HA,HC,HW⟩
 case round =>
  clear HA HC HW;obtain ⟨k,hk,rfl,ha,hc,hb⟩:=hrel;by_cases hlt:k<4
  ·have hidx:=sidx l HL.o k hlt
   obtain ⟨b0,b1,b2,b3,hb4⟩:=BeQ (cutL l (4*k) 4) (by rw [AoK _ _ _ (by rw [HL.o];omega)]);rw [hb4] at hidx;have hidx':∀ W:World,(Instr.index 238 (AV l) (.int .i64 (k:Int))).run prog W=.ok (.agg #[.int .u8 (b0.toNat:Int),.int .u8 (b1.toNat:Int),.int .u8 (b2.toNat:Int),.int .u8 (b3.toNat:Int)]) W:=hidx;have hp:=ha.o.part (4*k) 4 (by rw [AqY R l k HR16.o HL.o (by omega)];omega);rw [DeZ R l k HR16.o HL.o hlt,hb4,Nat.zero_add,Nat.mul_comm 4 k] at hp;have hgs:G<wr.heap.size:=ha.o.lt (by rw [AqY R l k HR16.o HL.o (by omega)];omega);obtain ⟨x0,x1,x2,x3,hx4⟩:=BeQ (colW [2,3,1,1] [b0,b1,b2,b3]) rfl;have HP:=η hp;have HX:Hid (cutL R (4*k) 4=[x0,x1,x2,x3]):=η (by rw [HR.o,col_cut _ _ _ hlt,hb4];exact hx4);have HX4:=η hx4;have HTR:=η ((HT0.o.below hb.o).below (AaK wr (.cells #[.int .u8 (b0.toNat:Int),.int .u8 (b1.toNat:Int),.int .u8 (b2.toNat:Int),.int .u8 (b3.toNat:Int)] 236)));clear hidx hb4 hp hx4;go_wp2_with fail;refine (mix_lit cb tb lo b0 b1 b2 b3 x0 x1 x2 x3 _ (by exact HTR.o) (by exact HX4.o)).mono ?_;rintro e w1 ⟨rfl,hb1⟩;have hbw:Below wr.heap.size wr w1:=(AaK wr _).trans (hb1.mono (by simp));have hp1:=HP.o.below hbw hgs;obtain ⟨k0,k1,k2,k3⟩:=hp1.four;obtain ⟨z0,z1,z2,z3⟩:=hp1.fours rfl;have HB1:=η hbw;clear hb1 hbw hp1;go_wp2_with fail;go_roundw
   case rel =>
    have h1:=(ha.o.below HB1.o hgs).lay (4*k) [x0,x1,x2,x3] (by rw [AqY R l k HR16.o HL.o (by omega)];simp;omega);rw [←HX.o,BxX R l k HR16.o HL.o hlt,HX.o,Nat.zero_add,Nat.mul_comm 4 k] at h1;have h2:=(hc.o.below HB1.o (hc.o.lt (by simp [AaX]))).setCells (b:=G) (by omega) (k*4) (bvs [x0,x1,x2,x3]);have h3:=AaQ (hb.o.trans (HB1.o.mono hb.o.size)) (b:=G) (by rw [HG.o];exact Nat.le_refl _) (k*4) (bvs [x0,x1,x2,x3]);exact ⟨k+1,by omega,by go_num,η h1,η h2,η h3⟩
   case measure=>simp [intOf];omega
  ·obtain rfl:k=4:=by omega
   have hal:=ha.o;rw [BxY R l HR16.o HL.o] at hal;have HAL:=η hal;clear hal;go_wp2_with (first | (refine AgQ rfl _ (.tmp 2) rfl G 0 4 _ rfl R (by exact HAL.o) BbX (by rw [HR16.o];exact ArJ) ?_) | (refine AlV rfl _ (.tmp 4) (.tmp 18) rfl (G+1) 0 rfl R AaX rfl (by exact hc.o) (by rw [HR16.o];rfl) (by rw [HR16.o];exact ArJ) ?_));refine bodyPost_ret (v:=AV R) (ApZ rfl _ _ (G+1) 4 _ R rfl (hc.o.whole R (by rw [HR16.o];rfl)) BbX (by rw [HR16.o];exact ArJ)) rfl ⟨rfl,?_⟩;exact AaQ hb.o (by rw [HG.o];omega) 0 (bvs R)
open Go.RowKit
def fromP (m p:Nat):Nat:=4*((p / 4+m*(p % 4)) % 4)+p % 4
theorem BcJ (P:Nat→Bool) (F:Nat→UInt8) (h:∀ p,p<16→P p=false):AaX=AmX P F:=BsV P F h
def AvX (S:Nat→Nat) (n:Nat):Nat→Bool:=fun p=>decide (S p<n)
theorem ElJ (S:Nat→Nat) (F:Nat→UInt8) (n k:Nat) (hk:k<16) (hS:S k=n) (hinj:∀ p,p<16→S p=n→p=k):(AmX (AvX S n) F).set k (F k)=AmX (AvX S (n+1)) F:=by
 refine CdW _ _ F k hk fun p hp=>?_
 unfold AvX
 by_cases e:p=k
 ·subst e
  rw [hS];simp
 ·have h1:S p≠n:=fun h=>e (hinj p hp h)
  have:(p == k)=false:=by rw [beq_eq_false_iff_ne];exact e
  rw [this,Bool.or_false];by_cases h2:S p<n
  ·rw [decide_eq_true h2,decide_eq_true (by omega)]
  ·rw [decide_eq_false h2,decide_eq_false (by omega)]
def BdK (p:Nat):Nat:=p
theorem DzX (c r:Nat) (hc:c<4) (hr:r<4):BdK (4*c+r)=4*c+r∧(∀ p,p<16→BdK p=4*c+r→p=4*c+r)∧fromP 1 (4*c+r)=4*((c+r) % 4)+r:=by
 rcases (show c=0∨c=1∨c=2∨c=3 by omega) with rfl | rfl | rfl | rfl <;> rcases (show r=0∨r=1∨r=2∨r=3 by omega) with rfl | rfl | rfl | rfl <;> decide
theorem CvZ (l:YB) (w:World) (hl:l.length=16) :
  Calls prog 198 #[AV l] w (RetA (BbY l 1) w):=by
 have HL:=η hl
 obtain ⟨R,HR⟩:∃ R,Hid (R=BbY l 1):=⟨_,η rfl⟩
 rw [←HR.o]
 have HR16:Hid (R.length=16):=η (by rw [HR.o];simp [BbY])
 obtain ⟨F,HF⟩:∃ F:Nat→UInt8,Hid (F=rowF l 1):=⟨_,η rfl⟩
 have HA:=η (w3_0 l AaX AaX 238 w)
 have HB:=η (w3_1 l AaX AaX 238 w)
 have HC0:=w3_2 l AaX AaX 238 w
 have HW:=η (DnV l AaX AaX 238 w)
 rw [BcJ (AvX BdK (4*0+0)) F (fun p hp=>by simp [AvX])] at HC0
 have HC:=η HC0
 rw [←BcJ (AvX BdK (4*0+0)) F (fun p hp=>by simp [AvX])] at HC
 obtain ⟨G,HG⟩:∃ G,Hid (G=w.heap.size):=⟨_,η rfl⟩
 obtain ⟨W0,HW0⟩:∃ W0,Hid (W0=W3 l AaX AaX 238 w):=⟨_,η rfl⟩
 clear hl HC0
 go_enter func198,ntmps198
 go_wp2_with (first | (refine AkW rfl _ (.tmp 0) rfl l rfl ?_))
 show Code.wp _ _ _ _ (W3 l AaX AaX 238 w)
 rw [←HW0.o] at HA HB HC HW ⊢
 rw [←HG.o] at HA HB HC ⊢
 rw [BcJ (AvX BdK (4*0+0)) F (fun p hp=>by simp [AvX])] at HC
 go_loopw [6] (fun i wr=>∃ c:Nat,c≤4∧i=.int .i64 c∧Hid (Ar wr G 0 l)∧Hid (Ar wr (G+1) 0 AaX)∧Hid (Ar wr (G+1+1) 0 (AmX (AvX BdK (4*c+0)) F))∧Hid (Below w.heap.size w wr)) (fun i _=>4 - (intOf i).toNat)
 case atStart=>exact ⟨0,by omega,rfl,HA,η HB.o,HC,HW⟩
 case round =>
  clear HA HB HC HW;obtain ⟨c,hc,rfl,ha,hz,hm,hb⟩:=hrel;by_cases hlt:c<4
  ·have hd:decide ((c:Int)<4)=true:=decide_eq_true (by omega)
   go_wp2_with fail
   go_loopw [9] (fun i ws=>∃ r:Nat,r≤4∧i=.int .i64 r∧Hid (Ar ws G 0 l)∧Hid (Ar ws (G+1) 0 AaX)∧Hid (Ar ws (G+1+1) 0 (AmX (AvX BdK (4*c+r)) F))∧Hid (Below w.heap.size w ws)) (fun i _=>4 - (intOf i).toNat)
   case atStart=>exact ⟨0,by omega,rfl,ha,hz,hm,hb⟩
   case round =>
    clear ha hz hm hb;obtain ⟨r,hr,rfl,ha,hz,hm,hb⟩:=hrel;by_cases hlt2:r<4
    ·obtain ⟨j,HJ,hj4⟩:∃ j:Nat,Hid (j=(c+r) % 4)∧j<4:=⟨_,η rfl,Nat.mod_lt _ (by omega)⟩
     have h1:IntKind.i64.wrap ((c:Int)+(r:Int))=(c:Int)+(r:Int):=IntWalk.i64_in _ (by omega)
     have h3:Int.tmod ((c:Int)+(r:Int)) 4=(j:Int):=by
      rw [Int.tmod_eq_emod_of_nonneg (by omega),HJ.o];omega
     have h4:IntKind.i64.wrap (j:Int)=(j:Int):=IntWalk.i64_in _ (by omega);have h5:(j:Int)<4:=by omega
     have h6:(0:Int)≤(j:Int):=by omega
     have h7:(0:Int)≤(r:Int):=by omega
     have h8:(r:Int)<4:=by omega
     have h9:(0:Int)≤(c:Int):=by omega
     have h10:(c:Int)<4:=by omega
     obtain ⟨x,hx⟩:=getX l 16 (4*j+r) HL.o (by omega);obtain ⟨y,hy⟩:=getX (AmX (AvX BdK (4*c+r)) F) 16 (4*c+r) (AuZ _ _) (by omega);have cs:=ha.o.cell hx;have ct:=hm.o.cell hy;have ft:=hm.o.free (j:=4*c+r) (by rw [AuZ];omega);rw [Nat.zero_add,Nat.mul_comm 4] at cs ct ft;have HX:=η hx;clear hx hy;unfold bv at cs ct;go_wp2_with fail;go_region_with (fail)
     all_goals
      go_wp2
      go_roundw
      case rel =>
       obtain ⟨s1,s2,s3⟩:=DzX c r hlt hlt2
       try rw [←HJ.o] at s1
       try rw [←HJ.o] at s2
       try rw [←HJ.o] at s3
       have hfx:F (4*c+r)=x:=by
        rw [HF.o];have:=s3;unfold fromP at this;unfold rowF;rw [this];simp [List.getD,HX.o]
       have m1:=hm.o.set (k:=4*c+r) (by rw [AuZ];omega) (F (4*c+r));rw [ElJ BdK F (4*c+r) (4*c+r) (by omega) s1 s2,hfx,show 0+(4*c+r)=c*4+r by omega] at m1;exact ⟨r+1,by omega,by go_num,η (ha.o.setCell (by show G+1+1≠G;omega) _),η (hz.o.setCell (by show G+1+1≠G+1;omega) _),η m1,η (hb.o.setCell (p:=⟨G+1+1,_,none⟩) (by rw [HG.o];show w.heap.size≤w.heap.size+1+1;omega) _).drew⟩
      case measure=>simp [intOf];omega
    ·obtain rfl:r=4:=by omega
     have e4:((4:Nat):Int)=4:=rfl;rw [e4];clear e4;go_wp2_with fail;go_roundw
     case rel=>exact ⟨c+1,by omega,by go_num,ha,hz,hm,hb⟩
     case measure=>simp [intOf];omega
  ·obtain rfl:c=4:=by omega
   have hal:=hm.o
   rw [show AmX (AvX BdK (4*4+0)) F=R by
    rw [HR.o,HF.o];exact CdY _ _ (fun p hp=>by unfold AvX BdK;exact decide_eq_true (by omega))] at hal
   have HAL:=η hal;clear hal;go_wp2_with (first | (refine AgQ rfl _ (.tmp 3) rfl (G+1+1) 0 4 _ rfl R (by exact HAL.o) BbX (by rw [HR16.o];exact ArJ) ?_) | (refine AlV rfl _ (.tmp 2) (.tmp 26) rfl (G+1) 0 rfl R AaX rfl (by exact hz.o) (by rw [HR16.o];rfl) (by rw [HR16.o];exact ArJ) ?_));refine bodyPost_ret (v:=AV R) (ApZ rfl _ _ (G+1) 4 _ R rfl (hz.o.whole R (by rw [HR16.o];rfl)) BbX (by rw [HR16.o];exact ArJ)) rfl ⟨rfl,?_⟩;exact AaQ hb.o (by rw [HG.o];omega) 0 (bvs R)
open Go.RowKit
theorem OwnB.setCells {base n c g:Nat}:∀ (m:YB) (w:World) (l:YB) (o:Nat),OwnB w base (some ⟨g,0,none⟩) n c l→o+m.length≤l.length→OwnB (w.setCells g o (bvs m)) base (some ⟨g,0,none⟩) n c (layL l o m)
 | [],w,l,o,h,_=>by
  rw [show layL l o []=l by simp [layL]]
  exact h
 | x::r,w,l,o,h,hm=>by
  have h1:=OwnB.setCells r _ _ (o+1) (h.stored o x (bv x) rfl) (by simp at hm ⊢;omega)
  rw [show layL l o (x::r)=layL (l.set o x) (o+1) r by
   apply List.ext_getElem?
   intro j
   simp at hm
   rw [CcK _ _ _ _ (by omega),CcK _ _ _ _ (by simp;omega),List.getElem?_set]
   by_cases h0:j=o
   ·subst h0
    rw [if_pos ⟨Nat.le_refl _,by simp⟩,if_neg (by omega),if_pos rfl,if_pos (by omega),Nat.sub_self];rfl
   ·by_cases h2:o+1≤j∧j<o+1+r.length
    ·rw [if_pos (by simp;omega),if_pos h2,show j - o=(j - (o+1))+1 by omega];rfl
    ·rw [if_neg (by simp;omega),if_neg h2,if_neg (by omega)]]
  exact h1
theorem DxX (g:Nat) (W:World):(Instr.sliceAt 236 (.pointer (some ⟨g,0,none⟩)) none none none).run prog W=.ok (.slice (some ⟨g,0,none⟩) 4 4) W:=by kernel_rfl
theorem DzZ (l:YB) (w:World) (hl:l.length=16) :
  Calls prog 194 #[AV l] w (RetB 16 l w):=by
 have HL:=η hl
 have HA:=η (Ar.new w l 238)
 clear hl
 go_enter func194,ntmps194
 go_wp2_with (first | (refine AkW rfl _ (.tmp 0) rfl l rfl ?_) | (refine AjY rfl _ _ rfl w.heap.size .i64 .i64 16 16 16 rfl rfl rfl rfl (by omega) (by simp) ?_;intro w1 hown hsz hb1;have HO:=η hown;have HB1:Hid (Below w.heap.size w w1):=η ((AaK w _).trans (hb1.mono (by simp)));have HA1:=η (HA.o.below hb1 (by simp));clear hown hb1) | (refine AgQ rfl _ (.tmp 1) rfl w.heap.size 0 4 _ rfl l (by exact HA1.o) BbX (by rw [HL.o];exact ArJ) ?_))
 obtain ⟨G,HG⟩:∃ G,Hid (G=w.heap.size+1):=⟨_,η rfl⟩
 have HO0:Hid (OwnB w1 w.heap.size (some ⟨G,0,none⟩) 16 16 (AdZ l AaX 0)):=η (by
  have h:=HO.o
  rw [World.size_alloc,←HG.o] at h
  rw [DmY];exact h)
 rw [←HG.o]
 clear HO HA HA1 hsz
 go_loopw [8] (fun i wr=>∃ k:Nat,k≤4∧i=.int .i64 k∧Hid (OwnB wr w.heap.size (some ⟨G,0,none⟩) 16 16 (AdZ l AaX k))∧Hid (Below w.heap.size w wr)) (fun i _=>4 - (intOf i).toNat)
 case atStart=>exact ⟨0,by omega,rfl,HO0,HB1⟩
 case round =>
  clear HO0 HB1;obtain ⟨k,hk,rfl,ho,hb⟩:=hrel;by_cases hlt:k<4
  ·have hidx:=sidx l HL.o k hlt
   obtain ⟨b0,b1,b2,b3,hb4⟩:=BeQ (cutL l (4*k) 4) (by rw [AoK _ _ _ (by rw [HL.o];omega)]);rw [hb4] at hidx;have hidx':∀ W:World,(Instr.index 238 (AV l) (.int .i64 (k:Int))).run prog W=.ok (.agg #[.int .u8 (b0.toNat:Int),.int .u8 (b1.toNat:Int),.int .u8 (b2.toNat:Int),.int .u8 (b3.toNat:Int)]) W:=hidx;have HB4:=η hb4;have h1:IntKind.i64.wrap (4*(k:Int))=4*(k:Int):=IntWalk.i64_in _ (by omega)
   have hcut:∀ W:World,(Instr.slice 41 (.slice (some ⟨G,0,none⟩) 16 16) (some (.int .i64 (4*(k:Int)))) none none).run prog W=.ok (.slice (some ⟨G,4*k,none⟩) (16 - 4*k) (16 - 4*k)) W:=by
    intro W;have h:=BvJ (some ⟨G,0,none⟩) 16 16 (4*k) (by omega) W;rw [show ((4*k:Nat):Int)=4*(k:Int) by omega] at h;rw [h];unfold cutA;rw [if_neg (by omega)];simp [Addr.add_mid]
   have hsl:=DxX wr.heap.size;obtain ⟨WA,HWA⟩:∃ WA,Hid (WA=wr.alloc (.cells #[.int .u8 (b0.toNat:Int),.int .u8 (b1.toNat:Int),.int .u8 (b2.toNat:Int),.int .u8 (b3.toNat:Int)] 236)):=⟨_,η rfl⟩;obtain ⟨W2,HW2⟩:∃ W2,Hid (W2=WA.drew.setCells G (4*k) (bvs [b0,b1,b2,b3])):=⟨_,η rfl⟩
   have hoA:OwnB WA.drew w.heap.size (some ⟨G,0,none⟩) 16 16 (AdZ l AaX k):=by
    rw [HWA.o];exact ho.o.below ((AaK wr _).drew)
   have hlen:(AdZ l AaX k).length=16:=AqY l AaX k HL.o rfl (by omega)
   have hcp:(Builtin.copy_ #[41,41] 3 #[.slice (some ⟨G,4*k,none⟩) (16 - 4*k) (16 - 4*k),.slice (some ⟨wr.heap.size,0,none⟩) 4 4]).run prog (wr.alloc (.cells #[.int .u8 (b0.toNat:Int),.int .u8 (b1.toNat:Int),.int .u8 (b2.toNat:Int),.int .u8 (b3.toNat:Int)] 236)).drew=.ok (.int .i64 4) W2:=by
    rw [HW2.o,←HWA.o];have hs:Ar WA.drew wr.heap.size 0 [b0,b1,b2,b3]:=by rw [HWA.o];exact (Ar.new wr [b0,b1,b2,b3] _).drew
    refine run_copy_cells (P:=prog) WA.drew 41 41 3 5 G (4*k) (16 - 4*k) (16 - 4*k) ⟨wr.heap.size,0,none⟩ 4 4 (bvs [b0,b1,b2,b3]) underlying41 (by kernel_rfl) (by show 4=min 4 (16 - 4*k);omega) (fun j v hv=>by rw [Addr.add_mid];exact hs.1 j v hv) (fun j hj=>?_) (fun j hj=>?_) (BkK _)
    ·have hj4:j<4:=hj
     obtain ⟨y,hy⟩:=getX (AdZ l AaX k) 16 (4*k+j) hlen (by omega);rw [hoA.cellAt hy];rfl
    ·exact hoA.freeAt _
   have HL16:=η hlen;have HOA:=η hoA;clear hidx hb4 hoA hlen;go_wp2_with fail;go_region_with (fail)
   all_goals
    go_wp2
    go_roundw
    case rel =>
     have h2:=OwnB.setCells [b0,b1,b2,b3] WA.drew _ (4*k) HOA.o (by rw [HL16.o];simp;omega);rw [←HB4.o,BxX l AaX k HL.o rfl hlt,HB4.o,←HW2.o] at h2;refine ⟨k+1,by omega,by go_num,η h2,η ?_⟩;rw [HW2.o,HWA.o];exact AaQ ((hb.o.trans ((AaK wr _).mono hb.o.size)).drew) (by rw [HG.o];omega) _ _
    case measure=>simp [intOf];omega
  ·obtain rfl:k=4:=by omega
   go_wp2;go_ret;have h:=ho.o;rw [BxY l AaX HL.o rfl] at h;exact ⟨_,_,rfl,h,hb.o⟩
theorem CmJ (g o:Nat) (W:World):(Instr.sliceAt 236 (.pointer (some ⟨g,o,none⟩)) none none none).run prog W=.ok (.slice (some ⟨g,o,none⟩) 4 4) W:=by kernel_rfl
theorem DvJ (A:YA) (c:Nat) (l:YB) (w:World) (h:RB w w.heap.size A 16 l) (hc:16≤c) :
  Calls prog 169 #[.slice A 16 c] w (RetA l w):=by
 have hl:=h.len
 obtain ⟨ga,oa,rfl,hga,hcell⟩:=h.2 (by omega)
 have HL:=η hl
 have HCELL:=η hcell
 have HC16:=η hc
 have HA:=η (Ar.new w AaX 238)
 have HA2:=η (w2_0 AaX AaX 238 w)
 have HB2:=η (w2_1 AaX AaX 238 w)
 have HW:=η (BvK AaX AaX 238 w)
 obtain ⟨G,HG⟩:∃ G,Hid (G=w.heap.size):=⟨_,η rfl⟩
 obtain ⟨W0,HW0⟩:∃ W0,Hid (W0=W2 AaX AaX 238 w):=⟨_,η rfl⟩
 clear hl hcell hc h
 go_enter func169,ntmps169
 go_wp2_with fail
 show Code.wp _ _ _ _ (W2 AaX AaX 238 w)
 rw [←HW0.o] at HA2 HB2 HW ⊢
 rw [←HG.o] at HA2 HB2 ⊢
 go_loopw [5] (fun i wr=>∃ k:Nat,k≤4∧i=.int .i64 k∧Hid (Ar wr G 0 AaX)∧Hid (Ar wr (G+1) 0 (AdZ l AaX k))∧Hid (Below w.heap.size w wr)) (fun i _=>4 - (intOf i).toNat)
 case atStart=>exact ⟨0,by omega,rfl,HA2,η (by rw [DmY];exact HB2.o),HW⟩
 case round =>
  clear HA HA2 HB2 HW;obtain ⟨k,hk,rfl,hz,hm,hb⟩:=hrel;by_cases hlt:k<4
  ·obtain ⟨b0,b1,b2,b3,hb4⟩:=BeQ (cutL l (4*k) 4) (by rw [AoK _ _ _ (by rw [HL.o];omega)])
   have HB4:=η hb4;have h1:IntKind.i64.wrap (4*(k:Int))=4*(k:Int):=IntWalk.i64_in _ (by omega)
   have hcut:∀ W:World,(Instr.slice 41 (.slice (some ⟨ga,oa,none⟩) 16 c) (some (.int .i64 (4*(k:Int)))) none none).run prog W=.ok (.slice (some ⟨ga,oa+4*k,none⟩) (16 - 4*k) (c - 4*k)) W:=by
    intro W;have h:=BvJ (some ⟨ga,oa,none⟩) 16 c (4*k) (by omega) W;rw [show ((4*k:Nat):Int)=4*(k:Int) by omega] at h;rw [h];unfold cutA;rw [if_neg (by have:=HC16.o;omega)];simp [Addr.add_mid]
   have hsl:=CmJ (G+1) (k*4);have hlen:(AdZ l AaX k).length=16:=AqY l AaX k HL.o rfl (by omega);obtain ⟨W2,HW2⟩:∃ W2,Hid (W2=wr.drew.setCells (G+1) (k*4) (bvs [b0,b1,b2,b3])):=⟨_,η rfl⟩
   have hcp:(Builtin.copy_ #[41,41] 3 #[.slice (some ⟨G+1,k*4,none⟩) 4 4,.slice (some ⟨ga,oa+4*k,none⟩) (16 - 4*k) (c - 4*k)]).run prog wr.drew=.ok (.int .i64 4) W2:=by
    rw [HW2.o];refine run_copy_cells (P:=prog) wr.drew 41 41 3 5 (G+1) (k*4) 4 4 ⟨ga,oa+4*k,none⟩ (16 - 4*k) (c - 4*k) (bvs [b0,b1,b2,b3]) underlying41 (by kernel_rfl) (by show 4=min (16 - 4*k) 4;omega) (fun j v hv=>?_) (fun j hj=>?_) (fun j hj=>?_) (BkK _)
    ·rw [BtQ,←hb4] at hv
     have hj:j<4:=by
      rcases Nat.lt_or_ge j 4 with h | h
      ·exact h
      ·rw [List.getElem?_eq_none (by simp [cutL];omega)] at hv;simp at hv
     rw [BtJ _ _ _ _ hj] at hv;have hlj:4*k+j<l.length:=by rw [HL.o];omega
     rw [List.getElem?_eq_getElem hlj] at hv;injection hv with hv;rw [←hv,Addr.add_mid,Nat.add_assoc,World.cell?_drew];have:=HCELL.o (4*k+j) hlj;rw [←this];exact hb.o.cell (p:=⟨ga,oa+(4*k+j),none⟩) hga
    ·have hj4:j<4:=hj
     obtain ⟨y,hy⟩:=getX (AdZ l AaX k) 16 (k*4+j) hlen (by omega);have:=hm.o.drew.cell hy;rw [Nat.zero_add] at this;rw [this];rfl
    ·have hj4:j<4:=hj
     have:=hm.o.drew.free (j:=k*4+j) (by omega);rw [Nat.zero_add] at this;exact this
   have HL16:=η hlen;clear hb4 hlen;go_wp2_with fail;go_region_with (fail)
   all_goals
    go_wp2
    go_roundw
    case rel =>
     have h2:=hm.o.drew.lay (4*k) [b0,b1,b2,b3] (by rw [HL16.o];simp;omega);rw [←HB4.o,BxX l AaX k HL.o rfl hlt,HB4.o,show 0+4*k=k*4 by omega,←HW2.o] at h2;refine ⟨k+1,by omega,by go_num,η ?_,η h2,η ?_⟩
     ·rw [HW2.o];exact hz.o.drew.setCells (by omega) _ _
     ·rw [HW2.o];exact AaQ hb.o.drew (by rw [HG.o];omega) _ _
    case measure=>simp [intOf];omega
  ·obtain rfl:k=4:=by omega
   have hal:=hm.o;rw [BxY l AaX HL.o rfl] at hal;have HAL:=η hal;clear hal;go_wp2_with (first | (refine AgQ rfl _ (.tmp 3) rfl (G+1) 0 4 _ rfl l (by exact HAL.o) BbX (by rw [HL.o];exact ArJ) ?_) | (refine AlV rfl _ (.tmp 2) (.tmp 17) rfl G 0 rfl l AaX rfl (by exact hz.o) (by rw [HL.o];rfl) (by rw [HL.o];exact ArJ) ?_));refine bodyPost_ret (v:=AV l) (ApZ rfl _ _ G 4 _ l rfl (hz.o.whole l (by rw [HL.o];rfl)) BbX (by rw [HL.o];exact ArJ)) rfl ⟨rfl,?_⟩;exact AaQ hb.o (by rw [HG.o];exact Nat.le_refl _) 0 (bvs l)
