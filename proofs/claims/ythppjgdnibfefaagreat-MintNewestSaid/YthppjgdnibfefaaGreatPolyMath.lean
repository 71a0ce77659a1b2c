import Derived.Test.YthppjgdnibfefaaGreatMemAll
import Derived.Deep.RegionWith
import Derived.Laws.Tables
import Derived.ChangeKeysEq
import Derived.Laws.StructEq
set_option linter.all false
set_option maxRecDepth 100000
set_option maxHeartbeats 32000000
namespace Go.Proofs.YthppjgdnibfefaaGreat
open Tryz
open Go.RowKit
theorem AzY:prog.underlying 211=some (.array 128 4):=by kernel_rfl
theorem AmJ:(prog.info? 211).map (·.size)=some 128:=by kernel_rfl
def zP:List Bool:=List.replicate 128 false
theorem zP_len:zP.length=128:=List.length_replicate
theorem BkV (w:World):(zeroValue 211).run prog w=.ok (.agg (tvs zP).toArray) w:=by
 have h:(prog.info? 211).bind (·.zero)=some (.agg (tvs zP).toArray):=by kernel_rfl
 rcases hi:prog.info? 211 with _ | i
 ·rw [hi] at h;simp at h
 ·rw [hi] at h
  have hz:i.zero=some (.agg (tvs zP).toArray):=h;simp [zeroValue,typeInfo,hi,hz]
theorem BqV:prog.built 211 []=some (tvs zP).toArray:=by kernel_rfl
def RetT (l:List Bool) (w:World) (e:Ending) (w':World):Prop:=e=.returned (BV l)∧Below w.heap.size w w'
section
variable {w:World} {ops:Array Oper} {rest:List Oper} {o:Oper} {a:Act} {Q:Exit→Act→World→Prop}
theorem AnK (hgd:o.guard=none) (T:TypeId) (x:Operand) (hop:o.op=.box T x) (l:List Bool) (hx:a.eval x=BV l)
  (h:wpList prog ops Q rest (a.put o.dst (.pointer (some ⟨w.heap.size,0,none⟩))) (w.alloc (.cells (tvs l).toArray T))):wpList prog ops Q (o::rest) a w:=by
 refine wpList_plain hgd fun K hK=>?_
 have hr:(Instr.box T (BV l)).run prog w=.ok (.pointer (some ⟨w.heap.size,0,none⟩)) (w.alloc (.cells (tvs l).toArray T)):=rfl
 unfold Oper.wp execOp
 simp only [hop,hx,Sem.run_bind,hr,Result.andThen_ok]
 exact hK _ _ h
theorem BfQ (hgd:o.guard=none) (T:TypeId) (x:Operand) (hop:o.op=.load T x) (g d n:Nat) (e:TypeId) (hx:a.eval x=.pointer (some ⟨g,d,none⟩)) (l:List Bool) (hc:Br w g d l)
  (hu:prog.underlying T=some (.array n e)) (hi:(prog.info? T).map (·.size)=some l.length)
  (h:wpList prog ops Q rest (a.put o.dst (BV l)) w):wpList prog ops Q (o::rest) a w :=
 wpList_load_mid hgd T x hop g d hx (tvs l) _ hc.1 hu rfl (by rw [AeX];exact hi) h
theorem AoX (hgd:o.guard=none) (T:TypeId) (x y:Operand) (hop:o.op=.store T x y) (g d:Nat) (hx:a.eval x=.pointer (some ⟨g,d,none⟩)) (l l0:List Bool) (hy:a.eval y=BV l) (hc:Br w g d l0)
  (hl:l0.length=l.length) (hi:(prog.info? T).map (·.size)=some l.length)
  (h:wpList prog ops Q rest (a.put o.dst undef) (w.setCells g d (tvs l))):wpList prog ops Q (o::rest) a w :=
 wpList_store_mid hgd T x y hop g d (tvs l).toArray hx hy (by have:=hc.2;rw [AeX,hl,←AeX] at this;simpa using this) (by simpa [AeX] using hi) (FbQ l) (by simpa using h)
theorem AsQ (hgd:o.guard=none) (T:TypeId) (hop:o.op=.build T #[]) (l:List Bool) (hb:prog.built T []=some (tvs l).toArray)
  (h:wpList prog ops Q rest (a.put o.dst (BV l)) w):wpList prog ops Q (o::rest) a w:=by
 refine wpList_plain hgd fun K hK=>?_
 unfold Oper.wp execOp
 simp only [hop,List.map_toArray,List.map_nil,Sem.run_bind,run_build w T #[] _ hb,Result.andThen_ok]
 exact hK _ _ h
end
theorem BlY {fn:Func} {p:Tmp} {ty:TypeId} (h:fn.results=#[.cell p ty]) (tmps:Array Value) (w:World) (b n:Nat) (e:TypeId) (l:List Bool) (ht:tmps.getD p undef=.pointer (some ⟨b,0,none⟩)) (hc:Br w b 0 l)
  (hu:prog.underlying ty=some (.array n e)) (hi:(prog.info? ty).map (·.size)=some l.length):(results fn tmps).run prog w=.ok (BV l) w:=by
 have hl:=run_loadVar_mid (P:=prog) w b 0 ty (tvs l) (.array n e) hc.1 hu rfl (by rw [AeX];exact hi)
 rw [Array.getD_eq_getD_getElem?] at ht
 simp only [results,h]
 simp [ht,asAddr,hl,BV]
def upT (r l:List Bool) (k:Nat):List Bool:=r.take k++l.drop k
theorem BcW (r l:List Bool) (k:Nat) (h:r.length=l.length):(upT r l k).length=l.length:=by simp [upT,h];omega
theorem CmQ (r l:List Bool):upT r l 0=l:=by simp [upT]
theorem DfX (r l:List Bool) (h:r.length=l.length):upT r l l.length=r:=by simp [upT,←h]
theorem DnW (r l:List Bool) (k j:Nat) (h:r.length=l.length) (hk:k≤l.length):(upT r l k)[j]?=if j<k then r[j]? else l[j]?:=by
 unfold upT
 by_cases hj:j<k
 ·rw [List.getElem?_append_left (by rw [List.length_take];omega),List.getElem?_take,if_pos hj,if_pos hj]
 ·rw [List.getElem?_append_right (by rw [List.length_take];omega),List.length_take,if_neg hj,List.getElem?_drop]
  congr 1;omega
theorem DfW (r l:List Bool) (k:Nat) (x:Bool) (h:r.length=l.length) (hx:r[k]?=some x):(upT r l k).set k x=upT r l (k+1):=by
 have hk:=(List.getElem?_eq_some_iff.1 hx).1
 apply List.ext_getElem?
 intro j
 rw [List.getElem?_set,BcW r l k h,DnW r l k j h (by omega),DnW r l (k+1) j h (by omega)]
 by_cases e:k=j
 ·subst e;rw [if_pos rfl,if_pos (by omega),if_pos (by omega),hx]
 ·rw [if_neg e]
  by_cases h2:j<k
  ·rw [if_pos h2,if_pos (by omega)]
  ·rw [if_neg h2,if_neg (by omega)]
theorem getT (l:List Bool) (n k:Nat) (hl:l.length=n) (hk:k<n):∃ x,l[k]?=some x:=⟨l[k]'(by omega),List.getElem?_eq_getElem (by omega)⟩
theorem Br.new1 (w:World) (n:Nat) (hn:n=w.heap.size) (l:List Bool) (T:TypeId):Br (w.alloc (.cells (tvs l).toArray T)) n 0 l:=by rw [hn];exact Br.new w l T
def V3 (l m z:List Bool) (T:TypeId) (w:World):World:=((w.alloc (.cells (tvs l).toArray T)).alloc (.cells (tvs m).toArray T)).alloc (.cells (tvs z).toArray T)
theorem CmK (l m z:List Bool) (T:TypeId) (w:World):Below w.heap.size w (V3 l m z T w):=((AaK w _).alloc (by simp) _).alloc (by simp;omega) _
theorem v3_0 (l m z:List Bool) (T:TypeId) (w:World):Br (V3 l m z T w) w.heap.size 0 l:=((Br.new w l T).alloc (by simp) _).alloc (by simp;omega) _
theorem v3_1 (l m z:List Bool) (T:TypeId) (w:World):Br (V3 l m z T w) (w.heap.size+1) 0 m:=(Br.new1 _ _ (by simp) m T).alloc (by simp) _
theorem v3_2 (l m z:List Bool) (T:TypeId) (w:World):Br (V3 l m z T w) (w.heap.size+1+1) 0 z:=Br.new1 _ _ (by simp) z T
def V2 (l z:List Bool) (T:TypeId) (w:World):World:=(w.alloc (.cells (tvs l).toArray T)).alloc (.cells (tvs z).toArray T)
theorem v2_below (l z:List Bool) (T:TypeId) (w:World):Below w.heap.size w (V2 l z T w):=(AaK w _).alloc (by simp) _
theorem v2_0 (l z:List Bool) (T:TypeId) (w:World):Br (V2 l z T w) w.heap.size 0 l:=(Br.new w l T).alloc (by simp) _
theorem v2_1 (l z:List Bool) (T:TypeId) (w:World):Br (V2 l z T w) (w.heap.size+1) 0 z:=Br.new1 _ _ (by simp) z T
def addT (a b:List Bool):List Bool:=List.zipWith (· != ·) a b
theorem padd_any (l m:List Bool) (w:World) (hl:l.length=128) (hm:m.length=128) :
  Calls prog 166 #[BV l,BV m] w (RetT (addT l m) w):=by
 have HL:=η hl
 have HM:=η hm
 obtain ⟨R,HR⟩:∃ R,Hid (R=addT l m):=⟨_,η rfl⟩
 rw [←HR.o]
 have HR8:Hid (R.length=l.length):=η (by rw [HR.o];simp [addT,hl,hm])
 have hz:=BkV
 have HA:=η (v3_0 l m zP 211 w)
 have HB:=η (v3_1 l m zP 211 w)
 have HC:=η (v3_2 l m zP 211 w)
 have HW:=η (CmK l m zP 211 w)
 obtain ⟨G,HG⟩:∃ G,Hid (G=w.heap.size):=⟨_,η rfl⟩
 obtain ⟨W0,HW0⟩:∃ W0,Hid (W0=V3 l m zP 211 w):=⟨_,η rfl⟩
 clear hl hm
 go_enter func166,ntmps166
 go_wp2_with (first | (refine AnK rfl _ (.tmp 0) rfl l rfl ?_) | (refine AnK rfl _ (.tmp 1) rfl m rfl ?_))
 show Code.wp _ _ _ _ (V3 l m zP 211 w)
 rw [←HW0.o] at HA HB HC HW ⊢
 rw [←HG.o] at HA HB HC ⊢
 go_loopw [5] (fun i wr=>∃ k:Nat,k≤128∧i=.int .i64 k∧Hid (Br wr G 0 (upT R l k))∧Hid (Br wr (G+1) 0 m)∧Hid (Br wr (G+1+1) 0 zP)∧Hid (Below w.heap.size w wr)) (fun i _=>128 - (intOf i).toNat)
 case atStart=>exact ⟨0,by omega,rfl,η (by rw [CmQ];exact HA.o),HB,HC,HW⟩
 case round =>
  obtain ⟨k,hk,rfl,ha,hb,hc,hbl⟩:=hrel;clear HA HB HC HW;by_cases hlt:k<128
  ·obtain ⟨x,hx⟩:=getT l 128 k HL.o hlt
   obtain ⟨y,hy⟩:=getT m 128 k HM.o hlt;have hxy:R[k]?=some (x != y):=by rw [HR.o];unfold addT;rw [List.getElem?_zipWith,hx,hy]
   have cx:=ha.o.cell (j:=k) (by rw [DnW R l k k HR8.o (by rw [HL.o];omega),if_neg (by omega)];exact hx);have fx:=ha.o.free (j:=k) (by rw [BcW R l k HR8.o,HL.o];exact hlt);have cy:=hb.o.cell hy;rw [Nat.zero_add] at cx fx cy;unfold tv at cx cy;obtain ⟨z,HZ⟩:∃ z,Hid (z=(x != y)):=⟨_,η rfl⟩;have HXY:=η hxy;clear hx hy hxy;go_wp2_with fail;go_region_with (fail)
   all_goals
    go_wp2
    go_roundw
    case rel =>
     have h1:=ha.o.drew.set (k:=k) (by rw [BcW R l k HR8.o,HL.o];exact hlt) (x != y);rw [DfW R l k _ HR8.o HXY.o,Nat.zero_add] at h1;exact ⟨k+1,by omega,by go_num,η h1,η (hb.o.drew.setCell (by show G≠G+1;omega) _),η (hc.o.drew.setCell (by show G≠G+1+1;omega) _),η (hbl.o.drew.setCell (by rw [HG.o];exact Nat.le_refl _) _)⟩
    case measure=>simp [intOf];omega
  ·obtain rfl:k=128:=by omega
   have hal:=ha.o;have h128:=DfX R l HR8.o;rw [HL.o] at h128;rw [h128] at hal;have HAL:=η hal;have HRL:Hid (R.length=128):=η (by rw [HR8.o];exact HL.o);clear hal h128;go_wp2_with (first | (refine BfQ rfl _ (.tmp 2) rfl G 0 128 _ rfl R (by exact HAL.o) AzY (by rw [HRL.o];exact AmJ) ?_) | (refine AoX rfl _ (.tmp 4) (.tmp 19) rfl (G+1+1) 0 rfl R zP rfl (by exact hc.o) (by rw [HRL.o];exact zP_len) (by rw [HRL.o];exact AmJ) ?_));refine bodyPost_ret (v:=BV R) (BlY rfl _ _ (G+1+1) 128 _ R rfl (hc.o.whole R (by rw [HRL.o];exact zP_len.symm)) AzY (by rw [HRL.o];exact AmJ)) rfl ⟨rfl,?_⟩;exact AaQ hbl.o (by rw [HG.o];omega) 0 (tvs R)
open Go.RowKit
def DmK (l:YB) (i:Nat):Bool:=decide ((l.getD (i / 8) 0).toNat / 2 ^ (7 - i % 8) % 2=1)
def AqW (l:YB):List Bool:=(List.range 128).map (DmK l)
theorem BtV (l:YB):(AqW l).length=128:=by simp [AqW]
theorem CfQ (l:YB) (i:Nat) (hi:i<128):(AqW l)[i]?=some (DmK l i):=by simp [AqW,hi]
theorem bit_walk (n s:Nat):(((n:Int) / 2 ^ s).tmod 2 == 1)=decide (n / 2 ^ s % 2=1):=by
 have e:((n:Int) / 2 ^ s)=((n / 2 ^ s:Nat):Int):=by simp
 rw [e]
 generalize n / 2 ^ s=m
 rw [Int.tmod_eq_emod_of_nonneg (by omega)]
 by_cases h:m % 2=1
 ·rw [decide_eq_true h,beq_iff_eq];omega
 ·rw [decide_eq_false h,beq_eq_false_iff_ne];omega
theorem DiX (A:YA) (c0:Nat) (l:YB) (w:World) (h:RB w w.heap.size A 16 l) :
  Calls prog 137 #[.slice A 16 c0] w (RetT (AqW l) w):=by
 have hl:=h.len
 obtain ⟨ga,oa,rfl,hga,hcell⟩:=h.2 (by omega)
 have HL:=η hl
 have HCELL:=η hcell
 obtain ⟨R,HR⟩:∃ R,Hid (R=AqW l):=⟨_,η rfl⟩
 rw [←HR.o]
 have HRL:Hid (R.length=zP.length):=η (by rw [HR.o,BtV,zP_len])
 have hz:=BkV
 have HA:=η (v2_0 zP zP 211 w)
 have HB:=η (v2_1 zP zP 211 w)
 have HW:=η (v2_below zP zP 211 w)
 obtain ⟨G,HG⟩:∃ G,Hid (G=w.heap.size):=⟨_,η rfl⟩
 have HN:Hid (Br ((w.alloc (.cells (tvs zP).toArray 211)).alloc (.cells (tvs zP).toArray 211)) (w.heap.size+1) 0 zP):=η (v2_1 zP zP _ w)
 clear hl hcell h
 go_enter func137,ntmps137
 go_wp2_with (first | (refine AsQ rfl _ rfl zP BqV ?_) | (refine AoX rfl _ (.tmp 3) (.tmp 5) rfl (w.heap.size+1) 0 rfl zP zP rfl (by exact HN.o) rfl (by rw [zP_len];exact AmJ) ?_))
 obtain ⟨W0,HW0⟩:∃ W0,Hid (W0=(V2 zP zP 211 w).setCells (w.heap.size+1) 0 (tvs zP)):=⟨_,η rfl⟩
 show Code.wp _ _ _ _ ((V2 zP zP 211 w).setCells (w.heap.size+1) 0 (tvs zP))
 have HB0:Hid (Below w.heap.size w W0):=η (by rw [HW0.o];exact AaQ HW.o (by omega) _ _)
 have HA0:Hid (Br W0 G 0 zP):=η (by rw [HW0.o,HG.o];exact HA.o.setCells (by omega) _ _)
 have HC0:Hid (Br W0 (G+1) 0 (upT R zP 0)):=η (by rw [HW0.o,HG.o,CmQ];exact HB.o.whole zP rfl)
 rw [←HW0.o,←HG.o]
 clear HA HB HW HN
 go_loopw [4] (fun i wr=>∃ k:Nat,k≤128∧i=.int .i64 k∧Hid (Br wr G 0 zP)∧Hid (Br wr (G+1) 0 (upT R zP k))∧Hid (Below w.heap.size w wr)) (fun i _=>128 - (intOf i).toNat)
 case atStart=>exact ⟨0,by omega,rfl,HA0,HC0,HB0⟩
 case round =>
  obtain ⟨k,hk,rfl,ha,hm,hb⟩:=hrel;clear HA0 HC0 HB0;by_cases hlt:k<128
  ·obtain ⟨q,HQ,hq⟩:∃ q:Nat,Hid (q=k / 8)∧q<16:=⟨_,η rfl,by omega⟩
   obtain ⟨r,HRR,hr⟩:∃ r:Nat,Hid (r=k % 8)∧r<8:=⟨_,η rfl,by omega⟩;have t1:Int.tdiv (k:Int) 8=(q:Int):=by rw [Int.tdiv_eq_ediv_of_nonneg (by omega),HQ.o];omega
   have t2:Int.tmod (k:Int) 8=(r:Int):=by rw [Int.tmod_eq_emod_of_nonneg (by omega),HRR.o];omega
   have hql:q<l.length:=by rw [HL.o];exact hq
   obtain ⟨x,hx⟩:∃ x,l[q]?=some x:=⟨l[q],List.getElem?_eq_getElem hql⟩
   have cx:wr.cell? ⟨ga,oa+q,none⟩=some (.int .u8 (x.toNat:Int)):=(hb.o.cell (p:=⟨ga,oa+q,none⟩) hga).trans (by
    have h1:=HCELL.o q hql
    have h2:=hx
    rw [List.getElem?_eq_getElem hql] at h2
    injection h2 with h2
    rw [h2] at h1
    exact h1)
   obtain ⟨y,hy⟩:=getT (upT R zP k) 128 k (by rw [BcW R zP k HRL.o,zP_len]) hlt;have cm:=hm.o.cell hy;have fm:=hm.o.free (j:=k) (by rw [BcW R zP k HRL.o,zP_len];exact hlt);rw [Nat.zero_add] at cm fm;unfold tv at cm;have hxl:=x.toNat_lt;have b1:IntKind.i64.wrap (7 - (r:Int))=7 - (r:Int):=IntWalk.i64_in _ (by omega);obtain ⟨v,HV⟩:∃ v,Hid (v=DmK l k):=⟨_,η rfl⟩
   have hv:(((x.toNat:Int) / 2 ^ (7 - r)).tmod 2 == 1)=v:=by
    rw [bit_walk,HV.o];unfold DmK;rw [←HQ.o,←HRR.o];simp [List.getD,hx]
   have HRK:Hid (R[k]?=some v):=η (by rw [HR.o,CfQ l k hlt,HV.o]);clear hx hy;go_wp2_with fail;go_roundw
   case rel =>
    have h1:=hm.o.set (k:=k) (by rw [BcW R zP k HRL.o,zP_len];exact hlt) v;rw [DfW R zP k _ HRL.o HRK.o,Nat.zero_add] at h1;exact ⟨k+1,by omega,by go_num,η (ha.o.setCell (by show G+1≠G;omega) _),η h1,η (hb.o.setCell (by rw [HG.o];show w.heap.size≤w.heap.size+1;omega) _)⟩
   case measure=>simp [intOf];omega
  ·obtain rfl:k=128:=by omega
   have hal:=hm.o;have h128:=DfX R zP HRL.o;rw [zP_len] at h128;rw [h128] at hal;have HAL:=η hal;have HR8:Hid (R.length=128):=η (by rw [HRL.o];exact zP_len);clear hal h128;go_wp2_with (first | (refine BfQ rfl _ (.tmp 3) rfl (G+1) 0 128 _ rfl R (by exact HAL.o) AzY (by rw [HR8.o];exact AmJ) ?_) | (refine AoX rfl _ (.tmp 2) (.tmp 24) rfl G 0 rfl R zP rfl (by exact ha.o) (by rw [HR8.o];exact zP_len) (by rw [HR8.o];exact AmJ) ?_));refine bodyPost_ret (v:=BV R) (BlY rfl _ _ G 128 _ R rfl (ha.o.whole R (by rw [HR8.o];exact zP_len.symm)) AzY (by rw [HR8.o];exact AmJ)) rfl ⟨rfl,?_⟩;exact AaQ hb.o (by rw [HG.o];exact Nat.le_refl _) 0 (tvs R)
open Go.RowKit
def topB (x:UInt8) (t:Nat):UInt8:=UInt8.ofNat (x.toNat / 2 ^ (8 - t)*2 ^ (8 - t))
theorem BsY {p:UInt8→Prop} (h:∀ n:Fin 256,p (UInt8.ofNat n.val)) (x:UInt8):p x:=by
 have e:UInt8.ofNat x.toNat=x:=by simp
 have:=h ⟨x.toNat,x.toNat_lt⟩
 rw [e] at this
 exact this
theorem top_zero (x:UInt8):topB x 0=0:=by
 have h:∀ n:Fin 256,topB (UInt8.ofNat n.val) 0=0:=by decide +kernel
 exact BsY (p:=fun x=>topB x 0=0) h x
theorem top_all (x:UInt8):topB x 8=x:=by
 have h:∀ n:Fin 256,topB (UInt8.ofNat n.val) 8=UInt8.ofNat n.val:=by decide +kernel
 exact BsY (p:=fun x=>topB x 8=x) h x
theorem top_next (x:UInt8) (r:Nat) (hr:r<8) :
  (x.toNat / 2 ^ (7 - r) % 2=1→bits .or .u8 ((topB x r).toNat:Int) (2 ^ (7 - r) % 256)=((topB x (r+1)).toNat:Int))∧(¬x.toNat / 2 ^ (7 - r) % 2=1→topB x (r+1)=topB x r):=by
 have h:∀ (r:Fin 8) (n:Fin 256),((UInt8.ofNat n.val).toNat / 2 ^ (7 - r.val) % 2=1→bits .or .u8 ((topB (UInt8.ofNat n.val) r.val).toNat:Int) (2 ^ (7 - r.val) % 256)=((topB (UInt8.ofNat n.val) (r.val+1)).toNat:Int))∧(¬(UInt8.ofNat n.val).toNat / 2 ^ (7 - r.val) % 2=1→topB (UInt8.ofNat n.val) (r.val+1)=topB (UInt8.ofNat n.val) r.val):=by decide +kernel
 exact BsY (p:=fun x=>(x.toNat / 2 ^ (7 - r) % 2=1→bits .or .u8 ((topB x r).toNat:Int) (2 ^ (7 - r) % 256)=((topB x (r+1)).toNat:Int))∧(¬x.toNat / 2 ^ (7 - r) % 2=1→topB x (r+1)=topB x r)) (h ⟨r,hr⟩) x
def outK (l:YB) (k:Nat):List UInt8:=(List.range 16).map fun q=>topB (l.getD q 0) (min 8 (k - 8*q))
theorem CoX (l:YB) (k q:Nat) (hq:q<16):(outK l k)[q]?=some (topB (l.getD q 0) (min 8 (k - 8*q))):=by simp [outK,hq]
theorem BwX (l:YB) (k:Nat) (m:YB) (hm:m.length=16) (h:∀ q,q<16→m[q]?=some (topB (l.getD q 0) (min 8 (k - 8*q)))):m=outK l k:=by
 apply List.ext_getElem?
 intro q
 by_cases hq:q<16
 ·rw [h q hq,CoX l k q hq]
 ·rw [List.getElem?_eq_none (by omega),List.getElem?_eq_none (by simp [outK];omega)]
theorem ErV (l:YB):outK l 0=List.replicate 16 0:=by
 refine (BwX l 0 _ List.length_replicate fun q hq=>?_).symm
 rw [show min 8 (0 - 8*q)=0 by omega,top_zero,List.getElem?_replicate,if_pos hq]
theorem outK_all (l:YB) (hl:l.length=16):outK l 128=l:=by
 refine (BwX l 128 _ hl fun q hq=>?_).symm
 rw [show min 8 (128 - 8*q)=8 by omega,top_all]
 simp [List.getD,hl,hq]
theorem outK_set (l:YB) (k:Nat) (hk:k<128):(outK l k).set (k / 8) (topB (l.getD (k / 8) 0) (k % 8+1))=outK l (k+1):=by
 refine BwX l (k+1) _ (by simp [outK]) fun q hq=>?_
 rw [List.getElem?_set]
 by_cases e:k / 8=q
 ·subst e
  rw [if_pos rfl,if_pos (by simp [outK];omega),show min 8 (k+1 - 8*(k / 8))=k % 8+1 by omega]
 ·rw [if_neg e,CoX l k q hq]
  congr 2;omega
theorem ErW (l:YB) (k:Nat) (hk:k<128) (h:topB (l.getD (k / 8) 0) (k % 8+1)=topB (l.getD (k / 8) 0) (k % 8)):outK l (k+1)=outK l k:=by
 refine (BwX l (k+1) _ (by simp [outK]) fun q hq=>?_).symm
 rw [CoX l k q hq]
 by_cases e:k / 8=q
 ·subst e
  rw [show min 8 (k+1 - 8*(k / 8))=k % 8+1 by omega,show min 8 (k - 8*(k / 8))=k % 8 by omega,h]
 ·congr 2;omega
theorem EcQ (l:YB) (w:World) (hl:l.length=16) :
  Calls prog 135 #[BV (AqW l)] w (RetB 16 l w):=by
 have HL:=η hl
 obtain ⟨P,HP⟩:∃ P,Hid (P=AqW l):=⟨_,η rfl⟩
 rw [←HP.o]
 have HPL:Hid (P.length=128):=η (by rw [HP.o];exact BtV l)
 have HA:=η (Br.new w P 211)
 obtain ⟨G,HG⟩:∃ G,Hid (G=w.heap.size):=⟨_,η rfl⟩
 clear hl
 go_enter func135,ntmps135
 go_wp2_with (first | (refine AnK rfl _ (.tmp 0) rfl P rfl ?_) | (refine AjY rfl _ _ rfl w.heap.size .i64 .i64 16 16 16 rfl rfl rfl rfl (by omega) (by simp) ?_;intro w1 hown hsz hb1;have HO:=η hown;have HB1:Hid (Below w.heap.size w w1):=η ((AaK w _).trans (hb1.mono (by simp)));have HA1:Hid (Br w1 w.heap.size 0 P):=η (HA.o.below hb1 (by simp));clear hown hb1))
 have HO0:Hid (OwnB w1 w.heap.size (some ⟨G+1,0,none⟩) 16 16 (outK l 0)):=η (by
  have h:=HO.o
  rw [World.size_alloc,←HG.o] at h
  rw [ErV,←HG.o];exact h)
 rw [←HG.o] at HA1
 rw [←HG.o]
 clear HO HA hsz
 go_loopw [4] (fun i wr=>∃ k:Nat,k≤128∧i=.int .i64 k∧Hid (OwnB wr w.heap.size (some ⟨G+1,0,none⟩) 16 16 (outK l k))∧Hid (Br wr G 0 P)∧Hid (Below w.heap.size w wr)) (fun i _=>128 - (intOf i).toNat)
 case atStart=>exact ⟨0,by omega,rfl,HO0,HA1,HB1⟩
 case round =>
  clear HO0 HA1 HB1;obtain ⟨k,hk,rfl,ho,ha,hb⟩:=hrel;by_cases hlt:k<128
  ·obtain ⟨q,HQ,hq⟩:∃ q:Nat,Hid (q=k / 8)∧q<16:=⟨_,η rfl,by omega⟩
   obtain ⟨r,HRR,hr⟩:∃ r:Nat,Hid (r=k % 8)∧r<8:=⟨_,η rfl,by omega⟩;have t1:Int.tdiv (k:Int) 8=(q:Int):=by rw [Int.tdiv_eq_ediv_of_nonneg (by omega),HQ.o];omega
   have t2:Int.tmod (k:Int) 8=(r:Int):=by rw [Int.tmod_eq_emod_of_nonneg (by omega),HRR.o];omega
   have b1:IntKind.i64.wrap (7 - (r:Int))=7 - (r:Int):=IntWalk.i64_in _ (by omega);obtain ⟨v,HV⟩:∃ v,Hid (v=DmK l k):=⟨_,η rfl⟩;have cv:=ha.o.cell (j:=k) (x:=v) (by rw [HP.o,CfQ l k hlt,HV.o]);rw [Nat.zero_add] at cv;unfold tv at cv;obtain ⟨x,HX⟩:∃ x,Hid (x=l.getD q 0):=⟨_,η rfl⟩
   have hy:(outK l k)[q]?=some (topB x r):=by
    rw [CoX l k q hq,HX.o,show min 8 (k - 8*q)=r by rw [HQ.o,HRR.o];omega]
   have cy:=ho.o.cellAt hy;have fy:=ho.o.freeAt q
   have hbit:v=decide (x.toNat / 2 ^ (7 - r) % 2=1):=by
    rw [HV.o,HX.o];unfold DmK;rw [←HQ.o,←HRR.o]
   obtain ⟨ht1,ht0⟩:=top_next x r hr;have HY:=η hy;clear hy;rcases v with _ | _
   ·have h0:topB x (r+1)=topB x r:=ht0 (of_decide_eq_false hbit.symm)
    have HS:Hid (outK l (k+1)=outK l k):=η (ErW l k hlt (by rw [←HQ.o,←HRR.o,←HX.o];exact h0));clear ht1 ht0 hbit h0;go_wp2_with fail;go_roundw
    case rel=>exact ⟨k+1,by omega,by go_num,η (by rw [HS.o];exact ho.o),ha,hb⟩
    case measure=>simp [intOf];omega
   ·have h1:=ht1 (of_decide_eq_true hbit.symm)
    obtain ⟨z,HZ⟩:∃ z,Hid (z=topB x (r+1)):=⟨_,η rfl⟩;rw [←HZ.o] at h1;have HS:Hid ((outK l k).set q z=outK l (k+1)):=η (by rw [HZ.o,HX.o,HQ.o,HRR.o];exact outK_set l k hlt);clear ht1 ht0 hbit;go_wp2_with fail;go_roundw
    case rel =>
     have h2:=ho.o.stored q z _ rfl;rw [HS.o] at h2;exact ⟨k+1,by omega,by go_num,η h2,η (ha.o.setCell (by show G+1≠G;omega) _),η (hb.o.setCell (by rw [HG.o];show w.heap.size≤w.heap.size+1;omega) _)⟩
    case measure=>simp [intOf];omega
  ·obtain rfl:k=128:=by omega
   go_wp2_with fail;go_ret;have h:=ho.o;rw [outK_all l HL.o] at h;exact ⟨_,_,rfl,h,hb.o⟩
def AqV (a:Nat):Nat:=(a / 2) ^^^ (a % 2*299076299051606071403356588563077529600)
def AgX (a:Nat):Nat→Nat | 0=>a | k+1=>AqV (AgX a k)
def gBit (a k:Nat):Nat:=a / 2 ^ (127 - k) % 2
def gUp (a b:Nat):Nat→Nat | 0=>0 | k+1=>gUp a b k ^^^ (gBit b k*AgX a k)
def gMul (a b:Nat):Nat:=gUp a b 128
def gOne:Nat:=2 ^ 127
def gE (k:Nat):Nat:=2 ^ (127 - k)
theorem EgJ (n:Nat):n % 2=0∨n % 2=1:=Nat.mod_two_eq_zero_or_one n
theorem xor4 (p q s t:Nat):(p ^^^ q) ^^^ (s ^^^ t)=(p ^^^ s) ^^^ (q ^^^ t):=by
 rw [Nat.xor_assoc,Nat.xor_assoc,←Nat.xor_assoc q s t,Nat.xor_comm q s,Nat.xor_assoc s q t]
theorem half_xor (a b:Nat):(a ^^^ b) / 2=a / 2 ^^^ b / 2:=by
 have h2:∀ n:Nat,n / 2=n >>> 1:=fun n=>by simp [Nat.shiftRight_eq_div_pow]
 rw [h2,h2,h2,Nat.shiftRight_xor_distrib]
theorem EsV (a b:Nat):(a ^^^ b) % 2=(a % 2+b % 2) % 2:=by
 have h1:=Nat.xor_mod_two_pow (a:=a) (b:=b) (n:=1)
 rw [Nat.pow_one] at h1
 rw [h1]
 rcases EgJ a with e | e <;> rcases EgJ b with e' | e' <;> rw [e,e'] <;> rfl
theorem DuX (a b k:Nat):gBit (a ^^^ b) k=(gBit a k+gBit b k) % 2:=by
 unfold gBit
 rw [←Nat.shiftRight_eq_div_pow,←Nat.shiftRight_eq_div_pow,←Nat.shiftRight_eq_div_pow,Nat.shiftRight_xor_distrib]
 exact EsV _ _
theorem CdV (a k:Nat):gBit a k=0∨gBit a k=1:=EgJ _
theorem bits_mul (x y v:Nat) (hx:x=0∨x=1) (hy:y=0∨y=1):(x+y) % 2*v=x*v ^^^ y*v:=by
 rcases hx with rfl | rfl <;> rcases hy with rfl | rfl <;> simp
theorem bit_mul (c v w:Nat) (hc:c=0∨c=1):c*(v ^^^ w)=c*v ^^^ c*w:=by rcases hc with rfl | rfl <;> simp
theorem DcK (a b:Nat):AqV (a ^^^ b)=AqV a ^^^ AqV b:=by
 unfold AqV
 rw [half_xor,EsV,bits_mul _ _ _ (EgJ a) (EgJ b),xor4]
theorem BsJ:AqV 0=0:=by decide
theorem ExK (c a:Nat) (hc:c=0∨c=1):AqV (c*a)=c*AqV a:=by
 rcases hc with rfl | rfl
 ·rw [Nat.zero_mul,Nat.zero_mul,BsJ]
 ·rw [Nat.one_mul,Nat.one_mul]
theorem AyZ (a b:Nat):∀ k,AgX (a ^^^ b) k=AgX a k ^^^ AgX b k
 | 0=>rfl
 | k+1=>by rw [AgX,AyZ a b k,DcK];rfl
theorem CkK (a:Nat):∀ k,AgX (AqV a) k=AqV (AgX a k)
 | 0=>rfl
 | k+1=>by rw [AgX,CkK a k];rfl
theorem BhK:∀ k,AgX 0 k=0
 | 0=>rfl
 | k+1=>by rw [AgX,BhK k,BsJ]
theorem AzJ (a m:Nat):∀ n,AgX a (m+n)=AgX (AgX a m) n
 | 0=>rfl
 | n+1=>by rw [←Nat.add_assoc,AgX,AzJ a m n];rfl
theorem DuV (a a' b:Nat):∀ k,gUp (a ^^^ a') b k=gUp a b k ^^^ gUp a' b k
 | 0=>by simp [gUp]
 | k+1=>by rw [gUp,gUp,gUp,DuV a a' b k,AyZ,bit_mul _ _ _ (CdV b k),xor4]
theorem DuQ (a b:Nat):∀ k,gUp (AqV a) b k=AqV (gUp a b k)
 | 0=>by rw [gUp,gUp,BsJ]
 | k+1=>by rw [gUp,gUp,DuQ a b k,DcK,ExK _ _ (CdV b k),CkK]
theorem CqJ (b:Nat):∀ k,gUp 0 b k=0
 | 0=>rfl
 | k+1=>by rw [gUp,CqJ b k,BhK];simp
theorem gUp_bit (c a b:Nat) (hc:c=0∨c=1) (k:Nat):gUp (c*a) b k=c*gUp a b k:=by
 rcases hc with rfl | rfl
 ·rw [Nat.zero_mul,Nat.zero_mul,CqJ]
 ·rw [Nat.one_mul,Nat.one_mul]
theorem BnQ (a a' b:Nat):gMul (a ^^^ a') b=gMul a b ^^^ gMul a' b:=DuV a a' b 128
theorem ExQ (a b:Nat):gMul (AqV a) b=AqV (gMul a b):=DuQ a b 128
theorem CdJ (a b:Nat):∀ k,gMul (AgX a k) b=AgX (gMul a b) k
 | 0=>rfl
 | k+1=>by rw [AgX,ExQ,CdJ a b k];rfl
theorem BsK (b:Nat):gMul 0 b=0:=CqJ b 128
theorem gNext_lt (a:Nat) (h:a<2 ^ 128):AqV a<2 ^ 128:=by
 unfold AqV
 refine Nat.xor_lt_two_pow ?_ ?_
 ·omega
 ·rcases EgJ a with e | e <;> rw [e] <;> decide
theorem BxJ (a:Nat) (h:a<2 ^ 128):∀ k,AgX a k<2 ^ 128
 | 0=>h
 | k+1=>gNext_lt _ (BxJ a h k)
theorem bit_lt (c v n:Nat) (hc:c=0∨c=1) (h:v<n):c*v<n:=by rcases hc with rfl | rfl <;> omega
theorem gUp_lt (a b:Nat) (h:a<2 ^ 128):∀ k,gUp a b k<2 ^ 128
 | 0=>by rw [gUp];decide
 | k+1=>Nat.xor_lt_two_pow (gUp_lt a b h k) (bit_lt _ _ _ (CdV b k) (BxJ a h k))
theorem CqQ (a b:Nat) (h:a<2 ^ 128):gMul a b<2 ^ 128:=gUp_lt a b h 128
theorem gE_next (k:Nat) (hk:k<127):AqV (gE k)=gE (k+1):=by
 unfold AqV gE
 obtain ⟨m,hm⟩:∃ m,127 - k=m+1:=⟨126 - k,by omega⟩
 rw [hm,show 127 - (k+1)=m by omega,Nat.pow_succ,Nat.mul_mod_left,Nat.mul_div_cancel _ (by omega)]
 simp
theorem CqV:∀ k,k<128→AgX gOne k=gE k
 | 0,_=>rfl
 | k+1,h=>by rw [AgX,CqV k (by omega),gE_next k (by omega)]
theorem gTop (b:Nat) (hb:b<2 ^ 128):∀ k,k≤128→gUp gOne b k=b / 2 ^ (128 - k)*2 ^ (128 - k)
 | 0,_=>by rw [gUp,Nat.div_eq_of_lt hb,Nat.zero_mul]
 | k+1,h=>by
  rw [gUp,gTop b hb k (by omega),CqV k (by omega)];unfold gBit gE;obtain ⟨m,hm⟩:∃ m,127 - k=m:=⟨_,rfl⟩;rw [hm,show 128 - k=m+1 by omega,show 128 - (k+1)=m by omega];have h1:b / 2 ^ (m+1)=b / 2 ^ m / 2:=by rw [Nat.pow_succ,Nat.div_div_eq_div_mul]
  rw [h1];obtain ⟨q,hq⟩:∃ q,b / 2 ^ m=q:=⟨_,rfl⟩;rw [hq,Nat.pow_succ,Nat.mul_comm (2 ^ m) 2,←Nat.mul_assoc];rw [←Nat.shiftLeft_eq,←Nat.shiftLeft_eq,←Nat.shiftLeft_eq,←Nat.shiftLeft_xor_distrib];congr 1
  have h3:q / 2*2 ^^^ q % 2=q:=by
   have h4:=Nat.two_pow_add_eq_or_of_lt (i:=1) (b:=q % 2) (by omega) (q / 2);apply Nat.eq_of_testBit_eq;intro i;rw [Nat.testBit_xor]
   cases i with
   | zero=>simp [Nat.testBit_zero]
   | succ i =>
    rw [Nat.testBit_succ,Nat.testBit_succ,Nat.testBit_succ,Nat.mul_div_cancel _ (by omega),show q % 2 / 2=0 by omega];simp
  exact h3
theorem BnK (b:Nat) (hb:b<2 ^ 128):gMul gOne b=b:=by
 unfold gMul
 rw [gTop b hb 128 (Nat.le_refl _)]
 simp
theorem DuW (a b:Nat) (hb:b<2 ^ 128):∀ k,k≤128→gMul (gUp gOne a k) b=gUp b a k
 | 0,_=>BsK b
 | k+1,h=>by
  rw [gUp,BnQ,DuW a b hb k (by omega),gUp];congr 1;rw [show gMul (gBit a k*AgX gOne k) b=gBit a k*gMul (AgX gOne k) b from gUp_bit _ _ _ (CdV a k) 128,CdJ,BnK b hb]
theorem ExV (a b:Nat) (ha:a<2 ^ 128) (hb:b<2 ^ 128):gMul a b=gMul b a:=by
 have h:=DuW a b hb 128 (Nat.le_refl _)
 rw [show gUp gOne a 128=a from BnK a ha] at h
 exact h
def gPow (a:Nat):Nat→Nat | 0=>gOne | n+1=>gMul (gPow a n) a
def gLin (a:Nat):List Nat→Nat→Nat | [],_=>0 | v::l,k=>(gBit a k*v) ^^^ gLin a l (k+1)
def gVal (F:Nat→Bool):Nat→Nat | 0=>0 | n+1=>gVal F n ^^^ (if F n then AgX gOne n else 0)
theorem BaZ (F G:Nat→Bool):∀ n,gVal (fun p=>F p != G p) n=gVal F n ^^^ gVal G n
 | 0=>by simp [gVal]
 | n+1=>by
  rw [gVal,gVal,gVal,BaZ F G n,xor4];congr 1;cases F n <;> cases G n <;> simp
theorem CpZ (c:Bool) (G:Nat→Bool):∀ n,gVal (fun p=>c && G p) n=if c then gVal G n else 0
 | 0=>by cases c <;> rfl
 | n+1=>by
  rw [gVal,CpZ c G n];cases c <;> simp [gVal]
theorem BnJ (F:Nat→Bool):∀ n,(∀ p,p<n→F p=false)→gVal F n=0
 | 0,_=>rfl
 | n+1,h=>by rw [gVal,BnJ F n (fun p hp=>h p (by omega)),h n (by omega)];simp
theorem CkJ (F G:Nat→Bool):∀ n,(∀ p,p<n→F p=G p)→gVal F n=gVal G n
 | 0,_=>rfl
 | n+1,h=>by rw [gVal,gVal,CkJ F G n (fun p hp=>h p (by omega)),h n (by omega)]
theorem BhJ (q:Nat):∀ n,q<n→gVal (fun p=>p == q) n=AgX gOne q
 | 0,h=>by omega
 | n+1,h=>by
  rw [gVal];by_cases e:n=q
  ·subst e
   rw [BnJ _ n (fun p hp=>beq_eq_false_iff_ne.2 (by omega))];simp
  ·rw [BhJ q n (by omega)]
   have:(n == q)=false:=beq_eq_false_iff_ne.2 e;simp [this]
theorem CpY (F:Nat→Bool) (m:Nat):∀ n,(∀ p,m≤p→p<m+n→F p=false)→gVal F (m+n)=gVal F m
 | 0,_=>rfl
 | n+1,h=>by
  rw [show m+(n+1)=(m+n)+1 by omega,gVal,CpY F m n (fun p h1 h2=>h p h1 (by omega)),h (m+n) (by omega) (by omega)];simp
theorem DbZ (B:Nat→Bool) (i:Nat):∀ n,gVal (fun p=>decide (i≤p) && B (p - i)) (i+n)=AgX (gVal B n) i
 | 0=>by
  rw [BnJ _ _ (fun p hp=>by simp;omega)]
  exact (BhK i).symm
 | n+1=>by
  rw [show i+(n+1)=(i+n)+1 by omega,gVal,DbZ B i n,gVal,AyZ];congr 1;rw [show i+n - i=n by omega,decide_eq_true (show i≤i+n by omega),Bool.true_and];cases B n
  ·simp [BhK]
  ·simp only [if_true]
   rw [←AzJ,Nat.add_comm]
def cvF (A B:Nat→Bool):Nat→Nat→Bool | 0,_=>false | i+1,p=>cvF A B i p != (A i && (decide (i≤p) && (decide (p<i+128) && B (p - i))))
theorem cvF_val (A B:Nat→Bool):∀ i,i≤128→gVal (cvF A B i) 255=gUp (gVal B 128) (gVal A 128) i→(∀ p,p<128→gBit (gVal A 128) p=if A p then 1 else 0)→i<128→gVal (cvF A B (i+1)) 255=gUp (gVal B 128) (gVal A 128) (i+1):=by
 intro i hi ih hbit hlt
 have e:cvF A B (i+1)=fun p=>cvF A B i p != (A i && (decide (i≤p) && (decide (p<i+128) && B (p - i)))):=rfl
 rw [e,BaZ,ih,gUp]
 refine congrArg (fun z=>gUp (gVal B 128) (gVal A 128) i ^^^ z) ?_
 rw [CpZ,hbit i hlt]
 have h2:gVal (fun p=>decide (i≤p) && (decide (p<i+128) && B (p - i))) 255=AgX (gVal B 128) i:=by
  rw [←DbZ B i 128]
  have h3:gVal (fun p=>decide (i≤p) && (decide (p<i+128) && B (p - i))) ((i+128)+(127 - i))=gVal (fun p=>decide (i≤p) && (decide (p<i+128) && B (p - i))) (i+128):=CpY _ (i+128) (127 - i) (fun p h1 _=>by
   rw [decide_eq_false (show ¬p<i+128 by omega)];simp)
  rw [show i+128+(127 - i)=255 by omega] at h3;rw [h3];exact CkJ _ _ _ (fun p hp=>by rw [decide_eq_true hp,Bool.true_and])
 rw [h2]
 cases A i <;> simp
def modE (k p:Nat):Bool:=(p == k) != ((p == k - 128) != ((p == k - 127) != ((p == k - 126) != (p == k - 121))))
theorem mod_iter (m:Nat):AgX gOne (m+128)=AgX gOne m ^^^ (AgX gOne (m+1) ^^^ (AgX gOne (m+2) ^^^ AgX gOne (m+7))):=by
 have h:AgX gOne 128=gOne ^^^ (AgX gOne 1 ^^^ (AgX gOne 2 ^^^ AgX gOne 7)):=by decide +kernel
 rw [Nat.add_comm m 128,AzJ,h,AyZ,AyZ,AyZ,←AzJ,←AzJ,←AzJ,Nat.add_comm 1 m,Nat.add_comm 2 m,Nat.add_comm 7 m]
theorem mod_val (k:Nat) (h1:128≤k) (h2:k<255):gVal (modE k) 255=0:=by
 have e:modE k=fun p=>(p == k) != ((p == k - 128) != ((p == k - 127) != ((p == k - 126) != (p == k - 121)))):=rfl
 rw [e,BaZ,BaZ,BaZ,BaZ,BhJ k 255 h2,BhJ (k - 128) 255 (by omega),BhJ (k - 127) 255 (by omega),BhJ (k - 126) 255 (by omega),BhJ (k - 121) 255 (by omega)]
 have:=mod_iter (k - 128)
 rw [show k - 128+128=k by omega,show k - 128+1=k - 127 by omega,show k - 128+2=k - 126 by omega,show k - 128+7=k - 121 by omega] at this
 rw [this,Nat.xor_self]
def rdF (F:Nat→Bool) (k p:Nat):Bool:=F p != (F k && modE k p)
theorem rdF_val (F:Nat→Bool) (k:Nat) (h1:128≤k) (h2:k<255):gVal (rdF F k) 255=gVal F 255:=by
 have e:rdF F k=fun p=>F p != (F k && modE k p):=rfl
 rw [e,BaZ,CpZ,mod_val k h1 h2]
 cases F k <;> simp
def rdUp (F:Nat→Bool):Nat→Nat→Bool | 0=>F | m+1=>rdF (rdUp F m) (254 - m)
theorem DpZ (F:Nat→Bool):∀ m,m≤127→gVal (rdUp F m) 255=gVal F 255
 | 0,_=>rfl
 | m+1,h=>by rw [rdUp,rdF_val _ _ (by omega) (by omega),DpZ F m (by omega)]
theorem EdK (k p:Nat) (hp:k<p):modE k p=false:=by
 unfold modE
 rw [beq_eq_false_iff_ne.2 (show p≠k by omega),beq_eq_false_iff_ne.2 (show p≠k - 128 by omega),beq_eq_false_iff_ne.2 (show p≠k - 127 by omega),beq_eq_false_iff_ne.2 (show p≠k - 126 by omega),beq_eq_false_iff_ne.2 (show p≠k - 121 by omega)]
 rfl
theorem EuQ (k:Nat) (h:128≤k):modE k k=true:=by
 unfold modE
 rw [beq_eq_false_iff_ne.2 (show k≠k - 128 by omega),beq_eq_false_iff_ne.2 (show k≠k - 127 by omega),beq_eq_false_iff_ne.2 (show k≠k - 126 by omega),beq_eq_false_iff_ne.2 (show k≠k - 121 by omega)]
 simp
theorem DqJ (F:Nat→Bool):∀ m,m≤127→∀ p,254 - m<p→p<255→rdUp F m p=false
 | 0,_,p,h1,h2=>by omega
 | m+1,h,p,h1,h2=>by
  rw [rdUp];unfold rdF;by_cases e:p=254 - m
  ·subst e
   rw [EuQ _ (by omega)];simp
  ·rw [DqJ F m (by omega) p (by omega) h2,EdK _ _ (by omega)]
   simp
theorem gBit_gE (k p:Nat) (hk:k<128) (hp:p<128):gBit (gE k) p=if p=k then 1 else 0:=by
 unfold gBit gE
 by_cases h:p=k
 ·subst h
  rw [if_pos rfl,Nat.div_self (Nat.pow_pos (by omega))]
 ·rw [if_neg h]
  rcases Nat.lt_or_ge p k with h1 | h1
  ·rw [Nat.div_eq_of_lt (Nat.pow_lt_pow_right (by omega) (by omega))]
  ·obtain ⟨d,hd⟩:∃ d,127 - k=(127 - p)+(d+1):=⟨p - k - 1,by omega⟩
   rw [hd,Nat.pow_add,Nat.mul_comm,Nat.mul_div_cancel _ (Nat.pow_pos (by omega)),Nat.pow_succ];omega
theorem CdQ (p:Nat):gBit 0 p=0:=by unfold gBit;rw [Nat.zero_div]
theorem CqW (F:Nat→Bool) (p:Nat) (hp:p<128):∀ n,n≤128→gBit (gVal F n) p=if p<n∧F p=true then 1 else 0
 | 0,_=>by rw [gVal,CdQ,if_neg (by omega)]
 | n+1,h=>by
  rw [gVal,DuX,CqW F p hp n (by omega)];cases hF:F n
  ·simp only [Bool.false_eq_true,if_false,CdQ,Nat.add_zero]
   by_cases e:p=n
   ·subst e;rw [if_neg (by simp),if_neg (by simp [hF])]
   ·by_cases h1:p<n∧F p=true
    ·rw [if_pos h1,if_pos ⟨by omega,h1.2⟩]
    ·rw [if_neg h1,if_neg (fun h2=>h1 ⟨by omega,h2.2⟩)]
  ·simp only [if_true]
   rw [CqV n (by omega),gBit_gE n p (by omega) hp];by_cases e:p=n
   ·subst e;rw [if_neg (by simp),if_pos rfl,if_pos ⟨by omega,hF⟩]
   ·rw [if_neg e]
    by_cases h1:p<n∧F p=true
    ·rw [if_pos h1,if_pos ⟨by omega,h1.2⟩]
    ·rw [if_neg h1,if_neg (fun h2=>h1 ⟨by omega,h2.2⟩)]
theorem DkJ (F:Nat→Bool):∀ n,gVal F n<2 ^ 128
 | 0=>by rw [gVal];decide
 | n+1=>by
  rw [gVal];refine Nat.xor_lt_two_pow (DkJ F n) ?_;split
  ·exact BxJ gOne (by decide) n
  ·decide
def coF (x p:Nat):Bool:=gBit x p == 1
theorem co_val (x:Nat) (hx:x<2 ^ 128):gVal (coF x) 128=x:=by
 have h:∀ n,n≤128→gVal (coF x) n=gUp gOne x n:=by
  intro n
  induction n with
  | zero=>intro _;rfl
  | succ n ih =>
   intro hn;rw [gVal,gUp,ih (by omega)];congr 1;unfold coF;rcases CdV x n with h | h <;> rw [h] <;> simp
 rw [h 128 (by omega)]
 exact BnK x hx
theorem val_co (F:Nat→Bool) (p:Nat) (hp:p<128):coF (gVal F 128) p=F p:=by
 unfold coF
 rw [CqW F p hp 128 (by omega)]
 cases hF:F p
 ·rw [if_neg (by simp)];rfl
 ·rw [if_pos ⟨hp,rfl⟩];rfl
theorem cv_all (A B:Nat→Bool):∀ i,i≤128→gVal (cvF A B i) 255=gUp (gVal B 128) (gVal A 128) i
 | 0,_=>by rw [gUp];exact BnJ _ _ (fun p _=>rfl)
 | i+1,h=>cvF_val A B i (by omega) (cv_all A B i (by omega)) (fun p hp=>by
   rw [CqW A p hp 128 (by omega)]
   cases hA:A p
   ·rw [if_neg (by simp)];simp
   ·rw [if_pos ⟨hp,rfl⟩];simp) (by omega)
theorem prod_co (A B:Nat→Bool) (p:Nat) (hp:p<128):rdUp (cvF A B 128) 127 p=coF (gMul (gVal A 128) (gVal B 128)) p:=by
 have h1:=DpZ (cvF A B 128) 127 (by omega)
 rw [cv_all A B 128 (by omega)] at h1
 have h2:gVal (rdUp (cvF A B 128) 127) (128+127)=gVal (rdUp (cvF A B 128) 127) 128:=CpY _ 128 127 (fun q h3 h4=>DqJ _ 127 (by omega) q (by omega) (by omega))
 rw [show 128+127=255 from rfl] at h2
 rw [ExV _ _ (DkJ A 128) (DkJ B 128)]
 have h3:gVal (rdUp (cvF A B 128) 127) 128=gMul (gVal B 128) (gVal A 128):=by rw [←h2,h1];rfl
 rw [←h3,val_co _ p hp]
open Go.RowKit
def fl (n:Nat) (F:Nat→Bool):List Bool:=(List.range n).map F
theorem BnW (n:Nat) (F:Nat→Bool):(fl n F).length=n:=by simp [fl]
theorem EeV (n:Nat) (F:Nat→Bool) (p:Nat) (hp:p<n):(fl n F)[p]?=some (F p):=by simp [fl,hp]
theorem DuZ (n:Nat) (F G:Nat→Bool) (h:∀ p,p<n→F p=G p):fl n F=fl n G:=by
 unfold fl
 exact List.map_congr_left (fun p hp=>h p (List.mem_range.1 hp))
def upB (F:Nat→Bool) (k:Nat) (v:Bool) (p:Nat):Bool:=if p=k then v else F p
theorem fl_set (n:Nat) (F:Nat→Bool) (k:Nat) (v:Bool) (hk:k<n):(fl n F).set k v=fl n (upB F k v):=by
 apply List.ext_getElem?
 intro j
 rw [List.getElem?_set,BnW]
 by_cases hj:j<n
 ·rw [EeV n _ j hj,EeV n _ j hj]
  unfold upB;by_cases e:k=j
  ·subst e;rw [if_pos rfl,if_pos hj,if_pos rfl]
  ·rw [if_neg e,if_neg (fun h=>e h.symm)]
 ·rw [List.getElem?_eq_none (by rw [BnW];omega),List.getElem?_eq_none (by rw [BnW];omega)]
  by_cases e:k=j
  ·omega
  ·rw [if_neg e]
theorem Br.put {w:World} {g n:Nat} {F:Nat→Bool} (h:Br w g 0 (fl n F)) (k:Nat) (v:Bool) (hk:k<n):Br (w.setCell ⟨g,k,none⟩ (.bool v)) g 0 (fl n (upB F k v)):=by
 have h1:=h.set (k:=k) (by rw [BnW];exact hk) v
 rw [fl_set n F k v hk,Nat.zero_add] at h1
 exact h1
theorem Br.get {w:World} {g n:Nat} {F:Nat→Bool} (h:Br w g 0 (fl n F)) (k:Nat) (hk:k<n):w.cell? ⟨g,k,none⟩=some (.bool (F k))∧w.frozen? ⟨g,k,none⟩=false:=by
 have h1:=h.cell (EeV n F k hk)
 have h2:=h.free (j:=k) (by rw [BnW];exact hk)
 rw [Nat.zero_add] at h1 h2
 exact ⟨h1,h2⟩
theorem Br.like {w:World} {g n:Nat} {F G:Nat→Bool} (h:Br w g 0 (fl n F)) (e:∀ p,p<n→F p=G p):Br w g 0 (fl n G):=by rw [←DuZ n F G e];exact h
def zN:List Bool:=List.replicate 255 false
theorem zN_len:zN.length=255:=List.length_replicate
theorem zN_fl:zN=fl 255 (fun _=>false):=by
 apply List.ext_getElem?
 intro j
 by_cases hj:j<255
 ·rw [EeV 255 _ j hj];unfold zN;rw [List.getElem?_replicate,if_pos hj]
 ·rw [List.getElem?_eq_none (by rw [zN_len];omega),List.getElem?_eq_none (by rw [BnW];omega)]
theorem zero_255 (w:World):(zeroValue 277).run prog w=.ok (.agg (tvs zN).toArray) w:=by
 have h:(prog.info? 277).bind (·.zero)=some (.agg (tvs zN).toArray):=by kernel_rfl
 rcases hi:prog.info? 277 with _ | i
 ·rw [hi] at h;simp at h
 ·rw [hi] at h
  have hz:i.zero=some (.agg (tvs zN).toArray):=h;simp [zeroValue,typeInfo,hi,hz]
theorem FaX:prog.built 277 []=some (tvs zN).toArray:=by kernel_rfl
theorem sz_255:(prog.info? 277).map (·.size)=some 255:=by kernel_rfl
def cvI (A B:Nat→Bool) (i k p:Nat):Bool:=if i≤p∧p<i+k then cvF A B i p != B (p - i) else cvF A B i p
theorem cvI_step (A B:Nat→Bool) (i k p:Nat):upB (cvI A B i k) (i+k) (cvI A B i k (i+k) != B k) p=cvI A B i (k+1) p:=by
 unfold upB cvI
 by_cases e:p=i+k
 ·subst e
  rw [if_pos rfl,if_neg (by omega),if_pos (by omega),show i+k - i=k by omega]
 ·rw [if_neg e]
  by_cases h:i≤p∧p<i+k
  ·rw [if_pos h,if_pos (by omega)]
  ·rw [if_neg h,if_neg (by omega)]
theorem cvI_zero (A B:Nat→Bool) (i p:Nat):cvI A B i 0 p=cvF A B i p:=by unfold cvI;rw [if_neg (by omega)]
theorem cvI_all (A B:Nat→Bool) (i p:Nat) (h:A i=true):cvI A B i 128 p=cvF A B (i+1) p:=by
 unfold cvI
 rw [cvF,h,Bool.true_and]
 by_cases h1:i≤p
 ·by_cases h2:p<i+128
  ·rw [if_pos ⟨h1,h2⟩,decide_eq_true h1,decide_eq_true h2];simp
  ·rw [if_neg (by omega),decide_eq_false h2];simp
 ·rw [if_neg (by omega),decide_eq_false h1];simp
theorem cvF_skip (A B:Nat→Bool) (i p:Nat) (h:A i=false):cvF A B i p=cvF A B (i+1) p:=by rw [cvF,h];simp
theorem rd_flip (F:Nat→Bool) (k p:Nat) (hk:128≤k) (h:F k=true) :
  upB (upB (upB (upB (upB F k false) (k - 128) (!F (k - 128))) (k - 127) (!F (k - 127))) (k - 126) (!F (k - 126))) (k - 121) (!F (k - 121)) p=rdF F k p:=by
 unfold upB rdF modE
 rw [h,Bool.true_and]
 by_cases e1:p=k - 121
 ·rw [if_pos e1,e1]
  rw [beq_eq_false_iff_ne.2 (show k - 121≠k by omega),beq_eq_false_iff_ne.2 (show k - 121≠k - 128 by omega),beq_eq_false_iff_ne.2 (show k - 121≠k - 127 by omega),beq_eq_false_iff_ne.2 (show k - 121≠k - 126 by omega)];simp
 ·rw [if_neg e1,beq_eq_false_iff_ne.2 e1]
  by_cases e2:p=k - 126
  ·rw [if_pos e2,e2]
   rw [beq_eq_false_iff_ne.2 (show k - 126≠k by omega),beq_eq_false_iff_ne.2 (show k - 126≠k - 128 by omega),beq_eq_false_iff_ne.2 (show k - 126≠k - 127 by omega)];simp
  ·rw [if_neg e2,beq_eq_false_iff_ne.2 e2]
   by_cases e3:p=k - 127
   ·rw [if_pos e3,e3]
    rw [beq_eq_false_iff_ne.2 (show k - 127≠k by omega),beq_eq_false_iff_ne.2 (show k - 127≠k - 128 by omega)];simp
   ·rw [if_neg e3,beq_eq_false_iff_ne.2 e3]
    by_cases e4:p=k - 128
    ·rw [if_pos e4,e4]
     rw [beq_eq_false_iff_ne.2 (show k - 128≠k by omega)];simp
    ·rw [if_neg e4,beq_eq_false_iff_ne.2 e4]
     by_cases e5:p=k
     ·subst e5;rw [if_pos rfl,h];simp
     ·rw [if_neg e5,beq_eq_false_iff_ne.2 e5];simp
attribute [local irreducible] cvF rdUp rdF cvI
theorem pmul_any (A B:Nat→Bool) (w:World) :
  Calls prog 165 #[BV (fl 128 A),BV (fl 128 B)] w (RetT (fl 128 (coF (gMul (gVal A 128) (gVal B 128)))) w):=by
 obtain ⟨LA,HLA⟩:∃ L,Hid (L=fl 128 A):=⟨_,η rfl⟩
 obtain ⟨LB,HLB⟩:∃ L,Hid (L=fl 128 B):=⟨_,η rfl⟩
 obtain ⟨R,HR⟩:∃ R,Hid (R=fl 128 (coF (gMul (gVal A 128) (gVal B 128)))):=⟨_,η rfl⟩
 rw [←HR.o,←HLA.o,←HLB.o]
 have HRD:Hid (R=fl 128 (rdUp (cvF A B 128) 127)):=η (by rw [HR.o];exact DuZ 128 _ _ (fun p hp=>(prod_co A B p hp).symm))
 have hz:=BkV
 have hz2:=zero_255
 obtain ⟨G,HG⟩:∃ G,Hid (G=w.heap.size):=⟨_,η rfl⟩
 obtain ⟨W3,HW3⟩:∃ W3,Hid (W3=V3 LA LB zP 211 w):=⟨_,η rfl⟩
 have HN:Hid (Br ((V3 LA LB zP 211 w).alloc (.cells (tvs zN).toArray 277)) (w.heap.size+1+1+1) 0 zN):=η (Br.new1 _ _ (by unfold V3;simp) zN _)
 go_enter func165,ntmps165
 go_wp2_with (first | (refine AnK rfl _ (.tmp 0) rfl LA rfl ?_) | (refine AnK rfl _ (.tmp 1) rfl LB rfl ?_) | (refine AsQ rfl _ rfl zN FaX ?_) | (refine AoX rfl _ (.tmp 5) (.tmp 11) rfl (w.heap.size+1+1+1) 0 rfl zN zN rfl (by exact HN.o) rfl (by rw [zN_len];exact sz_255) ?_))
 obtain ⟨W0,HW0⟩:∃ W0,Hid (W0=((V3 LA LB zP 211 w).alloc (.cells (tvs zN).toArray 277)).setCells (w.heap.size+1+1+1) 0 (tvs zN)):=⟨_,η rfl⟩
 show Code.wp _ _ _ _ (((V3 LA LB zP 211 w).alloc (.cells (tvs zN).toArray 277)).setCells (w.heap.size+1+1+1) 0 (tvs zN))
 have hs3:(V3 LA LB zP 211 w).heap.size=w.heap.size+1+1+1:=by unfold V3;simp
 have HB0:Hid (Below w.heap.size w W0):=η (by rw [HW0.o];exact AaQ ((CmK _ _ _ _ w).alloc (by rw [hs3];omega) _) (by omega) _ _)
 have HA0:Hid (Br W0 G 0 (fl 128 A)):=η (by rw [HW0.o,HG.o,←HLA.o];exact ((v3_0 _ _ _ _ w).alloc (by rw [hs3];omega) _).setCells (by omega) _ _)
 have HBB0:Hid (Br W0 (G+1) 0 (fl 128 B)):=η (by rw [HW0.o,HG.o,←HLB.o];exact ((v3_1 _ _ _ _ w).alloc (by rw [hs3];omega) _).setCells (by omega) _ _)
 have HC0:Hid (Br W0 (G+1+1) 0 zP):=η (by rw [HW0.o,HG.o];exact ((v3_2 _ _ _ _ w).alloc (by rw [hs3];omega) _).setCells (by omega) _ _)
 have HN0:Hid (Br W0 (G+1+1+1) 0 (fl 255 (cvF A B 0))):=η (by
  have h:Br W0 (G+1+1+1) 0 zN:=by rw [HW0.o,HG.o];exact HN.o.whole zN rfl
  rw [zN_fl] at h
  exact h.like (fun p _=>by unfold cvF;rfl))
 rw [←HW0.o,←HG.o]
 clear HN hs3
 go_loopw [6] (fun t wr=>∃ i:Nat,i≤128∧t=.int .i64 i∧Hid (Br wr G 0 (fl 128 A))∧Hid (Br wr (G+1) 0 (fl 128 B))∧Hid (Br wr (G+1+1) 0 zP)∧Hid (Br wr (G+1+1+1) 0 (fl 255 (cvF A B i)))∧Hid (Below w.heap.size w wr)) (fun t _=>128 - (intOf t).toNat)
 case atStart=>exact ⟨0,by omega,rfl,HA0,HBB0,HC0,HN0,HB0⟩
 case round =>
  obtain ⟨i,hi,rfl,ha,hbb,hc,hn,hb⟩:=hrel;clear HA0 HBB0 HC0 HN0 HB0;by_cases hlt:i<128
  ·obtain ⟨ca,_⟩:=ha.o.get i hlt
   have hd:decide ((i:Int)<128)=true:=decide_eq_true (by omega);cases hA:A i
   ·rw [hA] at ca
    go_wp2_with fail;go_roundw
    case rel=>exact ⟨i+1,by omega,by go_num,ha,hbb,hc,η (hn.o.like (fun p _=>cvF_skip A B i p hA)),hb⟩
    case measure=>simp [intOf];omega
   ·rw [hA] at ca
    go_wp2_with fail;clear ca
    go_loopw [7] (fun t ws=>∃ k:Nat,k≤128∧t=.int .i64 k∧Hid (Br ws G 0 (fl 128 A))∧Hid (Br ws (G+1) 0 (fl 128 B))∧Hid (Br ws (G+1+1) 0 zP)∧Hid (Br ws (G+1+1+1) 0 (fl 255 (cvI A B i k)))∧Hid (Below w.heap.size w ws)) (fun t _=>128 - (intOf t).toNat)
    case atStart=>exact ⟨0,by omega,rfl,ha,hbb,hc,η (hn.o.like (fun p _=>(cvI_zero A B i p).symm)),hb⟩
    case round =>
     clear ha hbb hc hn hb;obtain ⟨k,hk,rfl,ha,hbb,hc,hn,hb⟩:=hrel;by_cases hlt2:k<128
     ·have b1:IntKind.i64.wrap ((i:Int)+(k:Int))=((i+k:Nat):Int):=by rw [IntWalk.i64_in _ (by omega)];omega
      obtain ⟨q,HQ,hq⟩:∃ q:Nat,Hid (q=i+k)∧q<255:=⟨_,η rfl,by omega⟩;rw [←HQ.o] at b1;have b2:(0:Int)≤(q:Int):=by omega
      have b3:(q:Int)<255:=by omega
      obtain ⟨cn,fn⟩:=hn.o.get q hq;obtain ⟨cb,_⟩:=hbb.o.get k hlt2;obtain ⟨x,HX⟩:∃ x,Hid (x=cvI A B i k q):=⟨_,η rfl⟩;obtain ⟨y,HY⟩:∃ y,Hid (y=B k):=⟨_,η rfl⟩;rw [←HX.o] at cn;rw [←HY.o] at cb;go_wp2_with fail;go_region_with (fail)
      all_goals
       go_wp2
       go_roundw
       case rel =>
        have h1:=hn.o.drew.put q (x != y) hq;have h2:=h1.like (G:=cvI A B i (k+1)) (fun p _=>by rw [HX.o,HY.o,HQ.o];exact cvI_step A B i k p);exact ⟨k+1,by omega,by go_num,η (ha.o.drew.setCell (by show G+1+1+1≠G;omega) _),η (hbb.o.drew.setCell (by show G+1+1+1≠G+1;omega) _),η (hc.o.drew.setCell (by show G+1+1+1≠G+1+1;omega) _),η h2,η (hb.o.drew.setCell (by rw [HG.o];show w.heap.size≤w.heap.size+1+1+1;omega) _)⟩
       case measure=>simp [intOf];omega
     ·obtain rfl:k=128:=by omega
      have e4:((128:Nat):Int)=128:=rfl;rw [e4];clear e4;go_wp2_with fail;go_roundw
      case rel=>exact ⟨i+1,by omega,by go_num,ha,hbb,hc,η (hn.o.like (fun p _=>cvI_all A B i p hA)),hb⟩
      case measure=>simp [intOf];omega
  ·obtain rfl:i=128:=by omega
   have e4:((128:Nat):Int)=128:=rfl;rw [e4];clear e4;obtain ⟨C,HC⟩:∃ C,Hid (C=cvF A B 128):=⟨_,η rfl⟩;rw [←HC.o] at hn HRD;have HN1:Hid (Br wr (G+1+1+1) 0 (fl 255 (rdUp C 0))):=η (hn.o.like (fun p _=>by unfold rdUp;rfl));clear hn ha hbb;go_wp2_with fail
   go_loopw [8] (fun t ws=>∃ m:Nat,m≤127∧t=.int .i64 ((254 - m:Nat):Int)∧Hid (Br ws (G+1+1) 0 zP)∧Hid (Br ws (G+1+1+1) 0 (fl 255 (rdUp C m)))∧Hid (Below w.heap.size w ws)) (fun t _=>(intOf t).toNat)
   case atStart=>exact ⟨0,by omega,rfl,hc,HN1,hb⟩
   case round =>
    clear hc hb HN1;obtain ⟨m,hm,rfl,hc,hn,hb⟩:=hrel;obtain ⟨k,HK,hk1,hk2⟩:∃ k:Nat,Hid (k=254 - m)∧127≤k∧k≤254:=⟨_,η rfl,by omega,by omega⟩;rw [←HK.o];obtain ⟨F,HF⟩:∃ F,Hid (F=rdUp C m):=⟨_,η rfl⟩;rw [←HF.o] at hn;by_cases hlt:128≤k
    ·have hk255:k<255:=by omega
     have hd:decide ((k:Int)≥128)=true:=decide_eq_true (by omega);have hsub:IntKind.i64.wrap ((k:Int) - 1)=((254 - (m+1):Nat):Int):=by rw [IntWalk.i64_in _ (by omega),HK.o];omega
     obtain ⟨ck,fk⟩:=hn.o.get k hk255;cases hFk:F k
     ·rw [hFk] at ck
      go_wp2_with fail;go_roundw
      case rel=>exact ⟨m+1,by have:=HK.o;omega,by rw [show 254 - (m+1)=253 - m by omega],hc,η (hn.o.like (fun p _=>by rw [rdUp,←HF.o,←HK.o];unfold rdF;rw [hFk];simp)),hb⟩
      case measure=>have h0:=HK.o;simp [intOf];omega
     ·rw [hFk] at ck
      have mk:∀ d:Nat,0<d→d≤128→∃ a:Nat,Hid (a=k - d)∧a<255∧IntKind.i64.wrap ((k:Int) - (d:Int))=((a:Nat):Int):=fun d h1 h2=>⟨k - d,η rfl,by omega,by rw [IntWalk.i64_in _ (by omega)];omega⟩;obtain ⟨a0,HA0,la0,b0⟩:=mk 128 (by omega) (by omega);obtain ⟨a1,HA1,la1,b1⟩:=mk 127 (by omega) (by omega);obtain ⟨a2,HA2,la2,b2⟩:=mk 126 (by omega) (by omega);obtain ⟨a3,HA3,la3,b3⟩:=mk 121 (by omega) (by omega);clear mk;have H1:=η (hn.o.put k false hk255);have e0:upB F k false a0=F a0:=by unfold upB;rw [if_neg (by have:=HA0.o;omega)]
      obtain ⟨c0,f0⟩:=H1.o.get a0 la0;rw [e0] at c0;have H2:=η (H1.o.put a0 (!F a0) la0);have e1:upB (upB F k false) a0 (!F a0) a1=F a1:=by unfold upB;rw [if_neg (by have:=HA0.o;have:=HA1.o;omega),if_neg (by have:=HA1.o;omega)]
      obtain ⟨c1,f1⟩:=H2.o.get a1 la1;rw [e1] at c1;have H3:=η (H2.o.put a1 (!F a1) la1);have e2:upB (upB (upB F k false) a0 (!F a0)) a1 (!F a1) a2=F a2:=by unfold upB;rw [if_neg (by have:=HA1.o;have:=HA2.o;omega),if_neg (by have:=HA0.o;have:=HA2.o;omega),if_neg (by have:=HA2.o;omega)]
      obtain ⟨c2,f2⟩:=H3.o.get a2 la2;rw [e2] at c2;have H4:=η (H3.o.put a2 (!F a2) la2);have e3:upB (upB (upB (upB F k false) a0 (!F a0)) a1 (!F a1)) a2 (!F a2) a3=F a3:=by unfold upB;rw [if_neg (by have:=HA2.o;have:=HA3.o;omega),if_neg (by have:=HA1.o;have:=HA3.o;omega),if_neg (by have:=HA0.o;have:=HA3.o;omega),if_neg (by have:=HA3.o;omega)]
      obtain ⟨c3,f3⟩:=H4.o.get a3 la3;rw [e3] at c3;have H5:=η (H4.o.put a3 (!F a3) la3)
      have HF5:Hid (∀ p,upB (upB (upB (upB (upB F k false) a0 (!F a0)) a1 (!F a1)) a2 (!F a2)) a3 (!F a3) p=rdUp C (m+1) p):=η (fun p=>by
       rw [HA0.o,HA1.o,HA2.o,HA3.o,rd_flip F k p hlt hFk,rdUp,←HF.o,←HK.o])
      clear e0 e1 e2 e3;have b0':IntKind.i64.wrap ((k:Int) - 128)=((a0:Nat):Int):=b0;have b1':IntKind.i64.wrap ((k:Int) - 127)=((a1:Nat):Int):=b1;have b2':IntKind.i64.wrap ((k:Int) - 126)=((a2:Nat):Int):=b2;have b3':IntKind.i64.wrap ((k:Int) - 121)=((a3:Nat):Int):=b3;clear b0 b1 b2 b3;obtain ⟨x0,hx0⟩:∃ x,Hid (x=F a0):=⟨_,η rfl⟩;obtain ⟨x1,hx1⟩:∃ x,Hid (x=F a1):=⟨_,η rfl⟩;obtain ⟨x2,hx2⟩:∃ x,Hid (x=F a2):=⟨_,η rfl⟩;obtain ⟨x3,hx3⟩:∃ x,Hid (x=F a3):=⟨_,η rfl⟩;rw [←hx0.o] at c0 c1 f1 c2 f2 c3 f3;rw [←hx1.o] at c1 c2 f2 c3 f3;rw [←hx2.o] at c2 c3 f3;rw [←hx3.o] at c3;go_wp2_with fail;go_roundw
      case rel =>
       rw [hx0.o,hx1.o,hx2.o,hx3.o];refine ⟨m+1,by have:=HK.o;omega,by rw [show 254 - (m+1)=253 - m by omega],η ?_,η (H5.o.like (fun p _=>HF5.o p)),η ?_⟩
       ·have hne:G+1+1+1≠G+1+1:=by omega
        exact ((((hc.o.setCell (by exact hne) _).setCell (by exact hne) _).setCell (by exact hne) _).setCell (by exact hne) _).setCell (by exact hne) _
       ·have hle:w.heap.size≤G+1+1+1:=by rw [HG.o];omega
        exact ((((hb.o.setCell (by exact hle) _).setCell (by exact hle) _).setCell (by exact hle) _).setCell (by exact hle) _).setCell (by exact hle) _
      case measure=>have h0:=HK.o;simp [intOf];omega
    ·obtain rfl:k=127:=by omega
     obtain rfl:m=127:=by have:=HK.o;omega
     have e4:((127:Nat):Int)=127:=rfl;rw [e4];clear e4 HK;have HRF:Hid (R=fl 128 F):=η (by rw [HRD.o,HF.o]);clear HF HRD HC;have hO:G+1+1+1<wr.heap.size:=hn.o.lt (by rw [BnW];omega);obtain ⟨O,HO⟩:∃ O,Hid (O=wr.heap.size):=⟨_,η rfl⟩;have HD:Hid (Br (wr.alloc (.cells (tvs zP).toArray 211)) wr.heap.size 0 zP):=η (Br.new _ _ _);have HRL:Hid (R.length=128):=η (by rw [HRF.o];exact BnW _ _);go_wp2_with (first | (refine AsQ rfl _ rfl zP BqV ?_) | (refine AoX rfl _ (.tmp 9) (.tmp 78) rfl wr.heap.size 0 rfl zP zP rfl (by exact HD.o) rfl (by rw [zP_len];exact AmJ) ?_));obtain ⟨W1,HW1⟩:∃ W1,Hid (W1=(wr.alloc (.cells (tvs zP).toArray 211)).setCells wr.heap.size 0 (tvs zP)):=⟨_,η rfl⟩;show Code.wp _ _ _ _ ((wr.alloc (.cells (tvs zP).toArray 211)).setCells wr.heap.size 0 (tvs zP));have HC1:Hid (Br W1 (G+1+1) 0 zP):=η (by rw [HW1.o];exact (hc.o.alloc (by omega) _).setCells (by omega) _ _);have HN1:Hid (Br W1 (G+1+1+1) 0 (fl 255 F)):=η (by rw [HW1.o];exact (hn.o.alloc hO _).setCells (by omega) _ _);have HD1:Hid (Br W1 O 0 (upT R zP 0)):=η (by rw [HW1.o,HO.o,CmQ];exact HD.o.whole zP rfl);have HB1:Hid (Below w.heap.size w W1):=η (by rw [HW1.o];exact AaQ (hb.o.alloc (by rw [HG.o] at hO;omega) _) (by rw [HG.o] at hO;omega) _ _);rw [←HW1.o,←HO.o];rw [←HO.o] at hO;clear hc hn hb HD HW1 HO
     go_loopw [10] (fun t ws=>∃ k:Nat,k≤128∧t=.int .i64 k∧Hid (Br ws (G+1+1) 0 zP)∧Hid (Br ws (G+1+1+1) 0 (fl 255 F))∧Hid (Br ws O 0 (upT R zP k))∧Hid (Below w.heap.size w ws)) (fun t _=>128 - (intOf t).toNat)
     case atStart=>exact ⟨0,by omega,rfl,HC1,HN1,HD1,HB1⟩
     case round =>
      obtain ⟨k,hk,rfl,hc,hn,hd,hb⟩:=hrel;clear HC1 HN1 HD1 HB1;by_cases hlt2:k<128
      ·obtain ⟨ck,_⟩:=hn.o.get k (by omega)
       have fk:=hd.o.free (j:=k) (by rw [BcW R zP k (by rw [HRL.o,zP_len]),zP_len];exact hlt2);have cO:=hd.o.cell (j:=k) (by rw [DnW R zP k k (by rw [HRL.o,zP_len]) (by rw [zP_len];omega),if_neg (by omega)];unfold zP;rw [List.getElem?_replicate,if_pos hlt2]);rw [Nat.zero_add] at fk cO;unfold tv at cO;obtain ⟨x,HX⟩:∃ x,Hid (x=F k):=⟨_,η rfl⟩;rw [←HX.o] at ck;go_wp2_with fail;go_roundw
       case rel =>
        have h1:=hd.o.set (k:=k) (by rw [BcW R zP k (by rw [HRL.o,zP_len]),zP_len];exact hlt2) x;rw [DfW R zP k x (by rw [HRL.o,zP_len]) (by rw [HRF.o,EeV 128 F k hlt2,HX.o]),Nat.zero_add] at h1;exact ⟨k+1,by omega,by go_num,η (hc.o.setCell (by show O≠G+1+1;omega) _),η (hn.o.setCell (by show O≠G+1+1+1;omega) _),η h1,η (hb.o.setCell (by rw [HG.o] at hO;show w.heap.size≤O;omega) _)⟩
       case measure=>simp [intOf];omega
      ·obtain rfl:k=128:=by omega
       have hal:=hd.o;have h128:=DfX R zP (by rw [HRL.o,zP_len]);rw [zP_len] at h128;rw [h128] at hal;have HAL:=η hal;clear hal h128;go_wp2_with (first | (refine BfQ rfl _ (.tmp 9) rfl O 0 128 _ rfl R (by exact HAL.o) AzY (by rw [HRL.o];exact AmJ) ?_) | (refine AoX rfl _ (.tmp 4) (.tmp 88) rfl (G+1+1) 0 rfl R zP rfl (by exact hc.o) (by rw [HRL.o];exact zP_len) (by rw [HRL.o];exact AmJ) ?_));refine bodyPost_ret (v:=BV R) (BlY rfl _ _ (G+1+1) 128 _ R rfl (hc.o.whole R (by rw [HRL.o];exact zP_len.symm)) AzY (by rw [HRL.o];exact AmJ)) rfl ⟨rfl,?_⟩;exact AaQ hb.o (by rw [HG.o];omega) 0 (tvs R)
end Go.Proofs.YthppjgdnibfefaaGreat
namespace Go.Proofs.YthppjgdnibfefaaGreat
open Tryz
open Go.RowKit
def co (x:Nat):List Bool:=fl 128 (coF x)
theorem AlK (x:Nat):(co x).length=128:=BnW _ _
theorem EzX (x p:Nat) (hp:p<128):(co x)[p]?=some (coF x p):=EeV 128 _ p hp
theorem pmul_co (x y:Nat) (w:World) (hx:x<2 ^ 128) (hy:y<2 ^ 128) :
  Calls prog 165 #[BV (co x),BV (co y)] w (RetT (co (gMul x y)) w):=by
 have h:=pmul_any (coF x) (coF y) w
 rw [co_val x hx,co_val y hy] at h
 exact h
theorem coF_zero (p:Nat):coF 0 p=false:=by unfold coF;rw [CdQ];rfl
theorem zP_co:zP=co 0:=by
 apply List.ext_getElem?
 intro j
 by_cases hj:j<128
 ·rw [EzX 0 j hj,coF_zero];unfold zP;rw [List.getElem?_replicate,if_pos hj]
 ·rw [List.getElem?_eq_none (by rw [zP_len];omega),List.getElem?_eq_none (by rw [AlK];omega)]
attribute [local irreducible] co gMul gPow
end Go.Proofs.YthppjgdnibfefaaGreat
namespace Go.Proofs.YthppjgdnibfefaaGreat
open Tryz
open Go.RowKit
def wB (x k:Nat):List UInt8:=(List.range k).map fun q=>UInt8.ofNat (x / 2 ^ (56 - 8*q))
theorem BkZ (x k:Nat):(wB x k).length=k:=by simp [wB]
def eB (h l:Nat):List UInt8:=wB h 8++wB l 8
theorem eB_len (h l:Nat):(eB h l).length=16:=by simp [eB,BkZ]
theorem DwK (x s r:Nat) (hr:r<8):(UInt8.ofNat (x / 2 ^ s)).toNat / 2 ^ (7 - r) % 2=x / 2 ^ (s+7 - r) % 2:=by
 rw [show (UInt8.ofNat (x / 2 ^ s)).toNat=x / 2 ^ s % 256 by simp]
 rw [show s+7 - r=s+(7 - r) by omega,Nat.pow_add,←Nat.div_div_eq_div_mul]
 generalize x / 2 ^ s=y
 obtain rfl | rfl | rfl | rfl | rfl | rfl | rfl | rfl:r=0∨r=1∨r=2∨r=3∨r=4∨r=5∨r=6∨r=7:=by omega
 all_goals simp only [Nat.sub_zero,Nat.reduceSub,Nat.reducePow];omega
theorem bits_e (h l:Nat) (hl:l<2 ^ 64):AqW (eB h l)=co (h*2 ^ 64+l):=by
 apply List.ext_getElem?
 intro i
 by_cases hi:i<128
 ·rw [CfQ _ i hi,EzX _ i hi]
  congr 1;unfold DmK coF gBit;by_cases h8:i<64
  ·have e:(eB h l).getD (i / 8) 0=UInt8.ofNat (h / 2 ^ (56 - 8*(i / 8))):=by
    rw [List.getD_eq_getElem?_getD,eB,List.getElem?_append_left (by rw [BkZ];omega)];simp [wB,show i / 8<8 by omega]
   rw [e,DwK _ _ _ (Nat.mod_lt _ (by omega)),show 56 - 8*(i / 8)+7 - i % 8=63 - i by omega]
   have e2:(h*2 ^ 64+l) / 2 ^ (127 - i)=h / 2 ^ (63 - i):=by
    rw [show 127 - i=64+(63 - i) by omega,Nat.pow_add,←Nat.div_div_eq_div_mul];congr 1;omega
   rw [e2];rcases Nat.mod_two_eq_zero_or_one (h / 2 ^ (63 - i)) with q | q <;> rw [q] <;> rfl
  ·have e:(eB h l).getD (i / 8) 0=UInt8.ofNat (l / 2 ^ (56 - 8*(i / 8 - 8))):=by
    rw [List.getD_eq_getElem?_getD,eB,List.getElem?_append_right (by rw [BkZ];omega),BkZ];simp [wB,show i / 8 - 8<8 by omega]
   rw [e,DwK _ _ _ (Nat.mod_lt _ (by omega)),show 56 - 8*(i / 8 - 8)+7 - i % 8=127 - i by omega]
   have e2:(h*2 ^ 64+l) / 2 ^ (127 - i) % 2=l / 2 ^ (127 - i) % 2:=by
    obtain ⟨d,hd⟩:∃ d,64=(127 - i)+(d+1):=⟨63 - (127 - i),by omega⟩
    have:h*2 ^ 64=2 ^ (127 - i)*(h*2 ^ d*2):=by
     rw [show (2:Nat) ^ 64=2 ^ ((127 - i)+(d+1)) from congrArg (2 ^ ·) hd,Nat.pow_add,Nat.pow_succ];rw [Nat.mul_left_comm,Nat.mul_assoc]
    rw [this,Nat.mul_add_div (Nat.pow_pos (by omega))];omega
   rw [e2];rcases Nat.mod_two_eq_zero_or_one (l / 2 ^ (127 - i)) with q | q <;> rw [q] <;> rfl
 ·rw [List.getElem?_eq_none (by rw [BtV];omega),List.getElem?_eq_none (by rw [AlK];omega)]
def EV (h l:Nat):Value:=.agg #[.int .u64 (h:Int),.int .u64 (l:Int)]
attribute [local irreducible] co wB eB AqW
end Go.Proofs.YthppjgdnibfefaaGreat
namespace Go.Proofs.YthppjgdnibfefaaGreat
open Tryz
open Go.RowKit
def hl (h l:Nat):Nat:=h*2 ^ 64+l
theorem EwV (h l:Nat) (hh:h<2 ^ 64) (hl':l<2 ^ 64):hl h l<2 ^ 128:=by unfold hl;omega
theorem hl_inj (h l h' l':Nat) (h1:l<2 ^ 64) (h2:l'<2 ^ 64) (e:hl h l=hl h' l'):h=h'∧l=l':=by unfold hl at e;omega
theorem DuK (h l h' l':Nat) (h1:l<2 ^ 64) (h2:l'<2 ^ 64):hl h l ^^^ hl h' l'=hl (h ^^^ h') (l ^^^ l'):=by
 have h3:l ^^^ l'<2 ^ 64:=Nat.xor_lt_two_pow h1 h2
 unfold hl
 rw [Nat.mul_comm h,Nat.mul_comm h',Nat.mul_comm (h ^^^ h')]
 apply Nat.eq_of_testBit_eq
 intro j
 rw [Nat.testBit_xor,Nat.testBit_two_pow_mul_add _ h1,Nat.testBit_two_pow_mul_add _ h2,Nat.testBit_two_pow_mul_add _ h3]
 by_cases hj:j<64
 ·rw [if_pos hj,if_pos hj,if_pos hj,Nat.testBit_xor]
 ·rw [if_neg hj,if_neg hj,if_neg hj,Nat.testBit_xor]
theorem hl_next (h l:Nat) (h2:l<2 ^ 64):AqV (hl h l)=hl (h / 2 ^^^ (l % 2*16212958658533785600)) (h % 2*2 ^ 63+l / 2):=by
 unfold AqV
 have e1:hl h l / 2=hl (h / 2) (h % 2*2 ^ 63+l / 2):=by unfold hl;omega
 have e2:hl h l % 2*299076299051606071403356588563077529600=hl (l % 2*16212958658533785600) 0:=by unfold hl;omega
 rw [e1,e2,DuK _ _ _ _ (by omega) (by omega),Nat.xor_zero]
theorem coF_xor (a b p:Nat):coF (a ^^^ b) p=(coF a p != coF b p):=by
 unfold coF
 rw [DuX]
 rcases CdV a p with h | h <;> rcases CdV b p with k | k <;> rw [h,k] <;> rfl
theorem addT_co (a b:Nat):addT (co a) (co b)=co (a ^^^ b):=by
 apply List.ext_getElem?
 intro j
 unfold addT
 rw [List.getElem?_zipWith]
 by_cases hj:j<128
 ·rw [EzX a j hj,EzX b j hj,EzX _ j hj,coF_xor]
 ·rw [List.getElem?_eq_none (l:=co a) (by rw [AlK];omega),List.getElem?_eq_none (l:=co (a ^^^ b)) (by rw [AlK];omega)]
def gSum:List Nat→Nat→Nat | [],s=>s | x::l,s=>gSum l (s ^^^ x)
theorem CcZ (l:List Nat) (x:Nat):∀ s,gSum (l++[x]) s=gSum l s ^^^ x:=by
 induction l with
 | nil=>intro s;rfl
 | cons y l ih=>intro s;exact ih (s ^^^ y)
