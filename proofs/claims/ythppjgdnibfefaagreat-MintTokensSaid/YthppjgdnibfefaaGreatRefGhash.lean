import Derived.Test.YthppjgdnibfefaaGreatRowsNew
import Derived.Deep.RegionHeld3
import Derived.Test.YthppjgdnibfefaaGreatPolyElem
import Derived.Great.BuildSlice
import Derived.Great.FillDense
set_option linter.all false
set_option maxRecDepth 100000
set_option maxHeartbeats 32000000
namespace Go.Proofs.YthppjgdnibfefaaGreat
open Tryz
open Go.RowKit
def AjK (n:Nat):List UInt8:=putL (n*8) 8
theorem AyY (n:Nat):(AjK n).length=8:=AeY _ _
attribute [local irreducible] BmK
theorem DbY (n:Nat) (w:World) (hn:n≤1000000000000) :
  Calls prog 134 #[.int .i64 (n:Int)] w (RetB 8 (AjK n) w):=by
 obtain ⟨N,HN⟩:∃ N,Hid (N=n*8∧N≤8000000000000):=⟨_,η ⟨rfl,by omega⟩⟩
 have hw:IntKind.i64.wrap ((n:Int)*8)=(N:Int):=by rw [IntWalk.i64_in _ (by omega),HN.o.1];omega
 have hz:BmK N 8 8=List.replicate 8 0:=BqQ N 8
 have hl:AjK n=putL N 8:=by unfold AjK;rw [HN.o.1]
 rw [hl]
 go_enter func134,ntmps134
 go_wp2_with (at_make;refine AjY rfl _ _ rfl w.heap.size .i64 .i64 _ _ 8 rfl rfl rfl rfl (by omega) (Nat.le_refl _) ?_;intro w1 hown1 hs1 hb1)
 go_loopw [0,4] (fun v i wr=>∃ j:Nat,j≤8∧i=.int .i64 ((j:Int) - 1)∧v=.int .i64 (AfQ N (8 - j):Int)∧OwnB wr w.heap.size (some ⟨w.heap.size,0,none⟩) 8 8 (BmK N 8 j)∧Below w.heap.size w wr) (fun _ i _=>(intOf i+1).toNat)
 case atStart=>exact ⟨8,Nat.le_refl _,rfl,by simp [AfQ],by rw [hz];exact hown1,hb1⟩
 case round =>
  obtain ⟨j,hj,rfl,rfl,hown,hbel⟩:=hrel;have hdl:=BxK N (8 - j);rcases j with _ | j
  ·rw [show ((0:Nat):Int) - 1 = -1 from rfl,Nat.sub_zero]
   rw [BqJ] at hown;go_wp2;go_ret;exact ⟨_,_,rfl,hown,hbel⟩
  ·have e:((j+1:Nat):Int) - 1=(j:Int):=by omega
   rw [e];clear e;have hc0:=hown.cellAt (CbV N 8 j);have hf0:=hown.freeAt j;obtain ⟨m,HM⟩:∃ m,Hid (m=AfQ N (8 - (j+1))):=⟨_,η rfl⟩;rw [←HM.o] at hdl ⊢;have hm2:m≤8000000000000:=by have:=HN.o.2;omega
   go_wp2;go_roundw
   case rel =>
    refine ⟨j,by omega,rfl,?_,?_,hbel.setCell (Nat.le_refl _) _⟩
    ·rw [show 8 - j=(8 - (j+1))+1 from by omega,AlY,←HM.o]
     go_num
    ·rw [←BqK N 8 j (by omega)]
     exact hown.stored j _ _ (by unfold bv;rw [BtK,show 8 - 1 - j=8 - (j+1) from by omega,←HM.o])
   case measure=>simp [intOf]
end Go.Proofs.YthppjgdnibfefaaGreat
namespace Go.Proofs.YthppjgdnibfefaaGreat
open Tryz
open Go.RowKit
def AjX (h:Nat):Nat→List Nat→Nat | f,[]=>f | f,b::l=>AjX h (gMul (f ^^^ b) h) l
theorem BsQ (h:Nat) (x:Nat):∀ (l:List Nat) (f:Nat),AjX h f (l++[x])=gMul (AjX h f l ^^^ x) h
 | [],f=>rfl
 | b::l,f=>BsQ h x l (gMul (f ^^^ b) h)
theorem BnV (h:Nat) (hh:h<2 ^ 128):∀ (l:List Nat) (f:Nat),f<2 ^ 128→(∀ (i b:Nat),l[i]?=some b→b<2 ^ 128)→AjX h f l<2 ^ 128
 | [],f,hf,_=>hf
 | b::l,f,hf,hl=>BnV h hh l _ (CqQ _ h (Nat.xor_lt_two_pow hf (hl 0 b rfl))) (fun i x hx=>hl (i+1) x hx)
theorem CdK (h:Nat) (m:List Nat):∀ (l:List Nat) (f:Nat),AjX h f (l++m)=AjX h (AjX h f l) m
 | [],f=>rfl
 | b::l,f=>CdK h m l _
def XP (w:World) (B:Nat) (A:YA) (n:Nat) (xs:List Nat):Prop :=
 xs.length=n∧(∀ (i x:Nat),xs[i]?=some x→x<2 ^ 128)∧(0<n→∃ g o,A=some ⟨g,o,none⟩∧g<B∧∀ (i x:Nat),xs[i]?=some x→w.rangeAt g (o+i*128) (tvs (co x)))
theorem gadd_co (x y:Nat) (w:World):Calls prog 166 #[BV (co x),BV (co y)] w (RetT (co (x ^^^ y)) w):=by
 have h:=padd_any (co x) (co y) w (AlK x) (AlK y)
 rw [addT_co] at h
 exact h
noncomputable def gldB (v:Value) (w:World):Result Next:=Sem.run prog (do let r ←Instr.loadAt 211 v;pure (Next.value r)) w
theorem ex_gldB (ev:Operand→Value) (x:Operand) (d:Option Tmp) (ty:TypeId) (ps:String) (af:Array Edge) (g:Option (Nat×Bool)) (w:World):(execOp ev ⟨d,.load 211 x,ty,ps,af,g⟩).run prog w=gldB (ev x) w:=rfl
theorem CjY {w:World} {g o x:Nat} (h:w.rangeAt g o (tvs (co x))):gldB (.pointer (some ⟨g,o,none⟩)) w=.ok (.value (BV (co x))) w:=by
 have:=run_loadAt_mid (P:=prog) w g o 211 (tvs (co x)) _ h AzY rfl (by simpa [AeX,AlK] using AmJ)
 unfold gldB
 simp only [Sem.run_bind,this,Result.andThen_ok,Sem.run_pure]
 rfl
noncomputable def gstB (v x:Value) (w:World):Result Next:=Sem.run prog (do Instr.storeAt 211 v x;pure Next.skip) w
theorem ex_gstB (ev:Operand→Value) (x y:Operand) (d:Option Tmp) (ty:TypeId) (ps:String) (af:Array Edge) (g:Option (Nat×Bool)) (w:World):(execOp ev ⟨d,.store 211 x y,ty,ps,af,g⟩).run prog w=gstB (ev x) (ev y) w:=rfl
theorem gstB_x {w:World} {g:Nat} {l m:List Bool} (h:Br w g 0 l) (hl:l.length=128) (hm:m.length=128):gstB (.pointer (some ⟨g,0,none⟩)) (BV m) w=.ok .skip (w.setCells g 0 (tvs m)):=by
 have ht:w.there g 0 128:=by have:=h.2;rw [AeX,hl] at this;exact this
 have:=run_storeAt_mid (P:=prog) w g 0 211 (tvs m).toArray (by simpa [AeX,hm] using ht) (by simpa [AeX,hm] using AmJ) (FbQ m)
 unfold gstB BV
 simp only [Sem.run_bind,this,Result.andThen_ok,Sem.run_pure]
theorem Br.keep1 {W W1:World} {g:Nat} {l:List Bool} (h:Br W g 0 l) (hl:0<l.length) (hb:Below W.heap.size W W1):Br W1 g 0 l:=h.below hb (h.lt hl)
attribute [go_sem ↓] ex_gldB ex_gstB
attribute [local irreducible] gMul co tvs zP AjX
theorem EoZ (h f:Nat) (A:YA) (n c:Nat) (xs:List Nat) (w:World) (hh:h<2 ^ 128) (hf:f<2 ^ 128) (hn:n≤maxLen) (hX:XP w w.heap.size A n xs) :
  Calls prog 136 #[BV (co h),BV (co f),.slice A n c] w (RetT (co (AjX h f xs)) w):=by
 obtain ⟨R,HR⟩:∃ R,Hid (R=co (AjX h f xs)):=⟨_,η rfl⟩
 rw [←HR.o]
 have hn2:n≤9223372036854775807:=by unfold maxLen at hn;omega
 have HH:=η hh
 have HF:=η hf
 have HX:=η hX
 have hz:=BkV
 obtain ⟨G,HG⟩:∃ G,Hid (G=w.heap.size):=⟨_,η rfl⟩
 have HA0:=η (v3_0 (co h) (co f) zP 211 w)
 have HB0:=η (v3_1 (co h) (co f) zP 211 w)
 have HC0:=η (v3_2 (co h) (co f) zP 211 w)
 have HBL:=η (CmK (co h) (co f) zP 211 w)
 obtain ⟨W0,HW0⟩:∃ W0,Hid (W0=V3 (co h) (co f) zP 211 w):=⟨_,η rfl⟩
 rw [←HW0.o,←HG.o] at HA0 HB0 HC0
 rw [←HW0.o] at HBL
 clear hh hf hX hn
 unfold V3 at HW0
 go_enter func136,ntmps136
 go_wp2_with (first | (refine AnK rfl _ (.tmp 0) rfl (co h) rfl ?_) | (refine AnK rfl _ (.tmp 1) rfl (co f) rfl ?_))
 show Code.wp _ _ _ _ (((w.alloc (.cells (tvs (co h)).toArray 211)).alloc (.cells (tvs (co f)).toArray 211)).alloc (.cells (tvs zP).toArray 211))
 rw [←HW0.o,←HG.o]
 clear HW0
 have hwG:w.heap.size≤G:=by rw [←HG.o];exact Nat.le_refl _
 go_loopw [7] (fun t wr=>∃ i q:Nat,i≤n∧t=.int .i64 i∧Hid (q=AjX h f (xs.take i)∧q<2 ^ 128)∧Hid (Br wr G 0 (co h))∧Hid (Br wr (G+1) 0 (co q))∧Hid (Br wr (G+1+1) 0 zP)∧Hid (Below w.heap.size w wr)) (fun t _=>n - (intOf t).toNat)
 case atStart=>exact ⟨0,f,by omega,rfl,η ⟨by rw [List.take_zero];unfold AjX;rfl,HF.o⟩,HA0,HB0,HC0,HBL⟩
 case round =>
  obtain ⟨i,q,hi,rfl,hv,ha,hq,hd,hb⟩:=hrel;clear HA0 HB0 HC0 HBL;by_cases hlt:i<n
  ·obtain ⟨g,o,rfl,hg,hcx⟩:=HX.o.2.2 (by omega)
   obtain ⟨x,hx2⟩:∃ x,xs[i]?=some x:=⟨_,List.getElem?_eq_getElem (by rw [HX.o.1];exact hlt)⟩;have HLX:=η (HX.o.2.1 i x hx2);obtain ⟨u,HU⟩:∃ u,Hid (u=q ^^^ x∧u<2 ^ 128):=⟨_,η ⟨rfl,Nat.xor_lt_two_pow hv.o.2 HLX.o⟩⟩;obtain ⟨s,HS⟩:∃ s,Hid (s=gMul u h∧s<2 ^ 128):=⟨_,η ⟨rfl,CqQ _ _ HU.o.2⟩⟩;have HV:Hid (s=AjX h f (xs.take (i+1))):=η (by rw [HS.o.1,HU.o.1,hv.o.1,List.take_add_one,hx2];exact (BsQ h x _ f).symm);have HCE:Hid (∀ W:World,Below w.heap.size w W→gldB (.pointer (some ⟨g,o+i*128,none⟩)) W=.ok (.value (BV (co x))) W):=η (fun W hW=>CjY (fun j v hv=>(hW.cell (p:=⟨g,o+i*128+j,none⟩) hg).trans (hcx i x hx2 j v hv)));have q2:gldB (.pointer (some ⟨G+1,0,none⟩)) wr.drew=.ok (.value (BV (co q))) wr.drew:=CjY hq.o.drew.1;have q3:gldB (.pointer (some ⟨G,0,none⟩)) wr.drew=.ok (.value (BV (co h))) wr.drew:=CjY ha.o.drew.1;have HAD:Hid (∀ v,Calls prog 166 #[BV (co q),BV (co x)] v (RetT (co u) v)):=η (fun v=>by rw [HU.o.1];exact gadd_co q x v);have HMU:Hid (∀ v,Calls prog 165 #[BV (co u),BV (co h)] v (RetT (co s) v)):=η (fun v=>by rw [HS.o.1];exact pmul_co u h v HU.o.2 HH.o);clear hx2 hcx;go_wp2_with fail;refine wp_region_held_drew (S:=fun w'=>gldB (.pointer (some ⟨g,o+i*128,none⟩)) w'=.ok (.value (BV (co x))) w'∧gldB (.pointer (some ⟨G,0,none⟩)) w'=.ok (.value (BV (co h))) w') (by kernel_rfl) ⟨HCE.o _ hb.o.drew,q3⟩ (fun hHeld=>?_);(try dsimp only at hHeld);have Ω:=η (fun (w:World) (hSw:gldB (.pointer (some ⟨g,o+i*128,none⟩)) w=.ok (.value (BV (co x))) w∧gldB (.pointer (some ⟨G,0,none⟩)) w=.ok (.value (BV (co h))) w)=>hSw);refine tkJ 1 rfl hHeld ?_;(try simp only [Act.put,sxT]);refine tkJ 2 rfl hHeld ?_;(try simp only [Act.put,sxT]);refine tkJ 3 rfl hHeld ?_;(try simp only [Act.put,sxT]);refine tkJ 4 rfl hHeld ?_;(try simp only [Act.put,sxT]);refine tkJ 6 rfl hHeld ?_;(try simp only [Act.put,sxT]);refine rdI 0 rfl (fun K hK=>?_);(try simp only [rxT]);go_simp;refine hK.o _ _ hHeld (fun hHeld=>?_);clear hK K;(try simp only [Act.put,sxT]);refine rdI 5 rfl (fun K hK=>?_);(try simp only [rxT]);go_simp;refine (HAD.o _).mono ?_;rintro e w5 ⟨rfl,hb5⟩;have HB5:Hid (Below wr.heap.size wr w5):=η ((Below.refl wr.heap.size wr).drew.trans (show Below wr.heap.size wr.drew w5 from hb5));clear hb5;have hb5:=η (hb.o.trans (HB5.o.mono hb.o.size));have ha5:=η (ha.o.keep1 (by rw [AlK];omega) HB5.o);(try go_wp2_with fail);refine hK.o _ _ ⟨HCE.o _ hb5.o,CjY ha5.o.1⟩ (fun hHeld=>?_);clear hK K;(try simp only [Act.put,sxT]);refine rdI 7 rfl (fun K hK=>?_);(try simp only [rxT]);go_simp;refine (HMU.o _).mono ?_;rintro e w6 ⟨rfl,hb6⟩;have HB6:Hid (Below wr.heap.size wr w6):=η (HB5.o.trans (hb6.mono HB5.o.size));clear hb6;have hb6:=η (hb.o.trans (HB6.o.mono hb.o.size));have ha6:=η (ha.o.keep1 (by rw [AlK];omega) HB6.o);have hq6:=η (hq.o.keep1 (by rw [AlK];omega) HB6.o);have hd6:=η (hd.o.keep1 (by rw [zP_len];omega) HB6.o);have q4:=gstB_x hq6.o (AlK q) (AlK s);(try go_wp2_with fail);refine hK.o _ _ ⟨HCE.o _ hb6.o,CjY ha6.o.1⟩ (fun hHeld=>?_)
   clear hK K;(try simp only [Act.put,sxT]);refine rdI 8 rfl (fun K hK=>?_);(try simp only [rxT]);go_simp;refine hK.o _ _ ⟨HCE.o _ (AaQ hb6.o (by omega) _ _),CjY (ha6.o.setCells (by omega) _ _).1⟩ (fun _=>?_);clear hK K;(try simp only [Act.put,sxT]);refine wpAnyH_done (by kernel_rfl) ?_ _;go_wp2_with fail;go_roundw
   case rel=>exact ⟨i+1,s,by omega,by go_num,η ⟨HV.o,HS.o.2⟩,η (ha6.o.setCells (by omega) _ _),η (hq6.o.whole (co s) (by rw [AlK,AlK])),η (hd6.o.setCells (by omega) _ _),η (AaQ hb6.o (by omega) _ _)⟩
   case measure=>simp [intOf];omega
  ·have he60:i=n:=by omega
   subst he60;have HRQ:Hid (R=co q):=η (by have h1:=hv.o.1;rw [List.take_of_length_le (by rw [HX.o.1];omega)] at h1;rw [HR.o,h1]);go_wp2_with (first | (refine BfQ rfl _ (.tmp 4) rfl (G+1) 0 128 _ rfl (co q) (by exact hq.o) AzY (by rw [AlK];exact AmJ) ?_) | (refine AoX rfl _ (.tmp 6) (.tmp 22) rfl (G+1+1) 0 rfl (co q) zP rfl (by exact hd.o) (by rw [AlK,zP_len]) (by rw [AlK];exact AmJ) ?_));rw [HRQ.o];refine bodyPost_ret (v:=BV (co q)) (BlY rfl _ _ (G+1+1) 128 _ (co q) rfl (hd.o.whole (co q) (by rw [AlK,zP_len])) AzY (by rw [AlK];exact AmJ)) rfl ⟨rfl,?_⟩;exact AaQ hb.o (by omega) 0 (tvs (co q))
end Go.Proofs.YthppjgdnibfefaaGreat
namespace Go.Proofs.YthppjgdnibfefaaGreat
open Tryz
open Go.RowKit
def nB (l:YB):Nat:=hl (oH l) (oL l)
theorem EuJ (l:YB) (h:l.length=16):nB l<2 ^ 128:=EwV _ _ (oH_lt l h) (oL_lt l h)
theorem EuK (l:YB) (h:l.length=16):AqW l=co (nB l):=by
 have h1:=bits_e (oH l) (oL l) (oL_lt l h)
 rw [eB_o l h] at h1
 exact h1
theorem nB_pe (l:YB) (h:l.length=16):PE (nB l)=EV (oH l) (oL l):=EqY _ _ (oL_lt l h)
def padK (l:YB) (k q:Nat):List UInt8:=(List.range 16).map fun j=>if j<q then l.getD (16*k+j) 0 else 0
theorem AgZ (l:YB) (k q:Nat):(padK l k q).length=16:=by simp [padK]
theorem BdW (l:YB) (k q j:Nat) (hj:j<16):(padK l k q)[j]?=some (if j<q then l.getD (16*k+j) 0 else 0):=by simp [padK,hj]
theorem ErJ (l:YB) (k:Nat):padK l k 0=List.replicate 16 0:=by
 apply List.ext_getElem?
 intro j
 by_cases hj:j<16
 ·rw [BdW l k 0 j hj,List.getElem?_replicate,if_pos hj,if_neg (by omega)]
 ·rw [List.getElem?_eq_none (by rw [AgZ];omega),List.getElem?_eq_none (by simp;omega)]
theorem padK_set (l:YB) (k q:Nat) (hq:q<16):(padK l k q).set q (l.getD (16*k+q) 0)=padK l k (q+1):=by
 apply List.ext_getElem?
 intro j
 rw [List.getElem?_set]
 by_cases hj:j<16
 ·rw [BdW l k q j hj,BdW l k (q+1) j hj]
  by_cases e:q=j
  ·subst e;rw [if_pos rfl,AgZ,if_pos (by omega),if_pos (by omega)]
  ·rw [if_neg e]
   by_cases e2:j<q
   ·rw [if_pos e2,if_pos (by omega)]
   ·rw [if_neg e2,if_neg (by omega)]
 ·rw [if_neg (by omega),List.getElem?_eq_none (by rw [AgZ];omega),List.getElem?_eq_none (by rw [AgZ];omega)]
theorem ErQ (l:YB) (k q:Nat) (h:l.length≤16*k+q):padK l k q=padK l k 16:=by
 apply List.ext_getElem?
 intro j
 by_cases hj:j<16
 ·rw [BdW l k q j hj,BdW l k 16 j hj,if_pos hj]
  by_cases e:j<q
  ·rw [if_pos e]
  ·rw [if_neg e]
   congr 1;rw [List.getD_eq_getElem?_getD,List.getElem?_eq_none (by omega)];rfl
 ·rw [List.getElem?_eq_none (by rw [AgZ];omega),List.getElem?_eq_none (by rw [AgZ];omega)]
def bksN (l:YB) (k:Nat):List Nat:=(List.range k).map fun i=>nB (padK l i 16)
def bks (l:YB):List Nat:=bksN l ((l.length+15) / 16)
theorem bksN_len (l:YB) (k:Nat):(bksN l k).length=k:=by simp [bksN]
theorem DeV (l:YB) (k:Nat):bksN l (k+1)=bksN l k++[nB (padK l k 16)]:=by simp [bksN,List.range_succ]
theorem bksN_lt (l:YB) (k i x:Nat) (h:(bksN l k)[i]?=some x):x<2 ^ 128:=by
 obtain ⟨j,_,rfl⟩:=List.mem_map.1 (List.mem_of_getElem? h)
 exact EuJ _ (AgZ _ _ _)
theorem CyY:∃ z,(prog.info? 211).map (fun i=>(i.zero,i.size,i.bytes))=some (some z,128,128)∧z.cells.size=128:=by
 have h:(prog.info? 211).map (fun i=>(i.zero.map (·.cells.size),i.size,i.bytes))=some (some 128,128,128):=by kernel_rfl
 rcases hi:prog.info? 211 with _ | i
 ·rw [hi] at h;cases h
 ·rw [hi] at h
  simp only [Option.map_some,Option.some.injEq,Prod.mk.injEq] at h;obtain ⟨h1,h2,h3⟩:=h;rcases hz:i.zero with _ | z
  ·rw [hz] at h1;cases h1
  ·rw [hz] at h1
   simp only [Option.map_some,Option.some.injEq] at h1;exact ⟨z,by simp [hz,h2,h3],h1⟩
theorem DvZ:∃ z,CellsOf 211 207 128 128 z (fun x=>tvs (co x)):=by
 obtain ⟨z,h1,h2⟩:=CyY
 exact ⟨z,underlying207,h1,h2,by omega,fun x=>by rw [AeX,AlK],fun x u hu=>by
  obtain ⟨b,_,rfl⟩:=List.mem_map.1 hu
  rfl⟩
theorem ByJ {w:World} {ops:Array Oper} {rest:List Oper} {o:Oper} {a:Act} {Q:Exit→Act→World→Prop} (hgd:o.guard=none) (x:Operand) (hop:o.op=.buildSlice 207 1 #[(0,x)]) (l:List Bool) (hl:l.length=128) (hx:a.eval x=BV l)
  (hk:wpList prog ops Q rest (a.put o.dst (.slice (some ⟨w.heap.size,0,none⟩) 1 1)) (w.alloc (.cells (tvs l).toArray 211))):wpList prog ops Q (o::rest) a w:=by
 obtain ⟨z,h1,h2⟩:=CyY
 obtain ⟨i0,hi0,hz0,hz1,hz2⟩:=info_parts h1
 have hb:(BV l).cells=(tvs l).toArray:=rfl
 refine wpList_buildSlice hgd _ 211 1 _ hop (tvs l).toArray i0 z underlying207 hi0 hz0 (by rw [hz1];omega) (by rw [hz1];omega) ?_ hk
 have h:=Great.fill_whole (s:=128) (by omega) [BV l] ((Array.range (1*128)).map (z.cells[· % z.cells.size]!)) (fun v hv=>by
  rw [List.mem_singleton.1 hv,hb];simp [AeX,hl]) (by simp)
 rw [hz1]
 simpa [hx,hb] using h
theorem OwnX.form {T:TypeId} {k:Nat} {f:Nat→List Value} {w:World} {base n c:Nat} {A:YA} {xs:List Nat} (h:OwnX T k f w base A n c xs) (hn:0<n):∃ g,A=some ⟨g,0,none⟩:=by
 rcases h.1.2 with ⟨_,h0⟩ | ⟨g,cap,cur,hv,_⟩
 ·omega
 ·injection hv with hA
  exact ⟨g,hA⟩
abbrev OwnP (w:World) (base:Nat) (A:YA) (n c:Nat) (xs:List Nat):Prop:=OwnX 211 128 (fun x=>tvs (co x)) w base A n c xs
attribute [local irreducible] padK bksN nB co tvs AqW
theorem BjV (A:YA) (n c:Nat) (l:YB) (w:World) (h:RB w w.heap.size A n l) (hn:n≤1000000) :
  Calls prog 133 #[.slice A n c] w fun e w'=>∃ g1 c1,e=.returned (.slice (some ⟨g1,0,none⟩) ((n+15) / 16) c1)∧OwnP w' w.heap.size (some ⟨g1,0,none⟩) ((n+15) / 16) c1 (bks l)∧Below w.heap.size w w':=by
 obtain ⟨z,hX⟩:=DvZ
 have HXX:=η hX
 clear hX
 have HRB:=η h
 have hlen:=h.len
 clear h
 have hbks:bks l=bksN l ((n+15) / 16):=by unfold bks;rw [hlen]
 rw [hbks]
 go_enter func133,ntmps133
 go_wp2_with fail
 have HO0:Hid (OwnP (w.alloc (.cells #[] 211)) w.heap.size (some ⟨w.heap.size,0,none⟩) 0 0 (bksN l 0)):=η (by rw [show bksN l 0=[] by unfold bksN;rfl];exact OwnX.lit0 _ _ _ w _ (Nat.le_refl _))
 go_loopw [3,4] (fun v i wr=>∃ k c1 g1:Nat,k≤(n+15) / 16∧i=.int .i64 (16*(k:Int))∧v=.slice (some ⟨g1,0,none⟩) k c1∧Hid (OwnP wr w.heap.size (some ⟨g1,0,none⟩) k c1 (bksN l k))∧Hid (Below w.heap.size w wr)) (fun _ i _=>n+16 - (intOf i).toNat)
 case atStart=>exact ⟨0,0,w.heap.size,by omega,rfl,rfl,HO0,η (AaK _ _)⟩
 case round =>
  obtain ⟨k,c1,g1,hk,rfl,rfl,ho,hb⟩:=hrel;clear HO0;obtain ⟨wo,ewo⟩:∃ wo:World,wo=wr:=⟨_,rfl⟩;subst ewo;by_cases hlt:16*k<n
  ·have hlt':16*(k:Int)<(n:Int):=by omega
   go_wp2_with (at_make;refine AjY rfl _ _ rfl wo.heap.size .i64 .i64 _ _ 16 rfl rfl rfl rfl (by omega) (Nat.le_refl _) ?_;intro w1 hown1 hs1 hb1);have HP1:Hid (OwnB w1 wo.heap.size (some ⟨wo.heap.size,0,none⟩) 16 16 (padK l k 0)):=η (by rw [ErJ];exact hown1);have HB1:Hid (Below wo.heap.size wo w1):=η hb1;clear hown1 hb1
   go_loopw [6] (fun t ws=>∃ q:Nat,q≤16∧16*k+q≤n∧t=.int .i64 q∧Hid (OwnB ws wo.heap.size (some ⟨wo.heap.size,0,none⟩) 16 16 (padK l k q))∧Hid (Below wo.heap.size wo ws)) (fun t _=>16 - (intOf t).toNat)
   case atStart=>exact ⟨0,by omega,by omega,rfl,HP1,HB1⟩
   case round =>
    obtain ⟨q,hq,hkq,rfl,hp,hbs⟩:=hrel;clear HP1 HB1;by_cases h1:q<16∧16*k+q<n
    ·obtain ⟨h1a,h1b⟩:=h1
     have hws:=hb.o.trans (hbs.o.mono hb.o.size);obtain ⟨b,o,rfl,hbb,x,hx,hc⟩:=(HRB.o.step hws).at_ (k:=16*k+q) h1b;have hxd:l.getD (16*k+q) 0=x:=by rw [List.getD_eq_getElem?_getD,hx];rfl
     obtain ⟨J,HJ⟩:∃ J,Hid (J=16*k+q∧J<n):=⟨_,η ⟨rfl,h1b⟩⟩;rw [←HJ.o.1] at hc;have hw1:IntKind.i64.wrap (16*(k:Int)+(q:Int))=(J:Int):=by rw [IntWalk.i64_in _ (by omega),HJ.o.1];omega
     have hJn:(J:Int)<(n:Int):=by have:=HJ.o.2;omega
     have hc0:=hp.o.cellAt (j:=q) (x:=0) (by rw [BdW l k q q h1a,if_neg (by omega)]);have hf0:=hp.o.freeAt q;have HXD:=η hxd;clear hx hxd h1b hws;go_wp2_with fail;go_roundw
     case rel=>exact ⟨q+1,by omega,by have:=HJ.o;omega,by go_num,η (by rw [←padK_set l k q h1a,HXD.o];exact hp.o.stored q x _ rfl),η (hbs.o.setCell (p:=⟨wo.heap.size,q,none⟩) (Nat.le_refl _) _)⟩
     case measure=>simp [intOf];omega
    ·have HPF:Hid (OwnB wr wo.heap.size (some ⟨wo.heap.size,0,none⟩) 16 16 (padK l k 16)):=η (by
      by_cases h2:q<16
      ·rw [←ErQ l k q (by omega)];exact hp.o
      ·obtain rfl:q=16:=by omega
       exact hp.o)
     obtain ⟨y,HY⟩:∃ y,Hid (y=nB (padK l k 16)):=⟨_,η rfl⟩;have HNB:Hid (AqW (padK l k 16)=co y):=η (by rw [HY.o];exact EuK _ (AgZ _ _ _));by_cases h2:q<16
     ·have hw1:IntKind.i64.wrap (16*(k:Int)+(q:Int))=(n:Int):=by rw [IntWalk.i64_in _ (by omega)];omega
      clear h1;go_wp2_with (first | (go_at_call 137;refine (DiX (some ⟨wo.heap.size,0,none⟩) 16 (padK l k 16) _ (by exact HPF.o.rb)).mono ?_;rw [HNB.o];rintro e w5 ⟨rfl,hb5⟩;have HB5:=η hb5;clear hb5) | (refine ByJ rfl (.tmp 38) rfl (co y) (AlK y) rfl ?_) | (at_builtin;refine AzW HXX.o rfl (.tmp 36) (.tmp 39) rfl w.heap.size (some ⟨g1,0,none⟩) k c1 (bksN l k) rfl (by exact OwnX.below (OwnX.below (OwnX.below ho.o hbs.o) HB5.o) (AaK _ _)) w5.heap.size 1 1 [y] rfl rfl (by intro j u hu;have hu2:(tvs (co y))[j]?=some u:=(by simpa using hu);have:=(Br.new w5 (co y) 211).1 j u hu2;rw [Nat.zero_add] at this;exact this) (by unfold maxLen;omega) (by omega) (by have h1:=hb.o.size;have h2:=hbs.o.size;have h3:=HB5.o.size;rw [World.size_alloc];omega) ?_;intro A7 c7 w7 ho7 hb7;obtain ⟨g7,rfl⟩:=ho7.form (by omega);have HO7:=η ho7;have HB7:=η hb7;clear ho7 hb7));go_roundw
      case rel=>exact ⟨k+1,c7,g7,by omega,by go_num,rfl,η (by rw [DeV,←HY.o];exact HO7.o),η (hb.o.trans ((hbs.o.trans ((HB5.o.trans ((AaK w5 _).mono HB5.o.size)).mono hbs.o.size)).mono hb.o.size |>.trans HB7.o))⟩
      case measure=>simp [intOf];omega
     ·obtain rfl:q=16:=by omega
      clear h1;go_wp2_with (first | (go_at_call 137;refine (DiX (some ⟨wo.heap.size,0,none⟩) 16 (padK l k 16) _ (by exact HPF.o.rb)).mono ?_;rw [HNB.o];rintro e w5 ⟨rfl,hb5⟩;have HB5:=η hb5;clear hb5) | (refine ByJ rfl (.tmp 38) rfl (co y) (AlK y) rfl ?_) | (at_builtin;refine AzW HXX.o rfl (.tmp 36) (.tmp 39) rfl w.heap.size (some ⟨g1,0,none⟩) k c1 (bksN l k) rfl (by exact OwnX.below (OwnX.below (OwnX.below ho.o hbs.o) HB5.o) (AaK _ _)) w5.heap.size 1 1 [y] rfl rfl (by intro j u hu;have hu2:(tvs (co y))[j]?=some u:=(by simpa using hu);have:=(Br.new w5 (co y) 211).1 j u hu2;rw [Nat.zero_add] at this;exact this) (by unfold maxLen;omega) (by omega) (by have h1:=hb.o.size;have h2:=hbs.o.size;have h3:=HB5.o.size;rw [World.size_alloc];omega) ?_;intro A7 c7 w7 ho7 hb7;obtain ⟨g7,rfl⟩:=ho7.form (by omega);have HO7:=η ho7;have HB7:=η hb7;clear ho7 hb7));go_roundw
      case rel=>exact ⟨k+1,c7,g7,by omega,by go_num,rfl,η (by rw [DeV,←HY.o];exact HO7.o),η (hb.o.trans ((hbs.o.trans ((HB5.o.trans ((AaK w5 _).mono HB5.o.size)).mono hbs.o.size)).mono hb.o.size |>.trans HB7.o))⟩
      case measure=>simp [intOf];omega
  ·have hke:k=(n+15) / 16:=by omega
   subst hke;go_wp2_with fail;go_ret;exact ⟨g1,c1,rfl,ho.o,hb.o⟩
end Go.Proofs.YthppjgdnibfefaaGreat
namespace Go.Proofs.YthppjgdnibfefaaGreat
open Tryz
open Go.RowKit
def sumN (l1 l2:YB):List Nat:=bks l1++bks l2++bks (AjK l1.length++AjK l2.length)
def sumG (h:Nat) (l1 l2:YB):Nat:=AjX h 0 (sumN l1 l2)
def bB (x:Nat):List UInt8:=eB (x / 2 ^ 64) (x % 2 ^ 64)
theorem CkZ (x:Nat):(bB x).length=16:=eB_len _ _
theorem bB_bits (x:Nat) (hx:x<2 ^ 128):AqW (bB x)=co x:=by
 unfold bB
 rw [bits_e _ _ (by omega),show x / 2 ^ 64*2 ^ 64+x % 2 ^ 64=x by omega]
theorem BfJ (l:YB) (i x:Nat) (h:(bks l)[i]?=some x):x<2 ^ 128:=bksN_lt l _ i x h
theorem CrW (l:YB):(bks l).length=(l.length+15) / 16:=bksN_len l _
theorem DwX (a b:List Nat) (ha:∀ (i x:Nat),a[i]?=some x→x<2 ^ 128) (hb:∀ (i x:Nat),b[i]?=some x→x<2 ^ 128) (i x:Nat) (h:(a++b)[i]?=some x):x<2 ^ 128:=by
 rcases List.mem_append.1 (List.mem_of_getElem? h) with h | h
 ·obtain ⟨j,hj⟩:=List.getElem?_of_mem h
  exact ha j x hj
 ·obtain ⟨j,hj⟩:=List.getElem?_of_mem h
  exact hb j x hj
theorem sumN_lt (l1 l2:YB) (i x:Nat) (h:(sumN l1 l2)[i]?=some x):x<2 ^ 128:=DwX _ _ (DwX _ _ (BfJ l1) (BfJ l2)) (BfJ _) i x h
theorem DgK (h:Nat) (hh:h<2 ^ 128) (l1 l2:YB):sumG h l1 l2<2 ^ 128:=BnV h hh _ 0 (by omega) (sumN_lt l1 l2)
theorem OwnP.xp {w:World} {base n c:Nat} {A:YA} {xs:List Nat} (h:OwnP w base A n c xs) (hx:∀ (i x:Nat),xs[i]?=some x→x<2 ^ 128):XP w w.heap.size A n xs:=by
 refine ⟨h.2,hx,fun hn=>?_⟩
 obtain ⟨g,rfl⟩:=OwnX.form h hn
 have hg:g<w.heap.size:=(World.ownsRow.lt h.1 g rfl).2
 refine ⟨g,0,rfl,hg,fun i x hi=>?_⟩
 obtain ⟨g2,e,_,_,hr⟩:=OwnX.at_ h (fun x=>by rw [AeX,AlK]) hi
 injection e with e
 injection e with e
 subst e
 rw [Nat.zero_add]
 exact hr
theorem EbJ (h:Nat) (A:YA) (n c:Nat) (xs:List Nat) (w:World) (hh:h<2 ^ 128) (hn:n≤maxLen) (hX:XP w w.heap.size A n xs) :
  Calls prog 136 #[BV (co h),BV zP,.slice A n c] w (RetT (co (AjX h 0 xs)) w):=by
 rw [zP_co]
 exact EoZ h 0 A n c xs w hh (by omega) hn hX
attribute [local irreducible] bks AjK AjX co tvs AqW zP
theorem rsum_any (A0 A1 A2:YA) (c0 n1 c1 n2 c2:Nat) (k l1 l2:YB) (w:World) (h0:RB w w.heap.size A0 16 k) (h1:RB w w.heap.size A1 n1 l1) (h2:RB w w.heap.size A2 n2 l2) (hn1:n1≤100000) (hn2:n2≤100000) :
  Calls prog 104 #[.slice A0 16 c0,.slice A1 n1 c1,.slice A2 n2 c2] w (RetB 16 (bB (sumG (nB k) l1 l2)) w):=by
 obtain ⟨z,hX⟩:=DvZ
 have HXX:=η hX
 clear hX
 have H0:=η h0
 have H1:=η h1
 have H2:=η h2
 have e1:=h1.len
 have e2:=h2.len
 have HK:=η (EuJ k h0.len)
 have HKB:=η (EuK k h0.len)
 clear h0 h1 h2
 obtain ⟨R,HR⟩:∃ R,Hid (R=bB (sumG (nB k) l1 l2)):=⟨_,η rfl⟩
 rw [←HR.o]
 have hRB:Hid (AqW R=co (AjX (nB k) 0 (bks l1++bks l2++bks (AjK n1++AjK n2)))):=η (by rw [HR.o,bB_bits _ (DgK _ HK.o l1 l2),←e1,←e2];rfl)
 have hRL:Hid (R.length=16):=η (by rw [HR.o];exact CkZ _)
 go_enter func104,ntmps104
 go_wp2_with fail
 refine (BjV A1 n1 c1 l1 _ H1.o (by omega)).mono ?_
 rintro e w1 ⟨g1,d1,rfl,ho1,hb1⟩
 have HO1:=η ho1
 have HB1:=η hb1
 clear ho1 hb1
 go_wp2_with fail
 refine (BjV A2 n2 c2 l2 _ (H2.o.step HB1.o) (by omega)).mono ?_
 rintro e w2 ⟨g2,d2,rfl,ho2,hb2⟩
 have HO2:=η ho2
 have HB2:=η hb2
 clear ho2 hb2
 obtain ⟨m1,HM1⟩:∃ m1,Hid (m1=(n1+15) / 16∧m1≤10000∧(bks l1).length=m1):=⟨_,η ⟨rfl,by omega,by rw [CrW,e1]⟩⟩
 obtain ⟨m2,HM2⟩:∃ m2,Hid (m2=(n2+15) / 16∧m2≤10000∧(bks l2).length=m2):=⟨_,η ⟨rfl,by omega,by rw [CrW,e2]⟩⟩
 rw [←HM1.o.1] at HO1 ⊢
 rw [←HM2.o.1] at HO2 ⊢
 go_wp2_with (at_builtin;refine AzW HXX.o rfl (.tmp 9) (.tmp 11) rfl w.heap.size (some ⟨g1,0,none⟩) m1 d1 (bks l1) rfl (by exact OwnX.below HO1.o HB2.o) g2 m2 d2 (bks l2) rfl HM2.o.2.2 (by exact OwnX.cells_ HO2.o) (by have:=HM1.o;have:=HM2.o;unfold maxLen;omega) (by have:=HM1.o;have:=HM2.o;omega) (by have:=HB1.o.size;have:=HB2.o.size;omega) ?_;intro A3 c3 w3 ho3 hb3;have HO3:=η ho3;have HB3:=η hb3;clear ho3 hb3)
 have HW3:Hid (Below w.heap.size w w3):=η ((HB1.o.trans (HB2.o.mono HB1.o.size)).trans HB3.o)
 have hs3:w.heap.size≤w3.heap.size:=HW3.o.size
 clear HO1 HO2 HB1 HB2 HB3
 refine (DbY n1 _ (by omega)).mono ?_
 rintro e w4 ⟨A4,c4,rfl,ho4,hb4⟩
 have HO4:=η ho4
 have HB4:=η hb4
 clear ho4 hb4
 go_wp2_with fail
 refine (DbY n2 _ (by omega)).mono ?_
 rintro e w5 ⟨A5,c5,rfl,ho5,hb5⟩
 have HO5:=η ho5
 have HB5:=η hb5
 clear ho5 hb5
 have hs4:w3.heap.size≤w4.heap.size:=HB4.o.size
 have hs5:w4.heap.size≤w5.heap.size:=HB5.o.size
 go_wp2_with (at_builtin;refine AcQ rfl (.tmp 16) (.tmp 19) rfl w3.heap.size A4 8 c4 (AjK n1) rfl (by exact HO4.o.below HB5.o) w5.heap.size A5 8 c5 (AjK n2) rfl (by exact HO5.o.rb) (by omega) (by omega) ?_;intro A6 c6 w6 ho6 _ hb6;have HO6:=η ho6;have HB6:=η hb6;clear ho6 hb6)
 have HB36:Hid (Below w3.heap.size w3 w6):=η ((HB4.o.trans (HB5.o.mono hs4)).trans HB6.o)
 clear HO4 HO5 HB4 HB5 HB6
 refine (BjV A6 16 c6 (AjK n1++AjK n2) _ (by exact HO6.o.rb) (by omega)).mono ?_
 rintro e w7 ⟨g7,d7,rfl,ho7,hb7⟩
 have HO7:Hid (OwnP w7 w6.heap.size (some ⟨g7,0,none⟩) 1 d7 (bks (AjK n1++AjK n2))):=η ho7
 have HB7:=η hb7
 have HL7:Hid ((bks (AjK n1++AjK n2)).length=1):=η (by have:=HO7.o.2;exact this)
 clear ho7 hb7
 have hs6:w3.heap.size≤w6.heap.size:=HB36.o.size
 have hs7:w6.heap.size≤w7.heap.size:=HB7.o.size
 have HB37:Hid (Below w3.heap.size w3 w7):=η (HB36.o.trans (HB7.o.mono hs6))
 go_wp2_with (at_builtin;refine AzW HXX.o rfl (.tmp 13) (.tmp 21) rfl w.heap.size A3 (m1+m2) c3 (bks l1++bks l2) rfl (by exact OwnX.below HO3.o HB37.o) g7 1 d7 (bks (AjK n1++AjK n2)) rfl HL7.o (by exact OwnX.cells_ HO7.o) (by have:=HM1.o;have:=HM2.o;unfold maxLen;omega) (by have:=HM1.o;have:=HM2.o;omega) (by omega) ?_;intro A8 c8 w8 ho8 hb8;have HO8:=η ho8;have HB8:=η hb8;clear ho8 hb8)
 have HW8:Hid (Below w.heap.size w w8):=η ((HW3.o.trans (HB37.o.mono hs3)).trans HB8.o)
 clear HO3 HO6 HO7 HB36 HB37 HB7 HB8 HW3
 refine (DiX A0 c0 k _ (H0.o.step HW8.o)).mono ?_
 rw [HKB.o]
 rintro e w9 ⟨rfl,hb9⟩
 have HB9:=η hb9
 clear hb9
 go_wp2_with (refine AsQ rfl _ rfl zP BqV ?_)
 refine (EbJ (nB k) A8 _ c8 _ _ HK.o (by have:=HM1.o;have:=HM2.o;unfold maxLen;omega) ((OwnP.xp (OwnX.below HO8.o HB9.o) (DwX _ _ (DwX _ _ (BfJ l1) (BfJ l2)) (BfJ _))))).mono ?_
 rw [←hRB.o]
 rintro e w10 ⟨rfl,hb10⟩
 have HB10:=η hb10
 clear hb10
 go_wp2_with fail
 refine (EcQ R _ hRL.o).mono ?_
 rintro e w11 ⟨A11,c11,rfl,ho11,hb11⟩
 have HO11:=η ho11
 have HB11:=η hb11
 clear ho11 hb11
 have h8:=HW8.o.size
 have h9:=HB9.o.size
 have h10:=HB10.o.size
 go_wp2_with fail
 go_ret
 exact ⟨A11,c11,rfl,HO11.o.base_le (by omega),HW8.o.trans ((HB9.o.trans ((HB10.o.trans (HB11.o.mono h10)).mono h9)).mono h8)⟩
