import Derived.Test.YthppjgdnibfefaaGreatFieldAll
import Derived.Test.YthppjgdnibfefaaGreatMemAll
import Derived.Deep.RegionWith
import Derived.Test.YthppjgdnibfefaaGreatRowsNew
import Derived.Deep.RegionHeld3
set_option linter.all false
set_option maxRecDepth 100000
set_option maxHeartbeats 32000000
namespace Go.Proofs.YthppjgdnibfefaaGreat
def ArK (t b:YB):List UInt8:=b.map fun x=>t.getD x.toNat 0
def tableL:List UInt8:=(List.range 256).map fun i=>subB (UInt8.ofNat i)
def rowF (b:YB) (m p:Nat):UInt8:=b.getD (4*((p / 4+m*(p % 4)) % 4)+p % 4) 0
def BbY (b:YB) (m:Nat):List UInt8:=(List.range 16).map (rowF b m)
def AvV (b f:YB) (c r:Nat):Nat→UInt8 | 0=>0 | k+1=>AvV b f c r k ^^^ mulB (f.getD ((k+4 - r) % 4) 0) (b.getD (4*c+k) 0)
def colF (b f:YB) (p:Nat):UInt8:=AvV b f (p / 4) (p % 4) 4
def AkV (b f:YB):List UInt8:=(List.range 16).map (colF b f)
def AmX (P:Nat→Bool) (F:Nat→UInt8):List UInt8:=(List.range 16).map fun p=>if P p then F p else 0
theorem AuZ (P:Nat→Bool) (F:Nat→UInt8):(AmX P F).length=16:=by simp [AmX]
theorem CdW (P P':Nat→Bool) (F:Nat→UInt8) (k:Nat) (hk:k<16) (h:∀ p,p<16→P' p=(P p || p == k)):(AmX P F).set k (F k)=AmX P' F:=by
 apply List.ext_getElem
 ·simp [AmX]
 ·intro i h1 h2
  have hi:i<16:=by simpa [AmX] using h2
  simp only [AmX,List.getElem_set,List.getElem_map,List.getElem_range,h i hi];by_cases e:k=i
  ·subst e;simp
  ·rw [if_neg e]
   have:(i == k)=false:=by rw [beq_eq_false_iff_ne];omega
   rw [this,Bool.or_false]
theorem CdY (P:Nat→Bool) (F:Nat→UInt8) (h:∀ p,p<16→P p=true):AmX P F=(List.range 16).map F:=by
 unfold AmX
 apply List.map_congr_left
 intro p hp
 rw [h p (List.mem_range.1 hp)]
 rfl
theorem BsV (P:Nat→Bool) (F:Nat→UInt8) (h:∀ p,p<16→P p=false):List.replicate 16 0=AmX P F:=by
 apply List.ext_getElem
 ·simp [AmX]
 ·intro i h1 h2
  have hi:i<16:=by simpa [AmX] using h2
  rw [List.getElem_replicate];simp [AmX,h i hi]
def EcJ:Nat→UInt8→List UInt8 | 0,_=>[] | k+1,x=>x::EcJ k (mulB x 3)
theorem CyV:∀ (k:Nat) (j:Nat) (y:UInt8),y∈EcJ k (powN 3 j)→∃ i,i<k∧y=powN 3 (j+i)
 | 0,j,y,h=>by simp [EcJ] at h
 | k+1,j,y,h=>by
  rw [EcJ,←AyV] at h;rcases List.mem_cons.1 h with h | h
  ·exact ⟨0,by omega,h⟩
  ·obtain ⟨i,h1,h2⟩:=CyV k (j+1) y h
   exact ⟨i+1,by omega,by rw [h2];congr 1;omega⟩
theorem gen3 (y:UInt8) (hy:y≠0):∃ i,i<255∧y=powN 3 i:=by
 have h:∀ n:Fin 256,UInt8.ofNat n.val≠0→UInt8.ofNat n.val∈EcJ 255 1:=by decide +kernel
 have h2:=AjQ (p:=fun y=>y≠0→y∈EcJ 255 1) h y hy
 obtain ⟨i,h3,h4⟩:=CyV 255 0 y h2
 exact ⟨i,h3,by simpa using h4⟩
theorem three_ne:(3:UInt8)≠0:=by decide
theorem inv_pow3 (i:Nat) (hi:i<255):invB (powN 3 i)=powN 3 ((255 - i) % 255):=by
 have h1:mulB (powN 3 i) (powN 3 ((255 - i) % 255))=1:=by
  rw [←AkQ];by_cases h0:i=0
  ·subst h0;rfl
  ·rw [show i+(255 - i) % 255=255 by omega,CoQ 3 three_ne]
 have hx:powN 3 i≠0:=fun e=>by rw [e,CjW] at h1;exact absurd h1 (by decide)
 exact BrV (powN 3 i) _ _ (BwY _ hx) h1
def EtW (n:Nat):List UInt8:=List.replicate n 0
theorem CbX (n:Nat):(EtW n).length=n:=List.length_replicate
def CmZ:Nat→List UInt8 | 0=>(EtW 256).set 0 (BjK 0) | i+1=>(CmZ i).set (powN 3 i).toNat (BjK (powN 3 ((255 - i) % 255)))
theorem BcZ:∀ i,(CmZ i).length=256 | 0=>by rw [CmZ,List.length_set,CbX] | i+1=>by rw [CmZ,List.length_set,BcZ i]
theorem DoK:∀ (i:Nat),i≤255→∀ y:UInt8,(y=0∨∃ j,j<i∧y=powN 3 j)→(CmZ i)[y.toNat]?=some (subB y)
 | 0,_,y,h=>by
  rcases h with rfl | ⟨j,hj,_⟩
  ·rw [CmZ,List.getElem?_set,if_pos (by decide),if_pos (by rw [CbX];decide)]
   unfold subB;rw [BmY]
  ·omega
 | i+1,hi,y,h=>by
  rw [CmZ,List.getElem?_set];have hl:=BcZ i;by_cases e:(powN 3 i).toNat=y.toNat
  ·have hy:=y.toNat_lt
   rw [if_pos e,if_pos (by omega)];have e2:powN 3 i=y:=UInt8.toNat_inj.1 e;rw [←e2];unfold subB;rw [inv_pow3 i (by omega)]
  ·rw [if_neg e]
   refine DoK i (by omega) y ?_;rcases h with h | ⟨j,h1,h2⟩
   ·exact .inl h
   ·refine .inr ⟨j,?_,h2⟩
    rcases Nat.lt_or_ge j i with h3 | h3
    ·exact h3
    ·exact absurd (by rw [h2,show j=i by omega]) e
theorem list256 (l:YB) (hl:l.length=256) (f:UInt8→UInt8) (h:∀ y:UInt8,l[y.toNat]?=some (f y)):l=(List.range 256).map fun i=>f (UInt8.ofNat i):=by
 apply List.ext_getElem
 ·simp [hl]
 ·intro i h1 h2
  have hi:i<256:=by omega
  have:=h (UInt8.ofNat i);rw [show (UInt8.ofNat i).toNat=i by simp;omega,List.getElem?_eq_getElem h1] at this;simpa using this
theorem EkK:CmZ 255=tableL:=list256 _ (BcZ 255) subB fun y=>DoK 255 (Nat.le_refl _) y (by
 by_cases h:y=0
 ·exact .inl h
 ·exact .inr (gen3 y h))
theorem CuW (y:UInt8):tableL.getD y.toNat 0=subB y:=by
 have:=y.toNat_lt
 simp [tableL,List.getD,this]
open Tryz
open Go.RowKit
theorem at_any (r c:Nat) (w:World) (hr:r<4) (hc:c≤1000) :
  Calls prog 191 #[.int .i64 (r:Int),.int .i64 (c:Int)] w fun e w'=>e=.returned (.int .i64 ((4*(c % 4)+r:Nat):Int))∧w=w':=by
 go_enter func191,ntmps191
 go_wp2
 go_ret
 exact ⟨BaV (by omega),rfl⟩
theorem at_of (r p:Nat) (C Z:Int) (c:Nat) (w:World) (hr:r<4) (hc:c≤1000) (hC:(c:Int)=C) (hZ:((4*(c % 4)+r:Nat):Int)=Z) :
  Calls prog 191 #[.int .i64 (r:Int),.int .i64 C] w fun e w'=>e=.returned (.int .i64 Z)∧w=w':=by
 subst hC;subst hZ;exact at_any r c w hr hc
theorem DzQ (t b:YB) (x:UInt8):ArK t (b++[x])=ArK t b++[t.getD x.toNat 0]:=by simp [ArK]
theorem DoQ (A T:YA) (n c ct:Nat) (l t:YB) (w:World) (h:RB w w.heap.size A n l) (ht:RB w w.heap.size T 256 t) (hn:n≤70368744177664) :
  Calls prog 161 #[.slice A n c,.slice T 256 ct] w (RetB n (ArK t l) w):=by
 go_enter func161,ntmps161
 go_wp2
 go_loopw [5,6] (fun v i wr=>∃ (k c1:Nat) (A1:YA),k≤n∧i=.int .i64 k∧v=.slice A1 k c1∧Hid (OwnB wr w.heap.size A1 k c1 (ArK t (l.take k)))∧Hid (Below w.heap.size w wr)) (fun _ i _=>n - (intOf i).toNat)
 case atStart=>exact ⟨0,0,_,Nat.zero_le _,rfl,rfl,η (OwnB.lit w _ [] #[] 0 rfl rfl (by unfold maxLen;omega) (Nat.le_refl _)),η ((Below.refl _ _).alloc (Nat.le_refl _) _)⟩
 case round =>
  obtain ⟨k,c1,A1,hk,rfl,rfl,hown,hbel⟩:=hrel;have hsz:=hbel.o.size;by_cases hlt:k<n
  ·obtain ⟨b,o,rfl,hb,x,hx,hc⟩:=(h.below hbel.o).at_ hlt
   have hxl:=x.toNat_lt;have hxi:=AeZ x;obtain ⟨b2,o2,rfl,hb2,y,hy,hc2⟩:=(ht.below hbel.o).at_ (show x.toNat<256 by omega);have HX:=η hx;have HY:=η hy;have hr1:=RB.new wr [y] #[.int .u8 (y.toNat:Int)] 5 rfl;have ho1:=hown.o.alloc (.cells #[.int .u8 (y.toNat:Int)] 5);clear hx hy;go_wp2_with (at_builtin;refine AcQ rfl (.tmp 14) (.tmp 22) rfl w.heap.size _ _ _ _ rfl (by exact ho1) (wr.heap.size+1) (some ⟨wr.heap.size,0,none⟩) 1 1 [y] rfl (by exact hr1) (by omega) (by simp;omega) ?_;intro A2 c2 w2 hown2 _ hb3);go_roundw
   case rel =>
    refine ⟨k+1,c2,A2,by omega,by go_num,rfl,η ?_,η ((hbel.o.alloc hsz _).trans hb3)⟩;rw [AgY HX.o,DzQ,show t.getD x.toNat 0=y by simp [List.getD,HY.o]];exact hown2
   case measure=>simp [intOf];omega
  ·obtain rfl:k=n:=by omega
   have hl:l.take k=l:=List.take_of_length_le (by have:=h.len;omega);have HL:=η hl;clear hl;go_wp2;go_ret;exact ⟨A1,c1,rfl,by rw [←HL.o];exact hown.o,hbel.o⟩
theorem BlZ (A A':YA) (n c c':Nat) (l l':YB) (w:World) (h:RB w w.heap.size A n l) (h':RB w w.heap.size A' n l') (hn:n≤70368744177664) :
  Calls prog 159 #[.slice A n c,.slice A' n c'] w (RetB n (xorL l l') w):=by
 go_enter func159,ntmps159
 go_wp2
 go_loopw [5,6] (fun v i wr=>∃ (k c1:Nat) (A1:YA),k≤n∧i=.int .i64 k∧v=.slice A1 k c1∧OwnB wr w.heap.size A1 k c1 (xorL (l.take k) (l'.take k))∧Below w.heap.size w wr) (fun _ i _=>n - (intOf i).toNat)
 case atStart=>exact ⟨0,0,_,Nat.zero_le _,rfl,rfl,OwnB.lit w _ [] #[] 0 rfl rfl (by unfold maxLen;omega) (Nat.le_refl _),(Below.refl _ _).alloc (Nat.le_refl _) _⟩
 case round =>
  obtain ⟨k,c1,A1,hk,rfl,rfl,hown,hbel⟩:=hrel;have hsz:=hbel.size;by_cases hlt:k<n
  ·obtain ⟨b,o,rfl,hb,x,hx,hc⟩:=(h.below hbel).at_ hlt
   obtain ⟨b2,o2,rfl,hb2,y,hy,hc2⟩:=(h'.below hbel).at_ hlt;have HX:=η hx;have HY:=η hy;have hxy:=AlQ x y;obtain ⟨z,HZ⟩:∃ z,Hid (z=x ^^^ y):=⟨_,η rfl⟩;rw [←HZ.o] at hxy;clear hx hy;go_wp2;go_region_law (refine DoW rfl (.tmp 14) (.tmp 24) rfl w.heap.size _ _ _ _ rfl (hown.alloc _).drew (wr.heap.size+1) (some ⟨wr.heap.size,0,none⟩) 1 1 [z] rfl (RB.new wr [z] _ _ (by rfl)).drew (by omega) (by simp;omega) ?_;intro A2 c2 w2 hown2 _ hb3)
   all_goals
    go_wp2
    go_roundw
    case rel =>
     refine ⟨k+1,c2,A2,by omega,by go_num,rfl,?_,(hbel.alloc hsz _).drew.trans hb3⟩;rw [AgY HX.o,AgY HY.o,BxW _ _ _ _ (by rw [List.length_take,List.length_take,h.len,h'.len]),←HZ.o];exact hown2
    case measure=>simp [intOf];omega
  ·obtain rfl:k=n:=by omega
   go_wp2;go_ret;exact ⟨A1,c1,rfl,by rw [List.take_of_length_le (by have:=h.len;omega),List.take_of_length_le (by have:=h'.len;omega)] at hown;exact hown,hbel⟩
open Go.RowKit
def rowP (r c p:Nat):Bool:=decide (p % 4<r) || (p % 4 == r && decide (p / 4<c))
theorem EoK (r c p:Nat) (hr:r<4) (hc:c<4) (hp:p<16):rowP r (c+1) p=(rowP r c p || p == 4*c+r):=by
 unfold rowP
 rw [Bool.eq_iff_iff]
 simp
 omega
theorem EoJ (r p:Nat) (hp:p<16):rowP r 4 p=rowP (r+1) 0 p:=by
 unfold rowP
 rw [Bool.eq_iff_iff]
 simp
 omega
theorem CdX (P P':Nat→Bool) (F:Nat→UInt8) (h:∀ p,p<16→P p=P' p):AmX P F=AmX P' F:=by
 unfold AmX
 apply List.map_congr_left
 intro p hp
 rw [h p (List.mem_range.1 hp)]
theorem rows_any (A:YA) (c0 m:Nat) (l:YB) (w:World) (h:RB w w.heap.size A 16 l) (hm:m≤3) :
  Calls prog 160 #[.slice A 16 c0,.int .i64 (m:Int)] w (RetB 16 (BbY l m) w):=by
 obtain ⟨F,HF⟩:∃ F,Hid (F=rowF l m):=⟨_,η rfl⟩
 go_enter func160,ntmps160
 go_wp2_with (at_make;refine AjY rfl _ _ rfl w.heap.size .i64 .i64 16 16 16 rfl rfl rfl rfl (by omega) (Nat.le_refl _) ?_;intro w1 hown1 hs1 hb1)
 have HO1:Hid (OwnB w1 w.heap.size (some ⟨w.heap.size,0,none⟩) 16 16 (AmX (rowP 0 0) F)):=η (by
  rw [←BsV (rowP 0 0) F (fun p _=>by unfold rowP;simp)]
  exact hown1)
 have HB1:=η hb1
 clear hown1 hs1 hb1
 go_loopw [6] (fun i wr=>∃ r:Nat,r≤4∧i=.int .i64 r∧Hid (OwnB wr w.heap.size (some ⟨w.heap.size,0,none⟩) 16 16 (AmX (rowP r 0) F))∧Hid (Below w.heap.size w wr)) (fun i _=>4 - (intOf i).toNat)
 case atStart=>exact ⟨0,by omega,rfl,HO1,HB1⟩
 case round =>
  obtain ⟨r,hr,rfl,ho,hb⟩:=hrel;clear HO1 HB1;by_cases hlt:r<4
  ·obtain ⟨q,HQ,hq9⟩:∃ q:Nat,Hid (q=m*r)∧q≤9:=⟨_,η rfl,Nat.le_trans (Nat.mul_le_mul hm (show r≤3 by omega)) (by omega)⟩
   have hq:(m:Int)*(r:Int)=(q:Int):=by rw [HQ.o];simp
   have hd:decide ((r:Int)<4)=true:=decide_eq_true (by omega);go_wp2
   go_loopw [7] (fun i wr=>∃ c:Nat,c≤4∧i=.int .i64 c∧Hid (OwnB wr w.heap.size (some ⟨w.heap.size,0,none⟩) 16 16 (AmX (rowP r c) F))∧Hid (Below w.heap.size w wr)) (fun i _=>4 - (intOf i).toNat)
   case atStart=>exact ⟨0,by omega,rfl,ho,hb⟩
   case round =>
    obtain ⟨c,hc,rfl,ho,hb⟩:=hrel;by_cases hlt2:c<4
    ·obtain ⟨k,HK,hk16⟩:∃ k:Nat,Hid (k=4*c+r)∧k<16:=⟨_,η rfl,by omega⟩
     obtain ⟨s,HS,hs16⟩:∃ s:Nat,Hid (s=4*((c+q) % 4)+r)∧s<16:=⟨_,η rfl,by omega⟩;obtain ⟨b,o,rfl,hbb,x,hx,hcx⟩:=(h.below hb.o).at_ hs16;have hxi:=AeZ x
     have hFk:F k=x:=by
      rw [HF.o];unfold rowF;rw [show k / 4=c by rw [HK.o];omega,show k % 4=r by rw [HK.o];omega,←HQ.o,←HS.o];simp [List.getD,hx]
     have HFK:=η hFk;have hcell:=ho.o.cellAt (j:=k) (x:=(AmX (rowP r c) F)[k]'(by rw [AuZ];omega)) (List.getElem?_eq_getElem (by rw [AuZ];omega));have hfree:=ho.o.freeAt k;clear hx hFk;go_wp2_with fail;refine (at_of r 0 _ (k:Int) c _ hlt (by omega) rfl (by rw [HK.o];omega)).mono ?_;rintro e w2 ⟨rfl,rfl⟩;go_wp2_with fail;refine (at_of r 0 _ (s:Int) (c+q) _ hlt (by omega) (by omega) (by rw [HS.o])).mono ?_;rintro e w2 ⟨rfl,rfl⟩;go_wp2;go_roundw
     case rel =>
      have hset:=ho.o.stored k x _ rfl;rw [←HFK.o,CdW _ (rowP r (c+1)) F k hk16 (fun p hp=>by rw [HK.o];exact EoK r c p hlt hlt2 hp),HFK.o] at hset;exact ⟨c+1,by omega,by go_num,η hset,η (hb.o.setCell (show w.heap.size≤w.heap.size from Nat.le_refl _) _)⟩
     case measure=>simp [intOf];omega
    ·obtain rfl:4=c:=by omega
     have e4:((4:Nat):Int)=4:=rfl;rw [e4];clear e4;go_wp2;go_roundw
     case rel =>
      have ho2:=ho.o;rw [CdX _ (rowP (r+1) 0) F (fun p hp=>EoJ r p hp)] at ho2;exact ⟨r+1,by omega,by go_num,η ho2,hb⟩
     case measure=>simp [intOf];omega
  ·obtain rfl:4=r:=by omega
   go_wp2;go_ret;have ho2:=ho.o;rw [CdY _ F (fun p hp=>by unfold rowP;simp;omega),HF.o] at ho2;exact ⟨_,_,rfl,ho2,hb.o⟩
theorem rows_lit (A:YA) (c0 m:Nat) (M:Int) (l:YB) (w:World) (hM:(m:Int)=M) (h:RB w w.heap.size A 16 l) (hm:m≤3) :
  Calls prog 160 #[.slice A 16 c0,.int .i64 M] w (RetB 16 (BbY l m) w):=by subst hM;exact rows_any A c0 m l w h hm
def colP (c r p:Nat):Bool:=decide (p / 4<c) || (p / 4 == c && decide (p % 4<r))
theorem EzW (c r p:Nat) (hr:r<4) (hc:c<4) (hp:p<16):colP c (r+1) p=(colP c r p || p == 4*c+r):=by
 unfold colP
 rw [Bool.eq_iff_iff]
 simp
 omega
theorem EzV (c p:Nat) (hp:p<16):colP c 4 p=colP (c+1) 0 p:=by
 unfold colP
 rw [Bool.eq_iff_iff]
 simp
 omega
theorem DlW (A:YA) (c0:Nat) (l:YB) (f0 f1 f2 f3:UInt8) (w:World) (h:RB w w.heap.size A 16 l) :
  Calls prog 162 #[.slice A 16 c0,.agg #[.int .u8 (f0.toNat:Int),.int .u8 (f1.toNat:Int),.int .u8 (f2.toNat:Int),.int .u8 (f3.toNat:Int)]] w (RetB 16 (AkV l [f0,f1,f2,f3]) w):=by
 obtain ⟨fl,HFL⟩:∃ fl:List UInt8,Hid (fl=[f0,f1,f2,f3]):=⟨_,η rfl⟩
 obtain ⟨F,HF⟩:∃ F,Hid (F=colF l fl):=⟨_,η rfl⟩
 obtain ⟨g0,HG0⟩:∃ g0,Hid (g0=w.heap.size):=⟨_,η rfl⟩
 rw [←HFL.o]
 go_enter func162,ntmps162
 go_wp2_with (at_make;refine AjY rfl _ _ rfl w.heap.size .i64 .i64 16 16 16 rfl rfl rfl rfl (by omega) (by simp) ?_;intro w1 hown1 hs1 hb1)
 have hcf:=(Cells.new w #[.int .u8 (f0.toNat:Int),.int .u8 (f1.toNat:Int),.int .u8 (f2.toNat:Int),.int .u8 (f3.toNat:Int)] 230 4 rfl (fun j=>bv (fl.getD j 0)) (fun j hj=>by
  rw [HFL.o]
  rcases (show j=0∨j=1∨j=2∨j=3 by omega) with rfl | rfl | rfl | rfl <;> rfl) w.heap.size rfl).below hb1 (by simp)
 have hown2:OwnB w1 w.heap.size (some ⟨w.heap.size+1,0,none⟩) 16 16 (AmX (colP 0 0) F):=by
  rw [←BsV (colP 0 0) F (fun p _=>by unfold colP;simp)];simpa using hown1
 have hbel:Below w.heap.size w w1:=((Below.refl _ _).alloc (Nat.le_refl _) _).trans (hb1.mono (by simp))
 have HCF:=η hcf
 have HO1:=η hown2
 have HB1:=η hbel
 clear hcf hown1 hown2 hs1 hb1 hbel
 rw [←HG0.o] at HCF HO1 HB1
 rw [←HG0.o]
 go_loopw [6] (fun i wr=>∃ c:Nat,c≤4∧i=.int .i64 c∧Hid (Cells wr g0 4 (fun j=>bv (fl.getD j 0)))∧Hid (OwnB wr g0 (some ⟨g0+1,0,none⟩) 16 16 (AmX (colP c 0) F))∧Hid (Below g0 w wr)) (fun i _=>4 - (intOf i).toNat)
 case atStart=>exact ⟨0,by omega,rfl,HCF,HO1,HB1⟩
 case round =>
  obtain ⟨c,hc,rfl,hf,ho,hb⟩:=hrel;clear HCF HO1 HB1;by_cases hlt:c<4
  ·have hdc:decide ((c:Int)<4)=true:=decide_eq_true (by omega)
   go_wp2
   go_loopw [7] (fun i wr=>∃ r:Nat,r≤4∧i=.int .i64 r∧Hid (Cells wr g0 4 (fun j=>bv (fl.getD j 0)))∧Hid (OwnB wr g0 (some ⟨g0+1,0,none⟩) 16 16 (AmX (colP c r) F))∧Hid (Below g0 w wr)) (fun i _=>4 - (intOf i).toNat)
   case atStart=>exact ⟨0,by omega,rfl,hf,ho,hb⟩
   case round =>
    obtain ⟨r,hr,rfl,hf,ho,hb⟩:=hrel;by_cases hlt2:r<4
    ·have hdr:decide ((r:Int)<4)=true:=decide_eq_true (by omega)
     go_wp2
     go_loopw [8,9] (fun v i wr=>∃ k:Nat,k≤4∧i=.int .i64 k∧v=.int .u8 ((AvV l fl c r k).toNat:Int)∧Hid (Cells wr g0 4 (fun j=>bv (fl.getD j 0)))∧Hid (OwnB wr g0 (some ⟨g0+1,0,none⟩) 16 16 (AmX (colP c r) F))∧Hid (Below g0 w wr)) (fun _ i _=>4 - (intOf i).toNat)
     case atStart=>exact ⟨0,by omega,rfl,rfl,hf,ho,hb⟩
     case round =>
      obtain ⟨k,hk,rfl,rfl,hf,ho,hb⟩:=hrel;by_cases hlt3:k<4
      ·obtain ⟨e,HE,he4⟩:∃ e:Nat,Hid (e=(k+4 - r) % 4)∧e<4:=⟨_,η rfl,Nat.mod_lt _ (by omega)⟩
       have hcf:=hf.o.cell he4;obtain ⟨fe,HFE⟩:∃ fe,Hid (fe=fl.getD e 0):=⟨_,η rfl⟩;rw [←HFE.o] at hcf;unfold bv at hcf;obtain ⟨s,HS,hs16⟩:∃ s:Nat,Hid (s=4*c+k)∧s<16:=⟨_,η rfl,by omega⟩;obtain ⟨b,o,rfl,hbb,x,hx,hcx⟩:=(h.below (by rw [HG0.o] at hb;exact hb.o)).at_ hs16;have hxi:=AeZ x;have hfi:=AeZ fe;have hxor:=AlQ (AvV l fl c r k) (mulB fe x)
       have hnext:AvV l fl c r (k+1)=AvV l fl c r k ^^^ mulB fe x:=by
        rw [AvV,←HE.o,←HFE.o,←HS.o];simp [List.getD,hx]
       have HN:=η hnext;have hw1:IntKind.i64.wrap ((k:Int)+4)=(k:Int)+4:=IntWalk.i64_in _ (by omega);have hw2:IntKind.i64.wrap ((k:Int)+4 - (r:Int))=(k:Int)+4 - (r:Int):=IntWalk.i64_in _ (by omega);have hw3:Int.tmod ((k:Int)+4 - (r:Int)) 4=(e:Int):=by rw [HE.o,Int.tmod_eq_emod_of_nonneg (by omega)];omega
       have hw4:((k:Int)+4 - (r:Int)) % 4=(e:Int):=by rw [HE.o];omega
       clear hx hnext;go_wp2_with fail;go_quiet ((first | (go_at_call 191;exact CiZ (at_of k 0 _ (s:Int) c _ hlt3 (by omega) rfl (by rw [HS.o];omega))) | (go_at_call 163;exact CiZ (CnX _ _ _))));go_wp2;go_roundw
       case rel=>exact ⟨k+1,by omega,by go_num,by rw [HN.o,UInt8.toNat_xor],η (hf.o.drewN _),η (ho.o.drewN _),η (AdV hb.o _)⟩
       case measure=>simp [intOf];omega
      ·obtain rfl:4=k:=by omega
       have e4:((4:Nat):Int)=4:=rfl;rw [e4];clear e4;obtain ⟨s,HS,hs16⟩:∃ s:Nat,Hid (s=4*c+r)∧s<16:=⟨_,η rfl,by omega⟩;obtain ⟨v,HV⟩:∃ v,Hid (v=AvV l fl c r 4):=⟨_,η rfl⟩;rw [←HV.o]
       have hFs:F s=v:=by
        rw [HF.o,HV.o];unfold colF;rw [show s / 4=c by rw [HS.o];omega,show s % 4=r by rw [HS.o];omega]
       have HFS:=η hFs;have hcell:=ho.o.cellAt (j:=s) (x:=(AmX (colP c r) F)[s]'(by rw [AuZ];omega)) (List.getElem?_eq_getElem (by rw [AuZ];omega));have hfree:=ho.o.freeAt s;clear hFs;go_wp2_with fail;refine (at_of r 0 _ (s:Int) c _ hlt2 (by omega) rfl (by rw [HS.o];omega)).mono ?_;rintro e w2 ⟨rfl,rfl⟩;go_wp2;go_roundw
       case rel =>
        have hset:=ho.o.stored s v _ rfl;rw [←HFS.o,CdW _ (colP c (r+1)) F s hs16 (fun p hp=>by rw [HS.o];exact EzW c r p hlt2 hlt hp),HFS.o] at hset;exact ⟨r+1,by omega,by go_num,η (hf.o.other (a:=⟨g0+1,s,none⟩) (show g0+1≠g0 by omega) _),η hset,η (hb.o.setCell (show g0≤g0+1 by omega) _)⟩
       case measure=>simp [intOf];omega
    ·obtain rfl:4=r:=by omega
     have e4:((4:Nat):Int)=4:=rfl;rw [e4];clear e4;go_wp2;go_roundw
     case rel =>
      have ho2:=ho.o;rw [CdX _ (colP (c+1) 0) F (fun p hp=>EzV c p hp)] at ho2;exact ⟨c+1,by omega,by go_num,hf,η ho2,hb⟩
     case measure=>simp [intOf];omega
  ·obtain rfl:4=c:=by omega
   go_wp2;go_ret;have ho2:=ho.o;rw [CdY _ F (fun p hp=>by unfold colP;simp;omega),HF.o,HG0.o] at ho2;refine ⟨_,_,rfl,?_,by rw [←HG0.o];exact hb.o⟩;rw [←HG0.o] at ho2 ⊢;exact ho2
open Go.RowKit
theorem getAt (l:YB) (n k:Nat) (hl:l.length=n) (hk:k<n):∃ x,l[k]?=some x:=⟨l[k]'(by omega),List.getElem?_eq_getElem (by omega)⟩
theorem CwX (X Z:Int) (x:UInt8) (hx:(x.toNat:Int)=X) (hz:((BjK x).toNat:Int)=Z) (w:World) :
  Calls prog 164 #[.int .u8 X] w fun e w'=>e=.returned (.int .u8 Z)∧w=w':=by subst hx;subst hz;exact EnX x w
theorem rmul_lit (X Y Z:Int) (x y:UInt8) (hx:(x.toNat:Int)=X) (hy:(y.toNat:Int)=Y) (hz:((mulB x y).toNat:Int)=Z) (w:World) :
  Calls prog 163 #[.int .u8 X,.int .u8 Y] w fun e w'=>e=.returned (.int .u8 Z)∧w=w':=by subst hx;subst hy;subst hz;exact CnX x y w
def BzW (k:Nat):List UInt8:=(List.range k).map (powN 3)
theorem DfZ (k:Nat):BzW (k+1)=BzW k++[powN 3 k]:=by simp [BzW,List.range_succ]
theorem CuQ (k j:Nat) (h:j<k):(BzW k)[j]?=some (powN 3 j):=by simp [BzW,h]
theorem CuV (w:World):Calls prog 132 #[] w (RetB 256 tableL w):=by
 obtain ⟨U,HU⟩:∃ U:Nat→List UInt8,Hid (U=CmZ):=⟨_,η rfl⟩
 obtain ⟨P,HP⟩:∃ P:Nat→UInt8,Hid (P=powN 3):=⟨_,η rfl⟩
 obtain ⟨Z,HZ⟩:∃ Z:UInt8,Hid (Z=BjK 0):=⟨_,η rfl⟩
 go_enter func132,ntmps132
 go_wp2_with fail
 go_loopw [1,2] (fun v i wr=>∃ (k c1:Nat) (A1:YA),k≤254∧i=.int .i64 ((k:Int)+1)∧v=.slice A1 (k+1) c1∧Hid (OwnB wr w.heap.size A1 (k+1) c1 (BzW (k+1)))∧Hid (Below w.heap.size w wr)) (fun _ i _=>255 - (intOf i).toNat)
 case atStart=>exact ⟨0,1,_,by omega,rfl,rfl,η (OwnB.lit w _ (BzW 1) #[.int .u8 1] 1 rfl rfl (by unfold maxLen;omega) (Nat.le_refl _)),η (AaK _ _)⟩
 case round =>
  obtain ⟨k,c1,A1,hk,rfl,rfl,ho,hb⟩:=hrel;have hsz:=hb.o.size;by_cases hlt:k<254
  ·obtain ⟨g,rfl,hg1,hg2⟩:=ho.o.form (by omega)
   have hcell:=ho.o.cellAt (CuQ (k+1) k (by omega));rw [←HP.o] at hcell;have hpi:=AeZ (P k);obtain ⟨y,HY⟩:∃ y,Hid (y=powN 3 (k+1)):=⟨_,η rfl⟩;go_wp2_with fail;refine (rmul_lit _ 3 (y.toNat:Int) (P k) 3 rfl rfl (by rw [HY.o,HP.o,AyV]) _).mono ?_;rintro e w2 ⟨rfl,rfl⟩;have hr1:=RB.new wr [y] #[.int .u8 (y.toNat:Int)] 5 rfl;have ho1:=ho.o.alloc (.cells #[.int .u8 (y.toNat:Int)] 5);go_wp2_with (at_builtin;refine AcQ rfl (.tmp 10) (.tmp 17) rfl w.heap.size _ _ _ _ rfl (by exact ho1) (wr.heap.size+1) (some ⟨wr.heap.size,0,none⟩) 1 1 [y] rfl (by exact hr1) (by omega) (by simp;omega) ?_;intro A2 c2 w2 hown2 _ hb3);go_roundw
   case rel =>
    refine ⟨k+1,c2,A2,by omega,by go_num,rfl,η ?_,η ((hb.o.alloc hsz _).trans hb3)⟩;rw [DfZ (k+1),←HY.o];exact hown2
   case measure=>simp [intOf];omega
  ·obtain rfl:254=k:=by omega
   obtain ⟨gp,rfl,hg1,hg2⟩:=ho.o.form (by omega)
   have hpc:Cells wr gp 255 (fun j=>bv (P j)):=fun j hj=>⟨by
    have:=ho.o.cellAt (CuQ 255 j hj)
    rw [HP.o]
    exact this,ho.o.freeAt j⟩
   have HPC:=η hpc;obtain ⟨g2,HG2⟩:∃ g2,Hid (g2=wr.heap.size):=⟨_,η rfl⟩;have e254:((254:Nat):Int)+1=255:=rfl;rw [e254];clear hpc e254 ho;go_wp2_with (at_make;refine AjY rfl _ _ rfl w.heap.size .i64 .i64 256 256 256 rfl rfl rfl rfl (by omega) hsz ?_;intro w1 hown1 hs1 hb1);refine (CwX 0 (Z.toNat:Int) 0 rfl (by rw [HZ.o]) _).mono ?_;rintro e w2 ⟨rfl,rfl⟩;rw [←HG2.o] at hown1;rw [←HG2.o];have hne:gp≠g2:=by rw [HG2.o];omega
   have hg2w:w.heap.size≤g2:=by rw [HG2.o];exact hsz
   have hcell0:=hown1.cellAt (j:=0) (x:=0) (by rw [List.getElem?_replicate,if_pos (by omega)]);have hfree0:=hown1.freeAt 0;have HPC1:=η (HPC.o.below hb1 (by rw [←HG2.o];exact (by rw [HG2.o];exact hg2)));have HO1:=η hown1;have HB1:=η (hb.o.trans (hb1.mono hsz));clear hown1 hs1 hb1 HPC;go_wp2_with fail
   go_loopw [4] (fun i ws=>∃ k:Nat,k≤255∧i=.int .i64 k∧Hid (OwnB ws w.heap.size (some ⟨g2,0,none⟩) 256 256 (U k))∧Hid (Cells ws gp 255 (fun j=>bv (P j)))∧Hid (Below w.heap.size w ws)) (fun i _=>255 - (intOf i).toNat)
   case atStart =>
    have hset:=HO1.o.stored 0 Z _ rfl;have hu0:(List.replicate 256 (0:UInt8)).set 0 Z=U 0:=by rw [HU.o,HZ.o];rfl
    rw [hu0] at hset;exact ⟨0,by omega,rfl,η hset,η (HPC1.o.other (a:=⟨g2,0,none⟩) (fun e=>hne e.symm) _),η (HB1.o.setCell hg2w _)⟩
   case round =>
    obtain ⟨k,hk,rfl,ho,hpc,hbs⟩:=hrel;clear HO1 HB1 HPC1 hcell0 hfree0;by_cases hlt2:k<255
    ·obtain ⟨e,HE,he⟩:∃ e:Nat,Hid (e=(255 - k) % 255)∧e<255:=⟨_,η rfl,Nat.mod_lt _ (by omega)⟩
     have hp1:=hpc.o.cell hlt2;have hp2:=hpc.o.cell he;obtain ⟨x,HX⟩:∃ x,Hid (x=P k):=⟨_,η rfl⟩;obtain ⟨y,HY⟩:∃ y,Hid (y=P e):=⟨_,η rfl⟩;rw [←HX.o] at hp1;rw [←HY.o] at hp2;unfold bv at hp1 hp2;have hxi:=AeZ x;have hxl:=x.toNat_lt;have hyi:=AeZ y;have hcell:=ho.o.cellAt (j:=x.toNat) (x:=(U k)[x.toNat]'(by rw [HU.o,BcZ];omega)) (List.getElem?_eq_getElem (by rw [HU.o,BcZ];omega));have hfree:=ho.o.freeAt x.toNat;have hw1:IntKind.i64.wrap (255 - (k:Int))=255 - (k:Int):=IntWalk.i64_in _ (by omega);have hw3:Int.tmod (255 - (k:Int)) 255=(e:Int):=by rw [HE.o,Int.tmod_eq_emod_of_nonneg (by omega)];omega
     have hw4:(255 - (k:Int)) % 255=(e:Int):=by rw [HE.o];omega
     obtain ⟨v,HV⟩:∃ v,Hid (v=BjK y):=⟨_,η rfl⟩;go_wp2_with fail;go_region_with (go_at_call 164;refine (CwX _ (v.toNat:Int) y rfl (by rw [HV.o]) _).mono ?_;rintro e w2 ⟨rfl,rfl⟩)
     all_goals
      go_wp2
      go_roundw
      case rel =>
       have hset:=(ho.o.stored x.toNat v _ rfl).drew;have hn:(U k).set x.toNat v=U (k+1):=by rw [HU.o,HX.o,HV.o,HY.o,HP.o,HE.o];rfl
       rw [hn] at hset;exact ⟨k+1,by omega,by go_num,η hset,η (hpc.o.other (a:=⟨g2,x.toNat,none⟩) (fun e=>hne e.symm) _).drew,η (hbs.o.setCell hg2w _).drew⟩
      case measure=>simp [intOf];omega
    ·obtain rfl:255=k:=by omega
     go_wp2;go_ret;have ho2:=ho.o;rw [HU.o,EkK] at ho2;exact ⟨_,_,rfl,ho2,hbs.o⟩
def AkX (key:YB):List (YB):=(List.range 4).map fun i=>(key.take (4*i+4)).drop (4*i)
def AvQ (t w:YB) (r:Nat):List UInt8:=(ArK t [w.getD 1 0,w.getD 2 0,w.getD 3 0,w.getD 0 0]).set 0 ((ArK t [w.getD 1 0,w.getD 2 0,w.getD 3 0,w.getD 0 0]).getD 0 0 ^^^ powN 2 r)
def BzJ (t w:YB) (i:Nat):List UInt8:=if i % 4=0 then AvQ t w (i / 4 - 1) else w
def AcV (key t:YB):Nat→List (YB)
 | 0=>AkX key
 | k+1=>AcV key t k++[xorL ((AcV key t k).getD k []) (BzJ t ((AcV key t k).getD (k+3) []) (k+4))]
theorem AqK (key t:YB) (k:Nat):AcV key t (k+1)=AcV key t k++[xorL ((AcV key t k).getD k []) (BzJ t ((AcV key t k).getD (k+3) []) (k+4))]:=rfl
theorem BzV (t w:YB) (r:Nat):(AvQ t w r).length=4:=by simp [AvQ,ArK]
theorem ApJ (key t:YB):∀ k,(AcV key t k).length=k+4
 | 0=>by simp [AcV,AkX]
 | k+1=>by rw [AqK,List.length_append,ApJ key t k];simp
theorem AoZ (key t:YB) (hk:key.length=16):∀ (k i:Nat) (p:YB),(AcV key t k)[i]?=some p→p.length=4
 | 0,i,p,h=>by
  simp only [AcV,AkX,List.getElem?_map,Option.map_eq_some_iff] at h;obtain ⟨j,hj,rfl⟩:=h;have:=List.getElem?_eq_some_iff.1 hj;obtain ⟨h1,h2⟩:=this;simp at h1 h2;simp [hk]
  omega
 | k+1,i,p,h=>by
  rw [AqK] at h;have hl:=ApJ key t k;rcases Nat.lt_or_ge i (k+4) with hi | hi
  ·rw [List.getElem?_append_left (by omega)] at h
   exact AoZ key t hk k i p h
  ·rw [List.getElem?_append_right (by omega)] at h
   have hi0:i - (AcV key t k).length=0:=by
    have:=(List.getElem?_eq_some_iff.1 h).1;simp at this;omega
   rw [hi0] at h;simp only [List.getElem?_cons_zero,Option.some.injEq] at h;subst h
   have g:∀ j,j<k+4→((AcV key t k).getD j []).length=4:=fun j hj=>by
    have h2:(AcV key t k)[j]?=some ((AcV key t k).getD j []):=by rw [List.getD_eq_getElem?_getD,List.getElem?_eq_getElem (by omega)];rfl
    exact AoZ key t hk k j _ h2
   rw [AsK]
   ·exact g k (by omega)
   ·rw [g k (by omega)]
    unfold BzJ;split
    ·exact BzV _ _ _
    ·exact g (k+3) (by omega)
def keyF (key t:YB) (i:Nat):List UInt8:=(AcV key t 40).getD (4*i) []++(AcV key t 40).getD (4*i+1) []++(AcV key t 40).getD (4*i+2) []++(AcV key t 40).getD (4*i+3) []
def CpK (key t:YB):List (YB):=(List.range 11).map (keyF key t)
theorem BkX (key t:YB) (hk:key.length=16) (j:Nat) (hj:j<44):((AcV key t 40).getD j []).length=4:=by
 have hl:=ApJ key t 40
 have h2:(AcV key t 40)[j]?=some ((AcV key t 40).getD j []):=by rw [List.getD_eq_getElem?_getD,List.getElem?_eq_getElem (by omega)];rfl
 exact AoZ key t hk 40 j _ h2
theorem AwW (key t:YB) (hk:key.length=16) (i:Nat) (hi:i<11):(keyF key t i).length=16:=by
 unfold keyF
 rw [List.length_append,List.length_append,List.length_append,BkX key t hk _ (by omega),BkX key t hk _ (by omega),BkX key t hk _ (by omega),BkX key t hk _ (by omega)]
def AiY (key t b:YB):Nat→List UInt8
 | 0=>xorL b (keyF key t 0)
 | i+1=>xorL (if i+1<10 then AkV (BbY (ArK t (AiY key t b i)) 1) [2,3,1,1] else BbY (ArK t (AiY key t b i)) 1) (keyF key t (i+1))
def encL (key t b:YB):List UInt8:=AiY key t b 10
def BoJ (key t u b:YB):Nat→List UInt8
 | 0=>b
 | j+1=>ArK u (BbY (if 10 - j<10 then AkV (xorL (BoJ key t u b j) (keyF key t (10 - j))) [14,11,13,9] else xorL (BoJ key t u b j) (keyF key t (10 - j))) 3)
theorem CaZ (b:YB) (m:Nat):(BbY b m).length=16:=by simp [BbY]
theorem DeJ (b f:YB):(AkV b f).length=16:=by simp [AkV]
theorem CeQ (key t b:YB) (hk:key.length=16) (hb:b.length=16) (i:Nat) (hi:i<11):(AiY key t b i).length=16:=by
 cases i with
 | zero=>rw [AiY,AsK _ _ (by rw [AwW key t hk 0 (by omega),hb]),hb]
 | succ i =>
  have h:∀ x y:List UInt8,x.length=16→y.length=16→(if i+1<10 then x else y).length=16:=fun x y hx hy=>by split <;> assumption
  have h2:=h _ _ (DeJ (BbY (ArK t (AiY key t b i)) 1) [2,3,1,1]) (CaZ (ArK t (AiY key t b i)) 1);rw [AiY,AsK _ _ (by rw [AwW key t hk (i+1) hi,h2]),h2]
open Go.RowKit
theorem cut_mul (A:YA) (c k:Nat) (hk:k<4) (hc:16≤c) (W:World):(Instr.slice 41 (.slice A 16 c) (some (.int .i64 (4*(k:Int)))) (some (.int .i64 (4*(k:Int)+4))) none).run prog W=.ok (.slice (cutA A c (4*k)) 4 (c - 4*k)) W:=by
 have h:=DdV A 16 c (4*k) (4*k+4) (by omega) (by omega) W
 rw [show ((4*k:Nat):Int)=4*(k:Int) by omega,show ((4*k+4:Nat):Int)=4*(k:Int)+4 by omega,show 4*k+4 - 4*k=4 by omega] at h
 exact h
theorem rpow_lit (X N Z:Int) (x:UInt8) (n:Nat) (hx:(x.toNat:Int)=X) (hn:(n:Int)=N) (hm:n≤18446744073709551615) (hz:((powN x n).toNat:Int)=Z) (w:World) :
  Calls prog 190 #[.int .u8 X,.int .u64 N] w fun e w'=>e=.returned (.int .u8 Z)∧w=w':=by
 subst hx;subst hn;subst hz
 have h:=rpow_any x n w hm
 rw [powB_eq] at h
 exact h
def RetRows (ps:List (YB)) (w:World) (e:Ending) (w':World):Prop :=
 ∃ A c,e=.returned (.slice A ps.length c)∧OwnR w' w.heap.size A ps.length c ps∧Below w.heap.size w w'
theorem CsZ (key:YB) (k:Nat) (hk:k<4):(AkX key)[k]?=some ((key.take (4*k+4)).drop (4*k)):=by simp [AkX,hk]
theorem ClZ (key:YB):(AkX key).length=4:=by simp [AkX]
def CzZ (ws:List (YB)) (i:Nat):Nat→List UInt8 | 0=>[] | j+1=>CzZ ws i j++ws.getD (4*i+j) []
theorem EdX (key t:YB) (i:Nat):CzZ (AcV key t 40) i 4=keyF key t i:=by simp [CzZ,keyF]
theorem BeV (key t:YB):(CpK key t).length=11:=by simp [CpK]
theorem DtX (key t:YB) (i:Nat) (hi:i<11):(CpK key t)[i]?=some (keyF key t i):=by simp [CpK,hi]
theorem keys_any (A T:YA) (c0 ct:Nat) (key t:YB) (w:World) (h:RB w w.heap.size A 16 key) (hc0:16≤c0) (ht:RB w w.heap.size T 256 t) :
  Calls prog 158 #[.slice A 16 c0,.slice T 256 ct] w (RetRows (CpK key t) w):=by
 have hcut:=cut_mul A c0
 have hkl:=h.len
 have HKL:=η hkl
 have H:=η h
 have HT:=η ht
 obtain ⟨B,HB⟩:∃ B,Hid (B=w.heap.size):=⟨_,η rfl⟩
 have hcut2:=η hcut
 clear hkl h ht hcut
 go_enter func158,ntmps158
 go_wp2_with fail
 have HW0:Hid (OwnR (w.alloc (.cells #[] 41)) B (some ⟨w.heap.size,0,none⟩) 0 0 ((AkX key).take 0)):=η (by rw [HB.o];exact OwnR.lit0 w w.heap.size (Nat.le_refl _))
 have HB0:Hid (Below B w (w.alloc (.cells #[] 41))):=η (by rw [HB.o];exact AaK w _)
 go_loopw [5,6] (fun v i wr=>∃ (k c1:Nat) (A1:YA),k≤4∧i=.int .i64 k∧v=.slice A1 k c1∧Hid (OwnR wr B A1 k c1 ((AkX key).take k))∧Hid (Below B w wr)) (fun _ i _=>4 - (intOf i).toNat)
 case atStart=>exact ⟨0,0,_,by omega,rfl,rfl,HW0,HB0⟩
 case round =>
  obtain ⟨k,c1,A1,hk,rfl,rfl,ho,hb⟩:=hrel;clear HW0 HB0;by_cases hlt:k<4
  ·have hcut:=fun W=>hcut2.o k hlt hc0 W
   have hsz:=hb.o.size;have hBw:B≤wr.heap.size:=by rw [HB.o];exact hsz
   have hpart:=((H.o.below (by rw [←HB.o];exact hb.o)).part (i:=4*k) (j:=4*k+4) (by omega) (by omega) hc0).alloc hsz (.cells #[] 5);rw [show 4*k+4 - 4*k=4 by omega] at hpart;have HP:=η hpart;clear hpart;obtain ⟨q,HQ⟩:∃ q,Hid (q=(key.take (4*k+4)).drop (4*k)):=⟨_,η rfl⟩;rw [←HQ.o] at HP
   go_wp2_with (first
    | (at_builtin;refine AcQ rfl (.tmp 19) (.tmp 26) rfl wr.heap.size (some ⟨wr.heap.size,0,none⟩) 0 0 [] rfl (by exact OwnB.lit wr _ [] _ 0 rfl rfl (by unfold maxLen;omega) (Nat.le_refl _)) w.heap.size (cutA A c0 (4*k)) 4 (c0 - 4*k) q rfl (by exact HP.o) (by omega) (by simp) ?_;intro A2 c2 w2 hown2 _ hb2;have HB2:Hid (Below wr.heap.size wr w2):=η ((AaK wr _).trans hb2);have HQ2:Hid (OwnB w2 wr.heap.size A2 4 c2 q):=η (by simpa using hown2);clear hown2 hb2)
    | (at_builtin;refine AzX rfl (.tmp 18) (.tmp 28) rfl B A1 k c1 ((AkX key).take k) rfl (by exact (ho.o.below HB2.o).below (AaK _ _)) w2.heap.size 1 A2 4 c2 q rfl (by exact BxQ _ _ _) (by exact (HQ2.o.base_le hBw).below (AaK _ _)) (by omega) (by exact Nat.le_trans hBw (Nat.le_trans HB2.o.size (by simp))) ?_;intro A3 c3 w3 hown3 hk3 hb3))
   go_roundw
   case rel =>
    refine ⟨k+1,c3,A3,by omega,by go_num,rfl,η ?_,η (((hb.o.trans (HB2.o.mono hBw)).trans ((AaK w2 _).mono (Nat.le_trans hBw HB2.o.size))).trans hb3)⟩;rw [BvV (CsZ key k hlt),←HQ.o];exact hown3
   case measure=>simp [intOf];omega
  ·obtain rfl:4=k:=by omega
   have HO4:Hid (OwnR wr B A1 (0+4) c1 (AcV key t 0)):=η (by
    have h:=ho.o
    rw [List.take_of_length_le (by rw [ClZ];omega)] at h
    exact h)
   have e4:((4:Nat):Int)=4:=rfl;rw [e4];clear ho e4;go_wp2_with fail
   go_loopw [5,7] (fun v i ws=>∃ (k c1:Nat) (A1:YA),k≤40∧i=.int .i64 ((k:Int)+4)∧v=.slice A1 (k+4) c1∧Hid (OwnR ws B A1 (k+4) c1 (AcV key t k))∧Hid (Below B w ws)) (fun _ i _=>44 - (intOf i).toNat)
   case atStart=>exact ⟨0,c1,A1,by omega,rfl,rfl,HO4,hb⟩
   case round =>
    obtain ⟨k,c2,A2,hk2,rfl,rfl,ho,hbs⟩:=hrel;clear HO4;have hsz:=hbs.o.size;have hBw:B≤wr.heap.size:=by rw [HB.o];exact hsz
    by_cases hlt2:k<40
    ·obtain ⟨g,p,Ai,ci,rfl,hgB,hp,hcp,hop⟩:=ho.o.at_ (k:=k+3) (by omega)
     obtain ⟨g',q,Aj,cj,eg,_,hq,hcq,hoq⟩:=ho.o.at_ (k:=k) (by omega);injection eg with eg;injection eg with eg;subst eg;rw [AoZ key t HKL.o k _ p hp] at hcp hop;rw [AoZ key t HKL.o k _ q hq] at hcq hoq;have HOP:=η hop;have HOQ:=η hoq
     have HNX:Hid (AcV key t (k+1)=AcV key t k++[xorL q (BzJ t p (k+4))]):=η (by
      rw [AqK]
      rw [show (AcV key t k).getD k []=q by simp [List.getD,hq],show (AcV key t k).getD (k+3) []=p by simp [List.getD,hp]])
     clear hp hq hop hoq;by_cases hm:(k+4) % 4=0
     ·have hmi:(((k:Int)+4) % 4 == 0)=true:=by rw [beq_iff_eq];omega
      obtain ⟨s,HS⟩:∃ s:List UInt8,Hid (s=ArK t [p.getD 1 0,p.getD 2 0,p.getD 3 0,p.getD 0 0]):=⟨_,η rfl⟩;obtain ⟨x0,HX0⟩:∃ x0,Hid (x0=s.getD 0 0):=⟨_,η rfl⟩;obtain ⟨r,HR,hr9⟩:∃ r:Nat,Hid (r=(k+4) / 4 - 1)∧r≤9:=⟨_,η rfl,by omega⟩;obtain ⟨z,HZ⟩:∃ z,Hid (z=powN 2 r):=⟨_,η rfl⟩;obtain ⟨y,HY⟩:∃ y,Hid (y=x0 ^^^ z):=⟨_,η rfl⟩;have HTW:Hid (BzJ t p (k+4)=s.set 0 y):=η (by unfold BzJ AvQ;rw [if_pos hm,←HS.o,←HX0.o,←HR.o,←HZ.o,←HY.o]);have hsl:s.length=4:=by rw [HS.o];simp [ArK]
      have hx0s:s[0]?=some x0:=by rw [HX0.o,List.getD_eq_getElem?_getD,List.getElem?_eq_getElem (by omega)];rfl
      have HSL:=η hsl;have HX0S:=η hx0s;have hxy:=AlQ x0 z;rw [←HY.o] at hxy;have hpl:=HOP.o.len;obtain ⟨gp,rfl,_,hgp2⟩:=HOP.o.form (by omega);obtain ⟨a0,ha0⟩:=getAt p 4 0 hpl (by omega);obtain ⟨a1,ha1⟩:=getAt p 4 1 hpl (by omega);obtain ⟨a2,ha2⟩:=getAt p 4 2 hpl (by omega);obtain ⟨a3,ha3⟩:=getAt p 4 3 hpl (by omega);have q0:=HOP.o.cellAt ha0;have q1:=HOP.o.cellAt ha1;have q2:=HOP.o.cellAt ha2;have q3:=HOP.o.cellAt ha3;have HSA:Hid (s=ArK t [a1,a2,a3,a0]):=η (by rw [HS.o];simp [List.getD,ha0,ha1,ha2,ha3])
      have HWZ:Hid (IntKind.u64.wrap (IntKind.i64.wrap (IntKind.i64.wrap (Int.tdiv ((k:Int)+4) 4) - 1))=(r:Int)):=η (by
       rw [Int.tdiv_eq_ediv_of_nonneg (by omega),IntWalk.i64_in (((k:Int)+4) / 4) (by omega),IntWalk.i64_in _ (by omega),IntKind.wrap_u64,HR.o]
       omega)
      have HTR:Hid (RB wr wr.heap.size T 256 t):=η ((HT.o.below (by rw [←HB.o];exact hbs.o)).more hsz);clear hm hsl hx0s hpl ha0 ha1 ha2 ha3
      have keep2:∀ W:World,Below wr.heap.size wr W→W.cell? ⟨gp,0,none⟩=some (.int .u8 (a0.toNat:Int))∧W.cell? ⟨gp,1,none⟩=some (.int .u8 (a1.toNat:Int))∧W.cell? ⟨gp,2,none⟩=some (.int .u8 (a2.toNat:Int))∧W.cell? ⟨gp,3,none⟩=some (.int .u8 (a3.toNat:Int)):=fun W hW =>
       ⟨(hW.cell (p:=⟨gp,0,none⟩) hgp2).trans q0,(hW.cell (p:=⟨gp,1,none⟩) hgp2).trans q1,(hW.cell (p:=⟨gp,2,none⟩) hgp2).trans q2,(hW.cell (p:=⟨gp,3,none⟩) hgp2).trans q3⟩
      have KEEP:=η keep2;clear keep2;go_wp2_with fail
      go_region_held3 (fun w'=>w'.cell? ⟨gp,0,none⟩=some (.int .u8 (a0.toNat:Int))∧w'.cell? ⟨gp,1,none⟩=some (.int .u8 (a1.toNat:Int))∧w'.cell? ⟨gp,2,none⟩=some (.int .u8 (a2.toNat:Int))∧w'.cell? ⟨gp,3,none⟩=some (.int .u8 (a3.toNat:Int))) (go_keep)
       (first | (go_at_call 161;refine (DoQ _ T 4 4 ct [a1,a2,a3,a0] t _ (by exact RB.lit wr.drew [a1,a2,a3,a0] _ 4 _ rfl rfl rfl) (by exact (HTR.o.alloc (Nat.le_refl _) _).more (by simp)) (by omega)).mono ?_;rintro e w2 ⟨A3,c3,rfl,ho3,hb3⟩;have HO3:=η ho3;have HB3:Hid (Below wr.heap.size wr w2):=η ((Below.refl wr.heap.size wr).drew.trans (show Below wr.heap.size wr.drew w2 from (AaK wr.drew _).trans (hb3.mono (by simp))));clear ho3 hb3;obtain ⟨k0,k1,k2,k3⟩:=KEEP.o w2 HB3.o))
      have ho3:=HO3.o;rw [←HSA.o] at ho3;have ho3b:=ho3.base_le (base':=wr.heap.size) (by simp);obtain ⟨g3,rfl,hg3a,hg3b⟩:=ho3b.form (by omega);have c30:=ho3.cellAt HX0S.o;have f30:=ho3.freeAt 0;have HO4:=η ho3b;clear ho3 ho3b HO3 k0 k1 k2 k3;have hxi:=AeZ x0;have hzi:=AeZ z;go_wp2_with fail;go_region_with (go_at_call 190;rw [HWZ.o];refine (rpow_lit 2 _ (z.toNat:Int) 2 r rfl rfl (by omega) (by rw [HZ.o]) _).mono ?_;rintro e w3 ⟨rfl,rfl⟩)
      all_goals
       have HB5:Hid (Below wr.heap.size wr (w2.setCell ⟨g3,0,none⟩ (.int .u8 (y.toNat:Int))).drew):=η (HB3.o.setCell hg3a _).drew
       have HO5:Hid (OwnB (w2.setCell ⟨g3,0,none⟩ (.int .u8 (y.toNat:Int))).drew wr.heap.size (some ⟨g3,0,none⟩) 4 c3 (s.set 0 y)):=η (HO4.o.stored 0 y _ rfl).drew
       have hglt:g<wr.heap.size:=World.block_lt_of_cell? wr _ hcq
       have hcq2:w2.cell? ⟨g,k,none⟩=some (.slice Aj 4 cj):=(HB3.o.cell (p:=⟨g,k,none⟩) hglt).trans hcq
       have hne1:¬g3=g:=by omega
       have hne2:¬g=g3:=by omega
       go_wp2_with fail
       refine (BlZ _ _ 4 _ _ q (s.set 0 y) _ (by exact (HOQ.o.below HB5.o).rb) (by exact HO5.o.rb) (by omega)).mono ?_
       rintro e w4 ⟨A5,c5,rfl,ho6,hb6⟩
       have HO6:=η ho6
       have HB6:Hid (Below wr.heap.size wr w4):=η (HB5.o.trans (hb6.mono HB5.o.size))
       have hsz5:=HB5.o.size
       clear ho6 hb6
       go_wp2_with (at_builtin;refine AzX rfl (.tmp 67) (.tmp 75) rfl B (some ⟨g,0,none⟩) (k+4) c2 (AcV key t k) rfl (by exact (ho.o.below HB6.o).below (AaK _ _)) w4.heap.size 1 A5 4 c5 (xorL q (s.set 0 y)) rfl (by exact BxQ _ _ _) (by exact (HO6.o.base_le (Nat.le_trans hBw hsz5)).below (AaK _ _)) (by omega) (by exact Nat.le_trans hBw (Nat.le_trans HB6.o.size (by simp))) ?_;intro A7 c7 w7 hown7 hk7 hb7)
       go_roundw
       case rel =>
        refine ⟨k+1,c7,A7,by omega,by go_num,by rw [Nat.add_right_comm],η ?_,η (((hbs.o.trans (HB6.o.mono hBw)).trans ((AaK w4 _).mono (Nat.le_trans hBw HB6.o.size))).trans hb7)⟩;rw [HNX.o,HTW.o,Nat.add_right_comm];exact hown7
       case measure=>simp [intOf];omega
     ·have hmi:(((k:Int)+4) % 4 == 0)=false:=by rw [beq_eq_false_iff_ne];omega
      have HTW:Hid (BzJ t p (k+4)=p):=η (by unfold BzJ;rw [if_neg hm]);clear hm;go_wp2_with fail;refine (BlZ _ _ 4 _ _ q p _ (by exact HOQ.o.rb) (by exact HOP.o.rb) (by omega)).mono ?_;rintro e w2 ⟨A3,c3,rfl,ho3,hb3⟩;have HO3:=η ho3;have HB3:=η hb3;clear ho3 hb3;go_wp2_with (at_builtin;refine AzX rfl (.tmp 67) (.tmp 75) rfl B (some ⟨g,0,none⟩) (k+4) c2 (AcV key t k) rfl (by exact (ho.o.below HB3.o).below (AaK _ _)) w2.heap.size 1 A3 4 c3 (xorL q p) rfl (by exact BxQ _ _ _) (by exact (HO3.o.base_le hBw).below (AaK _ _)) (by omega) (by exact Nat.le_trans hBw (Nat.le_trans HB3.o.size (by simp))) ?_;intro A4 c4 w4 hown4 hk4 hb4);go_roundw
      case rel =>
       refine ⟨k+1,c4,A4,by omega,by go_num,by rw [Nat.add_right_comm],η ?_,η (((hbs.o.trans (HB3.o.mono hBw)).trans ((AaK w2 _).mono (Nat.le_trans hBw HB3.o.size))).trans hb4)⟩;rw [HNX.o,HTW.o,Nat.add_right_comm];exact hown4
      case measure=>simp [intOf];omega
    ·obtain rfl:40=k:=by omega
     have e40:((40:Nat):Int)+4=44:=rfl;have HW:Hid (OwnR wr B A2 44 c2 (AcV key t 40)):=η ho.o;have e44:(40:Nat)+4=44:=rfl;rw [e40,e44];clear e40 e44 ho;obtain ⟨w0,ew0⟩:∃ w0:World,w0=wr:=⟨_,rfl⟩;subst ew0;go_wp2_with fail;have HOUT:Hid (OwnR (w0.alloc (.cells #[] 41)) w0.heap.size (some ⟨w0.heap.size,0,none⟩) 0 0 ((CpK key t).take 0)):=η (OwnR.lit0 w0 _ (Nat.le_refl _));have HBO:Hid (Below w0.heap.size w0 (w0.alloc (.cells #[] 41))):=η (AaK w0 _)
     go_loopw [9,10] (fun v i ws=>∃ (i' c9:Nat) (A9:YA),i'≤11∧i=.int .i64 i'∧v=.slice A9 i' c9∧Hid (OwnR ws w0.heap.size A9 i' c9 ((CpK key t).take i'))∧Hid (Below w0.heap.size w0 ws)) (fun _ i _=>11 - (intOf i).toNat)
     case atStart=>exact ⟨0,0,_,by omega,rfl,rfl,HOUT,HBO⟩
     case round =>
      obtain ⟨i,c9,A9,hi,rfl,rfl,hout,hbo⟩:=hrel;clear HOUT HBO;obtain ⟨wo,ewo⟩:∃ wo:World,wo=wr:=⟨_,rfl⟩;subst ewo;have hos:=hbo.o.size;by_cases hlt3:i<11
      ·have hd11:decide ((i:Int)<11)=true:=decide_eq_true (by omega)
       have HK0:Hid (OwnB (wo.alloc (.cells #[] 5)) wo.heap.size (some ⟨wo.heap.size,0,none⟩) 0 0 (CzZ (AcV key t 40) i 0)):=η (OwnB.lit wo _ [] _ 0 rfl rfl (by unfold maxLen;omega) (Nat.le_refl _));have HWO:Hid (OwnR wo B A2 44 c2 (AcV key t 40)):=η (HW.o.below hbo.o);go_wp2_with fail
       go_loopw [11,12] (fun v j wi=>∃ (j' c11:Nat) (A11:YA),j'≤4∧j=.int .i64 j'∧v=.slice A11 (4*j') c11∧Hid (OwnB wi wo.heap.size A11 (4*j') c11 (CzZ (AcV key t 40) i j'))∧Hid (Below wo.heap.size wo wi)) (fun _ j _=>4 - (intOf j).toNat)
       case atStart=>exact ⟨0,0,_,by omega,rfl,rfl,HK0,η (AaK _ _)⟩
       case round =>
        obtain ⟨j,c11,A11,hj,rfl,rfl,hk,hbi⟩:=hrel;clear HK0;have hszi:=hbi.o.size;by_cases hlt4:j<4
        ·obtain ⟨g,p,Ai,ci,rfl,hgB,hp,hcp,hop⟩:=(HWO.o.below hbi.o).at_ (k:=4*i+j) (by omega)
         rw [AoZ key t HKL.o 40 _ p hp] at hcp hop
         have HNX:Hid (CzZ (AcV key t 40) i (j+1)=CzZ (AcV key t 40) i j++p):=η (by
          rw [CzZ,show (AcV key t 40).getD (4*i+j) []=p by simp [List.getD,hp]])
         have hrb:=hop.rb;clear hp hop;go_wp2_with (at_builtin;refine AcQ rfl (.tmp 87) (.tmp 94) rfl wo.heap.size A11 (4*j) c11 _ rfl (by exact hk.o) _ Ai 4 ci p rfl (by exact hrb) (by omega) hszi ?_;intro A12 c12 w12 hown12 _ hb12);go_roundw
         case rel =>
          refine ⟨j+1,c12,A12,by omega,by go_num,by rw [Nat.mul_succ],η ?_,η (hbi.o.trans hb12)⟩;rw [HNX.o,Nat.mul_succ];exact hown12
         case measure=>simp [intOf];omega
        ·obtain rfl:4=j:=by omega
         have e4':((4:Nat):Int)=4:=rfl;rw [e4'];clear e4';have HK4:Hid (OwnB wr wo.heap.size A11 (4*4) c11 (keyF key t i)):=η (by rw [←EdX];exact hk.o);go_wp2_with (at_builtin;refine AzX rfl (.tmp 96) (.tmp 98) rfl w0.heap.size A9 i c9 ((CpK key t).take i) rfl (by exact (hout.o.below hbi.o).below (AaK _ _)) wr.heap.size 1 A11 (4*4) c11 (keyF key t i) rfl (by exact BxQ _ _ _) (by exact (HK4.o.base_le hos).below (AaK _ _)) (by omega) (by exact Nat.le_trans hos (Nat.le_trans hszi (by simp))) ?_;intro A13 c13 w13 hown13 hk13 hb13);go_roundw
         case rel =>
          refine ⟨i+1,c13,A13,by omega,by go_num,rfl,η ?_,η (((hbo.o.trans (hbi.o.mono hos)).trans ((AaK wr _).mono (Nat.le_trans hos hszi))).trans hb13)⟩;rw [BvV (DtX key t i hlt3)];exact hown13
         case measure=>simp [intOf];omega
      ·obtain rfl:11=i:=by omega
       go_wp2;go_ret;have ho2:=hout.o;rw [List.take_of_length_le (by rw [BeV];omega)] at ho2;exact ⟨A9,c9,by rw [BeV];rfl,by rw [BeV];exact ho2.base_le hsz,by rw [←HB.o];exact hbs.o.trans (hbo.o.mono hBw)⟩
open Go.RowKit
theorem DlV (A:YA) (c0:Nat) (l:YB) (F0 F1 F2 F3:Int) (f0 f1 f2 f3:UInt8) (h0:(f0.toNat:Int)=F0) (h1:(f1.toNat:Int)=F1) (h2:(f2.toNat:Int)=F2) (h3:(f3.toNat:Int)=F3) (w:World) (h:RB w w.heap.size A 16 l) :
  Calls prog 162 #[.slice A 16 c0,.agg #[.int .u8 F0,.int .u8 F1,.int .u8 F2,.int .u8 F3]] w (RetB 16 (AkV l [f0,f1,f2,f3]) w):=by
 subst h0;subst h1;subst h2;subst h3;exact DlW A c0 l f0 f1 f2 f3 w h
theorem key_at {wk w:World} {base:Nat} {A:YA} {c:Nat} {key t:YB} (hk:key.length=16) (h:OwnR wk base A 11 c (CpK key t)) (hb:Below wk.heap.size wk w) (i:Nat) (hi:i<11) :
  ∃ g Ai ci,A=some ⟨g,0,none⟩∧w.cell? ⟨g,i,none⟩=some (.slice Ai 16 ci)∧RB w w.heap.size Ai 16 (keyF key t i):=by
 obtain ⟨g,p,Ai,ci,e,_,hp,hc,ho⟩:=(h.below hb).at_ hi
 rw [DtX key t i hi] at hp
 injection hp with hp
 subst hp
 rw [AwW key t hk i hi] at hc ho
 exact ⟨g,Ai,ci,e,hc,ho.rb⟩
theorem DnK (A K T:YA) (c0 ck ct:Nat) (key t b:YB) (w:World) (hk:RB w w.heap.size K 16 key) (hck:16≤ck) (hb:RB w w.heap.size A 16 b) (ht:RB w w.heap.size T 256 t) :
  Calls prog 131 #[.slice K 16 ck,.slice A 16 c0,.slice T 256 ct] w (RetB 16 (encL key t b) w):=by
 have hkl:=hk.len
 have hbl:=hb.len
 have HKL:=η hkl
 have HBL:=η hbl
 have HK:=η hk
 have HB:=η hb
 have HT:=η ht
 clear hkl hbl hk hb ht
 go_enter func131,ntmps131
 go_wp2_with fail
 refine (keys_any _ _ _ _ key t _ (by exact HK.o) hck (by exact HT.o)).mono ?_
 rintro e wk ⟨AK,cK,rfl,hok,hbk⟩
 rw [BeV] at hok
 rw [BeV]
 have HOK:=η hok
 have HBK:=η hbk
 have hszk:=hbk.size
 obtain ⟨gk,A0,ci0,rfl,hc0,hr0⟩:=key_at HKL.o hok (Below.refl _ _) 0 (by omega)
 have HR0:=η hr0
 clear hok hbk hr0
 go_wp2_with fail
 refine (BlZ _ _ 16 _ _ b (keyF key t 0) _ (by exact HB.o.step HBK.o) (by exact HR0.o) (by omega)).mono ?_
 rintro e w1 ⟨A1,c1,rfl,ho1,hb1⟩
 have HO1:Hid (OwnB w1 w.heap.size A1 16 c1 (AiY key t b 0)):=η (ho1.base_le hszk)
 have HB1:=η hb1
 clear ho1 hb1
 go_wp2_with fail
 go_loopw [8,9] (fun v i wr=>∃ (j c8:Nat) (A8:YA),j≤10∧i=.int .i64 ((j:Int)+1)∧v=.slice A8 16 c8∧Hid (OwnB wr w.heap.size A8 16 c8 (AiY key t b j))∧Hid (Below wk.heap.size wk wr)) (fun _ i _=>11 - (intOf i).toNat)
 case atStart=>exact ⟨0,c1,A1,by omega,rfl,rfl,HO1,HB1⟩
 case round =>
  obtain ⟨j,c8,A8,hj,rfl,rfl,ho,hb⟩:=hrel;clear HO1 HB1;have hszr:=hb.o.size;have hsz:w.heap.size≤wr.heap.size:=Nat.le_trans hszk hszr;by_cases hlt:j<10
  ·have HTB:Hid (Below w.heap.size w wr):=η (HBK.o.trans (hb.o.mono hszk))
   go_wp2_with fail;refine (DoQ _ T 16 _ ct (AiY key t b j) t _ (by exact ho.o.rb) (by exact HT.o.step HTB.o) (by omega)).mono ?_;rintro e w2 ⟨A2,c2,rfl,ho2,hb2⟩;have HO2:=η ho2;have HB2:=η hb2;clear ho2 hb2;go_wp2_with fail;refine (rows_lit _ _ 1 1 (ArK t (AiY key t b j)) _ rfl (by exact HO2.o.rb) (by omega)).mono ?_;rintro e w3 ⟨A3,c3,rfl,ho3,hb3⟩;have HO3:=η ho3;have HB3:=η (HB2.o.trans (hb3.mono HB2.o.size));clear ho3 hb3 HO2 HB2;obtain ⟨gk2,Ai,ci,eg,hci,hri⟩:=key_at HKL.o HOK.o (hb.o.trans (HB3.o.mono hszr)) (j+1) (by omega);injection eg with eg;injection eg with eg;subst eg;have HRI:=η hri;clear hri;by_cases hlt9:j+1<10
   ·have hd:decide ((j:Int)+1<10)=true:=decide_eq_true (by omega)
    have HN:Hid (AiY key t b (j+1)=xorL (AkV (BbY (ArK t (AiY key t b j)) 1) [2,3,1,1]) (keyF key t (j+1))):=η (by rw [AiY,if_pos hlt9]);have hgl:gk<w3.heap.size:=World.block_lt_of_cell? w3 _ hci;go_wp2_with fail;refine (DlV _ _ (BbY (ArK t (AiY key t b j)) 1) 2 3 1 1 2 3 1 1 rfl rfl rfl rfl _ (by exact HO3.o.rb)).mono ?_;rintro e w4 ⟨A4,c4,rfl,ho4,hb4⟩;have HO4:=η ho4;have HB4:=η hb4;have hci4:w4.cell? ⟨gk,j+1,none⟩=some (.slice Ai 16 ci):=(hb4.cell (p:=⟨gk,j+1,none⟩) hgl).trans hci;clear ho4 hb4;go_wp2_with fail;refine (BlZ _ _ 16 _ _ (AkV (BbY (ArK t (AiY key t b j)) 1) [2,3,1,1]) (keyF key t (j+1)) _ (by exact HO4.o.rb) (by exact HRI.o.step HB4.o) (by omega)).mono ?_;rintro e w5 ⟨A5,c5,rfl,ho5,hb5⟩;have HO5:=η ho5;have HB5:=η (HB4.o.trans (hb5.mono HB4.o.size));clear ho5 hb5;go_wp2_with fail;go_roundw
    case rel =>
     have hs3:=HB3.o.size;have hs4:=HB4.o.size;refine ⟨j+1,c5,A5,by omega,by go_num,rfl,η ?_,η ((hb.o.trans (HB3.o.mono hszr)).trans (HB5.o.mono (Nat.le_trans hszr hs3)))⟩;rw [HN.o];exact HO5.o.base_le (by omega)
    case measure=>simp [intOf];omega
   ·have hd:decide ((j:Int)+1<10)=false:=decide_eq_false (by omega)
    have HN:Hid (AiY key t b (j+1)=xorL (BbY (ArK t (AiY key t b j)) 1) (keyF key t (j+1))):=η (by rw [AiY,if_neg hlt9]);go_wp2_with fail;refine (BlZ _ _ 16 _ _ (BbY (ArK t (AiY key t b j)) 1) (keyF key t (j+1)) _ (by exact HO3.o.rb) (by exact HRI.o) (by omega)).mono ?_;rintro e w5 ⟨A5,c5,rfl,ho5,hb5⟩;have HO5:=η ho5;have HB5:=η hb5;clear ho5 hb5;go_wp2_with fail;go_roundw
    case rel =>
     have hs3:=HB3.o.size;refine ⟨j+1,c5,A5,by omega,by go_num,rfl,η ?_,η ((hb.o.trans (HB3.o.mono hszr)).trans (HB5.o.mono (Nat.le_trans hszr hs3)))⟩;rw [HN.o];exact HO5.o.base_le (by omega)
    case measure=>simp [intOf];omega
  ·obtain rfl:10=j:=by omega
   go_wp2_with fail;go_ret;exact ⟨A8,c8,rfl,ho.o,HBK.o.trans (hb.o.mono hszk)⟩
