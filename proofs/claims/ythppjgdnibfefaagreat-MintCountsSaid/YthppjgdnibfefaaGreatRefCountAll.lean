import Derived.Test.YthppjgdnibfefaaGreatOctAll
import Derived.Test.YthppjgdnibfefaaGreatAesInvW
set_option linter.all false
set_option maxRecDepth 100000
set_option maxHeartbeats 32000000
namespace Go.Proofs.YthppjgdnibfefaaGreat
open Tryz
open Go.RowKit
def aftN (l:YB) (n:Nat):Nat:=(numL (l.drop 12)+n) % 2 ^ 32
def aftL (l:YB) (n:Nat):List UInt8:=l.take 12++putL (aftN l n) 4
def BoK (V:Nat) (l:YB) (j:Nat):List UInt8:=l.take (12+j)++(putL V 4).drop j
theorem EzY (V:Nat) (l:YB) (j:Nat) (hl:l.length=16) (hj:j≤4):(BoK V l j).length=16:=by
 unfold BoK
 rw [List.length_append,List.length_take,List.length_drop,AeY]
 omega
theorem EfY (V:Nat) (l:YB) (hl:l.length=16):BoK V l 4=l:=by
 unfold BoK
 rw [List.take_of_length_le (by omega),List.drop_of_length_le (by rw [AeY];exact Nat.le_refl _),List.append_nil]
theorem EfW (V:Nat) (l:YB):BoK V l 0=l.take 12++putL V 4:=by
 unfold BoK
 rw [Nat.add_zero,List.drop_zero]
theorem EzZ (V:Nat) (l:YB) (j:Nat) (hl:l.length=16) (hj:j<4):∃ y,(BoK V l (j+1))[12+j]?=some y :=
 ⟨_,List.getElem?_eq_getElem (by rw [EzY V l (j+1) hl (by omega)];omega)⟩
theorem EfX (V:Nat) (l:YB) (j:Nat) (hl:l.length=16) (hj:j<4):(BoK V l (j+1)).set (12+j) (UInt8.ofNat (AfQ V (3 - j)))=BoK V l j:=by
 obtain ⟨y,hy⟩:∃ y,l[12+j]?=some y:=⟨_,List.getElem?_eq_getElem (by omega)⟩
 have hg:=CoK V 4 j hj
 have hlt:j<(putL V 4).length:=by rw [AeY];exact hj
 have hd:(putL V 4).drop j=UInt8.ofNat (AfQ V (3 - j))::(putL V 4).drop (j+1):=by
  rw [List.getElem?_eq_getElem hlt] at hg;rw [List.drop_eq_getElem_cons hlt,Option.some.inj hg]
 have ht:(l.take (12+j)).length=12+j:=by rw [List.length_take];omega
 unfold BoK
 rw [hd,show 12+(j+1)=12+j+1 by omega,List.take_add_one,hy,Option.toList_some,List.append_assoc,List.set_append_right _ _ (by omega),ht,Nat.sub_self]
 rfl
theorem EtK (l:YB) (hl:l.length=16) (i:Nat) (hi:i<4) (x:UInt8) (hx:l[12+i]?=some x):numL ((l.drop 12).take (i+1))=numL ((l.drop 12).take i)*256+x.toNat:=by
 rw [List.take_add_one,List.getElem?_drop,hx,Option.toList_some,AkZ]
theorem CzQ (l:YB) (i:Nat) (hi:i≤4) (hl:l.length=16):numL ((l.drop 12).take i)<256 ^ i:=BdX i _ (by rw [List.length_take,List.length_drop];omega)
attribute [local irreducible] BoK numL putL
theorem BpZ (A:YA) (c0:Nat) (l:YB) (n:Nat) (w:World) (h:RB w w.heap.size A 16 l) (hn:n<2 ^ 64) :
  Calls prog 66 #[.slice A 16 c0,.int .u64 (n:Int)] w (RetB 16 (aftL l n) w):=by
 have hl:=h.len
 obtain ⟨g,o,rfl,hg,hc⟩:=h.2 (by omega)
 have HR:=η h
 have HC:=η hc
 clear h hc
 go_enter func66,ntmps66
 go_wp2_with fail
 go_loopw [5,6] (fun v i wr=>∃ k q:Nat,k≤4∧i=.int .i64 (12+(k:Int))∧v=.int .u64 (q:Int)∧Hid (q=numL ((l.drop 12).take k)∧q<256 ^ k)∧w=wr) (fun _ i _=>16 - (intOf i).toNat)
 case atStart=>exact ⟨0,0,by omega,rfl,rfl,η ⟨by rw [List.take_zero];unfold numL;rfl,by omega⟩,rfl⟩
 case round =>
  obtain ⟨k,q,hk,rfl,rfl,hv,rfl⟩:=hrel;by_cases hlt:k<4
  ·obtain ⟨x,hx⟩:∃ x,l[12+k]?=some x:=⟨_,List.getElem?_eq_getElem (by omega)⟩
   have hcx:=HC.o (12+k) (by omega);rw [show l[12+k]'(by omega)=x by have:=List.getElem?_eq_getElem (l:=l) (i:=12+k) (by omega);rw [hx] at this;exact (Option.some.inj this).symm] at hcx;have HX:=η hx;have hxb:=AeZ x;have hxl:=x.toNat_lt
   have hqb:q<256 ^ 3:=by
    have h1:=hv.o.2;have h2:(256:Nat) ^ k≤256 ^ 3:=Nat.pow_le_pow_right (by omega) (by omega);omega
   obtain ⟨q',HQ⟩:∃ q',Hid (q'=q*256+x.toNat):=⟨_,η rfl⟩
   have HV:Hid (q'=numL ((l.drop 12).take (k+1))∧q'<256 ^ (k+1)):=η (by
    have e:q'=numL ((l.drop 12).take (k+1)):=by rw [HQ.o,hv.o.1];exact (EtK l hl k hlt x HX.o).symm
    exact ⟨e,by rw [e];exact CzQ l (k+1) (by omega) hl⟩)
   have hidx:(12+(k:Int))<16:=by omega
   have hq16:q<16777216:=hqb;unfold bv at hcx;have hqs:(q':Int)=(q:Int)*256+(x.toNat:Int):=by have:=HQ.o;omega
   clear hx hqb;go_wp2_with fail;go_roundw
   case rel=>exact ⟨k+1,q',by omega,by go_num,by rw [hqs],HV,trivial⟩
   case measure=>simp [intOf];omega
  ·obtain rfl:k=4:=by omega
   obtain ⟨n',HN'⟩:∃ n',Hid (n'=n % 2 ^ 32∧n'<2 ^ 32):=⟨_,η ⟨rfl,Nat.mod_lt _ (by omega)⟩⟩;obtain ⟨V,HV⟩:∃ V,Hid (V=(q+n') % 2 ^ 32∧V<2 ^ 32):=⟨_,η ⟨rfl,Nat.mod_lt _ (by omega)⟩⟩
   have HVA:Hid (V=aftN l n):=η (by
    have e:=hv.o.1
    rw [List.take_of_length_le (by rw [List.length_drop];omega)] at e
    rw [HV.o.1,HN'.o.1,e]
    unfold aftN
    omega)
   have hq32:q<4294967296:=hv.o.2;have hn32:n'<4294967296:=HN'.o.2;have hV32:V<4294967296:=HV.o.2;have r1:(n:Int) % 4294967296=(n':Int):=by have:=HN'.o.1;omega
   have r2:((q:Int)+(n':Int)) % 4294967296=(V:Int):=by have:=HV.o.1;omega
   have e4:12+((4:Nat):Int)=16:=rfl;rw [e4];have hcf:BoK V l 4=l:=EfY V l hl;go_wp2_with (at_builtin;refine AcQ rfl (.tmp 26) (.tmp 27) rfl w.heap.size _ _ _ [] rfl (OwnB.lit w _ [] #[] 0 rfl rfl (by unfold maxLen;omega) (Nat.le_refl _)) w.heap.size (some ⟨g,o,none⟩) 16 c0 l rfl (HR.o.alloc (Nat.le_refl _) _) (by omega) (by simp) ?_;intro A1 c1 w1 hown1 _ hb1);have hown2:OwnB w1 w.heap.size A1 16 c1 (BoK V l 4):=by rw [hcf];exact hown1
   obtain ⟨g1,rfl,hg1,hg1'⟩:=OwnB.form hown2 (by omega);have HO0:=η hown2;have HB0:=η ((AaK w (.cells #[] 5)).trans hb1);clear hown1 hown2 hb1 hcf r1 r2 e4
   go_loopw [5,8] (fun v i wr=>∃ j:Nat,j≤4∧i=.int .i64 (11+(j:Int))∧v=.int .u64 (AfQ V (4 - j):Int)∧Hid (OwnB wr w.heap.size (some ⟨g1,0,none⟩) 16 c1 (BoK V l j))∧Hid (Below w.heap.size w wr)) (fun _ i _=>(intOf i - 10).toNat)
   case atStart=>exact ⟨4,by omega,rfl,by simp [AfQ],HO0,HB0⟩
   case round =>
    obtain ⟨j,hj,rfl,rfl,ho,hb⟩:=hrel;clear HO0 HB0;have hdl:=BxK V (4 - j);rcases j with _ | j
    ·have h0:=ho.o
     rw [EfW,HVA.o] at h0;have e0:11+((0:Nat):Int)=11:=rfl;rw [e0,Nat.sub_zero];go_wp2_with fail;go_ret;exact ⟨_,_,rfl,h0,hb.o⟩
    ·have e1:11+((j+1:Nat):Int)=12+(j:Int):=by omega
     rw [e1];clear e1;obtain ⟨y,hy⟩:=EzZ V l j hl (by omega);have hc0:=ho.o.cellAt hy;have hf0:=ho.o.freeAt (12+j);obtain ⟨m,HM⟩:∃ m,Hid (m=AfQ V (4 - (j+1))):=⟨_,η rfl⟩;have HN:=η (EfX V l j hl (by omega));rw [show 3 - j=4 - (j+1) by omega,←HM.o] at HN;rw [←HM.o] at hdl ⊢;have hm2:m<4294967296:=by omega
     have hji:12+(j:Int)<16:=by omega
     have hcv:IntKind.u8.wrap ((m:Int) % 256)=(((UInt8.ofNat m).toNat:Nat):Int):=by
      have e:(UInt8.ofNat m).toNat=m % 256:=by simp
      rw [e,IntKind.wrap_u8];omega
     unfold bv at hc0;clear hy;go_wp2_with fail;go_roundw
     case rel =>
      refine ⟨j,by omega,by go_num,?_,η ?_,η (hb.o.setCell (p:=⟨g1,12+j,none⟩) hg1 _)⟩
      ·rw [show 4 - j=(4 - (j+1))+1 from by omega,AlY,←HM.o]
       go_num
      ·rw [←HN.o]
       exact ho.o.stored (12+j) _ _ (by unfold bv;first | rfl | rw [hcv] | (congr 1;omega))
     case measure=>simp [intOf];omega
end Go.Proofs.YthppjgdnibfefaaGreat
namespace Go.Proofs.YthppjgdnibfefaaGreat
open Tryz
open Go.RowKit
theorem CrZ (l:YB) (n:Nat) (hl:l.length=16):(aftL l n).length=16:=by
 unfold aftL
 rw [List.length_append,List.length_take,AeY]
 omega
def blkL (key l:YB) (i:Nat):List UInt8:=encL key tableL (aftL l i)
def AoQ (key l:YB):Nat→List UInt8 | 0=>[] | k+1=>AoQ key l k++blkL key l k
def ApQ (key l:YB) (n:Nat):List UInt8:=(AoQ key l ((n+15) / 16)).take n
theorem blkL_len (key l:YB) (i:Nat) (hk:key.length=16) (hl:l.length=16):(blkL key l i).length=16:=BhV key tableL _ hk (CrZ l i hl)
theorem DeQ (key l:YB) (hk:key.length=16) (hl:l.length=16):∀ k,(AoQ key l k).length=16*k
 | 0=>rfl
 | k+1=>by rw [AoQ,List.length_append,DeQ key l hk hl k,blkL_len key l k hk hl];omega
theorem CaJ (key l:YB) (n:Nat) (hk:key.length=16) (hl:l.length=16):(ApQ key l n).length=n:=by
 unfold ApQ
 rw [List.length_take,DeQ key l hk hl]
 omega
theorem OwnB.head {w:World} {base N c n:Nat} {A:YA} {l:YB} (h:OwnB w base A N c l) (hn:n≤N) (hA:∃ g,A=some ⟨g,0,none⟩):OwnB w base A n c (l.take n):=by
 have hlen:=h.len
 refine ⟨by rw [AaY,List.length_take];omega,?_⟩
 obtain ⟨g0,rfl⟩:=hA
 rcases h.2 with ⟨hv,h0⟩ | ⟨g,cap,cur,hv,hbg,hh,hnc,hcm,hsz,ht⟩
 ·cases hv
 ·injection hv with e1 e2 e3
  injection e1 with e1;injection e1 with e1;subst e1;subst e3;refine .inr ⟨g0,c,cur,rfl,hbg,hh,by omega,hcm,hsz,?_⟩;have:bvs (l.take n)=(bvs l).take n:=by simp [bvs,List.map_take]
  rw [this,←ht,Nat.mul_one,Nat.mul_one,List.take_take,Nat.min_eq_left hn]
theorem CkY (key l:YB) (k:Nat):AoQ key l (k+1)=AoQ key l k++blkL key l k:=rfl
attribute [local irreducible] aftL encL tableL AoQ blkL
theorem DhV (A0 A1:YA) (c0 c1 n:Nat) (key l:YB) (w:World) (h0:RB w w.heap.size A0 16 key) (hc0:16≤c0) (h1:RB w w.heap.size A1 16 l) (hn:n≤1000000) :
  Calls prog 105 #[.slice A0 16 c0,.slice A1 16 c1,.int .i64 (n:Int)] w fun e w'=>∃ g c,e=.returned (.slice (some ⟨g,0,none⟩) n c)∧OwnB w' w.heap.size (some ⟨g,0,none⟩) n c (ApQ key l n)∧Below w.heap.size w w':=by
 have H0:=η h0
 have H1:=η h1
 have HC0:=η hc0
 have ek:=h0.len
 have el:=h1.len
 clear h0 h1 hc0
 obtain ⟨m,HM⟩:∃ m,Hid (m=(n+15) / 16):=⟨_,η rfl⟩
 have hm:=HM.o
 have HSL:Hid (ApQ key l n=(AoQ key l m).take n):=η (by unfold ApQ;rw [HM.o])
 go_enter func105,ntmps105
 go_wp2_with fail
 refine (CuV _).mono ?_
 rintro e w1 ⟨AT,cT,rfl,ho1,hb1⟩
 obtain ⟨B1,HB⟩:∃ B1,Hid (B1=w1.heap.size):=⟨_,η rfl⟩
 have hwB:w.heap.size≤B1:=by rw [HB.o];exact hb1.size
 have HT1:Hid (RB w1 B1 AT 256 tableL):=η (by rw [HB.o];exact ho1.rb)
 have HB1:=η hb1
 clear ho1 hb1
 have HO0:Hid (OwnB (w1.alloc (.cells #[] 5)) B1 (some ⟨B1,0,none⟩) 0 0 (AoQ key l 0)):=η (by rw [show AoQ key l 0=[] by unfold AoQ;rfl,HB.o];exact OwnB.lit w1 w1.heap.size [] #[] 0 rfl rfl (by unfold maxLen;omega) (Nat.le_refl _))
 have hsB:B1≤(w1.alloc (.cells #[] 5)).heap.size:=by rw [HB.o];simp
 go_wp2_with fail
 rw [←HB.o]
 go_loopw [8,9] (fun v i wr=>∃ k g1 d1:Nat,k≤m∧i=.int .u64 (k:Int)∧v=.slice (some ⟨g1,0,none⟩) (16*k) d1∧Hid (OwnB wr B1 (some ⟨g1,0,none⟩) (16*k) d1 (AoQ key l k))∧Hid (RB wr B1 AT 256 tableL)∧Hid (Below w.heap.size w wr)∧B1≤wr.heap.size) (fun _ i _=>m - (intOf i).toNat)
 case atStart=>exact ⟨0,B1,0,by omega,rfl,rfl,HO0,η (HT1.o.below ((AaK w1 _).mono (by rw [HB.o];exact Nat.le_refl _))),η (AaJ HB1.o (AaK _ _)),hsB⟩
 case round =>
  obtain ⟨k,g1,d1,hk,rfl,rfl,ho,ht,hb,hB⟩:=hrel;clear HO0 HT1 HB1 hsB;by_cases hlt:k<m
  ·have hd:decide (((16*k:Nat):Int)<(n:Int))=true:=decide_eq_true (by omega)
   have HBL:Hid (encL key tableL (aftL l k)=blkL key l k):=η (by unfold blkL;rfl);have HBK:=η (CkY key l k);go_wp2_with fail;refine (BpZ A1 c1 l k _ (H1.o.step hb.o) (by omega)).mono ?_;rintro e w2 ⟨A2,c2,rfl,ho2,hb2⟩;have HO2:=η ho2;have HB2:=η hb2;clear ho2 hb2;go_wp2_with fail;refine (DnK A2 A0 AT c2 c0 cT key tableL (aftL l k) _ (H0.o.step (hb.o.trans (HB2.o.mono hb.o.size))) HC0.o HO2.o.rb ((ht.o.below (HB2.o.mono hB)).more (Nat.le_trans hB HB2.o.size))).mono ?_;rw [HBL.o];rintro e w3 ⟨A3,c3,rfl,ho3,hb3⟩;have HO3:=η ho3;have HB3:=η (AaJ HB2.o hb3);clear ho3 hb3 HO2 HB2;go_wp2_with (at_builtin;refine AcQ rfl (.tmp 18) (.tmp 24) rfl B1 (some ⟨g1,0,none⟩) (16*k) d1 (AoQ key l k) rfl (by exact ho.o.below HB3.o) w3.heap.size A3 16 c3 (blkL key l k) rfl (by exact HO3.o.rb) (by omega) (by have h2:=HB3.o.size;omega) ?_;intro A4 d4 w4 ho4 _ hb4;obtain ⟨g4,rfl,_,_⟩:=OwnB.form ho4 (by omega);have HO4:=η ho4;have HB4:=η ((HB3.o.mono hB).trans hb4);have hs4:B1≤w4.heap.size:=Nat.le_trans (Nat.le_trans hB HB3.o.size) hb4.size;clear ho4 hb4);go_roundw
   case rel=>exact ⟨k+1,g4,d4,by omega,by go_num,by rw [show 16*(k+1)=16*k+16 by omega],η (by rw [HBK.o,show 16*(k+1)=16*k+16 by omega];exact HO4.o),η (ht.o.below HB4.o),η (hb.o.trans (HB4.o.mono hwB)),hs4⟩
   case measure=>simp [intOf];omega
  ·have hkm:k=m:=by omega
   subst hkm;have hd:decide (((16*k:Nat):Int)<(n:Int))=false:=decide_eq_false (by omega);have hcap:=ho.o.cap.1
   have hcu:∀ W:World,(Instr.slice 41 (.slice (some ⟨g1,0,none⟩) (16*k) d1) none (some (.int .i64 (n:Int))) none).run prog W=.ok (.slice (some ⟨g1,0,none⟩) n d1) W:=by
    intro W;have h:=BsZ (some ⟨g1,0,none⟩) (16*k) d1 n (by omega) W;rw [h];unfold cutA;split
    ·rfl
    ·rw [Option.map_some,Addr.add_mid]
   go_wp2_with fail;go_ret;exact ⟨g1,d1,rfl,by rw [HSL.o];exact (OwnB.head ho.o (by omega) ⟨g1,rfl⟩).base_le hwB,hb.o⟩
def AlZ (k:Nat) (a b:YB):List UInt8:=xorL (a.take k) (b.take k)++a.drop k
theorem BzK (a b:YB):AlZ 0 a b=a:=by simp [AlZ,xorL]
theorem ChW (n:Nat) (a b:YB) (ha:a.length=n) (hb:b.length=n):AlZ n a b=xorL a b:=by
 unfold AlZ
 rw [List.take_of_length_le (by omega),List.take_of_length_le (by omega),List.drop_of_length_le (by omega),List.append_nil]
theorem ChV (n k:Nat) (a b:YB) (x:UInt8) (ha:a.length=n) (hb:b.length=n) (hx:a[k]?=some x):(AlZ k a b)[k]?=some x:=by
 have hk:=(List.getElem?_eq_some_iff.1 hx).1
 unfold AlZ
 have hl:=AzQ ha hb (show k≤n by omega)
 rw [List.getElem?_append_right (by omega),hl,Nat.sub_self,List.getElem?_drop,Nat.add_zero,hx]
theorem BzQ (n k:Nat) (a b:YB) (x y:UInt8) (ha:a.length=n) (hb:b.length=n) (hx:a[k]?=some x) (hy:b[k]?=some y):(AlZ k a b).set k (x ^^^ y)=AlZ (k+1) a b:=by
 have hk:=(List.getElem?_eq_some_iff.1 hx).1
 have hl:=AzQ ha hb (show k≤n by omega)
 have hd:a.drop k=x::a.drop (k+1):=by
  have:=List.getElem?_eq_getElem hk;rw [hx] at this;rw [List.drop_eq_getElem_cons hk,←Option.some.inj this]
 unfold AlZ
 rw [AgY hx,AgY hy,BxW _ _ _ _ (by simp only [List.length_take];omega),hd,List.set_append_right _ _ (by omega),hl,Nat.sub_self,List.append_assoc]
 rfl
attribute [local irreducible] AlZ ApQ
theorem CwQ (A0 A1 A2:YA) (c0 c1 n c2:Nat) (key l t:YB) (w:World) (h0:RB w w.heap.size A0 16 key) (hc0:16≤c0) (h1:RB w w.heap.size A1 16 l) (h2:RB w w.heap.size A2 n t) (hn:n≤65535) :
  Calls prog 65 #[.slice A0 16 c0,.slice A1 16 c1,.slice A2 n c2] w (AhW n (xorL (ApQ key l n) t) 0 w):=by
 have H2:=η h2
 have ek:=h0.len
 have el:=h1.len
 have et:=h2.len
 obtain ⟨s,HS⟩:∃ s,Hid (s=ApQ key l n∧s.length=n):=⟨_,η ⟨rfl,CaJ key l n ek el⟩⟩
 rw [←HS.o.1]
 have HST:Hid (Calls prog 105 #[.slice A0 16 c0,.slice A1 16 c1,.int .i64 (n:Int)] w fun e w'=>∃ g c,e=.returned (.slice (some ⟨g,0,none⟩) n c)∧OwnB w' w.heap.size (some ⟨g,0,none⟩) n c s∧Below w.heap.size w w'):=η (by rw [HS.o.1];exact DhV A0 A1 c0 c1 n key l w h0 hc0 h1 (by omega))
 have hg:decide ((n:Int)>65535)=false:=decide_eq_false (by omega)
 clear h0 h1 h2 hc0
 go_enter func65,ntmps65
 go_wp2_with fail
 refine HST.o.mono ?_
 rintro e w1 ⟨g1,d1,rfl,ho1,hb1⟩
 have HO1:Hid (OwnB w1 w.heap.size (some ⟨g1,0,none⟩) n d1 (AlZ 0 s t)):=η (by rw [BzK];exact ho1)
 have HB1:=η hb1
 clear ho1 hb1 HST
 go_wp2_with fail
 go_loopw [9] (fun i wr=>∃ k:Nat,k≤n∧i=.int .i64 k∧Hid (OwnB wr w.heap.size (some ⟨g1,0,none⟩) n d1 (AlZ k s t))∧Hid (Below w.heap.size w wr)) (fun i _=>n - (intOf i).toNat)
 case atStart=>exact ⟨0,by omega,rfl,HO1,HB1⟩
 case round =>
  obtain ⟨k,hk,rfl,ho,hb⟩:=hrel;clear HO1 HB1;by_cases hlt:k<n
  ·obtain ⟨g2,o2,rfl,hg2,y,hy,hcy⟩:=(H2.o.below hb.o).at_ hlt
   obtain ⟨x,hx⟩:∃ x,s[k]?=some x:=⟨_,List.getElem?_eq_getElem (by have:=HS.o.2;omega)⟩;have hc0:=ho.o.cellAt (ChV n k s t x HS.o.2 et hx);have hf0:=ho.o.freeAt k;have HN:=η (BzQ n k s t x y HS.o.2 et hx hy);unfold bv at hc0;have hg1:w.heap.size≤g1:=by obtain ⟨g,e,h1,_⟩:=OwnB.form ho.o (by omega);injection e with e;injection e with e;omega
   clear hx hy;go_wp2_with fail;go_region
   all_goals
    go_wp2
    go_roundw
    case rel=>exact ⟨k+1,by omega,by go_num,η (by rw [←HN.o];exact ho.o.drew.stored k _ _ (by rw [AlQ];rfl)),η (hb.o.drew.setCell (p:=⟨g1,k,none⟩) hg1 _)⟩
    case measure=>simp [intOf];omega
  ·have hkn:k=n:=by omega
   subst hkn;have h:=ho.o;rw [ChW k s t HS.o.2 et] at h;go_wp2_with fail;go_ret2;exact ⟨_,_,rfl,h,hb.o⟩
end Go.Proofs.YthppjgdnibfefaaGreat
namespace Go.Proofs.YthppjgdnibfefaaGreat
open Tryz
theorem CeV (n:Nat):∀ k,AfQ n k=n / 256 ^ k
 | 0=>by simp [AfQ]
 | k+1=>by rw [AlY,CeV n k,Nat.div_div_eq_div_mul,Nat.pow_succ]
theorem DsK:∀ (k n:Nat),numL (putL n k)+256 ^ k*AfQ n k=n
 | 0,n=>by simp [putL,numL,AfQ]
 | k+1,n=>by
  have ih:=DsK k (n / 256);rw [putL,AkZ,←AzK];have e:(UInt8.ofNat n).toNat=n % 256:=by simp
  rw [e,Nat.pow_succ];have h2:256 ^ k*256*AfQ (n / 256) k=256*(256 ^ k*AfQ (n / 256) k):=by rw [Nat.mul_comm (256 ^ k) 256,Nat.mul_assoc]
  rw [h2];omega
theorem EsZ (n:Nat) (hn:n<2 ^ 32):numL (putL n 4)=n:=by
 have h:=DsK 4 n
 rw [CeV,Nat.div_eq_of_lt (show n<256 ^ 4 by omega)] at h
 omega
theorem DqV:∀ (k:Nat) (l:YB),l.length=k→putL (numL l) k=l
 | 0,l,h=>by rw [List.eq_nil_of_length_eq_zero h];rfl
 | k+1,l,h=>by
  obtain ⟨m,x,rfl⟩:∃ m x,l=m++[x]:=by
   have hne:l≠[]:=fun e=>by rw [e] at h;cases h
   exact ⟨l.dropLast,l.getLast hne,(List.dropLast_concat_getLast hne).symm⟩
  have hm:m.length=k:=by simpa using h
  have hx:=x.toNat_lt;rw [putL,AkZ,show (numL m*256+x.toNat) / 256=numL m by omega,DqV k m hm]
  have e:UInt8.ofNat (numL m*256+x.toNat)=x:=by
   apply UInt8.toNat_inj.1;simp
  rw [e]
theorem aft_take (l:YB) (n:Nat) (hl:l.length=16):(aftL l n).take 12=l.take 12:=by
 unfold aftL
 rw [List.take_left' (by rw [List.length_take];omega)]
theorem aft_drop (l:YB) (n:Nat) (hl:l.length=16):(aftL l n).drop 12=putL (aftN l n) 4:=by
 unfold aftL
 rw [List.drop_left' (by rw [List.length_take];omega)]
theorem aftN_lt (l:YB) (n:Nat):aftN l n<2 ^ 32:=Nat.mod_lt _ (by omega)
theorem aft_aft (l:YB) (a b:Nat) (hl:l.length=16):aftL (aftL l a) b=aftL l (a+b):=by
 have e:aftN (aftL l a) b=aftN l (a+b):=by
  have h:=aft_drop l a hl;have h2:=EsZ _ (aftN_lt l a);unfold aftN at h2 ⊢;rw [h];unfold aftN;rw [h2];omega
 rw [aftL,e,aft_take l a hl]
 rfl
theorem FbY (l:YB) (n:Nat) (hl:l.length=16) (hn:n % 2 ^ 32=0):aftL l n=l:=by
 have hd:(l.drop 12).length=4:=by rw [List.length_drop];omega
 have hlt:numL (l.drop 12)<256 ^ 4:=BdX 4 _ hd
 have e:aftN l n=numL (l.drop 12):=by unfold aftN;omega
 rw [aftL,e,DqV 4 _ hd,List.take_append_drop]
