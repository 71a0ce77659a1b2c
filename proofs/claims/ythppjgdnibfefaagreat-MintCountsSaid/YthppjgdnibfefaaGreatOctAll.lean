import Derived.Test.YthppjgdnibfefaaGreatRowsIn
import Derived.Lib.Strings
import Derived.Lib.Bytealg
set_option linter.all false
set_option maxRecDepth 100000
set_option maxHeartbeats 32000000
namespace Go.Proofs.YthppjgdnibfefaaGreat
open Tryz
open Go.RowKit
theorem set_next (p:YB) (n k:Nat) (v:UInt8) (hp:p.length=k) (hk:k<n):(p++List.replicate (n - k) 0).set k v=(p++[v])++List.replicate (n - (k+1)) 0:=by
 obtain ⟨m,rfl⟩:∃ m,n=k+1+m:=⟨n - (k+1),by omega⟩
 have e1:k+1+m - k=m+1:=by omega
 have e2:k+1+m - (k+1)=m:=by omega
 rw [e1,e2,List.replicate_succ,List.set_append_right _ _ (by omega)]
 simp [hp]
theorem AzQ {n k:Nat} {a b:YB} (hn:a.length=n) (hn':b.length=n) (hk:k≤n):(xorL (a.take k) (b.take k)).length=k:=by
 have h1:(a.take k).length=k:=by rw [List.length_take];omega
 have h2:(b.take k).length=k:=by rw [List.length_take];omega
 rw [AsK _ _ (by omega),h1]
def ClQ (n k:Nat) (a b:YB):List UInt8:=xorL (a.take k) (b.take k)++List.replicate (n - k) 0
theorem DxQ {n k:Nat} {a b:YB} {x y:UInt8} (ha:a[k]?=some x) (hb:b[k]?=some y) (hn:a.length=n) (hn':b.length=n):(ClQ n k a b).set k (x ^^^ y)=ClQ n (k+1) a b:=by
 have hk:k<n:=by rw [←hn];exact (List.getElem?_eq_some_iff.1 ha).1
 unfold ClQ
 rw [set_next _ _ _ _ (AzQ hn hn' (by omega)) hk,AgY ha,AgY hb,BxW _ _ _ _ (by simp only [List.length_take];omega)]
theorem EgY {n k:Nat} {a b:YB} (hn:a.length=n) (hn':b.length=n) (hk:k<n):(ClQ n k a b)[k]?=some 0:=by
 unfold ClQ
 have hl:=AzQ hn hn' (Nat.le_of_lt hk)
 rw [List.getElem?_append_right (by omega),hl,Nat.sub_self,List.getElem?_replicate,if_pos (by omega)]
theorem EgZ {n:Nat} {a b:YB} (hn:a.length=n) (hn':b.length=n):ClQ n n a b=xorL a b:=by
 unfold ClQ
 rw [List.take_of_length_le (by omega),List.take_of_length_le (by omega)]
 simp
theorem DmX (A A':YA) (n c c' B B':Nat) (l l':YB) (w:World) (h:RB w w.heap.size A n l) (h':RB w w.heap.size A' n l') (hm:n≤140737488355328) :
  Calls prog 151 #[.slice A n c,.slice A' n c'] w (AhW n (xorL l l') 0 w):=by
 have hne2:((n:Int) != (n:Int))=false:=by simp
 go_enter func151,ntmps151
 go_wp2_with (first
  | (at_make;refine AjY rfl _ _ rfl w.heap.size .i64 .i64 _ _ n rfl rfl (by omega) (by omega) hm (Nat.le_refl _) ?_;intro w1 hown1 hs1 hb1))
 go_loopw [7,18] (fun _ i wr=>∃ k:Nat,k≤n∧i=.int .i64 k∧OwnB wr w.heap.size (some ⟨w.heap.size,0,none⟩) n n (ClQ n k l l')∧Below w.heap.size w wr) (fun _ i _=>n - (intOf i).toNat)
 case atStart=>exact ⟨0,Nat.zero_le _,rfl,by simpa [ClQ,xorL] using hown1,hb1⟩
 case round =>
  obtain ⟨k,hk,rfl,hown,hbel⟩:=hrel;by_cases hlt:k<n
  ·obtain ⟨b,o,rfl,hb,x,hx,hc⟩:=(h.below hbel).at_ hlt
   obtain ⟨b',o',rfl,hb',y,hy,hc'⟩:=(h'.below hbel).at_ hlt;have hc0:=hown.cellAt (EgY h.len h'.len hlt);have hf0:=hown.freeAt k;have HX:=η hx;have HY:=η hy;clear hx hy;go_wp2;go_region;go_wp2;go_roundw
   case rel=>exact ⟨k+1,by omega,by go_num,by rw [←DxQ HX.o HY.o h.len h'.len];exact (hown.stored k (x ^^^ y) _ (by rw [AlQ];rfl)).drew,(hbel.setCell (Nat.le_refl _) _).drew⟩
   case measure=>simp [intOf];omega
  ·go_wp2
   go_ret2;obtain rfl:k=n:=by omega
   exact ⟨_,_,rfl,by rw [EgZ h.len h'.len] at hown;exact hown,hbel⟩
def halves (n:Nat):Nat→Nat | 0=>n | k+1=>halves n k / 2
open Go.RowKit
theorem CbW (A:YA) (n c B:Nat) (l:YB) (w:World) (h:RB w B A n l) (hn:n≤8) :
  Calls prog 119 #[.slice A n c] w fun e w'=>e=.returned (.tuple #[.int .u64 (numL l:Int),.int .i64 0])∧w=w':=by
 go_enter func119,ntmps119
 go_wp2
 go_loop [4,6,12] (fun v _ i=>∃ k:Nat,k≤n∧i=.int .i64 k∧v=.int .u64 (numL (l.take k):Int)) (fun _ _ i=>n - (intOf i).toNat)
 case atStart=>exact ⟨0,Nat.zero_le _,rfl,rfl⟩
 case round =>
  obtain ⟨k,hk,rfl,rfl⟩:=hrel;by_cases hlt:k<n
  ·obtain ⟨b,o,rfl,hb,x,hx,hc⟩:=h.at_ hlt
   have h1:=DsQ l k (by omega);have h2:=AeZ x;have HX:=η hx;clear hx;go_wp2;go_round
   case rel=>exact ⟨k+1,by omega,by go_num,by rw [AgY HX.o,AkZ,or_byte _ _ h1]⟩
   case measure=>simp [intOf];omega
  ·go_wp2
   go_ret2;exact ⟨ret2 (by rw [List.take_of_length_le (by have:=h.len;omega)]) rfl,rfl⟩
theorem BvY (A:YA) (n c B:Nat) (l:YB) (w:World) (h:RB w B A n l) (hn:n≤8) :
  Calls prog 203 #[.slice A n c] w fun e w'=>e=.returned (.tuple #[.int .u64 (numL l:Int),.int .i64 0])∧w=w':=by
 go_enter func203,ntmps203
 go_wp2
 go_loop [4,5] (fun v i=>∃ k:Nat,k≤n∧i=.int .i64 k∧v=.int .u64 (numL (l.take k):Int)) (fun _ i=>n - (intOf i).toNat)
 case atStart=>exact ⟨0,Nat.zero_le _,rfl,rfl⟩
 case round =>
  obtain ⟨k,hk,rfl,rfl⟩:=hrel;by_cases hlt:k<n
  ·obtain ⟨b,o,rfl,hb,x,hx,hc⟩:=h.at_ hlt
   have h1:=DsQ l k (by omega);have h2:=AeZ x;have HX:=η hx;clear hx;go_wp2;go_round
   case rel=>exact ⟨k+1,by omega,by go_num,by rw [AgY HX.o,AkZ];go_num⟩
   case measure=>simp [intOf];omega
  ·go_wp2
   go_ret2;exact ⟨ret2 (by rw [List.take_of_length_le (by have:=h.len;omega)]) rfl,rfl⟩
open Go.RowKit
def putL (n:Nat):Nat→List UInt8
 | 0=>[]
 | k+1=>putL (n / 256) k++[UInt8.ofNat n]
theorem AeY (n k:Nat):(putL n k).length=k:=by
 induction k generalizing n with
 | zero=>rfl
 | succ k ih=>simp [putL,ih]
def AfQ (n:Nat):Nat→Nat | 0=>n | k+1=>AfQ n k / 256
theorem AlY (n k:Nat):AfQ n (k+1)=AfQ n k / 256:=rfl
theorem BxK (n k:Nat):AfQ n k≤n:=by induction k with | zero=>exact Nat.le_refl _ | succ k ih=>rw [AlY];omega
theorem AzK (n k:Nat):AfQ (n / 256) k=AfQ n (k+1):=by induction k with | zero=>rfl | succ k ih=>rw [AlY,ih,←AlY]
def BmK (n size j:Nat):List UInt8:=List.replicate j 0++(putL n size).drop j
theorem CoK (n k j:Nat) (h:j<k):(putL n k)[j]?=some (UInt8.ofNat (AfQ n (k - 1 - j))):=by
 induction k generalizing n with
 | zero=>omega
 | succ k ih =>
  unfold putL;by_cases hj:j<k
  ·rw [List.getElem?_append_left (by rw [AeY];exact hj),ih _ hj,AzK]
   congr 3;omega
  ·obtain rfl:j=k:=by omega
   rw [List.getElem?_append_right (by rw [AeY];exact Nat.le_refl _),AeY];simp [AfQ]
theorem BqK (n size j:Nat) (h:j<size):(BmK n size (j+1)).set j (UInt8.ofNat (AfQ n (size - 1 - j)))=BmK n size j:=by
 unfold BmK
 have hg:=CoK n size j h
 have hlt:j<(putL n size).length:=by rw [AeY];exact h
 have hd:(putL n size).drop j=UInt8.ofNat (AfQ n (size - 1 - j))::(putL n size).drop (j+1):=by
  rw [List.getElem?_eq_getElem hlt] at hg;rw [List.drop_eq_getElem_cons hlt,Option.some.inj hg]
 rw [hd,List.replicate_succ',List.append_assoc,List.set_append_right _ _ (by simp)]
 simp
theorem CbV (n size j:Nat):(BmK n size (j+1))[j]?=some 0:=by
 unfold BmK
 rw [List.getElem?_append_left (by simp),List.getElem?_replicate,if_pos (by omega)]
theorem BqJ (n size:Nat):BmK n size 0=putL n size:=by simp [BmK]
theorem BqQ (n size:Nat):BmK n size size=List.replicate size 0:=by
 unfold BmK
 rw [List.drop_of_length_le (by rw [AeY];exact Nat.le_refl _),List.append_nil]
theorem put_bad (n:Nat) (s:Int) (w:World) (hs:s<0∨8<s) :
  Calls prog 156 #[.int .u64 (n:Int),.int .i64 s] w fun e w'=>e=.returned (.tuple #[.slice none 0 0,.int .i64 11])∧w=w':=by
 rcases hs with hs | hs
 ·go_enter func156,ntmps156
  go_wp2;go_ret2;exact ⟨rfl,rfl⟩
 ·have h0:¬s<0:=by omega
  go_enter func156,ntmps156;go_wp2;go_ret2;exact ⟨rfl,rfl⟩
theorem BtK (n:Nat):((UInt8.ofNat n).toNat:Int)=(n:Int) % 256:=by simp
def FcK (n s:Nat) (w:World) (e:Ending) (w':World):Prop :=
 (AfQ n s=0∧AhW s (putL n s) 0 w e w')∨(AfQ n s≠0∧e=.returned (.tuple #[.slice none 0 0,.int .i64 11])∧Below w.heap.size w w')
theorem CxZ (n s:Nat) (w:World) (hn:n≤18446744073709551615) (hs:s≤8) :
  Calls prog 156 #[.int .u64 (n:Int),.int .i64 (s:Int)] w (FcK n s w):=by
 have h0:¬(s:Int)<0:=by omega
 have h8:¬8<(s:Int):=by omega
 go_enter func156,ntmps156
 go_wp2_with (first
  | (at_make;refine AjY rfl _ _ rfl w.heap.size .i64 .i64 _ _ s rfl rfl rfl rfl (by omega) (Nat.le_refl _) ?_;intro w1 hown1 hs1 hb1))
 go_loopw [0,7] (fun v i wr=>∃ j:Nat,j≤s∧i=.int .i64 ((j:Int) - 1)∧v=.int .u64 (AfQ n (s - j):Int)∧OwnB wr w.heap.size (some ⟨w.heap.size,0,none⟩) s s (BmK n s j)∧Below w.heap.size w wr) (fun _ i _=>(intOf i+1).toNat)
 case atStart=>exact ⟨s,Nat.le_refl _,rfl,by simp [AfQ],by rw [BqQ];exact hown1,hb1⟩
 case round =>
  obtain ⟨j,hj,rfl,rfl,hown,hbel⟩:=hrel;have hdl:=BxK n (s - j);rcases j with _ | j
  ·rw [show ((0:Nat):Int) - 1 = -1 from rfl,Nat.sub_zero]
   rw [BqJ] at hown;by_cases hz:AfQ n s=0
   ·have hz1:((AfQ n s:Int) != 0)=false:=by simp [hz]
    go_wp2;go_ret2;exact .inl ⟨hz,_,_,rfl,hown,hbel⟩
   ·have hz1:((AfQ n s:Int) != 0)=true:=by simp;omega
    go_wp2;go_ret2;exact .inr ⟨hz,rfl,hbel⟩
  ·have e:((j+1:Nat):Int) - 1=(j:Int):=by omega
   rw [e];clear e;have hc0:=hown.cellAt (CbV n s j);have hf0:=hown.freeAt j;obtain ⟨m,HM⟩:∃ m,Hid (m=AfQ n (s - (j+1))):=⟨_,η rfl⟩;rw [←HM.o] at hdl ⊢;go_wp2;go_roundw
   case rel =>
    refine ⟨j,by omega,rfl,?_,?_,hbel.setCell (Nat.le_refl _) _⟩
    ·rw [show s - j=(s - (j+1))+1 from by omega,AlY,←HM.o]
     go_num
    ·rw [←BqK n s j (by omega)]
     exact hown.stored j _ _ (by unfold bv;rw [BtK,show s - 1 - j=s - (j+1) from by omega,←HM.o])
   case measure=>simp [intOf]
theorem rput_ok (n s:Nat) (w:World) (hn:n≤18446744073709551615) (hs:s≤8) :
  Calls prog 201 #[.int .u64 (n:Int),.int .i64 (s:Int)] w (FcK n s w):=by
 have h0:¬(s:Int)<0:=by omega
 have h8:¬8<(s:Int):=by omega
 go_enter func201,ntmps201
 go_wp2_with (first
  | (at_make;refine AjY rfl _ _ rfl w.heap.size .i64 .i64 _ _ s rfl rfl rfl rfl (by omega) (Nat.le_refl _) ?_;intro w1 hown1 hs1 hb1))
 go_loopw [0,7] (fun v i wr=>∃ j:Nat,j≤s∧i=.int .i64 ((j:Int) - 1)∧v=.int .u64 (AfQ n (s - j):Int)∧OwnB wr w.heap.size (some ⟨w.heap.size,0,none⟩) s s (BmK n s j)∧Below w.heap.size w wr) (fun _ i _=>(intOf i+1).toNat)
 case atStart=>exact ⟨s,Nat.le_refl _,rfl,by simp [AfQ],by rw [BqQ];exact hown1,hb1⟩
 case round =>
  obtain ⟨j,hj,rfl,rfl,hown,hbel⟩:=hrel;have hdl:=BxK n (s - j);rcases j with _ | j
  ·rw [show ((0:Nat):Int) - 1 = -1 from rfl,Nat.sub_zero]
   rw [BqJ] at hown;by_cases hz:AfQ n s=0
   ·have hz1:(AfQ n s:Int)≤0:=by omega
    go_wp2;go_ret2;exact .inl ⟨hz,_,_,rfl,hown,hbel⟩
   ·have hz1:0<(AfQ n s:Int):=by omega
    go_wp2;go_ret2;exact .inr ⟨hz,rfl,hbel⟩
  ·have e:((j+1:Nat):Int) - 1=(j:Int):=by omega
   rw [e];clear e;have hc0:=hown.cellAt (CbV n s j);have hf0:=hown.freeAt j;obtain ⟨m,HM⟩:∃ m,Hid (m=AfQ n (s - (j+1))):=⟨_,η rfl⟩;rw [←HM.o] at hdl ⊢;go_wp2;go_roundw
   case rel =>
    refine ⟨j,by omega,rfl,?_,?_,hbel.setCell (Nat.le_refl _) _⟩
    ·rw [show s - j=(s - (j+1))+1 from by omega,AlY,←HM.o]
     go_num
    ·rw [←BqK n s j (by omega)]
     exact hown.stored j _ _ (by unfold bv;rw [BtK,show s - 1 - j=s - (j+1) from by omega,←HM.o])
   case measure=>simp [intOf]
theorem rput_bad (n:Nat) (s:Int) (w:World) (hs:s<0∨8<s) :
  Calls prog 201 #[.int .u64 (n:Int),.int .i64 s] w fun e w'=>e=.returned (.tuple #[.slice none 0 0,.int .i64 11])∧w=w':=by
 rcases hs with hs | hs
 ·go_enter func201,ntmps201
  go_wp2;go_ret2;exact ⟨rfl,rfl⟩
 ·have h0:¬s<0:=by omega
  go_enter func201,ntmps201;go_wp2;go_ret2;exact ⟨rfl,rfl⟩
open Go.RowKit
theorem AwX (A:YA) (n c:Nat) (ps:List (YB)) (w:World) (h:RR w w.heap.size A n ps) (hn:n≤maxLen) (hm:totL ps≤70368744177664) :
  Calls prog 59 #[.slice A n c] w (RetB (totL ps) ps.flatten w):=by
 unfold maxLen at hn
 go_enter func59,ntmps59
 go_wp2
 go_loop [3,5,11] (fun v _ i=>∃ k:Nat,k≤n∧i=.int .i64 k∧v=.int .i64 (totL (ps.take k):Int)) (fun _ _ i=>n - (intOf i).toNat)
 case atStart=>exact ⟨0,Nat.zero_le _,rfl,rfl⟩
 case round =>
  obtain ⟨k,hk,rfl,rfl⟩:=hrel;have htk:=BlK ps k;by_cases hlt:k<n
  ·obtain ⟨b,o,rfl,hb,p,hp,Ai,ci,hc,hr⟩:=h.at_ hlt
   have htk1:=BlK ps (k+1);have hts:=CtZ hp;have hle:totL (ps.take k)+p.length≤70368744177664:=by omega
   have HT:=η hts;clear hp hts htk1;go_wp2;go_round
   case rel=>exact ⟨k+1,by omega,by go_num,by rw [HT.o];go_num⟩
   case measure=>simp [intOf];omega
  ·obtain rfl:k=n:=by omega
   have hall:totL (ps.take k)=totL ps:=by rw [List.take_of_length_le (by have:=h.len;omega)]
   rw [hall];clear hall
   go_wp2_with (first
    | (at_make;refine CgY rfl _ _ rfl w.heap.size .i64 .i64 _ (totL ps) rfl rfl rfl (by omega) (Nat.le_refl _) ?_;intro w1 hown1 hb1))
   go_loopw [6,8,24] (fun v _ i wr=>∃ (j c1:Nat) (A1:YA),j≤k∧i=.int .i64 j∧v=.slice A1 (totL (ps.take j)) c1∧OwnB wr w.heap.size A1 (totL (ps.take j)) c1 (ps.take j).flatten∧Below w.heap.size w wr) (fun _ _ i _=>k - (intOf i).toNat)
   case atStart=>exact ⟨0,_,_,Nat.zero_le _,rfl,rfl,hown1,hb1⟩
   case round =>
    obtain ⟨j,c1,A1,hj,rfl,rfl,hown,hbel⟩:=hrel;have hwr:=hbel.size;have htk:=BlK ps j;by_cases hlt:j<k
    ·obtain ⟨b,o,rfl,hb,p,hp,Ai,ci,hc,hr⟩:=(h.below hbel).at_ hlt
     have htk1:=BlK ps (j+1);have hts:=CtZ hp;have hle:totL (ps.take j)+p.length≤70368744177664:=by omega
     have HT:=η hts;have HF:=η (ExW hp);clear hp hts htk1
     go_wp2_with (first
      | (at_builtin;refine AcQ rfl (.tmp 28) (.tmp 29) rfl w.heap.size _ _ _ _ rfl hown w.heap.size Ai p.length ci p rfl hr (by omega) hwr ?_;intro A2 c2 w2 hown2 _ hb2))
     go_roundw
     case rel=>exact ⟨j+1,c2,A2,by omega,by go_num,by rw [HT.o],by rw [HT.o,HF.o];exact hown2,hbel.trans hb2⟩
     case measure=>simp [intOf];omega
    ·obtain rfl:j=k:=by omega
     rw [List.take_of_length_le (by have:=h.len;omega)] at hown;go_wp2;go_ret
     have hfin:RetB (totL ps) ps.flatten w (.returned (.slice A1 (totL (ps.take j)) c1)) wr:=by
      rw [List.take_of_length_le (by have:=h.len;omega)];exact ⟨A1,c1,rfl,hown,hbel⟩
     exact hfin
open Go.RowKit
theorem strL_beq (l l':YB):((strL l).toList == (strL l').toList)=(l == l'):=by
 rw [Lib.toList_data,Lib.toList_data]
 rfl
theorem EgK (A A':YA) (n c n' c' B B':Nat) (l l':YB) (w:World) (h:RB w B A n l) (h':RB w B' A' n' l') :
  Calls prog 99 #[.slice A n c,.slice A' n' c'] w fun e w'=>e=.returned (.bool (l == l'))∧w=w':=by
 have h1:=EnQ h c
 have h2:=EnQ h' c'
 rw [←strL_beq]
 go_enter func99,ntmps99
 go_wp2
 go_ret
 exact ⟨rfl,rfl⟩
theorem DdJ (A A':YA) (n c n' c' B B':Nat) (l l':YB) (w:World) (h:RB w B A n l) (h':RB w B' A' n' l') :
  Calls prog 61 #[.slice A n c,.slice A' n' c'] w fun e w'=>e=.returned (.bool (l == l'))∧w=w':=by
 go_enter func61,ntmps61
 go_wp2_with (go_at_call 99;refine (EgK _ _ _ _ _ _ _ _ l l' _ h h').mono ?_;rintro e w' ⟨rfl,rfl⟩)
 go_ret
 exact ⟨rfl,rfl⟩
