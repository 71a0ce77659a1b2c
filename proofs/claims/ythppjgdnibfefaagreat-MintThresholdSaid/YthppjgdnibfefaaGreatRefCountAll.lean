/- The reference of layer 6 (count): the block behind so many steps. Condition: the block's sixteen cells are readable. -/
import Derived.Test.YthppjgdnibfefaaGreatOctAll
import Derived.Test.YthppjgdnibfefaaGreatRefAesAll
import Derived.Test.YthppjgdnibfefaaGreatAesInvW
set_option linter.unusedVariables false
set_option linter.unusedSimpArgs false
set_option maxRecDepth 100000
set_option maxHeartbeats 32000000
namespace Go.Proofs.YthppjgdnibfefaaGreat
open Go.RowKit
def aftN (l:List UInt8) (n:Nat):Nat:=(numL (l.drop 12)+n) % 2 ^ 32
def aftL (l:List UInt8) (n:Nat):List UInt8:=l.take 12++putL (aftN l n) 4
def cntAt (V:Nat) (l:List UInt8) (j:Nat):List UInt8:=l.take (12+j)++(putL V 4).drop j
attribute [local irreducible] cntAt numL putL
end Go.Proofs.YthppjgdnibfefaaGreat
namespace Go.Proofs.YthppjgdnibfefaaGreat
open Go.RowKit
theorem aftL_len (l:List UInt8) (n:Nat) (hl:l.length=16):(aftL l n).length=16:=by
 unfold aftL
 rw [List.length_append,List.length_take,putL_len]
 omega
def blkL (key l:List UInt8) (i:Nat):List UInt8:=encL key tableL (aftL l i)
def blksL (key l:List UInt8):Nat→List UInt8 | 0=>[] | k+1=>blksL key l k++blkL key l k
def strmL (key l:List UInt8) (n:Nat):List UInt8:=(blksL key l ((n+15) / 16)).take n
theorem blkL_len (key l:List UInt8) (i:Nat) (hk:key.length=16) (hl:l.length=16):(blkL key l i).length=16:=encL_len key tableL _ hk (aftL_len l i hl)
theorem blksL_len (key l:List UInt8) (hk:key.length=16) (hl:l.length=16):∀ k,(blksL key l k).length=16*k
 | 0=>rfl
 | k+1=>by rw [blksL,List.length_append,blksL_len key l hk hl k,blkL_len key l k hk hl];omega
theorem strmL_len (key l:List UInt8) (n:Nat) (hk:key.length=16) (hl:l.length=16):(strmL key l n).length=n:=by
 unfold strmL
 rw [List.length_take,blksL_len key l hk hl]
 omega
theorem OwnB.head {w:World} {base N c n:Nat} {A:Option Addr} {l:List UInt8} (h:OwnB w base A N c l) (hn:n≤N) (hA:∃ g,A=some ⟨g,0,none⟩):OwnB w base A n c (l.take n):=by
 have hlen:=h.len
 refine ⟨by rw [bvs_length,List.length_take];omega,?_⟩
 obtain ⟨g0,rfl⟩:=hA
 rcases h.2 with ⟨hv,h0⟩ | ⟨g,cap,cur,hv,hbg,hh,hnc,hcm,hsz,ht⟩
 ·cases hv
 ·injection hv with e1 e2 e3
  injection e1 with e1
  injection e1 with e1
  subst e1
  subst e3
  refine .inr ⟨g0,c,cur,rfl,hbg,hh,by omega,hcm,hsz,?_⟩
  have:bvs (l.take n)=(bvs l).take n:=by simp [bvs,List.map_take]
  rw [this,←ht,Nat.mul_one,Nat.mul_one,List.take_take,Nat.min_eq_left hn]
theorem blksL_succ (key l:List UInt8) (k:Nat):blksL key l (k+1)=blksL key l k++blkL key l k:=rfl
attribute [local irreducible] aftL encL tableL blksL blkL
def turnAt (k:Nat) (a b:List UInt8):List UInt8:=xorL (a.take k) (b.take k)++a.drop k
attribute [local irreducible] turnAt strmL
end Go.Proofs.YthppjgdnibfefaaGreat
namespace Go.Proofs.YthppjgdnibfefaaGreat
theorem downL_pow (n:Nat):∀ k,downL n k=n / 256 ^ k
 | 0=>by simp [downL]
 | k+1=>by rw [downL_succ,downL_pow n k,Nat.div_div_eq_div_mul,Nat.pow_succ]
theorem numP_put:∀ (k n:Nat),numL (putL n k)+256 ^ k*downL n k=n
 | 0,n=>by simp [putL,numL,downL]
 | k+1,n=>by
  have ih:=numP_put k (n / 256)
  rw [putL,numL_snoc,←downL_comm]
  have e:(UInt8.ofNat n).toNat=n % 256:=by simp
  rw [e,Nat.pow_succ]
  have h2:256 ^ k*256*downL (n / 256) k=256*(256 ^ k*downL (n / 256) k):=by rw [Nat.mul_comm (256 ^ k) 256,Nat.mul_assoc]
  rw [h2]
  omega
theorem numP_four (n:Nat) (hn:n<2 ^ 32):numL (putL n 4)=n:=by
 have h:=numP_put 4 n
 rw [downL_pow,Nat.div_eq_of_lt (show n<256 ^ 4 by omega)] at h
 omega
theorem putP_num:∀ (k:Nat) (l:List UInt8),l.length=k→putL (numL l) k=l
 | 0,l,h=>by rw [List.eq_nil_of_length_eq_zero h];rfl
 | k+1,l,h=>by
  obtain ⟨m,x,rfl⟩:∃ m x,l=m++[x]:=by
   have hne:l≠[]:=fun e=>by rw [e] at h;cases h
   exact ⟨l.dropLast,l.getLast hne,(List.dropLast_concat_getLast hne).symm⟩
  have hm:m.length=k:=by simpa using h
  have hx:=x.toNat_lt
  rw [putL,numL_snoc,show (numL m*256+x.toNat) / 256=numL m by omega,putP_num k m hm]
  have e:UInt8.ofNat (numL m*256+x.toNat)=x:=by
   apply UInt8.toNat_inj.1
   simp
  rw [e]
theorem aft_take (l:List UInt8) (n:Nat) (hl:l.length=16):(aftL l n).take 12=l.take 12:=by
 unfold aftL
 rw [List.take_left' (by rw [List.length_take];omega)]
theorem aft_drop (l:List UInt8) (n:Nat) (hl:l.length=16):(aftL l n).drop 12=putL (aftN l n) 4:=by
 unfold aftL
 rw [List.drop_left' (by rw [List.length_take];omega)]
theorem aftN_lt (l:List UInt8) (n:Nat):aftN l n<2 ^ 32:=Nat.mod_lt _ (by omega)
theorem aft_aft (l:List UInt8) (a b:Nat) (hl:l.length=16):aftL (aftL l a) b=aftL l (a+b):=by
 have e:aftN (aftL l a) b=aftN l (a+b):=by
  have h:=aft_drop l a hl
  have h2:=numP_four _ (aftN_lt l a)
  unfold aftN at h2 ⊢
  rw [h]
  unfold aftN
  rw [h2]
  omega
 rw [aftL,e,aft_take l a hl]
 rfl
theorem aft_whole (l:List UInt8) (n:Nat) (hl:l.length=16) (hn:n % 2 ^ 32=0):aftL l n=l:=by
 have hd:(l.drop 12).length=4:=by rw [List.length_drop];omega
 have hlt:numL (l.drop 12)<256 ^ 4:=numL_lt 4 _ hd
 have e:aftN l n=numL (l.drop 12):=by unfold aftN;omega
 rw [aftL,e,putP_num 4 _ hd,List.take_append_drop]
end Go.Proofs.YthppjgdnibfefaaGreat
