import Derived.Test.YthppjgdnibfefaaGreatBytes
set_option linter.all false
set_option maxRecDepth 100000
set_option maxHeartbeats 32000000
namespace Go.Proofs.YthppjgdnibfefaaGreat
def ApZ (a b:Nat):Nat→Nat | 0=>0 | k+1=>if b / 2 ^ k % 2=1 then ApZ a b k ^^^ (a*2 ^ k) else ApZ a b k
def AqJ (n:Nat):Nat→Nat | 0=>n | k+1=>AqJ (if n / 2 ^ (8+k) % 2=1 then n ^^^ (283*2 ^ k) else n) k
def mulB (a b:UInt8):UInt8:=UInt8.ofNat (AqJ (ApZ a.toNat b.toNat 8) 7)
def BoX (a:UInt8) (k:Nat):Nat→UInt8 | 0=>0 | m+1=>if mulB a (UInt8.ofNat k)=1 then UInt8.ofNat k else BoX a (k+1) m
def invB (a:UInt8):UInt8:=BoX a 0 256
def powN (a:UInt8):Nat→UInt8 | 0=>1 | m+1=>mulB (powN a m) a
def powB (a:UInt8) (n:Nat):UInt8:=if n=0 then 1 else if a=0 then 0 else powN a (n % 255)
def BsJ (b k:Nat):Nat→Nat | 0=>99 / 2 ^ k % 2+b / 2 ^ k % 2 | m+1=>BsJ b k m+b / 2 ^ ((k+(4+m)) % 8) % 2
def BqZ (b:Nat):Nat→Nat | 0=>0 | k+1=>BqZ b k+BsJ b k 4 % 2*2 ^ k
def BgY (x:UInt8):UInt8:=UInt8.ofNat (BqZ x.toNat 8)
def subB (x:UInt8):UInt8:=BgY (invB x)
def BiX (a:UInt8) (k:Nat):Nat→UInt8 | 0=>0 | m+1=>if subB (UInt8.ofNat k)=a then UInt8.ofNat k else BiX a (k+1) m
def BvW (a:UInt8):UInt8:=BiX a 0 256
def sel (c v:Nat):Nat:=if c=1 then v else 0
theorem ElY (x y v:Nat) (hx:x<2) (hy:y<2):sel ((x+y) % 2) v=sel x v ^^^ sel y v:=by
 rcases (show x=0∨x=1 by omega) with rfl | rfl <;> rcases (show y=0∨y=1 by omega) with rfl | rfl <;> simp [sel]
theorem ElX (c v v':Nat):sel c (v ^^^ v')=sel c v ^^^ sel c v':=by unfold sel;split <;> simp
theorem FaV (a b k:Nat):(a ^^^ b) / 2 ^ k % 2=(a / 2 ^ k % 2+b / 2 ^ k % 2) % 2:=by
 rw [←Nat.shiftRight_eq_div_pow,←Nat.shiftRight_eq_div_pow,←Nat.shiftRight_eq_div_pow,Nat.shiftRight_xor_distrib]
 have h1:=Nat.xor_mod_two_pow (a:=a >>> k) (b:=b >>> k) (n:=1)
 rw [Nat.pow_one] at h1
 rw [h1]
 rcases Nat.mod_two_eq_zero_or_one (a >>> k) with e | e <;> rcases Nat.mod_two_eq_zero_or_one (b >>> k) with e' | e' <;> rw [e,e'] <;> rfl
theorem DhX (a b k:Nat):(a ^^^ b)*2 ^ k=(a*2 ^ k) ^^^ (b*2 ^ k):=by
 rw [←Nat.shiftLeft_eq,←Nat.shiftLeft_eq,←Nat.shiftLeft_eq,Nat.shiftLeft_xor_distrib]
theorem CjJ (p q s t:Nat):(p ^^^ q) ^^^ (s ^^^ t)=(p ^^^ s) ^^^ (q ^^^ t):=by
 rw [Nat.xor_assoc,Nat.xor_assoc,←Nat.xor_assoc q s t,Nat.xor_comm q s,Nat.xor_assoc s q t]
theorem BeW (a b k:Nat):ApZ a b (k+1)=ApZ a b k ^^^ sel (b / 2 ^ k % 2) (a*2 ^ k):=by
 rw [ApZ];unfold sel;split <;> simp
theorem BoJ (n k:Nat):AqJ n (k+1)=AqJ (n ^^^ sel (n / 2 ^ (8+k) % 2) (283*2 ^ k)) k:=by
 rw [AqJ];unfold sel;split <;> simp
theorem ByY (a b b':Nat):∀ k,ApZ a (b ^^^ b') k=ApZ a b k ^^^ ApZ a b' k
 | 0=>by simp [ApZ]
 | k+1=>by
  rw [BeW,BeW,BeW,ByY a b b' k,FaV,ElY _ _ _ (Nat.mod_lt _ (by omega)) (Nat.mod_lt _ (by omega)),CjJ]
theorem ChJ (a a' b:Nat):∀ k,ApZ (a ^^^ a') b k=ApZ a b k ^^^ ApZ a' b k
 | 0=>by simp [ApZ]
 | k+1=>by rw [BeW,BeW,BeW,ChJ a a' b k,DhX,ElX,CjJ]
theorem BhK:∀ (k n n':Nat),AqJ (n ^^^ n') k=AqJ n k ^^^ AqJ n' k
 | 0,n,n'=>by simp [AqJ]
 | k+1,n,n'=>by
  rw [BoJ,BoJ,BoJ,FaV,ElY _ _ _ (Nat.mod_lt _ (by omega)) (Nat.mod_lt _ (by omega)),CjJ,BhK k]
theorem CxQ (a b:Nat):UInt8.ofNat (a ^^^ b)=UInt8.ofNat a ^^^ UInt8.ofNat b:=by
 apply UInt8.toNat_inj.1
 rw [UInt8.toNat_xor]
 simp only [UInt8.toNat_ofNat']
 exact Nat.xor_mod_two_pow
theorem AkW (a b b':UInt8):mulB a (b ^^^ b')=mulB a b ^^^ mulB a b':=by
 unfold mulB;rw [UInt8.toNat_xor,ByY,BhK,CxQ]
theorem AoY (a a' b:UInt8):mulB (a ^^^ a') b=mulB a b ^^^ mulB a' b:=by
 unfold mulB;rw [UInt8.toNat_xor,ChJ,BhK,CxQ]
def bitB (k:Nat):UInt8:=UInt8.ofNat (2 ^ k)
theorem EzY (x:UInt8):x=(x &&& bitB 0) ^^^ ((x &&& bitB 1) ^^^ ((x &&& bitB 2) ^^^ ((x &&& bitB 3) ^^^ ((x &&& bitB 4) ^^^ ((x &&& bitB 5) ^^^ ((x &&& bitB 6) ^^^ (x &&& bitB 7))))))):=by
 have h:∀ n:Fin 256,UInt8.ofNat n.val=(UInt8.ofNat n.val &&& bitB 0) ^^^ ((UInt8.ofNat n.val &&& bitB 1) ^^^ ((UInt8.ofNat n.val &&& bitB 2) ^^^ ((UInt8.ofNat n.val &&& bitB 3) ^^^ ((UInt8.ofNat n.val &&& bitB 4) ^^^ ((UInt8.ofNat n.val &&& bitB 5) ^^^ ((UInt8.ofNat n.val &&& bitB 6) ^^^ (UInt8.ofNat n.val &&& bitB 7))))))):=by decide +kernel
 have e:UInt8.ofNat x.toNat=x:=by simp
 have:=h ⟨x.toNat,x.toNat_lt⟩
 rw [e] at this
 exact this
theorem and_bit (x:UInt8) (k:Fin 8):x &&& bitB k.val=0∨x &&& bitB k.val=bitB k.val:=by
 have h:∀ n:Fin 256,∀ k:Fin 8,UInt8.ofNat n.val &&& bitB k.val=0∨UInt8.ofNat n.val &&& bitB k.val=bitB k.val:=by decide +kernel
 have e:UInt8.ofNat x.toNat=x:=by simp
 have:=h ⟨x.toNat,x.toNat_lt⟩ k
 rw [e] at this
 exact this
theorem BoQ (f g:UInt8→UInt8) (hf:∀ x y,f (x ^^^ y)=f x ^^^ f y) (hg:∀ x y,g (x ^^^ y)=g x ^^^ g y) (h:∀ k:Fin 8,f (bitB k.val)=g (bitB k.val)) (x:UInt8):f x=g x:=by
 have f0:f 0=0:=by have:=hf 0 0;rw [UInt8.xor_self,UInt8.xor_self] at this;exact this
 have g0:g 0=0:=by have:=hg 0 0;rw [UInt8.xor_self,UInt8.xor_self] at this;exact this
 have e:∀ k:Fin 8,f (x &&& bitB k.val)=g (x &&& bitB k.val):=fun k=>by
  rcases and_bit x k with h0 | h0 <;> rw [h0]
  ·rw [f0,g0]
  ·exact h k
 rw [EzY x]
 simp only [hf,hg]
 have e':∀ k,k<8→f (x &&& bitB k)=g (x &&& bitB k):=fun k hk=>e ⟨k,hk⟩
 rw [e' 0 (by omega),e' 1 (by omega),e' 2 (by omega),e' 3 (by omega),e' 4 (by omega),e' 5 (by omega),e' 6 (by omega),e' 7 (by omega)]
theorem BkK (a b:UInt8):mulB a b=mulB b a :=
 BoQ (fun a=>mulB a b) (fun a=>mulB b a) (fun x y=>AoY x y b) (fun x y=>AkW b x y)
  (fun k=>BoQ (fun b=>mulB (bitB k.val) b) (fun b=>mulB b (bitB k.val)) (fun x y=>AkW _ x y) (fun x y=>AoY x y _)
   (fun j=>(by decide +kernel:∀ k j:Fin 8,mulB (bitB k.val) (bitB j.val)=mulB (bitB j.val) (bitB k.val)) k j) b) a
theorem BeX (a b c:UInt8):mulB (mulB a b) c=mulB a (mulB b c) :=
 BoQ (fun a=>mulB (mulB a b) c) (fun a=>mulB a (mulB b c)) (fun x y=>by rw [AoY,AoY]) (fun x y=>AoY x y _)
  (fun i=>BoQ (fun b=>mulB (mulB (bitB i.val) b) c) (fun b=>mulB (bitB i.val) (mulB b c)) (fun x y=>by rw [AkW,AoY]) (fun x y=>by rw [AoY,AkW])
   (fun j=>BoQ (fun c=>mulB (mulB (bitB i.val) (bitB j.val)) c) (fun c=>mulB (bitB i.val) (mulB (bitB j.val) c)) (fun x y=>AkW _ x y) (fun x y=>by rw [AkW,AkW])
    (fun k=>(by decide +kernel:∀ i j k:Fin 8,mulB (mulB (bitB i.val) (bitB j.val)) (bitB k.val)=mulB (bitB i.val) (mulB (bitB j.val) (bitB k.val))) i j k) c) b) a
theorem BkJ (a:UInt8):mulB a 1=a :=
 BoQ (fun a=>mulB a 1) (fun a=>a) (fun x y=>AoY x y _) (fun _ _=>rfl) (fun k=>(by decide +kernel:∀ k:Fin 8,mulB (bitB k.val) 1=bitB k.val) k) a
theorem BcJ (a:UInt8):mulB 1 a=a:=by rw [BkK,BkJ]
theorem BbZ (a:UInt8):mulB a 0=0:=by have:=AkW a 0 0;rw [UInt8.xor_self,UInt8.xor_self] at this;exact this
theorem ChK (a:UInt8):mulB 0 a=0:=by rw [BkK,BbZ]
theorem AwW (a:UInt8) (m:Nat):powN a (m+1)=mulB (powN a m) a:=rfl
theorem AiX (a:UInt8) (m:Nat):∀ n,powN a (m+n)=mulB (powN a m) (powN a n)
 | 0=>by rw [Nat.add_zero];show _=mulB _ 1;rw [BkJ]
 | n+1=>by rw [←Nat.add_assoc,AwW,AwW,AiX a m n,BeX]
theorem BtW (a:UInt8):powN a 1=a:=BcJ a
def pow255 (a:UInt8):UInt8 :=
 let b:=mulB a a;let c:=mulB b b;let d:=mulB c c;let e:=mulB d d;let f:=mulB e e;let g:=mulB f f;let h:=mulB g g
 mulB (mulB (mulB (mulB (mulB (mulB (mulB h g) f) e) d) c) b) a
theorem AuQ (a:UInt8) (m:Nat):powN a (m+m)=mulB (powN a m) (powN a m):=AiX a m m
theorem EpY (a:UInt8):powN a 255=pow255 a:=by
 have h1:=BtW a
 have h2:powN a 2=mulB a a:=by rw [AuQ a 1,h1]
 have h4:powN a 4=mulB (powN a 2) (powN a 2):=AuQ a 2
 have h8:powN a 8=mulB (powN a 4) (powN a 4):=AuQ a 4
 have h16:powN a 16=mulB (powN a 8) (powN a 8):=AuQ a 8
 have h32:powN a 32=mulB (powN a 16) (powN a 16):=AuQ a 16
 have h64:powN a 64=mulB (powN a 32) (powN a 32):=AuQ a 32
 have h128:powN a 128=mulB (powN a 64) (powN a 64):=AuQ a 64
 have e:powN a 255=mulB (mulB (mulB (mulB (mulB (mulB (mulB (powN a 128) (powN a 64)) (powN a 32)) (powN a 16)) (powN a 8)) (powN a 4)) (powN a 2)) (powN a 1):=by
  rw [←AiX,←AiX,←AiX,←AiX,←AiX,←AiX,←AiX]
 rw [e,h128,h64,h32,h16,h8,h4,h2,h1]
 rfl
theorem CmK (a:UInt8) (ha:a≠0):powN a 255=1:=by
 rw [EpY]
 have h:∀ n:Fin 256,n.val≠0→pow255 (UInt8.ofNat n.val)=1:=by decide +kernel
 have e:UInt8.ofNat a.toNat=a:=by simp
 have:=h ⟨a.toNat,a.toNat_lt⟩ (fun h0=>ha (UInt8.toNat_inj.1 (by simpa using h0)))
 rw [e] at this
 exact this
theorem CwY (m:Nat):powN 0 (m+1)=0:=by rw [AwW,BbZ]
theorem CwZ (a:UInt8) (ha:a≠0) (r:Nat):∀ q,powN a (255*q+r)=powN a r
 | 0=>by simp
 | q+1=>by rw [show 255*(q+1)+r=255+(255*q+r) from by omega,AiX,CmK a ha,BcJ,CwZ a ha r q]
theorem powB_eq (a:UInt8) (n:Nat):powB a n=powN a n:=by
 unfold powB
 by_cases h0:n=0
 ·subst h0;rfl
 ·rw [if_neg h0]
  by_cases ha:a=0
  ·rw [if_pos ha,ha]
   obtain ⟨m,rfl⟩:∃ m,n=m+1:=⟨n - 1,by omega⟩;rw [CwY]
  ·rw [if_neg ha]
   have:=CwZ a ha (n % 255) (n / 255);rw [Nat.div_add_mod] at this;exact this.symm
theorem DpY (a:UInt8) (m:Nat):∀ n,powN (powN a m) n=powN a (m*n)
 | 0=>rfl
 | n+1=>by rw [AwW,DpY a m n,Nat.mul_succ,AiX]
theorem ByZ (a:UInt8) (ha:a≠0):mulB a (powN a 254)=1:=by
 have:=CmK a ha
 rw [show 255=1+254 from rfl,AiX,BtW] at this
 exact this
theorem BrY (a:UInt8):∀ (m k:Nat),(∃ j,k≤j∧j<k+m∧mulB a (UInt8.ofNat j)=1)→mulB a (BoX a k m)=1
 | 0,k,⟨j,h1,h2,_⟩=>by omega
 | m+1,k,⟨j,h1,h2,h3⟩=>by
  rw [BoX];split
  ·assumption
  ·rename_i hk
   refine BrY a m (k+1) ⟨j,?_,by omega,h3⟩;rcases Nat.lt_or_ge k j with h | h
   ·exact h
   ·exact absurd (by rw [show k=j from by omega];exact h3) hk
theorem BrZ (a:UInt8):∀ (m k:Nat),(∀ j,mulB a (UInt8.ofNat j)≠1)→BoX a k m=0
 | 0,k,_=>rfl
 | m+1,k,h=>by rw [BoX,if_neg (h k)];exact BrZ a m (k+1) h
theorem BkQ:invB 0=0:=BrZ 0 256 0 fun j=>by rw [ChK];decide
theorem BtY (a:UInt8) (ha:a≠0):mulB a (invB a)=1:=by
 refine BrY a 256 0 ⟨(powN a 254).toNat,Nat.zero_le _,by have:=(powN a 254).toNat_lt;omega,?_⟩
 have e:UInt8.ofNat (powN a 254).toNat=powN a 254:=by simp
 rw [e]
 exact ByZ a ha
theorem BoW (a b c:UInt8) (h:mulB a b=1) (h':mulB a c=1):b=c:=by
 have e:mulB (mulB b a) c=c:=by rw [BkK b a,h,BcJ]
 rw [BeX,h',BkJ] at e
 exact e
theorem invB_pow (a:UInt8):invB a=powN a 254:=by
 by_cases ha:a=0
 ·rw [ha,BkQ,show 254=253+1 from rfl,CwY]
 ·exact BoW a _ _ (BtY a ha) (ByZ a ha)
open Tryz
open Go.RowKit
theorem BzW (a b:Nat) (ha:a<4611686018427387904) (hb:b<4611686018427387904):bits .xor .i64 (a:Int) (b:Int)=((a ^^^ b:Nat):Int):=by
 have hx:a ^^^ b<2 ^ 62:=Nat.xor_lt_two_pow (by omega) (by omega)
 show IntKind.i64.wrap ((BitVec.ofInt 64 (a:Int) ^^^ BitVec.ofInt 64 (b:Int)).toNat:Int)=_
 rw [BitVec.toNat_xor,ofInt_u64 a (by omega),ofInt_u64 b (by omega),IntKind.wrap_i64]
 omega
theorem CkW (k:Nat) (hk:k<8):∃ P:Nat,Hid (P=2 ^ k)∧(2:Int) ^ k=(P:Int)∧1≤P∧P≤128:=by
 refine ⟨2 ^ k,η rfl,by simp,Nat.one_le_two_pow,?_⟩
 have:2 ^ k≤2 ^ 7:=Nat.pow_le_pow_right (by omega) (by omega)
 simpa using this
theorem DrV (a b:Nat) (ha:a<256):∀ k,k≤8→ApZ a b k<32768
 | 0,_=>by simp [ApZ]
 | k+1,hk=>by
  have ih:=DrV a b ha k (by omega);unfold ApZ;split
  ·have h1:2 ^ k≤2 ^ 7:=Nat.pow_le_pow_right (by omega) (by omega)
   have h2:a*2 ^ k≤255*128:=Nat.mul_le_mul (by omega) (by simpa using h1);exact Nat.xor_lt_two_pow (n:=15) (by omega) (by omega)
  ·exact ih
theorem ClW (x y:UInt8) (w:World) :
  Calls prog 163 #[.int .u8 (x.toNat:Int),.int .u8 (y.toNat:Int)] w fun e w'=>e=.returned (.int .u8 ((mulB x y).toNat:Int))∧w=w':=by
 have hx:=AeJ x
 have hy:=AeJ y
 go_enter func163,ntmps163
 go_wp2
 go_loop [5,6] (fun v i=>∃ k:Nat,k≤8∧i=.int .i64 k∧v=.int .i64 (ApZ x.toNat y.toNat k:Int)) (fun _ i=>8 - (intOf i).toNat)
 case atStart=>exact ⟨0,by omega,rfl,rfl⟩
 case round =>
  obtain ⟨k,hk,rfl,rfl⟩:=hrel;have hb:=DrV x.toNat y.toNat (by omega) k hk;by_cases hlt:k<8
  ·obtain ⟨P,HP,hpi,hp1,hp2⟩:=CkW k hlt
   obtain ⟨M,HM⟩:∃ M,Hid (M=ApZ x.toNat y.toNat k):=⟨_,η rfl⟩;rw [←HM.o] at hb ⊢;obtain ⟨Q,HQ⟩:∃ Q,Hid (Q=y.toNat / P):=⟨_,η rfl⟩;have hq:(y.toNat:Int) / (P:Int)=(Q:Int):=by rw [HQ.o];simp
   have hQ:Q≤255:=by rw [HQ.o];exact Nat.le_trans (Nat.div_le_self _ _) (by omega)
   obtain ⟨S,HS⟩:∃ S,Hid (S=x.toNat*P):=⟨_,η rfl⟩
   have hS:S≤32640:=by
    rw [HS.o];have:=Nat.mul_le_mul (show x.toNat≤255 by omega) hp2;omega
   have hs:(x.toNat:Int)*(P:Int)=(S:Int):=by rw [HS.o];simp
   by_cases hbit:Q % 2=1
   ·have hb1:((Q:Int) % 2 == 1)=true:=by rw [beq_iff_eq];omega
    have hfin:ApZ x.toNat y.toNat (k+1)=M ^^^ S:=by
     unfold ApZ;rw [←HP.o,←HQ.o,if_pos hbit,←HM.o,←HS.o]
    have HF:=η hfin;clear hfin hbit;go_wp2;go_round
    case rel=>exact ⟨k+1,by omega,by go_num,by rw [HF.o,BzW _ _ (by omega) (by omega)]⟩
    case measure=>simp [intOf];omega
   ·have hb1:((Q:Int) % 2 == 1)=false:=by rw [beq_eq_false_iff_ne];omega
    have hfin:ApZ x.toNat y.toNat (k+1)=M:=by
     unfold ApZ;rw [←HP.o,←HQ.o,if_neg hbit,←HM.o]
    have HF:=η hfin;clear hfin hbit;go_wp2;go_round
    case rel=>exact ⟨k+1,by omega,by go_num,by rw [HF.o]⟩
    case measure=>simp [intOf];omega
  ·go_wp2
   have hk8:k=8:=by omega
   subst hk8;obtain ⟨D,HD⟩:∃ D,Hid (D=AqJ (ApZ x.toNat y.toNat 8) 7):=⟨_,η rfl⟩;obtain ⟨n0,HN⟩:∃ n0,Hid (n0=ApZ x.toNat y.toNat 8):=⟨_,η rfl⟩;rw [←HN.o] at hb ⊢;go_loop [5,7] (fun v i=>∃ j n:Nat,j≤7∧i=.int .i64 ((j:Int)+7)∧v=.int .i64 (n:Int)∧n<65536∧Hid (AqJ n j=D)) (fun _ i=>(intOf i).toNat)
   case atStart=>exact ⟨7,n0,by omega,rfl,rfl,by omega,η (by rw [HD.o,HN.o])⟩
   case round =>
    obtain ⟨j,n,hj,rfl,rfl,hn,hd⟩:=hrel;rcases j with _ | j
    ·have e:((0:Nat):Int)+7=7:=rfl
     rw [e];clear e;go_wp2;go_ret;refine ⟨AyX ?_,rfl⟩;have h1:n=D:=hd.o;unfold mulB;rw [←HD.o,←h1];simp
    ·have e:((j+1:Nat):Int)+7=(j:Int)+8:=by omega
     rw [e];clear e;obtain ⟨P,HP,hpi,hp1,hp2⟩:=CkW j (by omega);obtain ⟨P2,HP2⟩:∃ P2,Hid (P2=256*P):=⟨_,η rfl⟩;have hp3:(2:Int) ^ (j+8)=(P2:Int):=by rw [HP2.o,HP.o,Int.pow_add];simp;omega
     have hp4:256≤P2∧P2≤32768:=by rw [HP2.o];omega
     obtain ⟨Q,HQ⟩:∃ Q,Hid (Q=n / P2):=⟨_,η rfl⟩;have hq:(n:Int) / (P2:Int)=(Q:Int):=by rw [HQ.o];simp
     have hQ:Q≤65536:=by rw [HQ.o];exact Nat.le_trans (Nat.div_le_self _ _) (by omega)
     obtain ⟨S,HS⟩:∃ S,Hid (S=283*P):=⟨_,η rfl⟩;have hS:S≤36224:=by rw [HS.o];omega
     have hs:(283:Int)*(P:Int)=(S:Int):=by rw [HS.o];simp
     have hP2:n / 2 ^ (8+j)=Q:=by rw [HQ.o,HP2.o,HP.o,Nat.pow_add]
     have hstep:=hd.o;unfold AqJ at hstep;rw [hP2,←HP.o,←HS.o] at hstep;clear hP2;by_cases hbit:Q % 2=1
     ·have hb1:((Q:Int) % 2 == 1)=true:=by rw [beq_iff_eq];omega
      rw [if_pos hbit] at hstep;have HT:=η hstep;clear hstep hbit;go_wp2;go_round
      case rel=>exact ⟨j,n ^^^ S,by omega,by go_num,by rw [BzW _ _ (by omega) (by omega)],Nat.xor_lt_two_pow (n:=16) (by omega) (by omega),HT⟩
      case measure=>simp [intOf];omega
     ·have hb1:((Q:Int) % 2 == 1)=false:=by rw [beq_eq_false_iff_ne];omega
      rw [if_neg hbit] at hstep;have HT:=η hstep;clear hstep hbit;go_wp2;go_round
      case rel=>exact ⟨j,n,by omega,by go_num,rfl,hn,HT⟩
      case measure=>simp [intOf];omega
theorem rpow_any (x:UInt8) (n:Nat) (w:World) (hn:n≤18446744073709551615) :
  Calls prog 190 #[.int .u8 (x.toNat:Int),.int .u64 (n:Int)] w fun e w'=>e=.returned (.int .u8 ((powB x n).toNat:Int))∧w=w':=by
 have hx:=AeJ x
 by_cases h0:n=0
 ·subst h0
  go_enter func190,ntmps190;go_wp2;go_ret;exact ⟨AyX rfl,rfl⟩
 ·have hb0:((n:Int) == 0)=false:=by rw [beq_eq_false_iff_ne];omega
  by_cases hx0:x=0
  ·have hbx:((x.toNat:Int) == 0)=true:=by rw [hx0];rfl
   have HX:=η hx0;have H0:=η h0;clear hx0 h0;go_enter func190,ntmps190;go_wp2;go_ret;exact ⟨AyX (by unfold powB;rw [if_neg H0.o,if_pos HX.o];rfl),rfl⟩
  ·have hbx:((x.toNat:Int) == 0)=false:=by
    rw [beq_eq_false_iff_ne];intro e;exact hx0 (UInt8.toNat_inj.1 (by simp;omega))
   have HX:=η hx0;have H0:=η h0;clear hx0 h0;obtain ⟨r,HR,hr1⟩:∃ r:Nat,Hid (r=n % 255)∧r<255:=⟨_,η rfl,Nat.mod_lt _ (by omega)⟩;have hr:(n:Int) % 255=(r:Int):=by rw [HR.o];simp
   go_enter func190,ntmps190;go_wp2;go_loop [5,6] (fun v i=>∃ k:Nat,k≤r∧i=.int .u64 k∧v=.int .u8 ((powN x k).toNat:Int)) (fun _ i=>r - (intOf i).toNat)
   case atStart=>exact ⟨0,by omega,rfl,rfl⟩
   case round =>
    obtain ⟨k,hk,rfl,rfl⟩:=hrel;by_cases hlt:k<r
    ·go_wp2_with (go_at_call 163;refine (ClW _ _ _).mono ?_;rintro e w' ⟨rfl,rfl⟩)
     go_round
     case rel=>exact ⟨k+1,by omega,by go_num,rfl⟩
     case measure=>simp [intOf];omega
    ·have hkr:k=r:=by omega
     have HK:=η hkr;clear hkr;go_wp2_with fail;go_ret;exact ⟨AyX (by unfold powB;rw [if_neg H0.o,if_neg HX.o,HK.o,HR.o]),rfl⟩
theorem DnK (b k:Nat):∀ m,BsJ b k m≤2+m
 | 0=>by unfold BsJ;omega
 | m+1=>by have:=DnK b k m;unfold BsJ;omega
theorem CuJ (b:Nat):∀ k,BqZ b k<2 ^ k
 | 0=>by simp [BqZ]
 | k+1=>by
  have ih:=CuJ b k;unfold BqZ;have h2:BsJ b k 4 % 2≤1:=by omega
  have h3:=Nat.mul_le_mul_right (2 ^ k) h2;rw [Nat.pow_succ];omega
theorem EkY (U N P:Nat) (hu:U<P) (hp:P≤128):wrap64 ((U:Int)+wrap64 ((N:Int) % 2*(P:Int)))=((U+N % 2*P:Nat):Int):=by
 have h1:N % 2=0∨N % 2=1:=by omega
 have e:(N:Int) % 2=((N % 2:Nat):Int):=by simp
 rw [e]
 rcases h1 with h | h <;> rw [h]
 ·rw [IntWalk.wrap64_in (((0:Nat):Int)*(P:Int)) (by simp),IntWalk.wrap64_in _ (by simp;omega)]
  simp
 ·rw [IntWalk.wrap64_in (((1:Nat):Int)*(P:Int)) (by simp;omega),IntWalk.wrap64_in _ (by simp;omega)]
  simp
theorem EmY (x:UInt8) (w:World) :
  Calls prog 164 #[.int .u8 (x.toNat:Int)] w fun e w'=>e=.returned (.int .u8 ((BgY x).toNat:Int))∧w=w':=by
 have hx:=AeJ x
 go_enter func164,ntmps164
 go_wp2
 go_loop [4,5,6,7] (fun v i _ _=>∃ k:Nat,k≤8∧i=.int .i64 k∧v=.int .i64 (BqZ x.toNat k:Int)) (fun _ i _ _=>8 - (intOf i).toNat)
 case atStart=>exact ⟨0,by omega,rfl,rfl⟩
 case round =>
  obtain ⟨k,hk,rfl,rfl⟩:=hrel;have hub:=CuJ x.toNat k;by_cases hlt:k<8
  ·obtain ⟨P,HP,hpi,hp1,hp2⟩:=CkW k hlt
   rw [←HP.o] at hub;obtain ⟨U,HU⟩:∃ U,Hid (U=BqZ x.toNat k):=⟨_,η rfl⟩;rw [←HU.o] at hub ⊢;obtain ⟨Q,HQ⟩:∃ Q,Hid (Q=x.toNat / P):=⟨_,η rfl⟩;have hq:(x.toNat:Int) / (P:Int)=(Q:Int):=by rw [HQ.o];simp
   have hQ:Q≤255:=by rw [HQ.o];exact Nat.le_trans (Nat.div_le_self _ _) (by omega)
   obtain ⟨R,HR⟩:∃ R,Hid (R=99 / P):=⟨_,η rfl⟩;have hr:(99:Int) / (P:Int)=(R:Int):=by rw [HR.o];simp
   have hR:R≤99:=by rw [HR.o];exact Nat.div_le_self _ _
   have hN0:BsJ x.toNat k 0=R % 2+Q % 2:=by unfold BsJ;rw [HR.o,HQ.o,HP.o]
   have HN0:=η hN0;clear hN0;go_wp2;go_loop [6,7] (fun v j=>∃ m:Nat,m≤4∧j=.int .i64 ((m:Int)+4)∧v=.int .i64 (BsJ x.toNat k m:Int)) (fun _ j=>8 - (intOf j).toNat)
   case atStart=>exact ⟨0,by omega,rfl,by rw [HN0.o];go_num⟩
   case round =>
    obtain ⟨m,hm,rfl,rfl⟩:=hrel;have hsn:=DnK x.toNat k m;by_cases hlt2:m<4
    ·obtain ⟨t,HT,ht8⟩:∃ t:Nat,Hid (t=(k+(4+m)) % 8)∧t<8:=⟨_,η rfl,Nat.mod_lt _ (by omega)⟩
     have ht:((k:Int)+((m:Int)+4)) % 8=(t:Int):=by rw [HT.o];omega
     obtain ⟨P2,HP2,hpi2,hp12,hp22⟩:=CkW t ht8;obtain ⟨Q2,HQ2⟩:∃ Q2,Hid (Q2=x.toNat / P2):=⟨_,η rfl⟩;have hq2:(x.toNat:Int) / (P2:Int)=(Q2:Int):=by rw [HQ2.o];simp
     have hQ2:Q2≤255:=by rw [HQ2.o];exact Nat.le_trans (Nat.div_le_self _ _) (by omega)
     have hN1:BsJ x.toNat k (m+1)=BsJ x.toNat k m+Q2 % 2:=by
      show BsJ x.toNat k m+x.toNat / 2 ^ ((k+(4+m)) % 8) % 2=_;rw [←HT.o,←HP2.o,←HQ2.o]
     have HN1:=η hN1;clear hN1;go_wp2;go_round
     case rel=>exact ⟨m+1,by omega,by go_num,by rw [HN1.o];go_num⟩
     case measure=>simp [intOf];omega
    ·have hm4:m=4:=by omega
     have HM:=η hm4;clear hm4;go_wp2;go_round
     case rel=>exact ⟨k+1,by omega,by go_num,by
      rw [EkY U _ P hub hp2,HU.o,HM.o,HP.o]
      rfl⟩
     case measure=>simp [intOf];omega
  ·have hk8:k=8:=by omega
   subst hk8;go_wp2;go_ret
   have h8:((BgY x).toNat:Int)=(BqZ x.toNat 8:Int):=by
    unfold BgY;simp only [UInt8.toNat_ofNat'];rw [Nat.mod_eq_of_lt hub]
   exact ⟨AyX (by rw [h8]),rfl⟩
open Go.RowKit
theorem AhY {p:UInt8→Prop} (h:∀ n:Fin 256,p (UInt8.ofNat n.val)) (x:UInt8):p x:=by
 have e:UInt8.ofNat x.toNat=x:=by simp
 have:=h ⟨x.toNat,x.toNat_lt⟩
 rw [e] at this
 exact this
def dblOk (x:UInt8):Bool :=
 if bits .and .u8 (x.toNat:Int) 128 != 0 then bits .xor .u8 ((x.toNat:Int)*2 % 256) 27 == ((mulB x 2).toNat:Int) else (x.toNat:Int)*2 % 256 == ((mulB x 2).toNat:Int)
theorem dbl_ok (x:UInt8):dblOk x=true:=AhY (p:=fun x=>dblOk x=true) (by decide +kernel) x
theorem CiQ (x:UInt8) (w:World) :
  Calls prog 226 #[.int .u8 (x.toNat:Int)] w fun e w'=>e=.returned (.int .u8 ((mulB x 2).toNat:Int))∧w=w':=by
 have hx:=AeJ x
 have hok:=dbl_ok x
 unfold dblOk at hok
 have HOK:=η hok
 clear hok
 go_enter func226,ntmps226
 go_wp2
 ·rename_i h
  go_ret;have:=HOK.o;rw [if_pos h,beq_iff_eq] at this;exact ⟨AyX this,rfl⟩
 ·rename_i h
  go_ret;have:=HOK.o;rw [if_neg (by rw [h];simp),beq_iff_eq] at this;exact ⟨AyX this,rfl⟩
def CdV (b:UInt8):UInt8:=b >>> 1
theorem half_nat (b:UInt8):((CdV b).toNat:Int)=(b.toNat:Int) / 2:=by
 have h:=AhY (p:=fun b=>(CdV b).toNat=b.toNat / 2) (by decide +kernel) b
 show ((CdV b).toNat:Int)=_
 rw [show (CdV b).toNat=b.toNat / 2 from h]
 simp
def bit0 (b:UInt8):UInt8:=b &&& 1
theorem bit0_two (b:UInt8):b=bit0 b ^^^ mulB 2 (CdV b):=AhY (p:=fun b=>b=bit0 b ^^^ mulB 2 (CdV b)) (by decide +kernel) b
theorem bit0_and (b:UInt8):(bits .and .u8 (b.toNat:Int) 1 != 0)=decide (bit0 b=1):=AhY (p:=fun b=>(bits .and .u8 (b.toNat:Int) 1 != 0)=decide (bit0 b=1)) (by decide +kernel) b
theorem FaW (b:UInt8) (h:¬bit0 b=1):bit0 b=0:=AhY (p:=fun b=>¬bit0 b=1→bit0 b=0) (by decide +kernel) b h
theorem mul_half (a b:UInt8):mulB a b=mulB a (bit0 b) ^^^ mulB (mulB a 2) (CdV b):=by
 have h:=AkW a (bit0 b) (mulB 2 (CdV b))
 rw [←bit0_two] at h
 rw [h,BeX]
theorem CmZ (x y:UInt8) (w:World) :
  Calls prog 219 #[.int .u8 (x.toNat:Int),.int .u8 (y.toNat:Int)] w fun e w'=>e=.returned (.int .u8 ((mulB x y).toNat:Int))∧w=w':=by
 obtain ⟨V,HV⟩:∃ V,Hid (V=mulB x y):=⟨_,η rfl⟩
 rw [←HV.o]
 go_enter func219,ntmps219
 go_wp2
 go_loop [0,1,5] (fun A B P=>∃ a b p:UInt8,A=.int .u8 (a.toNat:Int)∧B=.int .u8 (b.toNat:Int)∧P=.int .u8 (p.toNat:Int)∧Hid (V=p ^^^ mulB a b)) (fun _ B _=>(intOf B).toNat)
 case atStart=>exact ⟨x,y,0,rfl,rfl,rfl,η (by rw [HV.o];simp)⟩
 case round =>
  obtain ⟨a,b,p,rfl,rfl,rfl,hv⟩:=hrel;have hb:=AeJ b;have ha:=AeJ a;by_cases h0:b=0
  ·subst h0
   have h1:=hv.o;rw [BbZ] at h1;have HV1:=η h1;clear h1;go_wp2;go_ret;exact ⟨AyX (by rw [HV1.o];simp),rfl⟩
  ·have hb0:((b.toNat:Int) != 0)=true:=by
    rw [bne_iff_ne];intro e;exact h0 (UInt8.toNat_inj.1 (by simp;omega))
   have hb1:0<b.toNat:=by
    have:=bne_iff_ne.1 hb0;omega
   have hand:=bit0_and b;have hmul:=mul_half a b;have hx:=AkK p a;have hhalf:=half_nat b;have HH:=η hhalf;clear h0 hhalf;by_cases hbit:bit0 b=1
   ·rw [hbit,BkJ] at hmul
    have HM:=η hmul;have hd:(bits .and .u8 (b.toNat:Int) 1 != 0)=true:=by rw [hand];exact decide_eq_true hbit
    clear hand hmul hbit;go_wp2_with (go_at_call 226;refine (CiQ _ _).mono ?_;rintro e w' ⟨rfl,rfl⟩);go_round
    case rel=>exact ⟨mulB a 2,CdV b,p ^^^ a,rfl,by rw [HH.o],rfl,η (by rw [hv.o,HM.o,UInt8.xor_assoc])⟩
    case measure=>simp [intOf];omega
   ·rw [FaW b hbit,BbZ,UInt8.zero_xor] at hmul
    have HM:=η hmul;have hd:(bits .and .u8 (b.toNat:Int) 1 != 0)=false:=by rw [hand];exact decide_eq_false hbit
    clear hand hmul hbit;go_wp2_with (go_at_call 226;refine (CiQ _ _).mono ?_;rintro e w' ⟨rfl,rfl⟩);go_round
    case rel=>exact ⟨mulB a 2,CdV b,p,rfl,by rw [HH.o],rfl,η (by rw [hv.o,HM.o])⟩
    case measure=>simp [intOf];omega
theorem mul_k (x:UInt8) (k:Nat) (hk:k<256) (w:World) :
  Calls prog 219 #[.int .u8 (x.toNat:Int),.int .u8 (k:Int)] w fun e w'=>e=.returned (.int .u8 ((mulB x (UInt8.ofNat k)).toNat:Int))∧w=w':=by
 have e:(k:Int)=((UInt8.ofNat k).toNat:Int):=by simp;omega
 rw [e]
 exact CmZ x _ w
open Go.RowKit
theorem EpX (a:UInt8) (n:Nat):powN a n=mulB (powN a (n % 2)) (powN (mulB a a) (n / 2)):=by
 have h2:mulB a a=powN a 2:=by rw [AuQ a 1,BtW]
 rw [h2,DpY,←AiX,Nat.add_comm,Nat.div_add_mod]
theorem and_one (n:Nat) (hn:n<18446744073709551616):bits .and .u64 (n:Int) 1=((n % 2:Nat):Int):=by
 have h:=u64_and_nat n 1 hn (by omega)
 rw [show n &&& 1=n % 2 from Nat.and_one_is_mod n] at h
 exact h
theorem EpW (x:UInt8) (n:Nat) (w:World) (hn:n≤18446744073709551615) :
  Calls prog 212 #[.int .u8 (x.toNat:Int),.int .u64 (n:Int)] w fun e w'=>e=.returned (.int .u8 ((powN x n).toNat:Int))∧w=w':=by
 obtain ⟨V,HV⟩:∃ V,Hid (V=powN x n):=⟨_,η rfl⟩
 rw [←HV.o]
 go_enter func212,ntmps212
 go_wp2
 go_loop [0,1,5] (fun A N P=>∃ (a p:UInt8) (m:Nat),m≤18446744073709551615∧A=.int .u8 (a.toNat:Int)∧N=.int .u64 (m:Int)∧P=.int .u8 (p.toNat:Int)∧Hid (V=mulB p (powN a m))) (fun _ N _=>(intOf N).toNat)
 case atStart=>exact ⟨x,1,n,hn,rfl,rfl,rfl,η (by rw [HV.o,BcJ])⟩
 case round =>
  obtain ⟨a,p,m,hm,rfl,rfl,rfl,hv⟩:=hrel;by_cases h0:m=0
  ·subst h0
   have h1:=hv.o;rw [show powN a 0=1 from rfl,BkJ] at h1;have HV1:=η h1;clear h1;go_wp2;go_ret;exact ⟨AyX (by rw [HV1.o]),rfl⟩
  ·have hb0:((m:Int) != 0)=true:=by rw [bne_iff_ne];omega
   have hm0:0<m:=by omega
   have hand:=and_one m (by omega);have hstep:=EpX a m;by_cases hbit:m % 2=1
   ·rw [hbit,BtW] at hstep
    have HM:=η hstep;have hd:(bits .and .u64 (m:Int) 1 != 0)=true:=by rw [hand,hbit];rfl
    clear hand hstep hbit h0;go_wp2_with fail;refine (CmZ _ _ _).mono ?_;rintro e w' ⟨rfl,rfl⟩;go_wp2_with fail;refine (CmZ _ _ _).mono ?_;rintro e w' ⟨rfl,rfl⟩;go_wp2;go_round
    case rel=>exact ⟨mulB a a,mulB p a,m / 2,by omega,rfl,by go_num,rfl,η (by rw [hv.o,HM.o,BeX])⟩
    case measure=>simp [intOf];omega
   ·rw [show m % 2=0 by omega,show powN a 0=1 from rfl,BcJ] at hstep
    have HM:=η hstep;have hd:(bits .and .u64 (m:Int) 1 != 0)=false:=by rw [hand,show m % 2=0 by omega];rfl
    clear hand hstep hbit h0;go_wp2_with fail;refine (CmZ _ _ _).mono ?_;rintro e w' ⟨rfl,rfl⟩;go_wp2;go_round
    case rel=>exact ⟨mulB a a,p,m / 2,by omega,rfl,by go_num,rfl,η (by rw [hv.o,HM.o])⟩
    case measure=>simp [intOf];omega
theorem inv_any (x:UInt8) (w:World) :
  Calls prog 231 #[.int .u8 (x.toNat:Int)] w fun e w'=>e=.returned (.int .u8 ((invB x).toNat:Int))∧w=w':=by
 have hp:=invB_pow x
 have HP:=η hp
 clear hp
 go_enter func231,ntmps231
 go_wp2_with fail
 refine (EpW x 254 _ (by omega)).mono ?_
 rintro e w1 ⟨rfl,rfl⟩
 go_wp2_with fail
 go_ret
 exact ⟨AyX (by rw [HP.o]),rfl⟩
def rotB (x:UInt8) (k:Nat):UInt8:=UInt8.ofNat (x.toNat*2 ^ k % 256+x.toNat / 2 ^ (8 - k))
theorem rot_or1 (x:UInt8):bits .or .u8 ((x.toNat:Int)*2 % 256) ((x.toNat:Int) / 128)=((rotB x 1).toNat:Int):=AhY (p:=fun x=>bits .or .u8 ((x.toNat:Int)*2 % 256) ((x.toNat:Int) / 128)=((rotB x 1).toNat:Int)) (by decide +kernel) x
theorem rot1 (x:UInt8) (w:World) :
  Calls prog 232 #[.int .u8 (x.toNat:Int),.int .i64 1] w fun e w'=>e=.returned (.int .u8 ((rotB x 1).toNat:Int))∧w=w':=by
 have hx:=AeJ x
 have hb:bits .and .u64 1 7=1:=by decide +kernel
 go_enter func232,ntmps232
 go_wp2
 go_ret
 exact ⟨AyX (rot_or1 x),rfl⟩
theorem rot_or2 (x:UInt8):bits .or .u8 ((x.toNat:Int)*4 % 256) ((x.toNat:Int) / 64)=((rotB x 2).toNat:Int):=AhY (p:=fun x=>bits .or .u8 ((x.toNat:Int)*4 % 256) ((x.toNat:Int) / 64)=((rotB x 2).toNat:Int)) (by decide +kernel) x
theorem rot2 (x:UInt8) (w:World) :
  Calls prog 232 #[.int .u8 (x.toNat:Int),.int .i64 2] w fun e w'=>e=.returned (.int .u8 ((rotB x 2).toNat:Int))∧w=w':=by
 have hx:=AeJ x
 have hb:bits .and .u64 2 7=2:=by decide +kernel
 go_enter func232,ntmps232
 go_wp2
 go_ret
 exact ⟨AyX (rot_or2 x),rfl⟩
theorem rot_or3 (x:UInt8):bits .or .u8 ((x.toNat:Int)*8 % 256) ((x.toNat:Int) / 32)=((rotB x 3).toNat:Int):=AhY (p:=fun x=>bits .or .u8 ((x.toNat:Int)*8 % 256) ((x.toNat:Int) / 32)=((rotB x 3).toNat:Int)) (by decide +kernel) x
theorem rot3 (x:UInt8) (w:World) :
  Calls prog 232 #[.int .u8 (x.toNat:Int),.int .i64 3] w fun e w'=>e=.returned (.int .u8 ((rotB x 3).toNat:Int))∧w=w':=by
 have hx:=AeJ x
 have hb:bits .and .u64 3 7=3:=by decide +kernel
 go_enter func232,ntmps232
 go_wp2
 go_ret
 exact ⟨AyX (rot_or3 x),rfl⟩
theorem rot_or4 (x:UInt8):bits .or .u8 ((x.toNat:Int)*16 % 256) ((x.toNat:Int) / 16)=((rotB x 4).toNat:Int):=AhY (p:=fun x=>bits .or .u8 ((x.toNat:Int)*16 % 256) ((x.toNat:Int) / 16)=((rotB x 4).toNat:Int)) (by decide +kernel) x
theorem rot4 (x:UInt8) (w:World) :
  Calls prog 232 #[.int .u8 (x.toNat:Int),.int .i64 4] w fun e w'=>e=.returned (.int .u8 ((rotB x 4).toNat:Int))∧w=w':=by
 have hx:=AeJ x
 have hb:bits .and .u64 4 7=4:=by decide +kernel
 go_enter func232,ntmps232
 go_wp2
 go_ret
 exact ⟨AyX (rot_or4 x),rfl⟩
def sumL (l:YB):UInt8:=l.foldl (· ^^^ ·) 0
theorem EjV (l:YB) (x:UInt8):sumL (l++[x])=sumL l ^^^ x:=by simp [sumL]
theorem EjQ (A:YA) (n c B:Nat) (l:YB) (w:World) (h:RB w B A n l) (hn:n≤maxLen) :
  Calls prog 211 #[.slice A n c] w fun e w'=>e=.returned (.int .u8 ((sumL l).toNat:Int))∧w=w':=by
 unfold maxLen at hn
 go_enter func211,ntmps211
 go_wp2
 go_loop [3,5,8] (fun v _ i=>∃ k:Nat,k≤n∧i=.int .i64 k∧v=.int .u8 ((sumL (l.take k)).toNat:Int)) (fun _ _ i=>n - (intOf i).toNat)
 case atStart=>exact ⟨0,Nat.zero_le _,rfl,rfl⟩
 case round =>
  obtain ⟨k,hk,rfl,rfl⟩:=hrel;by_cases hlt:k<n
  ·obtain ⟨b,o,rfl,hb,x,hx,hc⟩:=h.at_ hlt
   have hs:=EjV (l.take k) x;rw [←AfY hx] at hs;have HS:=η hs;have hxb:=AkK (sumL (l.take k)) x;clear hs hx;go_wp2;go_round
   case rel=>exact ⟨k+1,by omega,by go_num,by rw [HS.o,UInt8.toNat_xor]⟩
   case measure=>simp [intOf];omega
  ·obtain rfl:k=n:=by omega
   have hl:l.take k=l:=List.take_of_length_le (by have:=h.len;omega);have HL:=η hl;clear hl;go_wp2;go_ret;exact ⟨AyX (by rw [HL.o]),rfl⟩
theorem sign_sum (b:UInt8):sumL [b,rotB b 1,rotB b 2,rotB b 3,rotB b 4,99]=BgY b:=AhY (p:=fun b=>sumL [b,rotB b 1,rotB b 2,rotB b 3,rotB b 4,99]=BgY b) (by decide +kernel) b
def RetV (v:Value) (w:World) (e:Ending) (w':World):Prop:=e=.returned v∧Below w.heap.size w w'
theorem sign_any (x:UInt8) (w:World) :
  Calls prog 222 #[.int .u8 (x.toNat:Int)] w (RetV (.int .u8 ((subB x).toNat:Int)) w):=by
 obtain ⟨b,HB⟩:∃ b,Hid (b=invB x):=⟨_,η rfl⟩
 go_enter func222,ntmps222
 go_wp2_with fail
 refine (inv_any _ _).mono ?_
 rintro e w1 ⟨rfl,rfl⟩
 rw [←HB.o]
 go_wp2_with fail
 refine (rot1 _ _).mono ?_
 rintro e w1 ⟨rfl,rfl⟩
 go_wp2_with fail
 refine (rot2 _ _).mono ?_
 rintro e w1 ⟨rfl,rfl⟩
 go_wp2_with fail
 refine (rot3 _ _).mono ?_
 rintro e w1 ⟨rfl,rfl⟩
 go_wp2_with fail
 refine (rot4 _ _).mono ?_
 rintro e w1 ⟨rfl,rfl⟩
 go_wp2_with fail
 refine (EjQ _ _ _ _ [b,rotB b 1,rotB b 2,rotB b 3,rotB b 4,99] _ (by exact RB.lit w _ _ 6 _ rfl rfl rfl) (by unfold maxLen;omega)).mono ?_
 rintro e w1 ⟨rfl,rfl⟩
 go_wp2_with fail
 go_ret
 exact ⟨AyX (by rw [sign_sum,HB.o];rfl),AaK _ _⟩
theorem CnX (x:UInt8):invB (invB x)=x:=by
 by_cases hx:x=0
 ·subst hx;rw [BkQ,BkQ]
 ·have h1:=BtY x hx
  have hi:invB x≠0:=fun e=>by rw [e,BbZ] at h1;exact absurd h1 (by decide)
  have h2:=BtY (invB x) hi;rw [BkK] at h1;exact BoW (invB x) _ _ h2 h1
def BgQ (s:UInt8):UInt8:=sumL [rotB s 1,rotB s 3,rotB s 6,5]
theorem BvX (b:UInt8):BgQ (BgY b)=b:=AhY (p:=fun b=>BgQ (BgY b)=b) (by decide +kernel) b
theorem DeW (s:UInt8):BgY (BgQ s)=s:=AhY (p:=fun s=>BgY (BgQ s)=s) (by decide +kernel) s
theorem DmY (x y:UInt8) (h:subB x=subB y):x=y:=by
 have h1:=congrArg BgQ h
 unfold subB at h1
 rw [BvX,BvX] at h1
 have h2:=congrArg invB h1
 rwa [CnX,CnX] at h2
theorem subB_un (a:UInt8):subB (invB (BgQ a))=a:=by
 unfold subB
 rw [CnX,DeW]
theorem BfW (x:UInt8):∀ (m k:Nat),k≤x.toNat→x.toNat<k+m→k+m≤256→BiX (subB x) k m=x
 | 0,k,h1,h2,_=>by omega
 | m+1,k,h1,h2,h3=>by
  rw [BiX];split
  ·rename_i h;exact DmY _ _ h
  ·rename_i hk
   refine BfW x m (k+1) ?_ (by omega) (by omega);rcases Nat.lt_or_ge k x.toNat with h | h
   ·exact h
   ·exact absurd (by rw [show k=x.toNat from by omega];simp) hk
theorem EgY (x:UInt8):BvW (subB x)=x:=BfW x 256 0 (Nat.zero_le _) (by have:=x.toNat_lt;omega) (by omega)
theorem EjY (a:UInt8):subB (BvW a)=a:=by
 have h:=subB_un a
 have h2:=EgY (invB (BgQ a))
 rw [h] at h2
 rw [h2,h]
