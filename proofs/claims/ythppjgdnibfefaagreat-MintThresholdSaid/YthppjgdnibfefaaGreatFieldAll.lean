/- The field with 256 elements as plain functions of bytes: products, inverses, powers, signs; and its laws. No conditions; nothing is claimed of the program here. -/
import Derived.Test.YthppjgdnibfefaaGreatBase
import Derived.Test.YthppjgdnibfefaaGreatChecked
import Derived.Test.YthppjgdnibfefaaGreatBytes
set_option linter.unusedVariables false
set_option linter.unusedSimpArgs false
set_option maxRecDepth 100000
set_option maxHeartbeats 32000000
namespace Go.Proofs.YthppjgdnibfefaaGreat
def mulUp (a b:Nat):Nat→Nat | 0=>0 | k+1=>if b / 2 ^ k % 2=1 then mulUp a b k ^^^ (a*2 ^ k) else mulUp a b k
def mulDown (n:Nat):Nat→Nat | 0=>n | k+1=>mulDown (if n / 2 ^ (8+k) % 2=1 then n ^^^ (283*2 ^ k) else n) k
def mulB (a b:UInt8):UInt8:=UInt8.ofNat (mulDown (mulUp a.toNat b.toNat 8) 7)
def invFrom (a:UInt8) (k:Nat):Nat→UInt8 | 0=>0 | m+1=>if mulB a (UInt8.ofNat k)=1 then UInt8.ofNat k else invFrom a (k+1) m
def invB (a:UInt8):UInt8:=invFrom a 0 256
def powN (a:UInt8):Nat→UInt8 | 0=>1 | m+1=>mulB (powN a m) a
def powB (a:UInt8) (n:Nat):UInt8:=if n=0 then 1 else if a=0 then 0 else powN a (n % 255)
def signN (b k:Nat):Nat→Nat | 0=>99 / 2 ^ k % 2+b / 2 ^ k % 2 | m+1=>signN b k m+b / 2 ^ ((k+(4+m)) % 8) % 2
def signUp (b:Nat):Nat→Nat | 0=>0 | k+1=>signUp b k+signN b k 4 % 2*2 ^ k
def signB (x:UInt8):UInt8:=UInt8.ofNat (signUp x.toNat 8)
def subB (x:UInt8):UInt8:=signB (invB x)
def unsubFrom (a:UInt8) (k:Nat):Nat→UInt8 | 0=>0 | m+1=>if subB (UInt8.ofNat k)=a then UInt8.ofNat k else unsubFrom a (k+1) m
def unsubB (a:UInt8):UInt8:=unsubFrom a 0 256
end Go.Proofs.YthppjgdnibfefaaGreat
namespace Go.Proofs.YthppjgdnibfefaaGreat
def sel (c v:Nat):Nat:=if c=1 then v else 0
theorem sel_xor (x y v:Nat) (hx:x<2) (hy:y<2):sel ((x+y) % 2) v=sel x v ^^^ sel y v:=by
 rcases (show x=0∨x=1 by omega) with rfl | rfl <;> rcases (show y=0∨y=1 by omega) with rfl | rfl <;> simp [sel]
theorem sel_xor_v (c v v':Nat):sel c (v ^^^ v')=sel c v ^^^ sel c v':=by unfold sel;split <;> simp
theorem bit_xor (a b k:Nat):(a ^^^ b) / 2 ^ k % 2=(a / 2 ^ k % 2+b / 2 ^ k % 2) % 2:=by
 rw [←Nat.shiftRight_eq_div_pow,←Nat.shiftRight_eq_div_pow,←Nat.shiftRight_eq_div_pow,Nat.shiftRight_xor_distrib]
 have h1:=Nat.xor_mod_two_pow (a:=a >>> k) (b:=b >>> k) (n:=1)
 rw [Nat.pow_one] at h1
 rw [h1]
 rcases Nat.mod_two_eq_zero_or_one (a >>> k) with e | e <;> rcases Nat.mod_two_eq_zero_or_one (b >>> k) with e' | e' <;> rw [e,e'] <;> rfl
theorem mul_pow_xor (a b k:Nat):(a ^^^ b)*2 ^ k=(a*2 ^ k) ^^^ (b*2 ^ k):=by
 rw [←Nat.shiftLeft_eq,←Nat.shiftLeft_eq,←Nat.shiftLeft_eq,Nat.shiftLeft_xor_distrib]
theorem xor_swap (p q s t:Nat):(p ^^^ q) ^^^ (s ^^^ t)=(p ^^^ s) ^^^ (q ^^^ t):=by
 rw [Nat.xor_assoc,Nat.xor_assoc,←Nat.xor_assoc q s t,Nat.xor_comm q s,Nat.xor_assoc s q t]
theorem mulUp_eq (a b k:Nat):mulUp a b (k+1)=mulUp a b k ^^^ sel (b / 2 ^ k % 2) (a*2 ^ k):=by
 rw [mulUp];unfold sel;split <;> simp
theorem mulDown_eq (n k:Nat):mulDown n (k+1)=mulDown (n ^^^ sel (n / 2 ^ (8+k) % 2) (283*2 ^ k)) k:=by
 rw [mulDown];unfold sel;split <;> simp
theorem mulUp_right (a b b':Nat):∀ k,mulUp a (b ^^^ b') k=mulUp a b k ^^^ mulUp a b' k
 | 0=>by simp [mulUp]
 | k+1=>by
  rw [mulUp_eq,mulUp_eq,mulUp_eq,mulUp_right a b b' k,bit_xor,sel_xor _ _ _ (Nat.mod_lt _ (by omega)) (Nat.mod_lt _ (by omega)),xor_swap]
theorem mulUp_left (a a' b:Nat):∀ k,mulUp (a ^^^ a') b k=mulUp a b k ^^^ mulUp a' b k
 | 0=>by simp [mulUp]
 | k+1=>by rw [mulUp_eq,mulUp_eq,mulUp_eq,mulUp_left a a' b k,mul_pow_xor,sel_xor_v,xor_swap]
theorem mulDown_xor:∀ (k n n':Nat),mulDown (n ^^^ n') k=mulDown n k ^^^ mulDown n' k
 | 0,n,n'=>by simp [mulDown]
 | k+1,n,n'=>by
  rw [mulDown_eq,mulDown_eq,mulDown_eq,bit_xor,sel_xor _ _ _ (Nat.mod_lt _ (by omega)) (Nat.mod_lt _ (by omega)),xor_swap,mulDown_xor k]
theorem ofNat_xor (a b:Nat):UInt8.ofNat (a ^^^ b)=UInt8.ofNat a ^^^ UInt8.ofNat b:=by
 apply UInt8.toNat_inj.1
 rw [UInt8.toNat_xor]
 simp only [UInt8.toNat_ofNat']
 exact Nat.xor_mod_two_pow
theorem mulB_right (a b b':UInt8):mulB a (b ^^^ b')=mulB a b ^^^ mulB a b':=by
 unfold mulB;rw [UInt8.toNat_xor,mulUp_right,mulDown_xor,ofNat_xor]
theorem mulB_left (a a' b:UInt8):mulB (a ^^^ a') b=mulB a b ^^^ mulB a' b:=by
 unfold mulB;rw [UInt8.toNat_xor,mulUp_left,mulDown_xor,ofNat_xor]
def bitB (k:Nat):UInt8:=UInt8.ofNat (2 ^ k)
theorem byte_bits (x:UInt8):x=(x &&& bitB 0) ^^^ ((x &&& bitB 1) ^^^ ((x &&& bitB 2) ^^^ ((x &&& bitB 3) ^^^ ((x &&& bitB 4) ^^^ ((x &&& bitB 5) ^^^ ((x &&& bitB 6) ^^^ (x &&& bitB 7))))))):=by
 have h:∀ n:Fin 256,UInt8.ofNat n.val=(UInt8.ofNat n.val &&& bitB 0) ^^^ ((UInt8.ofNat n.val &&& bitB 1) ^^^ ((UInt8.ofNat n.val &&& bitB 2) ^^^ ((UInt8.ofNat n.val &&& bitB 3) ^^^ ((UInt8.ofNat n.val &&& bitB 4) ^^^ ((UInt8.ofNat n.val &&& bitB 5) ^^^ ((UInt8.ofNat n.val &&& bitB 6) ^^^ (UInt8.ofNat n.val &&& bitB 7))))))):=by decide +kernel
 have e:UInt8.ofNat x.toNat=x:=by simp
 have:=h ⟨x.toNat,x.toNat_lt⟩
 rw [e] at this
 exact this
theorem and_bit (x:UInt8) (k:Fin 8):x &&& bitB k.val=0∨x &&& bitB k.val=bitB k.val:=by
 have h:∀ n:Fin 256,∀ k:Fin 8,UInt8.ofNat n.val &&& bitB k.val=0∨UInt8.ofNat n.val &&& bitB k.val=bitB k.val:=by decide +kernel
 have e:UInt8.ofNat x.toNat=x:=by simp
 have:=h ⟨x.toNat,x.toNat_lt⟩ k
 rw [e] at this
 exact this
theorem lin_ext (f g:UInt8→UInt8) (hf:∀ x y,f (x ^^^ y)=f x ^^^ f y) (hg:∀ x y,g (x ^^^ y)=g x ^^^ g y) (h:∀ k:Fin 8,f (bitB k.val)=g (bitB k.val)) (x:UInt8):f x=g x:=by
 have f0:f 0=0:=by have:=hf 0 0;rw [UInt8.xor_self,UInt8.xor_self] at this;exact this
 have g0:g 0=0:=by have:=hg 0 0;rw [UInt8.xor_self,UInt8.xor_self] at this;exact this
 have e:∀ k:Fin 8,f (x &&& bitB k.val)=g (x &&& bitB k.val):=fun k=>by
  rcases and_bit x k with h0 | h0 <;> rw [h0]
  ·rw [f0,g0]
  ·exact h k
 rw [byte_bits x]
 simp only [hf,hg]
 have e':∀ k,k<8→f (x &&& bitB k)=g (x &&& bitB k):=fun k hk=>e ⟨k,hk⟩
 rw [e' 0 (by omega),e' 1 (by omega),e' 2 (by omega),e' 3 (by omega),e' 4 (by omega),e' 5 (by omega),e' 6 (by omega),e' 7 (by omega)]
theorem mulB_comm (a b:UInt8):mulB a b=mulB b a :=
 lin_ext (fun a=>mulB a b) (fun a=>mulB b a) (fun x y=>mulB_left x y b) (fun x y=>mulB_right b x y)
  (fun k=>lin_ext (fun b=>mulB (bitB k.val) b) (fun b=>mulB b (bitB k.val)) (fun x y=>mulB_right _ x y) (fun x y=>mulB_left x y _)
   (fun j=>(by decide +kernel:∀ k j:Fin 8,mulB (bitB k.val) (bitB j.val)=mulB (bitB j.val) (bitB k.val)) k j) b) a
theorem mulB_assoc (a b c:UInt8):mulB (mulB a b) c=mulB a (mulB b c) :=
 lin_ext (fun a=>mulB (mulB a b) c) (fun a=>mulB a (mulB b c)) (fun x y=>by rw [mulB_left,mulB_left]) (fun x y=>mulB_left x y _)
  (fun i=>lin_ext (fun b=>mulB (mulB (bitB i.val) b) c) (fun b=>mulB (bitB i.val) (mulB b c)) (fun x y=>by rw [mulB_right,mulB_left]) (fun x y=>by rw [mulB_left,mulB_right])
   (fun j=>lin_ext (fun c=>mulB (mulB (bitB i.val) (bitB j.val)) c) (fun c=>mulB (bitB i.val) (mulB (bitB j.val) c)) (fun x y=>mulB_right _ x y) (fun x y=>by rw [mulB_right,mulB_right])
    (fun k=>(by decide +kernel:∀ i j k:Fin 8,mulB (mulB (bitB i.val) (bitB j.val)) (bitB k.val)=mulB (bitB i.val) (mulB (bitB j.val) (bitB k.val))) i j k) c) b) a
theorem mulB_one (a:UInt8):mulB a 1=a :=
 lin_ext (fun a=>mulB a 1) (fun a=>a) (fun x y=>mulB_left x y _) (fun _ _=>rfl) (fun k=>(by decide +kernel:∀ k:Fin 8,mulB (bitB k.val) 1=bitB k.val) k) a
theorem mulB_one' (a:UInt8):mulB 1 a=a:=by rw [mulB_comm,mulB_one]
theorem mulB_zero (a:UInt8):mulB a 0=0:=by have:=mulB_right a 0 0;rw [UInt8.xor_self,UInt8.xor_self] at this;exact this
theorem mulB_zero' (a:UInt8):mulB 0 a=0:=by rw [mulB_comm,mulB_zero]
theorem powN_succ (a:UInt8) (m:Nat):powN a (m+1)=mulB (powN a m) a:=rfl
theorem powN_add (a:UInt8) (m:Nat):∀ n,powN a (m+n)=mulB (powN a m) (powN a n)
 | 0=>by rw [Nat.add_zero];show _=mulB _ 1;rw [mulB_one]
 | n+1=>by rw [←Nat.add_assoc,powN_succ,powN_succ,powN_add a m n,mulB_assoc]
theorem powN_one (a:UInt8):powN a 1=a:=mulB_one' a
def pow255 (a:UInt8):UInt8 :=
 let b:=mulB a a;let c:=mulB b b;let d:=mulB c c;let e:=mulB d d;let f:=mulB e e;let g:=mulB f f;let h:=mulB g g
 mulB (mulB (mulB (mulB (mulB (mulB (mulB h g) f) e) d) c) b) a
theorem powN_two (a:UInt8) (m:Nat):powN a (m+m)=mulB (powN a m) (powN a m):=powN_add a m m
theorem pow255_eq (a:UInt8):powN a 255=pow255 a:=by
 have h1:=powN_one a
 have h2:powN a 2=mulB a a:=by rw [powN_two a 1,h1]
 have h4:powN a 4=mulB (powN a 2) (powN a 2):=powN_two a 2
 have h8:powN a 8=mulB (powN a 4) (powN a 4):=powN_two a 4
 have h16:powN a 16=mulB (powN a 8) (powN a 8):=powN_two a 8
 have h32:powN a 32=mulB (powN a 16) (powN a 16):=powN_two a 16
 have h64:powN a 64=mulB (powN a 32) (powN a 32):=powN_two a 32
 have h128:powN a 128=mulB (powN a 64) (powN a 64):=powN_two a 64
 have e:powN a 255=mulB (mulB (mulB (mulB (mulB (mulB (mulB (powN a 128) (powN a 64)) (powN a 32)) (powN a 16)) (powN a 8)) (powN a 4)) (powN a 2)) (powN a 1):=by
  rw [←powN_add,←powN_add,←powN_add,←powN_add,←powN_add,←powN_add,←powN_add]
 rw [e,h128,h64,h32,h16,h8,h4,h2,h1]
 rfl
theorem powN_255 (a:UInt8) (ha:a≠0):powN a 255=1:=by
 rw [pow255_eq]
 have h:∀ n:Fin 256,n.val≠0→pow255 (UInt8.ofNat n.val)=1:=by decide +kernel
 have e:UInt8.ofNat a.toNat=a:=by simp
 have:=h ⟨a.toNat,a.toNat_lt⟩ (fun h0=>ha (UInt8.toNat_inj.1 (by simpa using h0)))
 rw [e] at this
 exact this
theorem powN_zero (m:Nat):powN 0 (m+1)=0:=by rw [powN_succ,mulB_zero]
theorem powN_mul (a:UInt8) (m:Nat):∀ n,powN (powN a m) n=powN a (m*n)
 | 0=>rfl
 | n+1=>by rw [powN_succ,powN_mul a m n,Nat.mul_succ,powN_add]
theorem mulB_inv254 (a:UInt8) (ha:a≠0):mulB a (powN a 254)=1:=by
 have:=powN_255 a ha
 rw [show 255=1+254 from rfl,powN_add,powN_one] at this
 exact this
theorem invFrom_spec (a:UInt8):∀ (m k:Nat),(∃ j,k≤j∧j<k+m∧mulB a (UInt8.ofNat j)=1)→mulB a (invFrom a k m)=1
 | 0,k,⟨j,h1,h2,_⟩=>by omega
 | m+1,k,⟨j,h1,h2,h3⟩=>by
  rw [invFrom]
  split
  ·assumption
  ·rename_i hk
   refine invFrom_spec a m (k+1) ⟨j,?_,by omega,h3⟩
   rcases Nat.lt_or_ge k j with h | h
   ·exact h
   ·exact absurd (by rw [show k=j from by omega];exact h3) hk
theorem invFrom_none (a:UInt8):∀ (m k:Nat),(∀ j,mulB a (UInt8.ofNat j)≠1)→invFrom a k m=0
 | 0,k,_=>rfl
 | m+1,k,h=>by rw [invFrom,if_neg (h k)];exact invFrom_none a m (k+1) h
theorem invB_zero:invB 0=0:=invFrom_none 0 256 0 fun j=>by rw [mulB_zero'];decide
theorem mulB_inv (a:UInt8) (ha:a≠0):mulB a (invB a)=1:=by
 refine invFrom_spec a 256 0 ⟨(powN a 254).toNat,Nat.zero_le _,by have:=(powN a 254).toNat_lt;omega,?_⟩
 have e:UInt8.ofNat (powN a 254).toNat=powN a 254:=by simp
 rw [e]
 exact mulB_inv254 a ha
theorem inv_unique (a b c:UInt8) (h:mulB a b=1) (h':mulB a c=1):b=c:=by
 have e:mulB (mulB b a) c=c:=by rw [mulB_comm b a,h,mulB_one']
 rw [mulB_assoc,h',mulB_one] at e
 exact e
theorem invB_pow (a:UInt8):invB a=powN a 254:=by
 by_cases ha:a=0
 ·rw [ha,invB_zero,show 254=253+1 from rfl,powN_zero]
 ·exact inv_unique a _ _ (mulB_inv a ha) (mulB_inv254 a ha)
end Go.Proofs.YthppjgdnibfefaaGreat
namespace Go.Proofs.YthppjgdnibfefaaGreat
open Go.RowKit
end Go.Proofs.YthppjgdnibfefaaGreat
namespace Go.Proofs.YthppjgdnibfefaaGreat
open Go.RowKit
theorem each_byte {p:UInt8→Prop} (h:∀ n:Fin 256,p (UInt8.ofNat n.val)) (x:UInt8):p x:=by
 have e:UInt8.ofNat x.toNat=x:=by simp
 have:=h ⟨x.toNat,x.toNat_lt⟩
 rw [e] at this
 exact this
def dblOk (x:UInt8):Bool :=
 if bits .and .u8 (x.toNat:Int) 128 != 0 then bits .xor .u8 ((x.toNat:Int)*2 % 256) 27 == ((mulB x 2).toNat:Int) else (x.toNat:Int)*2 % 256 == ((mulB x 2).toNat:Int)
theorem dbl_ok (x:UInt8):dblOk x=true:=each_byte (p:=fun x=>dblOk x=true) (by decide +kernel) x
theorem double_any (x:UInt8) (w:World) :
  Calls Tryz.prog 226 #[.int .u8 (x.toNat:Int)] w fun e w'=>e=.returned (.int .u8 ((mulB x 2).toNat:Int))∧w=w':=by
 have hx:=byte_lt x
 have hok:=dbl_ok x
 unfold dblOk at hok
 have HOK:=η hok
 clear hok
 go_enter Tryz.func226,Tryz.ntmps226
 go_wp2
 ·rename_i h
  go_ret
  have:=HOK.out
  rw [if_pos h,beq_iff_eq] at this
  exact ⟨ret1i this,rfl⟩
 ·rename_i h
  go_ret
  have:=HOK.out
  rw [if_neg (by rw [h];simp),beq_iff_eq] at this
  exact ⟨ret1i this,rfl⟩
def halfB (b:UInt8):UInt8:=b >>> 1
theorem half_nat (b:UInt8):((halfB b).toNat:Int)=(b.toNat:Int) / 2:=by
 have h:=each_byte (p:=fun b=>(halfB b).toNat=b.toNat / 2) (by decide +kernel) b
 show ((halfB b).toNat:Int)=_
 rw [show (halfB b).toNat=b.toNat / 2 from h]
 simp
def bit0 (b:UInt8):UInt8:=b &&& 1
theorem bit0_two (b:UInt8):b=bit0 b ^^^ mulB 2 (halfB b):=each_byte (p:=fun b=>b=bit0 b ^^^ mulB 2 (halfB b)) (by decide +kernel) b
theorem bit0_and (b:UInt8):(bits .and .u8 (b.toNat:Int) 1 != 0)=decide (bit0 b=1):=each_byte (p:=fun b=>(bits .and .u8 (b.toNat:Int) 1 != 0)=decide (bit0 b=1)) (by decide +kernel) b
theorem bit0_zero (b:UInt8) (h:¬bit0 b=1):bit0 b=0:=each_byte (p:=fun b=>¬bit0 b=1→bit0 b=0) (by decide +kernel) b h
theorem mul_half (a b:UInt8):mulB a b=mulB a (bit0 b) ^^^ mulB (mulB a 2) (halfB b):=by
 have h:=mulB_right a (bit0 b) (mulB 2 (halfB b))
 rw [←bit0_two] at h
 rw [h,mulB_assoc]
theorem mul_any (x y:UInt8) (w:World) :
  Calls Tryz.prog 219 #[.int .u8 (x.toNat:Int),.int .u8 (y.toNat:Int)] w fun e w'=>e=.returned (.int .u8 ((mulB x y).toNat:Int))∧w=w':=by
 obtain ⟨V,HV⟩:∃ V,Hid (V=mulB x y):=⟨_,η rfl⟩
 rw [←HV.out]
 go_enter Tryz.func219,Tryz.ntmps219
 go_wp2
 go_loop [0,1,5] (fun A B P=>∃ a b p:UInt8,A=.int .u8 (a.toNat:Int)∧B=.int .u8 (b.toNat:Int)∧P=.int .u8 (p.toNat:Int)∧Hid (V=p ^^^ mulB a b)) (fun _ B _=>(intOf B).toNat)
 case atStart=>exact ⟨x,y,0,rfl,rfl,rfl,η (by rw [HV.out];simp)⟩
 case round =>
  obtain ⟨a,b,p,rfl,rfl,rfl,hv⟩:=hrel
  have hb:=byte_lt b
  have ha:=byte_lt a
  by_cases h0:b=0
  ·subst h0
   have h1:=hv.out
   rw [mulB_zero] at h1
   have HV1:=η h1
   clear h1
   go_wp2
   go_ret
   exact ⟨ret1i (by rw [HV1.out];simp),rfl⟩
  ·have hb0:((b.toNat:Int) != 0)=true:=by
    rw [bne_iff_ne];intro e;exact h0 (UInt8.toNat_inj.1 (by simp;omega))
   have hb1:0<b.toNat:=by
    have:=bne_iff_ne.1 hb0;omega
   have hand:=bit0_and b
   have hmul:=mul_half a b
   have hx:=xor_byte p a
   have hhalf:=half_nat b
   have HH:=η hhalf
   clear h0 hhalf
   by_cases hbit:bit0 b=1
   ·rw [hbit,mulB_one] at hmul
    have HM:=η hmul
    have hd:(bits .and .u8 (b.toNat:Int) 1 != 0)=true:=by rw [hand];exact decide_eq_true hbit
    clear hand hmul hbit
    go_wp2_with (go_at_call 226;refine (double_any _ _).mono ?_;rintro e w' ⟨rfl,rfl⟩)
    go_round
    case rel=>exact ⟨mulB a 2,halfB b,p ^^^ a,rfl,by rw [HH.out],rfl,η (by rw [hv.out,HM.out,UInt8.xor_assoc])⟩
    case measure=>simp [intOf];omega
   ·rw [bit0_zero b hbit,mulB_zero,UInt8.zero_xor] at hmul
    have HM:=η hmul
    have hd:(bits .and .u8 (b.toNat:Int) 1 != 0)=false:=by rw [hand];exact decide_eq_false hbit
    clear hand hmul hbit
    go_wp2_with (go_at_call 226;refine (double_any _ _).mono ?_;rintro e w' ⟨rfl,rfl⟩)
    go_round
    case rel=>exact ⟨mulB a 2,halfB b,p,rfl,by rw [HH.out],rfl,η (by rw [hv.out,HM.out])⟩
    case measure=>simp [intOf];omega
theorem mul_k (x:UInt8) (k:Nat) (hk:k<256) (w:World) :
  Calls Tryz.prog 219 #[.int .u8 (x.toNat:Int),.int .u8 (k:Int)] w fun e w'=>e=.returned (.int .u8 ((mulB x (UInt8.ofNat k)).toNat:Int))∧w=w':=by
 have e:(k:Int)=((UInt8.ofNat k).toNat:Int):=by simp;omega
 rw [e]
 exact mul_any x _ w
end Go.Proofs.YthppjgdnibfefaaGreat
namespace Go.Proofs.YthppjgdnibfefaaGreat
open Go.RowKit
theorem powN_half (a:UInt8) (n:Nat):powN a n=mulB (powN a (n % 2)) (powN (mulB a a) (n / 2)):=by
 have h2:mulB a a=powN a 2:=by rw [powN_two a 1,powN_one]
 rw [h2,powN_mul,←powN_add,Nat.add_comm,Nat.div_add_mod]
theorem and_one (n:Nat) (hn:n<18446744073709551616):bits .and .u64 (n:Int) 1=((n % 2:Nat):Int):=by
 have h:=u64_and_nat n 1 hn (by omega)
 rw [show n &&& 1=n % 2 from Nat.and_one_is_mod n] at h
 exact h
theorem pow_any (x:UInt8) (n:Nat) (w:World) (hn:n≤18446744073709551615) :
  Calls Tryz.prog 212 #[.int .u8 (x.toNat:Int),.int .u64 (n:Int)] w fun e w'=>e=.returned (.int .u8 ((powN x n).toNat:Int))∧w=w':=by
 obtain ⟨V,HV⟩:∃ V,Hid (V=powN x n):=⟨_,η rfl⟩
 rw [←HV.out]
 go_enter Tryz.func212,Tryz.ntmps212
 go_wp2
 go_loop [0,1,5] (fun A N P=>∃ (a p:UInt8) (m:Nat),m≤18446744073709551615∧A=.int .u8 (a.toNat:Int)∧N=.int .u64 (m:Int)∧P=.int .u8 (p.toNat:Int)∧Hid (V=mulB p (powN a m))) (fun _ N _=>(intOf N).toNat)
 case atStart=>exact ⟨x,1,n,hn,rfl,rfl,rfl,η (by rw [HV.out,mulB_one'])⟩
 case round =>
  obtain ⟨a,p,m,hm,rfl,rfl,rfl,hv⟩:=hrel
  by_cases h0:m=0
  ·subst h0
   have h1:=hv.out
   rw [show powN a 0=1 from rfl,mulB_one] at h1
   have HV1:=η h1
   clear h1
   go_wp2
   go_ret
   exact ⟨ret1i (by rw [HV1.out]),rfl⟩
  ·have hb0:((m:Int) != 0)=true:=by rw [bne_iff_ne];omega
   have hm0:0<m:=by omega
   have hand:=and_one m (by omega)
   have hstep:=powN_half a m
   by_cases hbit:m % 2=1
   ·rw [hbit,powN_one] at hstep
    have HM:=η hstep
    have hd:(bits .and .u64 (m:Int) 1 != 0)=true:=by rw [hand,hbit];rfl
    clear hand hstep hbit h0
    go_wp2_with fail
    refine (mul_any _ _ _).mono ?_
    rintro e w' ⟨rfl,rfl⟩
    go_wp2_with fail
    refine (mul_any _ _ _).mono ?_
    rintro e w' ⟨rfl,rfl⟩
    go_wp2
    go_round
    case rel=>exact ⟨mulB a a,mulB p a,m / 2,by omega,rfl,by go_num,rfl,η (by rw [hv.out,HM.out,mulB_assoc])⟩
    case measure=>simp [intOf];omega
   ·rw [show m % 2=0 by omega,show powN a 0=1 from rfl,mulB_one'] at hstep
    have HM:=η hstep
    have hd:(bits .and .u64 (m:Int) 1 != 0)=false:=by rw [hand,show m % 2=0 by omega];rfl
    clear hand hstep hbit h0
    go_wp2_with fail
    refine (mul_any _ _ _).mono ?_
    rintro e w' ⟨rfl,rfl⟩
    go_wp2
    go_round
    case rel=>exact ⟨mulB a a,p,m / 2,by omega,rfl,by go_num,rfl,η (by rw [hv.out,HM.out])⟩
    case measure=>simp [intOf];omega
theorem inv_any (x:UInt8) (w:World) :
  Calls Tryz.prog 231 #[.int .u8 (x.toNat:Int)] w fun e w'=>e=.returned (.int .u8 ((invB x).toNat:Int))∧w=w':=by
 have hp:=invB_pow x
 have HP:=η hp
 clear hp
 go_enter Tryz.func231,Tryz.ntmps231
 go_wp2_with fail
 refine (pow_any x 254 _ (by omega)).mono ?_
 rintro e w1 ⟨rfl,rfl⟩
 go_wp2_with fail
 go_ret
 exact ⟨ret1i (by rw [HP.out]),rfl⟩
def rotB (x:UInt8) (k:Nat):UInt8:=UInt8.ofNat (x.toNat*2 ^ k % 256+x.toNat / 2 ^ (8 - k))
theorem rot_or1 (x:UInt8):bits .or .u8 ((x.toNat:Int)*2 % 256) ((x.toNat:Int) / 128)=((rotB x 1).toNat:Int):=each_byte (p:=fun x=>bits .or .u8 ((x.toNat:Int)*2 % 256) ((x.toNat:Int) / 128)=((rotB x 1).toNat:Int)) (by decide +kernel) x
theorem rot1 (x:UInt8) (w:World) :
  Calls Tryz.prog 232 #[.int .u8 (x.toNat:Int),.int .i64 1] w fun e w'=>e=.returned (.int .u8 ((rotB x 1).toNat:Int))∧w=w':=by
 have hx:=byte_lt x
 have hb:bits .and .u64 1 7=1:=by decide +kernel
 go_enter Tryz.func232,Tryz.ntmps232
 go_wp2
 go_ret
 exact ⟨ret1i (rot_or1 x),rfl⟩
theorem rot_or2 (x:UInt8):bits .or .u8 ((x.toNat:Int)*4 % 256) ((x.toNat:Int) / 64)=((rotB x 2).toNat:Int):=each_byte (p:=fun x=>bits .or .u8 ((x.toNat:Int)*4 % 256) ((x.toNat:Int) / 64)=((rotB x 2).toNat:Int)) (by decide +kernel) x
theorem rot2 (x:UInt8) (w:World) :
  Calls Tryz.prog 232 #[.int .u8 (x.toNat:Int),.int .i64 2] w fun e w'=>e=.returned (.int .u8 ((rotB x 2).toNat:Int))∧w=w':=by
 have hx:=byte_lt x
 have hb:bits .and .u64 2 7=2:=by decide +kernel
 go_enter Tryz.func232,Tryz.ntmps232
 go_wp2
 go_ret
 exact ⟨ret1i (rot_or2 x),rfl⟩
theorem rot_or3 (x:UInt8):bits .or .u8 ((x.toNat:Int)*8 % 256) ((x.toNat:Int) / 32)=((rotB x 3).toNat:Int):=each_byte (p:=fun x=>bits .or .u8 ((x.toNat:Int)*8 % 256) ((x.toNat:Int) / 32)=((rotB x 3).toNat:Int)) (by decide +kernel) x
theorem rot3 (x:UInt8) (w:World) :
  Calls Tryz.prog 232 #[.int .u8 (x.toNat:Int),.int .i64 3] w fun e w'=>e=.returned (.int .u8 ((rotB x 3).toNat:Int))∧w=w':=by
 have hx:=byte_lt x
 have hb:bits .and .u64 3 7=3:=by decide +kernel
 go_enter Tryz.func232,Tryz.ntmps232
 go_wp2
 go_ret
 exact ⟨ret1i (rot_or3 x),rfl⟩
theorem rot_or4 (x:UInt8):bits .or .u8 ((x.toNat:Int)*16 % 256) ((x.toNat:Int) / 16)=((rotB x 4).toNat:Int):=each_byte (p:=fun x=>bits .or .u8 ((x.toNat:Int)*16 % 256) ((x.toNat:Int) / 16)=((rotB x 4).toNat:Int)) (by decide +kernel) x
theorem rot4 (x:UInt8) (w:World) :
  Calls Tryz.prog 232 #[.int .u8 (x.toNat:Int),.int .i64 4] w fun e w'=>e=.returned (.int .u8 ((rotB x 4).toNat:Int))∧w=w':=by
 have hx:=byte_lt x
 have hb:bits .and .u64 4 7=4:=by decide +kernel
 go_enter Tryz.func232,Tryz.ntmps232
 go_wp2
 go_ret
 exact ⟨ret1i (rot_or4 x),rfl⟩
def sumL (l:List UInt8):UInt8:=l.foldl (· ^^^ ·) 0
theorem sumL_snoc (l:List UInt8) (x:UInt8):sumL (l++[x])=sumL l ^^^ x:=by simp [sumL]
theorem sum_any (A:Option Addr) (n c B:Nat) (l:List UInt8) (w:World) (h:RB w B A n l) (hn:n≤maxLen) :
  Calls Tryz.prog 211 #[.slice A n c] w fun e w'=>e=.returned (.int .u8 ((sumL l).toNat:Int))∧w=w':=by
 unfold maxLen at hn
 go_enter Tryz.func211,Tryz.ntmps211
 go_wp2
 go_loop [3,5,8] (fun v _ i=>∃ k:Nat,k≤n∧i=.int .i64 k∧v=.int .u8 ((sumL (l.take k)).toNat:Int)) (fun _ _ i=>n - (intOf i).toNat)
 case atStart=>exact ⟨0,Nat.zero_le _,rfl,rfl⟩
 case round =>
  obtain ⟨k,hk,rfl,rfl⟩:=hrel
  by_cases hlt:k<n
  ·obtain ⟨b,o,rfl,hb,x,hx,hc⟩:=h.at_ hlt
   have hs:=sumL_snoc (l.take k) x
   rw [←take_snoc hx] at hs
   have HS:=η hs
   have hxb:=xor_byte (sumL (l.take k)) x
   clear hs hx
   go_wp2
   go_round
   case rel=>exact ⟨k+1,by omega,by go_num,by rw [HS.out,UInt8.toNat_xor]⟩
   case measure=>simp [intOf];omega
  ·obtain rfl:k=n:=by omega
   have hl:l.take k=l:=List.take_of_length_le (by have:=h.len;omega)
   have HL:=η hl
   clear hl
   go_wp2
   go_ret
   exact ⟨ret1i (by rw [HL.out]),rfl⟩
theorem sign_sum (b:UInt8):sumL [b,rotB b 1,rotB b 2,rotB b 3,rotB b 4,99]=signB b:=each_byte (p:=fun b=>sumL [b,rotB b 1,rotB b 2,rotB b 3,rotB b 4,99]=signB b) (by decide +kernel) b
def RetV (v:Value) (w:World) (e:Ending) (w':World):Prop:=e=.returned v∧Below w.heap.size w w'
theorem sign_any (x:UInt8) (w:World) :
  Calls Tryz.prog 222 #[.int .u8 (x.toNat:Int)] w (RetV (.int .u8 ((subB x).toNat:Int)) w):=by
 obtain ⟨b,HB⟩:∃ b,Hid (b=invB x):=⟨_,η rfl⟩
 go_enter Tryz.func222,Tryz.ntmps222
 go_wp2_with fail
 refine (inv_any _ _).mono ?_
 rintro e w1 ⟨rfl,rfl⟩
 rw [←HB.out]
 go_wp2_with fail
 refine (rot1 _ _).mono ?_
 rintro e w1 ⟨rfl,rfl⟩
 go_wp2_with fail
 refine (rot2 _ _).mono ?_
 rintro e w1 ⟨rfl,rfl⟩
 go_wp2_with fail
 refine (rot3 _ _).mono ?_
 rintro e w1 ⟨rfl,rfl⟩
 go_wp2_with fail
 refine (rot4 _ _).mono ?_
 rintro e w1 ⟨rfl,rfl⟩
 go_wp2_with fail
 refine (sum_any _ _ _ _ [b,rotB b 1,rotB b 2,rotB b 3,rotB b 4,99] _ (by exact RB.lit w _ _ 6 _ rfl rfl rfl) (by unfold maxLen;omega)).mono ?_
 rintro e w1 ⟨rfl,rfl⟩
 go_wp2_with fail
 go_ret
 exact ⟨ret1i (by rw [sign_sum,HB.out];rfl),below_alloc _ _⟩
end Go.Proofs.YthppjgdnibfefaaGreat
namespace Go.Proofs.YthppjgdnibfefaaGreat
theorem invB_inv (x:UInt8):invB (invB x)=x:=by
 by_cases hx:x=0
 ·subst hx;rw [invB_zero,invB_zero]
 ·have h1:=mulB_inv x hx
  have hi:invB x≠0:=fun e=>by rw [e,mulB_zero] at h1;exact absurd h1 (by decide)
  have h2:=mulB_inv (invB x) hi
  rw [mulB_comm] at h1
  exact inv_unique (invB x) _ _ h2 h1
def unsignB (s:UInt8):UInt8:=sumL [rotB s 1,rotB s 3,rotB s 6,5]
theorem unsign_sign (b:UInt8):unsignB (signB b)=b:=each_byte (p:=fun b=>unsignB (signB b)=b) (by decide +kernel) b
theorem sign_unsign (s:UInt8):signB (unsignB s)=s:=each_byte (p:=fun s=>signB (unsignB s)=s) (by decide +kernel) s
theorem subB_inj (x y:UInt8) (h:subB x=subB y):x=y:=by
 have h1:=congrArg unsignB h
 unfold subB at h1
 rw [unsign_sign,unsign_sign] at h1
 have h2:=congrArg invB h1
 rwa [invB_inv,invB_inv] at h2
theorem subB_un (a:UInt8):subB (invB (unsignB a))=a:=by
 unfold subB
 rw [invB_inv,sign_unsign]
theorem unsubFrom_spec (x:UInt8):∀ (m k:Nat),k≤x.toNat→x.toNat<k+m→k+m≤256→unsubFrom (subB x) k m=x
 | 0,k,h1,h2,_=>by omega
 | m+1,k,h1,h2,h3=>by
  rw [unsubFrom]
  split
  ·rename_i h;exact subB_inj _ _ h
  ·rename_i hk
   refine unsubFrom_spec x m (k+1) ?_ (by omega) (by omega)
   rcases Nat.lt_or_ge k x.toNat with h | h
   ·exact h
   ·exact absurd (by rw [show k=x.toNat from by omega];simp) hk
theorem unsub_sub (x:UInt8):unsubB (subB x)=x:=unsubFrom_spec x 256 0 (Nat.zero_le _) (by have:=x.toNat_lt;omega) (by omega)
theorem sub_unsub (a:UInt8):subB (unsubB a)=a:=by
 have h:=subB_un a
 have h2:=unsub_sub (invB (unsignB a))
 rw [h] at h2
 rw [h2,h]
def pow254 (a:UInt8):UInt8 :=
 let b:=mulB a a;let c:=mulB b b;let d:=mulB c c;let e:=mulB d d;let f:=mulB e e;let g:=mulB f f;let h:=mulB g g
 mulB (mulB (mulB (mulB (mulB (mulB h g) f) e) d) c) b
end Go.Proofs.YthppjgdnibfefaaGreat
