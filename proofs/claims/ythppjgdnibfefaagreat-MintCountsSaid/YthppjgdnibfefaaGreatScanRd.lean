import Derived.Test.YthppjgdnibfefaaGreatVariAll
import Derived.Test.YthppjgdnibfefaaGreatRec
set_option linter.all false
set_option maxRecDepth 100000
set_option maxHeartbeats 32000000
namespace Go.Proofs.YthppjgdnibfefaaGreat
open Tryz
open Go.RowKit
def AoV (s:Int×List UInt8) (e:Int):Int×List UInt8:=if s.1=0 then (e,s.2) else s
def AmV (n:Nat) (s:Int×List UInt8):List UInt8×Int×List UInt8:=if s.1=0 then (if n≤s.2.length then (s.2.take n,0,s.2.drop n) else ([],12,s.2)) else ([],s)
def AeQ (z:Int) (s:Int×List UInt8):List UInt8×Int×List UInt8:=if z<0 then ([],AoV s 11) else AmV z.toNat s
def numS (z:Int) (s:Int×List UInt8):Nat×Int×List UInt8:=(numL (AeQ z (if 8<z then AoV s 11 else s)).1,(AeQ z (if 8<z then AoV s 11 else s)).2)
def variS (s:Int×List UInt8):Nat×Int×List UInt8:=if s.1=0 then (tkV s.2,tkE s.2,s.2.drop (tkN s.2)) else (0,s)
def AwZ (r:Nat×Int×List UInt8) (s:Int×List UInt8):List UInt8×Int×List UInt8:=if (AmV r.1 r.2).2.1=0 then AmV r.1 r.2 else ([],(AmV r.1 r.2).2.1,s.2)
def AfY (s:Int×List UInt8):List UInt8×Int×List UInt8:=AwZ (numS 1 s) s
def longS (s:Int×List UInt8):List UInt8×Int×List UInt8:=AwZ (variS s) s
def CnY (s:Int×List UInt8):List UInt8×Int×List UInt8:=AmV s.2.length s
def endS (s:Int×List UInt8):Int×List UInt8:=if 0<s.2.length then AoV s 10 else s
theorem BeX (l:YB) (e:Int):AoV (0,l) e=(e,l):=if_pos rfl
theorem BbJ {s:Int×List UInt8} (h:s.1≠0) (e:Int):AoV s e=s:=if_neg h
theorem BcY {s:Int×List UInt8} (h:s.1≠0) (n:Nat):AmV n s=([],s):=if_neg h
theorem AoJ {l:YB} {n:Nat} (h:n≤l.length):AmV n (0,l)=(l.take n,0,l.drop n):=by unfold AmV;rw [if_pos rfl,if_pos h]
theorem AxY {l:YB} {n:Nat} (h:l.length<n):AmV n (0,l)=([],12,l):=by unfold AmV;rw [if_pos rfl,if_neg (by simp only;omega)]
def RdR (w:World) (x:Nat) (s:Int×List UInt8):Prop:=∃ A n c,Two 192 w x (.int .i64 s.1) (.slice A n c)∧RBo w A n s.2∧n≤c∧c≤maxLen∧n≤1000000
def RdQ (w:World) (x:Nat) (s:Int×List UInt8):Prop:=∃ A n c,Two 267 w x (.slice A n c) (.int .i64 s.1)∧RB w w.heap.size A n s.2∧n≤c∧c≤maxLen∧n≤1000000
section
variable {w w':World} {x y:Nat} {s t:Int×List UInt8}
theorem RdR.nob (h:RdR w x s):NoB [x] w:=by obtain ⟨A,n,c,h,_⟩:=h;exact h.nob (by decide)
theorem RdQ.nob (h:RdQ w x s):NoB [x] w:=by obtain ⟨A,n,c,h,_⟩:=h;exact h.nob (by decide)
theorem RdR.step (h:RdR w x s) (hb:Below w.heap.size w w'):RdR w' x s:=by
 obtain ⟨A,n,c,h1,h2,h3⟩:=h
 exact ⟨A,n,c,h1.step hb,h2.step hb,h3⟩
theorem RdQ.step (h:RdQ w x s) (hb:Below w.heap.size w w'):RdQ w' x s:=by
 obtain ⟨A,n,c,h1,h2,h3⟩:=h
 exact ⟨A,n,c,h1.step hb,h2.step hb,h3⟩
theorem RdQ.row (h:RdQ w x s) {B n:Nat} {A:YA} {l:YB} (r:RB w B A n l):0<n→∀ g o,A=some ⟨g,o,none⟩→g∉[x]:=by
 obtain ⟨A',n',c',h1,_⟩:=h
 intro hn g o e
 simpa using h1.far (BjJ _ _ _) (DaV _) r hn g o e
theorem RdR.off {S:List Nat} (h:RdR w x s) (ho:Oth S w w') (hx:x∉S) (hS:NoB S w):RdR w' x s:=by
 obtain ⟨A,n,c,h1,h2,h3⟩:=h
 exact ⟨A,n,c,h1.oth ho hx,h2.oth ho hS,h3⟩
end
def RdL (R:World→Nat→Int×List UInt8→Prop) (x:Nat) (r:List UInt8×Int×List UInt8) (w:World) (e:Ending) (w':World):Prop :=
 ∃ A n c,e=.returned (.slice A n c)∧OwnB w' w.heap.size A n c r.1∧Oth [x] w w'∧R w' x r.2
def RdN (R:World→Nat→Int×List UInt8→Prop) (x:Nat) (r:Nat×Int×List UInt8) (w:World) (e:Ending) (w':World):Prop :=
 e=.returned (.int .u64 (r.1:Int))∧Oth [x] w w'∧R w' x r.2
theorem AiJ (a:Addr) (z:Int) (v:Bool) (hv:(z != 0)=v) (w:World) (h:w.cell? a=some (.int .i64 z)) :
  Calls prog 128 #[.pointer (some a)] w fun e w'=>e=.returned (.bool v)∧w=w':=by
 subst hv
 go_enter func128,ntmps128
 go_wp2_with fail
 go_ret
 exact ⟨rfl,rfl⟩
theorem fail_0 (x:Nat) (z:Int) (w:World) (h:w.cell? ⟨x,0,none⟩=some (.int .i64 0)) (hf:w.frozen? ⟨x,0,none⟩=false) :
  Calls prog 118 #[.pointer (some ⟨x,0,none⟩),.int .i64 z] w fun e w'=>e=.returned (.tuple #[])∧w'=w.setCell ⟨x,0,none⟩ (.int .i64 z):=by
 go_enter func118,ntmps118
 go_wp2_with fail
 refine (AiJ _ 0 false rfl _ h).mono ?_
 rintro e w1 ⟨rfl,rfl⟩
 go_wp2_with fail
 go_end0
 exact ⟨rfl,rfl⟩
theorem EyQ (x:Nat) (z y:Int) (hy:y≠0) (w:World) (h:w.cell? ⟨x,0,none⟩=some (.int .i64 y)) :
  Calls prog 118 #[.pointer (some ⟨x,0,none⟩),.int .i64 z] w fun e w'=>e=.returned (.tuple #[])∧w=w':=by
 go_enter func118,ntmps118
 go_wp2_with fail
 refine (AiJ _ y true (by simpa using hy) _ h).mono ?_
 rintro e w1 ⟨rfl,rfl⟩
 go_wp2_with fail
 go_end0
 exact ⟨rfl,rfl⟩
theorem CvW (w:World) (A:YA) (n c:Nat) (l:YB) (h:RB w w.heap.size A n l) (hn:n≤1000000) :
  Calls prog 59 #[.slice (some ⟨w.heap.size,0,none⟩) 1 1] (w.alloc (.cells #[.slice A n c] 41)) (RetB n l w):=by
 have e1:=h.len
 have hrr:=RR.lit w [(A,c,l)] #[.slice A n c] 41 1 w.heap.size (by simp [e1]) rfl rfl (fun r hr=>by
  simp only [List.mem_cons,List.not_mem_nil,or_false] at hr
  subst hr
  rw [e1];exact h)
 have ht:totL [l]=n:=by simp [totL,e1]
 refine (AwX _ 1 1 [l] _ hrr (by decide) (by simp only [totL,List.map_cons,List.map_nil,List.sum_cons,List.sum_nil];omega)).mono ?_
 rintro e w' ⟨A',c',rfl,ho,hb⟩
 have hf:[l].flatten=l:=by simp
 change OwnB w' _ A' (totL [l]) c' [l].flatten at ho
 show RetB n l w (.returned (.slice A' (totL [l]) c')) w'
 rw [ht,hf] at ho
 rw [ht]
 exact ⟨A',c',rfl,ho.base_le (by simp),(AaK w _).trans (hb.mono (by simp))⟩
theorem cutu_h (A:YA) (n c h:Nat) (h2:h≤c):∀ W:World,(Instr.slice 41 (.slice A n c) none (some (.int .u64 (h:Int))) none).run prog W=.ok (.slice (cutA A c 0) h c) W:=by
 intro W
 simp [Instr.slice,Instr.sliceBounds,Instr.sliceBound,asIntOf,go_sem,run_underlying underlying41,h2,cutA]
theorem cutu_l (A:YA) (n c l:Nat) (h1:l≤n):∀ W:World,(Instr.slice 41 (.slice A n c) (some (.int .u64 (l:Int))) none none).run prog W=.ok (.slice (cutA A c l) (n - l) (c - l)) W:=by
 intro W
 simp [Instr.slice,Instr.sliceBounds,Instr.sliceBound,asIntOf,go_sem,run_underlying underlying41,h1,cutA]
theorem take_err (x n:Nat) (s:Int×List UInt8) (w:World) (h:RdR w x s) (hn:n≤18446744073709551615) (he:s.1≠0) :
  Calls prog 155 #[.pointer (some ⟨x,0,none⟩),.int .u64 (n:Int)] w (RdL RdR x (AmV n s) w):=by
 rw [BcY he]
 have hR:=h
 obtain ⟨A,m,c,h1,h2,h3,h4,h5⟩:=h
 have h0:=h1.c0
 have hc1:=h1.c1
 have hb:(s.1 != 0)=true:=by simpa using he
 by_cases hlt:m<n
 ·go_enter func155,ntmps155
  go_wp2_with fail;refine (EyQ x 12 _ he _ h0).mono ?_;rintro e w1 ⟨rfl,rfl⟩;go_wp2_with fail;refine (AiJ _ _ true hb _ h0).mono ?_;rintro e w1 ⟨rfl,rfl⟩;go_wp2_with fail;go_ret;exact ⟨none,0,0,rfl,OwnB.nil_ _ _,Oth.refl _ _,hR⟩
 ·go_enter func155,ntmps155
  go_wp2_with fail;refine (AiJ _ _ true hb _ h0).mono ?_;rintro e w1 ⟨rfl,rfl⟩;go_wp2_with fail;go_ret;exact ⟨none,0,0,rfl,OwnB.nil_ _ _,Oth.refl _ _,hR⟩
theorem CqY (x:Nat) (z:Int) (s:Int×List UInt8) (w:World) (h:RdR w x s) :
  Calls prog 118 #[.pointer (some ⟨x,0,none⟩),.int .i64 z] w fun e w'=>e=.returned (.tuple #[])∧Oth [x] w w'∧RdR w' x (AoV s z):=by
 have hrow:=h.nob
 by_cases he:s.1=0
 ·obtain ⟨s1,l⟩:=s
  simp only at he;subst he;obtain ⟨A,m,c,h1,h2,h3⟩:=h;refine (fail_0 x z w h1.c0 (h1.free 0)).mono ?_;rintro e w' ⟨rfl,rfl⟩;have ho:=(Oth.refl [x] w).set (x:=x) (by simp) 0 (.int .i64 z);rw [BeX];exact ⟨rfl,ho,A,m,c,h1.set0 _,h2.oth ho hrow,h3⟩
 ·rw [BbJ he]
  have hR:=h;obtain ⟨A,m,c,h1,h2,h3⟩:=h;refine (EyQ x z _ he w h1.c0).mono ?_;rintro e w' ⟨rfl,rfl⟩;exact ⟨rfl,Oth.refl _ _,hR⟩
theorem take_end (x n:Nat) (l:YB) (w:World) (h:RdR w x (0,l)) (hn:n≤18446744073709551615) (hl:l.length<n) :
  Calls prog 155 #[.pointer (some ⟨x,0,none⟩),.int .u64 (n:Int)] w (RdL RdR x (AmV n (0,l)) w):=by
 rw [AxY hl]
 have hF:=CqY x 12 _ w h
 obtain ⟨A,m,c,h1,h2,h3,h4,h5⟩:=h
 have hm:=h2.len
 have hc1:=h1.c1
 have hlt:m<n:=by simp only at hm;omega
 have HF:=η hF
 clear hF hm hl
 go_enter func155,ntmps155
 go_wp2_with fail
 refine HF.o.mono ?_
 rintro e w1 ⟨rfl,ho,hr⟩
 rw [BeX] at hr
 have hR:=hr
 obtain ⟨A1,m1,k1,t1,t2⟩:=hr
 have h0:=t1.c0
 go_wp2_with fail
 refine (AiJ _ 12 true rfl _ h0).mono ?_
 rintro e w2 ⟨rfl,rfl⟩
 go_wp2_with fail
 go_ret
 exact ⟨none,0,0,rfl,OwnB.nil_ _ _,ho,hR⟩
theorem EpV (x n:Nat) (l:YB) (w:World) (h:RdR w x (0,l)) (hl:n≤l.length) :
  Calls prog 155 #[.pointer (some ⟨x,0,none⟩),.int .u64 (n:Int)] w (RdL RdR x (AmV n (0,l)) w):=by
 rw [AoJ hl]
 have hR:=h
 obtain ⟨A,m,c,h1,h2,h3,h4,h5⟩:=h
 have hm:=h2.len
 simp only at hm
 rw [hm] at hl
 have h0:=h1.c0
 have hc1:=h1.c1
 have hlt:¬m<n:=by omega
 have hcut:=cutu_h A m c n (by omega)
 have hcut2:=cutu_l A m c n hl
 have hpart:=h2.part (i:=0) (j:=n) (c:=c) (by omega) hl h3
 rw [Nat.sub_zero,List.drop_zero] at hpart
 have hrest:=h2.part (i:=n) (j:=m) (c:=c) hl (Nat.le_refl _) h3
 rw [List.take_of_length_le (by simp only;omega)] at hrest
 have htl:(l.take n).length=n:=by rw [List.length_take];omega
 have HP:=η hpart
 have HR:=η hrest
 have HT:=η h1
 have HW:=η hR
 have HL:=η htl
 obtain ⟨l1,HL1⟩:∃ l1,Hid (l1=l.take n):=⟨_,η rfl⟩
 obtain ⟨l2,HL2⟩:∃ l2,Hid (l2=l.drop n):=⟨_,η rfl⟩
 simp only at HP HR
 rw [←HL1.o] at HP HL ⊢
 rw [←HL2.o] at HR ⊢
 unfold maxLen at h4
 clear hpart hrest htl h2 hR h1 hm
 go_enter func155,ntmps155
 go_wp2_with fail
 refine (AiJ _ 0 false rfl _ h0).mono ?_
 rintro e w1 ⟨rfl,rfl⟩
 go_wp2_with fail
 refine (CvW w (cutA A c 0) n c l1 (by exact HP.o.rb) (by omega)).mono ?_
 rintro e w2 ⟨A2,c2,rfl,ho2,hb2⟩
 have T2:=η (HT.o.step hb2)
 have hc2:=T2.o.c1
 have hf2:=T2.o.free 1
 have HO:=η ho2
 have HB:=η hb2
 clear ho2 hb2 h0 hc1
 go_wp2_with fail
 go_ret
 have hX:Oth [x] w2 (w2.setCell ⟨x,1,none⟩ (.slice (cutA A c n) (m - n) (c - n))):=(Oth.refl [x] w2).set (x:=x) (by simp) 1 _
 have hS:=(HW.o.step HB.o)
 refine ⟨A2,n,c2,rfl,HO.o.oth hX (fun g o e=>by simpa using T2.o.own (by decide) HO.o g o e),(Oth.of_below HB.o).trans hX,cutA A c n,m - n,c - n,T2.o.set1 _,?_,by omega,by unfold maxLen;omega,by omega⟩
 exact (HR.o.step HB.o).oth hX hS.nob
theorem CiY (x n:Nat) (s:Int×List UInt8) (w:World) (h:RdR w x s) (hn:n≤18446744073709551615) :
  Calls prog 155 #[.pointer (some ⟨x,0,none⟩),.int .u64 (n:Int)] w (RdL RdR x (AmV n s) w):=by
 by_cases he:s.1=0
 ·obtain ⟨s1,l⟩:=s
  simp only at he;subst he;rcases Nat.lt_or_ge l.length n with hl | hl
  ·exact take_end x n l w h hn hl
  ·exact EpV x n l w h hl
 ·exact take_err x n s w h hn he
theorem DtV (x:Nat) (s:Int×List UInt8) (w:World) (h:RdR w x s) :
  Calls prog 123 #[.pointer (some ⟨x,0,none⟩)] w fun e w'=>e=.returned (.int .i64 (s.2.length:Int))∧w=w':=by
 obtain ⟨A,m,c,h1,h2,h3⟩:=h
 have hc1:=h1.c1
 rw [h2.len]
 go_enter func123,ntmps123
 go_wp2_with fail
 go_ret
 exact ⟨rfl,rfl⟩
theorem err_any (x:Nat) (s:Int×List UInt8) (w:World) (h:RdR w x s) :
  Calls prog 90 #[.pointer (some ⟨x,0,none⟩)] w fun e w'=>e=.returned (.int .i64 s.1)∧w=w':=by
 obtain ⟨A,m,c,h1,h2,h3⟩:=h
 have hc0:=h1.c0
 go_enter func90,ntmps90
 go_wp2_with fail
 go_ret
 exact ⟨rfl,rfl⟩
theorem end_any (x:Nat) (s:Int×List UInt8) (w:World) (h:RdR w x s) :
  Calls prog 87 #[.pointer (some ⟨x,0,none⟩)] w fun e w'=>e=.returned (.int .i64 (endS s).1)∧Oth [x] w w'∧RdR w' x (endS s):=by
 have HF:=η (CqY x 10 s w h)
 have HL:=η (DtV x s w h)
 have HW:=η h
 by_cases hl:0<s.2.length
 ·have hE:endS s=AoV s 10:=if_pos hl
  rw [hE];clear hE h;go_enter func87,ntmps87;go_wp2_with fail;refine HL.o.mono ?_;rintro e w1 ⟨rfl,rfl⟩;go_wp2_with fail;refine HF.o.mono ?_;rintro e w1 ⟨rfl,ho,hr⟩;have hR:=hr;obtain ⟨A,m,c,h1,h2⟩:=hr;have hc0:=h1.c0;go_wp2_with fail;go_ret;exact ⟨rfl,ho,hR⟩
 ·have hE:endS s=s:=if_neg hl
  rw [hE];have hl0:s.2.length=0:=by omega
  rw [hl0] at HL;obtain ⟨A,m,c,h1,h2⟩:=h;have hc0:=h1.c0;go_enter func87,ntmps87;go_wp2_with fail;refine HL.o.mono ?_;rintro e w1 ⟨rfl,rfl⟩;go_wp2_with fail;go_ret;exact ⟨rfl,Oth.refl _ _,HW.o⟩
theorem BpY (x:Nat) (z:Int) (s:Int×List UInt8) (w:World) (h:RdR w x s) (hz:z≤9223372036854775807) :
  Calls prog 120 #[.pointer (some ⟨x,0,none⟩),.int .i64 z] w (RdL RdR x (AeQ z s) w):=by
 unfold AeQ
 by_cases h0:z<0
 ·rw [if_pos h0]
  have HF:=η (CqY x 11 s w h);clear h;go_enter func120,ntmps120;go_wp2_with fail;refine HF.o.mono ?_;rintro e w1 ⟨rfl,ho,hr⟩;go_wp2_with fail;go_ret;exact ⟨none,0,0,rfl,OwnB.nil_ _ _,ho,hr⟩
 ·rw [if_neg h0]
  obtain ⟨n,rfl⟩:∃ n:Nat,z=(n:Int):=⟨z.toNat,by omega⟩;rw [Int.toNat_natCast];have HF:=η (CiY x n s w h (by omega));have hn0:¬(n:Int)<0:=h0;clear h;go_enter func120,ntmps120;go_wp2_with fail;refine HF.o.mono ?_;rintro e w1 ⟨A,n1,c1,rfl,ho,hr⟩;go_wp2_with fail;go_ret;exact ⟨A,n1,c1,rfl,ho,hr⟩
theorem BzX (n:Nat) (s:Int×List UInt8):(AmV n s).1.length≤n:=by
 unfold AmV
 split
 ·split
  ·simp only [List.length_take];omega
  ·simp
 ·simp
theorem EjW {n:Nat} {s:Int×List UInt8} (h:(AmV n s).2.1≠0):(AmV n s).1=[]:=by
 unfold AmV at h ⊢
 split
 ·rename_i e
  rw [if_pos e] at h;split
  ·rename_i e2
   rw [if_pos e2] at h;exact absurd rfl h
  ·rfl
 ·rfl
theorem DvK (s:Int×List UInt8) {e:Int} (he:e≠0):(AoV s e).1≠0:=by
 unfold AoV
 split
 ·exact he
 ·assumption
def numT (z:Int) (s:Int×List UInt8):Int×List UInt8:=if 8<z then AoV s 11 else s
theorem BgX (z:Int) (s:Int×List UInt8):(AeQ z (numT z s)).1.length≤8:=by
 unfold AeQ numT
 by_cases h0:z<0
 ·rw [if_pos h0];simp
 ·rw [if_neg h0]
  by_cases h8:8<z
  ·rw [if_pos h8,BcY (DvK s (by decide))];simp
  ·have:=BzX z.toNat (if 8<z then AoV s 11 else s)
   omega
theorem ArQ (z:Int) (s:Int×List UInt8):numS z s=(numL (AeQ z (numT z s)).1,(AeQ z (numT z s)).2):=rfl
theorem BvZ (x:Nat) (z:Int) (s:Int×List UInt8) (w:World) (h:RdR w x s) (hz:z≤9223372036854775807) :
  Calls prog 85 #[.pointer (some ⟨x,0,none⟩),.int .i64 z] w (RdN RdR x (numS z s) w):=by
 rw [ArQ]
 have hl:=BgX z s
 by_cases h8:8<z
 ·have hT:numT z s=AoV s 11:=if_pos h8
  have HF:=η (CqY x 11 s w h);rw [hT] at hl ⊢;obtain ⟨r,HR⟩:∃ r,Hid (r=AeQ z (AoV s 11)):=⟨_,η rfl⟩;rw [←HR.o] at hl ⊢;have HL:=η hl;clear h hT hl;go_enter func85,ntmps85;go_wp2_with fail;refine HF.o.mono ?_;rintro e w1 ⟨rfl,ho,hr⟩;have HO:=η ho;have HB:=η (BpY x z _ w1 hr hz);rw [←HR.o] at HB;clear ho hr;go_wp2_with fail;refine HB.o.mono ?_;rintro e w2 ⟨A,n,c,rfl,ho2,hx2,hr2⟩;have hn:=ho2.len;have HN:=η (CbW A n c _ r.1 w2 ho2.rb (by have:=HL.o;omega));have HX:=η (And.intro (HO.o.trans hx2) hr2);clear ho2 hx2 hr2 hn;go_wp2_with fail;refine HN.o.mono ?_;rintro e w3 ⟨rfl,rfl⟩;go_wp2_with fail;go_ret;exact ⟨rfl,HX.o⟩
 ·have hT:numT z s=s:=if_neg h8
  rw [hT] at hl ⊢;have HB:=η (BpY x z s w h hz);obtain ⟨r,HR⟩:∃ r,Hid (r=AeQ z s):=⟨_,η rfl⟩;rw [←HR.o] at hl HB ⊢;have HL:=η hl;clear h hT hl;go_enter func85,ntmps85;go_wp2_with fail;refine HB.o.mono ?_;rintro e w2 ⟨A,n,c,rfl,ho2,hx2,hr2⟩;have hn:=ho2.len;have HN:=η (CbW A n c _ r.1 w2 ho2.rb (by have:=HL.o;omega));have HX:=η (And.intro hx2 hr2);clear ho2 hx2 hr2 hn;go_wp2_with fail;refine HN.o.mono ?_;rintro e w3 ⟨rfl,rfl⟩;go_wp2_with fail;go_ret;exact ⟨rfl,HX.o⟩
open Go.RowKit
theorem RdL.base {R:World→Nat→Int×List UInt8→Prop} {x:Nat} {r:List UInt8×Int×List UInt8} {w w1 w':World} {e:Ending} (h:RdL R x r w1 e w') (ho:Oth [x] w w1):RdL R x r w e w':=by
 obtain ⟨A,n,c,he,h1,h2,h3⟩:=h
 exact ⟨A,n,c,he,h1.base_le ho.size,ho.trans h2,h3⟩
theorem CeY {r:Nat×Int×List UInt8} {s:Int×List UInt8} (h:(AmV r.1 r.2).2.1=0):AwZ r s=AmV r.1 r.2:=if_pos h
theorem BeY {r:Nat×Int×List UInt8} {s:Int×List UInt8} (h:(AmV r.1 r.2).2.1≠0):AwZ r s=([],(AmV r.1 r.2).2.1,s.2):=if_neg h
theorem CrV (x:Nat) (q:Nat) (r:Nat×Int×List UInt8) (s:Int×List UInt8) (w:World) (h:RdR w x s) (hn:r.1≤18446744073709551615)
  (HC:Calls prog 122 #[.pointer (some ⟨q,0,none⟩)] w (RdN RdR x r w)) :
  Calls prog 121 #[.pointer (some ⟨x,0,none⟩),.func (.func 122) #[] #[.pointer (some ⟨q,0,none⟩)]] w (RdL RdR x (AwZ r s) w):=by
 have HW:=η h
 obtain ⟨A,m,c,h1,h2,h3⟩:=h
 have hc1:=h1.c1
 have H2:=η (And.intro h2 h3)
 have HL:=η HC
 have HN:=η hn
 clear h1 h2 h3 HC hn
 go_enter func121,ntmps121
 go_wp2_with fail
 refine HL.o.mono ?_
 rintro e w1 ⟨rfl,ho1,hr1⟩
 have HO1:=η ho1
 have HTK:=η (CiY x r.1 r.2 w1 hr1 HN.o)
 clear ho1 hr1 hc1
 go_wp2_with fail
 refine HTK.o.mono ?_
 rintro e w2 ⟨A2,n2,c2,rfl,ho2,hx2,hr2⟩
 have HX:=η (HO1.o.trans hx2)
 have HB:=η (ho2.base_le HO1.o.size)
 have HR2:=η hr2
 obtain ⟨A3,n3,c3,t1,t2⟩:=hr2
 have h0:=t1.c0
 have ht1:=t1.c1
 have hf1:=t1.free 1
 have HT:=η t1
 clear ho2 hx2 t1 t2
 by_cases hq:(AmV r.1 r.2).2.1=0
 ·have HE:=η (CeY (s:=s) hq)
  have hb:((AmV r.1 r.2).2.1 != 0)=false:=by simpa using hq
  go_wp2_with fail;refine (AiJ _ _ false hb _ h0).mono ?_;rintro e w3 ⟨rfl,rfl⟩;go_wp2_with fail;go_ret;rw [HE.o];exact ⟨A2,n2,c2,rfl,HB.o,HX.o,HR2.o⟩
 ·have HE:=η (BeY (s:=s) hq)
  have hnil:=EjW hq;have hb:((AmV r.1 r.2).2.1 != 0)=true:=by simpa using hq
  have HQ:=η hnil;clear hnil;go_wp2_with fail;refine (AiJ _ _ true hb _ h0).mono ?_;rintro e w3 ⟨rfl,rfl⟩;go_wp2_with fail;go_ret;rw [HE.o];have hS:Oth [x] w2 (w2.setCell ⟨x,1,none⟩ (.slice A m c)):=(Oth.refl [x] w2).set (x:=x) (by simp) 1 _;have hrb:=H2.o.1.oth HX.o HW.o.nob;refine ⟨A2,n2,c2,rfl,?_,HX.o.trans hS,A,m,c,HT.o.set1 _,hrb.oth hS HR2.o.nob,H2.o.2⟩;have:=HB.o;rw [HQ.o] at this;exact this.oth hS (fun g o e=>by simpa using HT.o.own (by decide) this g o e)
theorem numL_one (l:YB) (h:l.length≤1):numL l≤255:=by
 rcases l with _ | ⟨a,_ | ⟨b,t⟩⟩
 ·exact Nat.zero_le _
 ·have:=a.toNat_lt
  show 0*256+a.toNat≤255;omega
 ·simp at h
theorem num1_le (s:Int×List UInt8):(numS 1 s).1≤255:=by
 rw [ArQ]
 refine numL_one _ ?_
 unfold AeQ
 rw [if_neg (by decide)]
 exact BzX _ _
theorem DzW (x q:Nat) (s:Int×List UInt8) (w:World) (h:RdR w x s) (hq:w.cell? ⟨q,0,none⟩=some (.pointer (some ⟨x,0,none⟩))) :
  Calls prog 122 #[.pointer (some ⟨q,0,none⟩)] w (RdN RdR x (numS 1 s) w):=by
 have HN:=η (BvZ x 1 s w h (by decide))
 clear h
 go_enter func122,ntmps122
 go_wp2_with fail
 refine HN.o.mono ?_
 rintro e w1 ⟨rfl,hr⟩
 go_wp2_with fail
 go_ret
 exact ⟨rfl,hr⟩
theorem BgK (x:Nat) (s:Int×List UInt8) (w:World) (h:RdR w x s) :
  Calls prog 86 #[.pointer (some ⟨x,0,none⟩)] w (RdL RdR x (AfY s) w):=by
 have hmf:∀ (fn:Fn) (first cap:Array Value) (w:World),(Instr.makeFunc fn first cap).run prog w=.ok (.func fn first cap) w:=fun _ _ _ _=>rfl
 have hb:=AaK w (.cells #[.pointer (some ⟨x,0,none⟩)] 153)
 have h1:=h.step hb
 have hq:(w.alloc (.cells #[.pointer (some ⟨x,0,none⟩)] 153)).cell? ⟨w.heap.size,0,none⟩=some (.pointer (some ⟨x,0,none⟩)):=World.cell?_alloc_at _ _ _ _ rfl
 have HC:=η (CrV x w.heap.size (numS 1 s) s _ h1 (by have:=num1_le s;omega) (DzW x _ s _ h1 hq))
 have HB:=η hb
 clear h h1 hq hb
 go_enter func86,ntmps86
 go_wp2_with fail
 refine HC.o.mono ?_
 intro e w1 hr
 obtain ⟨A,n,c,rfl,hr2⟩:=hr.base (Oth.of_below HB.o)
 clear hr
 go_wp2_with fail
 go_ret
 exact ⟨A,n,c,rfl,hr2⟩
theorem RdR.few {w:World} {x:Nat} {s:Int×List UInt8} (h:RdR w x s):s.2.length≤1000000:=by
 obtain ⟨A,m,c,h1,h2,h3,h4,h5⟩:=h
 have:=h2.len
 omega
theorem EfZ (n:Nat) (s:Int×List UInt8):AeQ (n:Int) s=AmV n s:=by
 unfold AeQ
 rw [if_neg (by omega),Int.toNat_natCast]
theorem EnZ (x:Nat) (s:Int×List UInt8) (w:World) (h:RdR w x s) :
  Calls prog 91 #[.pointer (some ⟨x,0,none⟩)] w (RdL RdR x (CnY s) w):=by
 have HL:=η (DtV x s w h)
 have hf:=h.few
 have HB:=η (BpY x (s.2.length:Int) s w h (by omega))
 rw [EfZ] at HB
 clear h
 unfold CnY
 go_enter func91,ntmps91
 go_wp2_with fail
 refine HL.o.mono ?_
 rintro e w1 ⟨rfl,rfl⟩
 go_wp2_with fail
 refine HB.o.mono ?_
 rintro e w1 ⟨A,n,c,rfl,hr⟩
 go_wp2_with fail
 go_ret
 exact ⟨A,n,c,rfl,hr⟩
theorem DpY (A:YA) (n c:Nat) (l:YB) (w:World) (h:RB w w.heap.size A n l) (hn:n≤1000000) :
  Calls prog 84 #[.slice A n c] w fun e w'=>∃ x,e=.returned (.pointer (some ⟨x,0,none⟩))∧w.heap.size≤x∧Below w.heap.size w w'∧RdR w' x (0,l):=by
 have HJ:=η (CvW w A n c l h hn)
 clear h
 go_enter func84,ntmps84
 go_wp2_with fail
 refine HJ.o.mono ?_
 rintro e w1 ⟨A1,c1,rfl,ho,hb⟩
 have HB:=η hb
 have HO:=η ho
 clear ho hb
 go_wp2_with fail
 go_ret
 exact ⟨w1.heap.size,rfl,HB.o.size,AaJ HB.o (AaK _ _),A1,n,c1,Two.new _ _ _ _,(RBo.of_own HO.o).step (AaK _ _),HO.o.cap.1,HO.o.cap.2,hn⟩
