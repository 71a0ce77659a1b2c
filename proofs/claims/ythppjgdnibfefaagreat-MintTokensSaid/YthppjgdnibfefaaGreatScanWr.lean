import Derived.Test.YthppjgdnibfefaaGreatScanRd
set_option linter.all false
set_option maxRecDepth 100000
set_option maxHeartbeats 32000000
namespace Go.Proofs.YthppjgdnibfefaaGreat
open Tryz
open Go.RowKit
theorem app_at (w:World) (ty:TypeId) (base:Nat) (A:YA) (n c:Nat) (l:YB) (hown:OwnB w base A n c l)
  (B:Nat) (A':YA) (m c':Nat) (l':YB) (hr:RB w B A' m l') (hsum:n+m≤140737488355328) (hbase:base≤w.heap.size) :
  ∃ A'' c'' w',(Builtin.append_ #[41,41] ty #[.slice A n c,.slice A' m c']).run prog w=.ok (.slice A'' (n+m) c'') w'∧OwnB w' base A'' (n+m) c'' (l++l')∧w.grownBy w' (Value.ownBlock (.slice A n c))∧(A''=A∨A''=some ⟨w.heap.size,0,none⟩):=by
 obtain ⟨i0,hi0,hz0,hz1,hz2⟩:=info_parts ByZ
 rcases Nat.eq_zero_or_pos m with hm | hm
 ·subst hm
  have hl':l'=[]:=List.eq_nil_of_length_eq_zero hr.len;subst hl';refine ⟨A,c,w,?_,by rw [List.append_nil,Nat.add_zero];exact hown,World.grownBy.refl w _,.inl rfl⟩;rcases A' with _ | ad
  ·rcases hown.2 with ⟨hv,h0⟩ | ⟨g,cap,cur,hv,_,_,hnc,_⟩
   ·injection hv with e1 e2 e3
    subst e1;subst e2;subst e3;simp [Builtin.append_,run_underlying underlying41,sizeOf,typeInfo,hi0,Builtin.lenOf,Builtin.firstCells]
   ·injection hv with e1 e2 e3
    subst e1;subst e3;simp [Builtin.append_,run_underlying underlying41,sizeOf,typeInfo,hi0,Builtin.lenOf,Builtin.firstCells,hnc,storeCells]
  ·rcases hown.2 with ⟨hv,h0⟩ | ⟨g,cap,cur,hv,_,_,hnc,_⟩
   ·injection hv with e1 e2 e3
    subst e1;subst e2;subst e3;simp [Builtin.append_,run_underlying underlying41,sizeOf,typeInfo,hi0,Builtin.lenOf,Builtin.firstCells,loadCells,loadCellsFrom]
   ·injection hv with e1 e2 e3
    subst e1;subst e3;simp [Builtin.append_,run_underlying underlying41,sizeOf,typeInfo,hi0,Builtin.lenOf,Builtin.firstCells,hnc,storeCells,loadCells,loadCellsFrom]
 ·obtain ⟨b,off,rfl,hb,hcell⟩:=hr.2 hm
  have hlen:(bvs l').length=m*i0.size:=by rw [AaY,hr.len,hz1,Nat.mul_one]
  have hnews:∀ (j:Nat) (u:Value),(bvs l')[j]?=some u→w.cell? ((⟨b,off,none⟩:Addr).add j)=some u:=fun j u hu=>by
   have hj:j<l'.length:=by
    have:=(List.getElem?_eq_some_iff.1 hu).1;simpa [bvs] using this
   have hadd:(⟨b,off,none⟩:Addr).add j=⟨b,off+j,none⟩:=by unfold Addr.add;split <;> simp_all
   rw [hadd,hcell j hj,←hu];simp [bvs,hj]
  obtain ⟨v',w',hrun,h2,h3,_⟩:=run_append_own (P:=prog) w base 41 ty 5 i0 (.int .u8 0) 1 1 underlying41 hi0 hz0 hz1 hz2 rfl (by omega) (.slice A n c) n (bvs l) hown
   ⟨b,off,none⟩ m c' (bvs l') (by rw [AaY,hr.len];omega) hnews (BkK l') (by unfold maxLen;omega) (by omega) hbase
  have hat:∃ A'' c'',v'=.slice A'' (n+m) c''∧(A''=A∨A''=some ⟨w.heap.size,0,none⟩):=by
   rcases hown.2 with ⟨hv,h0⟩ | ⟨g,cap,cur,hv,hbg,hg,hnc,hcm,hcs,_⟩
   ·injection hv with e1 e2 e3
    subst e1;subst e2;subst e3;have hk:=run_append_nil (P:=prog) w 41 ty 5 i0 (.int .u8 0) underlying41 hi0 hz0 ⟨b,off,none⟩ m c' (bvs l') hlen hnews hm (by omega) (by rw [hz2];omega);have he:=hrun.symm.trans hk;injection he with he _;exact ⟨_,_,by rw [he,Nat.zero_add],.inr rfl⟩
   ·injection hv with e1 e2 e3
    subst e1;subst e3;by_cases hroom:n+m≤c
    ·have hk:=run_append_room (P:=prog) w 41 ty 5 i0 underlying41 hi0 g n c cur hg ⟨b,off,none⟩ m c' (bvs l') hlen hnews (BkK l') hroom (by rw [hlen,hcs,hz1];omega)
     have he:=hrun.symm.trans hk;injection he with he _;exact ⟨_,_,he,.inl rfl⟩
    ·have hk:=run_append_grow (P:=prog) w 41 ty 5 i0 (.int .u8 0) underlying41 hi0 hz0 ⟨g,0,none⟩ n c (bvs l) (by rw [AaY,hown.len,hz1,Nat.mul_one]) (World.ownsRow.cells hown (g:=g) rfl) ⟨b,off,none⟩ m c' (bvs l') hlen hnews (by omega) (by omega) (growslice_fits (by omega) (by rw [hz2];omega))
     have he:=hrun.symm.trans hk;injection he with he _;exact ⟨_,_,he,.inr rfl⟩
  obtain ⟨A'',c'',rfl,hA⟩:=hat;exact ⟨A'',c'',w',hrun,by unfold OwnB;rw [CkW];exact h2,h3,hA⟩
theorem DfQ {w:World} {ops:Array Oper} {rest:List Oper} {o:Oper} {a:Act} {Q:Exit→Act→World→Prop} (hgd:o.guard=none) (s x:Operand)
  (ho:o.op=.call { callee:=.builtin .append,args:=#[s,x],argTypes:=#[41,41] })
  (base:Nat) (A:YA) (n c:Nat) (l:YB) (hs:a.eval s=.slice A n c) (hown:OwnB w base A n c l)
  (B:Nat) (A':YA) (m c':Nat) (l':YB) (hx:a.eval x=.slice A' m c') (hr:RB w B A' m l')
  (hsum:n+m≤140737488355328) (hbase:base≤w.heap.size)
  (h:∀ A'' c'' w',OwnB w' base A'' (n+m) c'' (l++l')→w.grownBy w' (Value.ownBlock (.slice A n c))→(A''=A∨A''=some ⟨w.heap.size,0,none⟩)→wpList prog ops Q rest (a.put o.dst (.slice A'' (n+m) c'')) w'):wpList prog ops Q (o::rest) a w :=
 wpList_plain hgd fun K hK=>by
  obtain ⟨A'',c'',w',hrun,h2,h3,h4⟩:=app_at w o.type base A n c l hown B A' m c' l' hr hsum hbase;unfold Oper.wp execOp;simp only [ho,resolve,invoke,builtin,Sem.run_bind,Sem.run_pure,Result.andThen_ok,List.map_toArray,List.map_cons,List.map_nil,hs,hx,hrun];exact hK _ _ (h A'' c'' w' h2 h3 h4)
open Go.RowKit
def putS (p:YB) (e:Int) (s:Int×List UInt8):Int×List UInt8:=if s.1=0 then (if e=0 then (0,s.2++p) else (e,s.2)) else s
theorem BmJ {s:Int×List UInt8} (h:s.1≠0) (p:YB) (e:Int):putS p e s=s:=if_neg h
theorem AyQ (p l:YB):putS p 0 (0,l)=(0,l++p):=by unfold putS;rw [if_pos rfl,if_pos rfl]
theorem DqQ (p l:YB) {e:Int} (he:e≠0):putS p e (0,l)=(e,l):=by unfold putS;rw [if_pos rfl,if_neg he]
theorem putS_two (p q:YB) (s:Int×List UInt8):putS q 0 (putS p 0 s)=putS (p++q) 0 s:=by
 obtain ⟨z,l⟩:=s
 by_cases h:z=0
 ·subst h;rw [AyQ,AyQ,AyQ,List.append_assoc]
 ·rw [BmJ (s:=(z,l)) h,BmJ (s:=(z,l)) h,BmJ (s:=(z,l)) h]
theorem EqJ (p:YB) (e z:Int) (hz:z≠0) (s:Int×List UInt8):putS p e (AoV s z)=putS [] z s:=by
 obtain ⟨y,l⟩:=s
 by_cases h:y=0
 ·subst h;rw [BeX,BmJ (s:=(z,l)) hz,DqQ _ _ hz]
 ·rw [BbJ (s:=(y,l)) h,BmJ (s:=(y,l)) h,BmJ (s:=(y,l)) h]
theorem BwQ (p:YB) (e:Int) (s:Int×List UInt8):(putS p e s).2.length≤s.2.length+p.length:=by
 unfold putS
 split
 ·split
  ·simp only [List.length_append];omega
  ·simp only;omega
 ·omega
def WrR (w:World) (x base:Nat) (A:YA) (s:Int×List UInt8):Prop:=∃ n c,Two 203 w x (.int .i64 s.1) (.slice A n c)∧OwnB w base A n c s.2
section
variable {w w1 w':World} {x y base base':Nat} {A A':YA} {s t:Int×List UInt8} {S:List Nat}
theorem WrR.own (h:WrR w x base A s):∀ g∈blkO A,g≠x∧base≤g∧g<w.heap.size:=by
 obtain ⟨n,c,h1,h2⟩:=h
 intro g hg
 obtain ⟨a,e,rfl⟩:=AwQ hg
 have hs:=h2.spot a e
 exact ⟨h1.own (by decide) h2 _ _ (by rw [e,hs.1]),hs.2⟩
theorem WrR.step (h:WrR w x base A s) (hb:Below w.heap.size w w'):WrR w' x base A s:=by
 obtain ⟨n,c,h1,h2⟩:=h
 exact ⟨n,c,h1.step hb,h2.below hb⟩
theorem WrR.row (h:WrR w x base A s) {B n:Nat} {D:YA} {l:YB} (r:RB w B D n l):0<n→∀ g o,D=some ⟨g,o,none⟩→g≠x:=by
 obtain ⟨n',c',h1,_⟩:=h
 exact fun hn g o e=>h1.far (DaV _) (BjJ _ _ _) r hn g o e
end
def RetW (R:World→Nat→Nat→YA→Int×List UInt8→Prop) (x base:Nat) (A:YA) (s':Int×List UInt8) (v:Value) (w:World) (e:Ending) (w':World):Prop :=
 e=.returned v∧∃ A',(∀ g∈blkO A',g∈blkO A∨w.heap.size≤g)∧Oth (x::blkO A) w w'∧R w' x base A' s'
theorem Oth.chain {w w1 w':World} {x:Nat} {A A1:YA} (h:Oth (x::blkO A) w w1) (hA:∀ g∈blkO A1,g∈blkO A∨w.heap.size≤g) (k:Oth (x::blkO A1) w1 w'):Oth (x::blkO A) w w' :=
 ⟨k.os.trans h.os,k.tape.trans h.tape,k.output.trans h.output,Nat.le_trans h.size k.size,fun i hi hn=>(k.block i (Nat.lt_of_lt_of_le hi h.size) (fun hm=>by
  rcases List.mem_cons.1 hm with rfl | hm
  ·exact hn (by simp)
  ·rcases hA i hm with h1 | h1
   ·exact hn (List.mem_cons_of_mem _ h1)
   ·omega)).trans (h.block i hi hn)⟩
theorem chainA {w w1:World} {A A1 A2:YA} (hs:w.heap.size≤w1.heap.size) (hA:∀ g∈blkO A1,g∈blkO A∨w.heap.size≤g) (k:∀ g∈blkO A2,g∈blkO A1∨w1.heap.size≤g):∀ g∈blkO A2,g∈blkO A∨w.heap.size≤g:=fun g hg=>by
 rcases k g hg with h | h
 ·exact hA g h
 ·exact .inr (by omega)
theorem RetW.after {R:World→Nat→Nat→YA→Int×List UInt8→Prop} {x base:Nat} {A A1:YA} {s':Int×List UInt8} {v:Value} {w w1 w':World} {e:Ending} (k:RetW R x base A1 s' v w1 e w') (h:Oth (x::blkO A) w w1) (hA:∀ g∈blkO A1,g∈blkO A∨w.heap.size≤g):RetW R x base A s' v w e w':=by
 obtain ⟨he,A2,h1,h2,h3⟩:=k
 exact ⟨he,A2,chainA h.size hA h1,h.chain hA h2,h3⟩
theorem DkW (x base:Nat) (A:YA) (z:Int) (s:Int×List UInt8) (w:World) (h:WrR w x base A s) :
  Calls prog 118 #[.pointer (some ⟨x,0,none⟩),.int .i64 z] w fun e w'=>e=.returned (.tuple #[])∧Oth [x] w w'∧WrR w' x base A (AoV s z):=by
 have hown:=h.own
 by_cases he:s.1=0
 ·obtain ⟨s1,l⟩:=s
  simp only at he;subst he;obtain ⟨m,c,h1,h2⟩:=h;refine (fail_0 x z w h1.c0 (h1.free 0)).mono ?_;rintro e w' ⟨rfl,rfl⟩;have ho:=(Oth.refl [x] w).set (x:=x) (by simp) 0 (.int .i64 z);rw [BeX];exact ⟨rfl,ho,m,c,h1.set0 _,h2.oth ho (fun g o e=>by simpa using (hown g (by rw [e];simp [blkO])).1)⟩
 ·rw [BbJ he]
  have hR:=h;obtain ⟨m,c,h1,h2⟩:=h;refine (EyQ x z _ he w h1.c0).mono ?_;rintro e w' ⟨rfl,rfl⟩;exact ⟨rfl,Oth.refl _ _,hR⟩
theorem DmZ (x base:Nat) (A:YA) (z:Int) (B:YA) (m k:Nat) (s:Int×List UInt8) (w:World) (h:WrR w x base A s) (he:(AoV s z).1≠0) :
  Calls prog 127 #[.pointer (some ⟨x,0,none⟩),.slice B m k,.int .i64 z] w (RetW WrR x base A (AoV s z) (.pointer (some ⟨x,0,none⟩)) w):=by
 have HF:=η (DkW x base A z s w h)
 have hb:((AoV s z).1 != 0)=true:=by simpa using he
 clear h
 go_enter func127,ntmps127
 go_wp2_with fail
 refine HF.o.mono ?_
 rintro e w1 ⟨rfl,ho,hr⟩
 have HR:=η (And.intro ho hr)
 obtain ⟨n,c,t1,t2⟩:=hr
 have h0:=t1.c0
 clear ho t1 t2
 go_wp2_with fail
 refine (AiJ _ _ true hb _ h0).mono ?_
 rintro e w2 ⟨rfl,rfl⟩
 go_wp2_with fail
 go_ret
 exact ⟨rfl,A,fun g hg=>.inl hg,HR.o.1.more (fun k hk=>by simp only [List.mem_cons,List.not_mem_nil,or_false] at hk;simp [hk]),HR.o.2⟩
theorem wput_ok (x base:Nat) (A:YA) (B:YA) (m k:Nat) (p l:YB) (w:World) (h:WrR w x base A (0,l)) (hp:RB w w.heap.size B m p) (hb:base≤w.heap.size) (hl:l.length≤1000000000) (hm:m≤1000000000) :
  Calls prog 127 #[.pointer (some ⟨x,0,none⟩),.slice B m k,.int .i64 0] w (RetW WrR x base A (0,l++p) (.pointer (some ⟨x,0,none⟩)) w):=by
 have HF:=η (DkW x base A 0 _ w h)
 rw [BeX] at HF
 have HP:=η (And.intro hp (h.row hp))
 clear h hp
 go_enter func127,ntmps127
 go_wp2_with fail
 refine HF.o.mono ?_
 rintro e w1 ⟨rfl,ho,hr⟩
 have HO:=η ho
 have HW:=η hr
 obtain ⟨n,c,t1,t2⟩:=hr
 have h0:=t1.c0
 have h1:=t1.c1
 have hn:=t2.len
 simp only at t2 hn
 have HT:=η t1
 have HOW:=η t2
 have HB:=η (HP.o.1.oth HO.o (fun hn g o e=>by simpa using HP.o.2 hn g o e))
 have hsz:base≤w1.heap.size:=Nat.le_trans hb HO.o.size
 clear ho t1 t2
 go_wp2_with fail
 refine (AiJ _ 0 false rfl _ h0).mono ?_
 rintro e w2 ⟨rfl,rfl⟩
 go_wp2_with (first
  | (at_builtin;refine DfQ rfl (.tmp 21) (.tmp 22) rfl base A n c l rfl HOW.o w1.heap.size B m k p rfl HB.o (by omega) hsz ?_;intro A2 c2 w2 ho2 hg2 hA2;have HO2:=η ho2;have HG2:=η (Oth.of_grown hg2);have HA2:=η hA2;have HX:=η (HT.o.oth HG2.o (fun hm=>(HW.o.own x hm).1 rfl));have hd1:=HX.o.c1;have hd2:=HX.o.free 1;clear ho2 hg2 hA2))
 go_ret
 have hX:Oth [x] w2 (w2.setCell ⟨x,1,none⟩ (.slice A2 (n+m) c2)):=(Oth.refl [x] w2).set (x:=x) (by simp) 1 _
 have hsub:∀ k∈[x],k∈x::blkO A:=fun k hk=>by simp only [List.mem_cons,List.not_mem_nil,or_false] at hk;simp [hk]
 refine ⟨rfl,A2,?_,((HO.o.more hsub).trans (HG2.o.more (fun k hk=>List.mem_cons_of_mem _ hk))).trans (hX.more hsub),n+m,c2,HX.o.set1 _,HO2.o.oth hX (fun g o e=>by simpa using HX.o.own (by decide) HO2.o g o e)⟩
 intro g hg
 rcases HA2.o with rfl | e
 ·exact .inl hg
 ·rw [e] at hg
  simp only [blkO,List.mem_cons,List.not_mem_nil,or_false] at hg;exact .inr (by rw [hg];exact HO.o.size)
theorem DnJ (x base:Nat) (A:YA) (z:Int) (B:YA) (m k:Nat) (p:YB) (s:Int×List UInt8) (w:World) (h:WrR w x base A s) (hp:RB w w.heap.size B m p) (hb:base≤w.heap.size) (hl:s.2.length≤1000000000) (hm:m≤1000000000) :
  Calls prog 127 #[.pointer (some ⟨x,0,none⟩),.slice B m k,.int .i64 z] w (RetW WrR x base A (putS p z s) (.pointer (some ⟨x,0,none⟩)) w):=by
 obtain ⟨y,l⟩:=s
 by_cases hy:y=0
 ·subst hy
  by_cases hz:z=0
  ·subst hz
   rw [AyQ];exact wput_ok x base A B m k p l w h hp hb hl hm
  ·have:=DmZ x base A z B m k (0,l) w h (by rw [BeX];exact hz)
   rw [BeX] at this;rw [DqQ _ _ hz];exact this
 ·have:=DmZ x base A z B m k (y,l) w h (by rw [BbJ (s:=(y,l)) hy];exact hy)
  rw [BbJ (s:=(y,l)) hy] at this;rw [BmJ (s:=(y,l)) hy];exact this
open Go.RowKit
def putN (V:Nat) (z:Int):List UInt8×Int:=if 0≤z∧z≤8∧AfQ V z.toNat=0 then (putL V z.toNat,0) else ([],11)
theorem DqX (V:Nat) (z:Int):(putN V z).1.length≤8:=by
 unfold putN
 split
 ·rename_i h;simp only [AeY];omega
 ·simp
theorem uput_any (V:Nat) (z:Int) (w:World) (hV:V≤18446744073709551615) :
  Calls prog 156 #[.int .u64 (V:Int),.int .i64 z] w (AhW (putN V z).1.length (putN V z).1 (putN V z).2 w):=by
 by_cases hz:0≤z∧z≤8
 ·obtain ⟨s,rfl⟩:∃ s:Nat,z=(s:Int):=⟨z.toNat,by omega⟩
  refine (CxZ V s w hV (by omega)).mono ?_;rintro e w' (⟨hd,A,c,rfl,h1,h2⟩ | ⟨hd,rfl,h2⟩)
  ·have e:putN V (s:Int)=(putL V s,0):=if_pos ⟨hz.1,hz.2,by simpa using hd⟩
   rw [e];exact ⟨A,c,by simp only [AeY],by simp only [AeY];exact h1,h2⟩
  ·have e:putN V (s:Int)=([],11):=if_neg (fun h=>hd (by simpa using h.2.2))
   rw [e];exact ⟨none,0,rfl,OwnB.nil_ _ _,h2⟩
 ·have e:putN V z=([],11):=if_neg (fun h=>hz ⟨h.1,h.2.1⟩)
  rw [e];refine (put_bad V z w (by omega)).mono ?_;rintro e w' ⟨rfl,rfl⟩;exact ⟨none,0,rfl,OwnB.nil_ _ _,Below.refl _ _⟩
theorem EnK (V:Nat) (z:Int) (w:World) (hV:V≤18446744073709551615) :
  Calls prog 201 #[.int .u64 (V:Int),.int .i64 z] w (AhW (putN V z).1.length (putN V z).1 (putN V z).2 w):=by
 by_cases hz:0≤z∧z≤8
 ·obtain ⟨s,rfl⟩:∃ s:Nat,z=(s:Int):=⟨z.toNat,by omega⟩
  refine (rput_ok V s w hV (by omega)).mono ?_;rintro e w' (⟨hd,A,c,rfl,h1,h2⟩ | ⟨hd,rfl,h2⟩)
  ·have e:putN V (s:Int)=(putL V s,0):=if_pos ⟨hz.1,hz.2,by simpa using hd⟩
   rw [e];exact ⟨A,c,by simp only [AeY],by simp only [AeY];exact h1,h2⟩
  ·have e:putN V (s:Int)=([],11):=if_neg (fun h=>hd (by simpa using h.2.2))
   rw [e];exact ⟨none,0,rfl,OwnB.nil_ _ _,h2⟩
 ·have e:putN V z=([],11):=if_neg (fun h=>hz ⟨h.1,h.2.1⟩)
  rw [e];refine (rput_bad V z w (by omega)).mono ?_;rintro e w' ⟨rfl,rfl⟩;exact ⟨none,0,rfl,OwnB.nil_ _ _,Below.refl _ _⟩
theorem BkY (x base:Nat) (A:YA) (V:Nat) (z:Int) (s:Int×List UInt8) (w:World) (h:WrR w x base A s) (hb:base≤w.heap.size) (hl:s.2.length≤1000000000) (hV:V≤18446744073709551615) :
  Calls prog 126 #[.pointer (some ⟨x,0,none⟩),.int .u64 (V:Int),.int .i64 z] w (RetW WrR x base A (putS (putN V z).1 (putN V z).2 s) (.pointer (some ⟨x,0,none⟩)) w):=by
 have HU:=η (uput_any V z w hV)
 have HL:=η (DqX V z)
 have HW:=η h
 obtain ⟨r,HR⟩:∃ r,Hid (r=putN V z):=⟨_,η rfl⟩
 rw [←HR.o] at HU HL ⊢
 clear h
 go_enter func126,ntmps126
 go_wp2_with fail
 refine HU.o.mono ?_
 rintro e w1 ⟨A1,c1,rfl,ho1,hb1⟩
 have HP:=η (DnJ x base A r.2 A1 r.1.length c1 r.1 s w1 (HW.o.step hb1) ho1.rb (Nat.le_trans hb hb1.size) hl (by have:=HL.o;omega))
 have HB:=η hb1
 clear ho1 hb1
 go_wp2_with fail
 refine HP.o.mono ?_
 intro e w2 k
 have K:=η (k.after (Oth.of_below HB.o) (fun g hg=>.inl hg))
 obtain ⟨rfl,_⟩:=k
 go_wp2_with fail
 go_ret
 exact K.o
theorem DxZ (x base:Nat) (A:YA) (D:YA) (n c:Nat) (ps:List (YB)) (p:YB) (s:Int×List UInt8) (w:World) (h:WrR w x base A s) (hr:RR w w.heap.size D n ps) (hp:ps.flatten=p) (hn:n≤1000) (ht:p.length≤1000000) (hb:base≤w.heap.size) (hl:s.2.length≤1000000000) :
  Calls prog 96 #[.pointer (some ⟨x,0,none⟩),.slice D n c] w (RetW WrR x base A (putS p 0 s) (.pointer (some ⟨x,0,none⟩)) w):=by
 have htt:totL ps=p.length:=by rw [←hp,EiZ]
 have HJ:=η (AwX D n c ps w hr (by unfold maxLen;omega) (by omega))
 rw [hp,htt] at HJ
 have HW:=η h
 clear h hr hp htt
 go_enter func96,ntmps96
 go_wp2_with fail
 refine HJ.o.mono ?_
 rintro e w1 ⟨A1,c1,rfl,ho1,hb1⟩
 have HP:=η (DnJ x base A 0 A1 p.length c1 p s w1 (HW.o.step hb1) ho1.rb (Nat.le_trans hb hb1.size) hl (by omega))
 have HB:=η hb1
 clear ho1 hb1
 go_wp2_with fail
 refine HP.o.mono ?_
 intro e w2 k
 have K:=η (k.after (Oth.of_below HB.o) (fun g hg=>.inl hg))
 obtain ⟨rfl,_⟩:=k
 go_wp2_with fail
 go_ret
 exact K.o
theorem DfV (x base:Nat) (A:YA) (B:YA) (m k:Nat) (p:YB) (s:Int×List UInt8) (w:World) (h:WrR w x base A s) (hp:RB w w.heap.size B m p) (hm:m≤1000000) (hb:base≤w.heap.size) (hl:s.2.length≤1000000000) :
  Calls prog 96 #[.pointer (some ⟨x,0,none⟩),.slice (some ⟨w.heap.size,0,none⟩) 1 1] (w.alloc (.cells #[.slice B m k] 41)) (RetW WrR x base A (putS p 0 s) (.pointer (some ⟨x,0,none⟩)) w):=by
 have e1:=hp.len
 have hrr:=RR.lit w [(B,k,p)] #[.slice B m k] 41 1 w.heap.size (by simp [e1]) rfl rfl (fun r hr=>by
  simp only [List.mem_cons,List.not_mem_nil,or_false] at hr
  subst hr
  rw [e1];exact hp)
 have hal:=AaK w (.cells #[.slice B m k] 41)
 refine (DxZ x base A _ 1 1 [p] p s _ (h.step hal) hrr (by simp) (by omega) (by omega) (Nat.le_trans hb hal.size) hl).mono ?_
 intro e w' k
 exact k.after (Oth.of_below hal) (fun g hg=>.inl hg)
theorem RB.aft {w w1:World} {x base:Nat} {A:YA} {s:Int×List UInt8} {B:YA} {m:Nat} {p:YB} (hp:RB w w.heap.size B m p) (h:WrR w x base A s) (ho:Oth (x::blkO A) w w1) (hA:0<m→∀ g o,B=some ⟨g,o,none⟩→g∉blkO A):RB w1 w1.heap.size B m p :=
 hp.oth ho (fun hn g o e hm=>by
  rcases List.mem_cons.1 hm with e1 | e1
  ·exact h.row hp hn g o e e1
  ·exact hA hn g o e e1)
def AfJ (p:YB):List UInt8×Int:=if 255<p.length then ([],15) else (UInt8.ofNat p.length::p,0)
theorem DqW {n:Nat} (h:n≤255):putN n 1=([UInt8.ofNat n],0):=by
 have hd:AfQ n 1=0:=by show n / 256=0;omega
 have e:putN n 1=(putL n 1,0):=if_pos ⟨by decide,by decide,hd⟩
 rw [e]
 simp [putL]
theorem AxW (x base:Nat) (A:YA) (B:YA) (m k0:Nat) (p:YB) (s:Int×List UInt8) (w:World) (h:WrR w x base A s) (hp:RB w w.heap.size B m p) (hA:0<m→∀ g o,B=some ⟨g,o,none⟩→g∉blkO A) (hm:m≤1000000) (hb:base≤w.heap.size) (hl:s.2.length≤100000000) :
  Calls prog 95 #[.pointer (some ⟨x,0,none⟩),.slice B m k0] w (RetW WrR x base A (putS (AfJ p).1 (AfJ p).2 s) (.pointer (some ⟨x,0,none⟩)) w):=by
 have hlen:=hp.len
 have HP:=η (And.intro hp hA)
 have HW:=η h
 by_cases hbig:255<m
 ·have HE:Hid (putS (AfJ p).1 (AfJ p).2 s=putS [] 15 s):=η (by unfold AfJ;rw [if_pos (by omega)])
  have HF:=η (DkW x base A 15 s w h);have hgt:decide (255<(m:Int))=true:=decide_eq_true (by omega);obtain ⟨r,HR⟩:∃ r,Hid (r=putN m 1):=⟨_,η rfl⟩;have hrl:=DqX m 1;rw [←HR.o] at hrl;have hfl:(AoV s 15).2.length≤100000000:=by unfold AoV;split <;> exact hl
  clear h hp hA hlen;go_enter func95,ntmps95;go_wp2_with fail;refine HF.o.mono ?_;rintro e w1 ⟨rfl,ho1,hw1⟩;have HO1:=η (ho1.more (S':=x::blkO A) (fun k hk=>by simp only [List.mem_cons,List.not_mem_nil,or_false] at hk;simp [hk]));have HN:=η (BkY x base A m 1 _ w1 hw1 (Nat.le_trans hb ho1.size) (by omega) (by omega));rw [←HR.o] at HN;clear ho1 hw1;go_wp2_with fail;refine HN.o.mono ?_;intro e w2 k;have K:=η (k.after HO1.o (fun g hg=>.inl hg));obtain ⟨rfl,_⟩:=k;obtain ⟨_,A2,q1,q2,q3⟩:=K.o;have HQ:=η (And.intro q1 q2);have h2l:(putS r.1 r.2 (AoV s 15)).2.length≤1000000000:=by have:=BwQ r.1 r.2 (AoV s 15);omega
  have HB:=η (DfV x base A2 B m k0 p _ w2 q3 (HP.o.1.aft HW.o q2 HP.o.2) hm (Nat.le_trans hb q2.size) h2l);clear q1 q2 q3 HN;go_wp2_with fail;refine HB.o.mono ?_;intro e w3 k;have K3:=η (k.after HQ.o.2 HQ.o.1);obtain ⟨rfl,_⟩:=k;go_wp2_with fail;go_ret;rw [HE.o,←EqJ p 0 15 (by decide),show AoV s 15=putS r.1 r.2 (AoV s 15) from (BmJ (DvK s (by decide)) _ _).symm];exact K3.o
 ·have HE:Hid (putS (AfJ p).1 (AfJ p).2 s=putS p 0 (putS [UInt8.ofNat m] 0 s)):=η (by unfold AfJ;rw [if_neg (by omega),putS_two,hlen];rfl)
  have hgt:decide (255<(m:Int))=false:=decide_eq_false (by omega);have HN:=η (BkY x base A m 1 s w h hb (by omega) (by omega));rw [DqW (by omega)] at HN;obtain ⟨r,HR⟩:∃ r,Hid (r=[UInt8.ofNat m]):=⟨_,η rfl⟩;have hrl:r.length=1:=by rw [HR.o];rfl
  simp only at HN;rw [←HR.o] at HN HE;clear h hp hA hlen;go_enter func95,ntmps95;go_wp2_with fail;refine HN.o.mono ?_;intro e w2 k;obtain ⟨rfl,A2,q1,q2,q3⟩:=k;have HQ:=η (And.intro q1 q2);have h2l:(putS r 0 s).2.length≤1000000000:=by have:=BwQ r 0 s;omega
  have HB:=η (DfV x base A2 B m k0 p _ w2 q3 (HP.o.1.aft HW.o q2 HP.o.2) hm (Nat.le_trans hb q2.size) h2l);clear q1 q2 q3 HN;go_wp2_with fail;refine HB.o.mono ?_;intro e w3 k;have K3:=η (k.after HQ.o.2 HQ.o.1);obtain ⟨rfl,_⟩:=k;go_wp2_with fail;go_ret;rw [HE.o];exact K3.o
def BuZ (s:Int×List UInt8):List UInt8×Int:=if s.1=0 then (s.2,0) else ([],s.1)
theorem CrK (l:YB):BuZ (0,l)=(l,0):=if_pos rfl
theorem DkZ {s:Int×List UInt8} (h:s.1≠0):BuZ s=([],s.1):=if_neg h
theorem ByQ (x base:Nat) (A:YA) (s:Int×List UInt8) (w:World) (h:WrR w x base A s) (hl:s.2.length≤1000000) :
  Calls prog 97 #[.pointer (some ⟨x,0,none⟩)] w (AhW (BuZ s).1.length (BuZ s).1 (BuZ s).2 w):=by
 obtain ⟨n,c,h1,h2⟩:=h
 have h0:=h1.c0
 have hc1:=h1.c1
 have hn:=h2.len
 by_cases he:s.1=0
 ·obtain ⟨s1,l⟩:=s
  simp only at he;subst he;rw [CrK];simp only at hn hl h2;have HJ:=η (CvW w A n c l h2.rb (by omega));clear h1 h2;go_enter func97,ntmps97;go_wp2_with fail;refine (AiJ _ 0 false rfl _ h0).mono ?_;rintro e w2 ⟨rfl,rfl⟩;go_wp2_with fail;refine HJ.o.mono ?_;rintro e w1 ⟨A1,c1,rfl,ho,hb⟩;have HO:=η (And.intro ho hb);clear ho hb;go_wp2_with fail;go_ret2;subst hn;exact ⟨A1,c1,rfl,HO.o⟩
 ·rw [DkZ he]
  have hb:(s.1 != 0)=true:=by simpa using he
  clear h1 h2;go_enter func97,ntmps97;go_wp2_with fail;refine (AiJ _ _ true hb _ h0).mono ?_;rintro e w2 ⟨rfl,rfl⟩;go_wp2_with fail;go_quiet (fail);go_wp2;go_ret2;exact ⟨none,0,rfl,OwnB.nil_ _ _,AdV (Below.refl _ _) _⟩
theorem BxZ (w:World) (base:Nat) (hb:base≤w.heap.size) :
  Calls prog 94 #[] w fun e w'=>∃ x,e=.returned (.pointer (some ⟨x,0,none⟩))∧w.heap.size≤x∧Below w.heap.size w w'∧WrR w' x base none (0,[]):=by
 go_enter func94,ntmps94
 go_wp2_with fail
 go_ret
 exact ⟨w.heap.size,rfl,Nat.le_refl _,AaK _ _,0,0,Two.new _ _ _ _,OwnB.nil_ _ _⟩
