import Derived.Test.YthppjgdnibfefaaGreatRec
import Derived.Deep.AppendLies
import Derived.ArgAppend
set_option linter.all false
set_option maxRecDepth 100000
set_option maxHeartbeats 32000000
namespace Go.Proofs.YthppjgdnibfefaaGreat
abbrev Rg:=List (Int×List UInt8)
def BhX (s:Rg):List Int:=s.map (·.1)
def BbZ (s:Rg) (q:Int):Option Nat:=s.findIdx? (fun r=>r.1 == q)
def hasR (s:Rg) (q:Int):Bool:=(BbZ s q).isSome
def keyR (s:Rg) (q:Int):List UInt8:=((s.find? (fun r=>r.1 == q)).map (·.2)).getD []
def AlJ (s:Rg) (q:Int) (k:YB):Rg×Int :=
 if ¬(0≤q∧q≤127∧k.length=16) then (s,11) else if hasR s q then (s,16) else if s.length=16 then (s,18) else (s++[(q,k)],0)
def retR (s:Rg) (q:Int):Rg×Int :=
 if ¬(0≤q∧q≤127) then (s,11) else if hasR s q then (s.eraseIdx ((BbZ s q).getD 0),0) else (s,17)
def newR (s:Rg):Int×Bool:=match s.getLast? with | some r=>(r.1,true) | none=>(0,false)
structure okR (s:Rg):Prop where
 n:s.length≤16
 u:(BhX s).Nodup
 g:∀ r∈s,(0≤r.1∧r.1≤127)∧r.2.length=16
section
variable {s t:Rg} {q p:Int} {k:YB} {i:Nat}
theorem DjJ:okR []:=⟨by decide,List.nodup_nil,fun r h=>by cases h⟩
theorem BwZ:hasR s q=true ↔ q∈BhX s:=by
 unfold hasR BbZ BhX
 rw [List.findIdx?_isSome,List.any_eq_true,List.mem_map]
 exact ⟨fun ⟨r,h,e⟩=>⟨r,h,by simpa using e⟩,fun ⟨r,h,e⟩=>⟨r,h,by simpa using e⟩⟩
theorem CpW:hasR s q=false ↔ q∉BhX s:=by
 rw [←BwZ];cases hasR s q <;> simp
theorem find_atR (h:BbZ s q=some i):∃ r,s[i]?=some r∧r.1=q:=by
 unfold BbZ at h
 obtain ⟨hi,e,_⟩:=List.findIdx?_eq_some_iff_getElem.1 h
 exact ⟨s[i],List.getElem?_eq_getElem hi,by simpa using e⟩
theorem CcY (h:hasR s q=true):∃ i r,BbZ s q=some i∧s[i]?=some r∧r.1=q∧i<s.length:=by
 unfold hasR at h
 obtain ⟨i,hi⟩:=Option.isSome_iff_exists.1 h
 obtain ⟨r,e,g⟩:=find_atR hi
 exact ⟨i,r,hi,e,g,(List.getElem?_eq_some_iff.1 e).1⟩
theorem DjX (h:BbZ s q=some i) (e:s[i]?=some (p,k)):keyR s q=k:=by
 unfold keyR
 unfold BbZ at h
 have:s.find? (fun r=>r.1 == q)=some (p,k):=by
  rw [List.find?_eq_some_iff_getElem];obtain ⟨hi,a,b⟩:=List.findIdx?_eq_some_iff_getElem.1 h;obtain ⟨hi',e'⟩:=List.getElem?_eq_some_iff.1 e;refine ⟨by rw [e'] at a;exact a,i,hi,e',fun j hj=>?_⟩;have:=b j hj;simpa using this
 rw [this];rfl
theorem AwV (h:okR s) (e:hasR s q=true):(keyR s q).length=16:=by
 obtain ⟨i,r,hf,hr,hq,hi⟩:=CcY e
 rw [DjX (p:=r.1) (k:=r.2) hf hr]
 exact (h.g r (List.mem_of_getElem? hr)).2
theorem EvQ (h:hasR s q=false):keyR s q=[]:=by
 unfold keyR
 have:s.find? (fun r=>r.1 == q)=none:=by
  rw [List.find?_eq_none];intro r hr g;exact CpW.1 h (List.mem_map.2 ⟨r,hr,by simpa using g⟩)
 rw [this];rfl
theorem seqs_app:BhX (s++t)=BhX s++BhX t:=List.map_append
theorem seqs_len:(BhX s).length=s.length:=List.length_map _
theorem DtZ (h:okR s):okR (AlJ s q k).1:=by
 unfold AlJ
 split
 ·exact h
 ·split
  ·exact h
  ·split
   ·exact h
   ·rename_i a b c
    have a:=Decidable.of_not_not a;have b:hasR s q=false:=by simpa using b
    refine ⟨?_,?_,fun r hr=>?_⟩
    ·have:=h.n;simp only [List.length_append,List.length_cons,List.length_nil];omega
    ·rw [seqs_app,List.nodup_append]
     refine ⟨h.u,by simp [BhX],fun x hx y hy e=>?_⟩;subst e;have:x=q:=by simpa [BhX] using hy
     subst this;exact CpW.1 b hx
    ·rcases List.mem_append.1 hr with hr | hr
     ·exact h.g r hr
     ·rw [List.mem_singleton] at hr;subst hr;exact ⟨⟨a.1,a.2.1⟩,a.2.2⟩
theorem EpK (h:okR s):okR (retR s q).1:=by
 unfold retR
 split
 ·exact h
 ·split
  ·refine ⟨Nat.le_trans (List.length_eraseIdx_le ..) h.n,?_,fun r hr=>h.g r (List.mem_of_mem_eraseIdx hr)⟩
   refine List.Sublist.nodup ?_ h.u;exact (List.eraseIdx_sublist _ _).map _
  ·exact h
theorem new_nilR:newR []=(0,false):=rfl
theorem BmV (h:s≠[]):newR s=((s.getLast h).1,true):=by
 unfold newR;rw [List.getLast?_eq_some_getLast h]
theorem DsY (hi:0<s.length):newR s=((BhX s)[s.length - 1]'(by rw [seqs_len];omega),true):=by
 have h:s≠[]:=by intro e;subst e;exact absurd hi (by decide)
 rw [BmV h,List.getLast_eq_getElem]
 unfold BhX;rw [List.getElem_map]
end
open Tryz
open Go.RowKit
section
variable {w w':World} {B B' n:Nat} {A:YA} {l:List Int}
end
section
variable {w w':World} {base n c:Nat} {A:YA} {l:List Int}
end
open Go.RowKit
structure GT (T S:TypeId) (z:List Value) (bytes:Nat):Prop where
 und:prog.underlying S=some (.slice T)
 row:∃ d,prog.underlying T=some d∧d.isRow=true
 info:(prog.info? T).map (fun i=>(i.zero,i.size,i.bytes))=some (some (.agg z.toArray),z.length,bytes)
 pos:0<z.length
 one:ones z
def recs (k:Nat) (rs:List (List Value)):Prop:=∀ r∈rs,r.length=k∧ones r
def Grd (T:TypeId) (k:Nat) (w:World) (base:Nat) (A:YA) (n c:Nat) (rs:List (List Value)):Prop :=
 w.ownsRow base T k (.slice A n c) n rs.flatten∧rs.length=n∧recs k rs
def RdG (k:Nat) (w:World) (A:YA) (m:Nat) (rs:List (List Value)):Prop :=
 rs.length=m∧recs k rs∧(0<m→∃ b o,A=some ⟨b,o,none⟩∧b<w.heap.size∧∀ j u,rs.flatten[j]?=some u→w.cell? ⟨b,o+j,none⟩=some u)
section
variable {k:Nat} {rs ts:List (List Value)}
theorem recs.app (h:recs k rs) (g:recs k ts):recs k (rs++ts):=fun r hr=>(List.mem_append.1 hr).elim (h r) (g r)
theorem recs.sub {ts:List (List Value)} (h:recs k rs) (hs:∀ r∈ts,r∈rs):recs k ts:=fun r hr=>h r (hs r hr)
theorem recs.len (h:recs k rs):rs.flatten.length=rs.length*k:=by
 induction rs with
 | nil=>simp
 | cons r rs ih=>rw [List.flatten_cons,List.length_append,(h r (.head _)).1,ih (fun q hq=>h q (.tail _ hq)),List.length_cons,Nat.succ_mul,Nat.add_comm]
theorem recs.one (h:recs k rs):∀ u∈rs.flatten,u.oneCell'=true:=fun u hu=>by
 obtain ⟨r,hr,hm⟩:=List.mem_flatten.1 hu
 exact (h r hr).2 u hm
theorem DuY:∀ {rs:List (List Value)} (h:recs k rs) {i:Nat} {r:List Value} {j:Nat},rs[i]?=some r→j<k→rs.flatten[i*k+j]?=r[j]?
 | [],_,i,r,j,hx,_=>by simp at hx
 | q::rs,h,0,r,j,hx,hj=>by
  injection hx with hx;subst hx
  rw [List.flatten_cons,List.getElem?_append_left (by rw [(h q (.head _)).1];omega),Nat.zero_mul,Nat.zero_add]
 | q::rs,h,i+1,r,j,hx,hj=>by
  have e:(i+1)*k+j=k+(i*k+j):=by rw [Nat.succ_mul];omega
  rw [List.flatten_cons,e,List.getElem?_append_right (by rw [(h q (.head _)).1];omega),(h q (.head _)).1,Nat.add_sub_cancel_left];exact DuY (fun p hp=>h p (.tail _ hp)) hx hj
theorem DcV (h:recs k rs) (i:Nat):(rs.take i).flatten=rs.flatten.take (i*k):=by
 induction rs generalizing i with
 | nil=>simp
 | cons r rs ih =>
  cases i with
  | zero=>simp
  | succ i =>
   have hr:=(h r (.head _)).1;rw [List.take_succ_cons,List.flatten_cons,List.flatten_cons,ih (fun q hq=>h q (.tail _ hq)),Nat.succ_mul,Nat.add_comm,←hr,List.take_length_add_append]
theorem ExX (h:recs k rs) (i:Nat):(rs.drop i).flatten=rs.flatten.drop (i*k):=by
 induction rs generalizing i with
 | nil=>simp
 | cons r rs ih =>
  cases i with
  | zero=>simp
  | succ i =>
   have hr:=(h r (.head _)).1;rw [List.drop_succ_cons,List.flatten_cons,ih (fun q hq=>h q (.tail _ hq)),Nat.succ_mul,Nat.add_comm,←hr,List.drop_length_add_append]
end
section
variable {T S T':TypeId} {k bytes:Nat} {z:List Value} {w w1 w':World} {base base' n c m d g i:Nat} {A B:YA} {rs ts:List (List Value)}
theorem Grd.cap (h:Grd T k w base A n c rs):n≤c∧c≤maxLen:=by
 rcases h.1.2 with ⟨hv,h0⟩ | ⟨g,cap,cur,hv,_,_,hnc,hcm,_⟩
 ·injection hv with _ _ hc;subst hc;subst h0;exact ⟨Nat.le_refl _,Nat.zero_le _⟩
 ·injection hv with _ _ hc;subst hc;exact ⟨hnc,hcm⟩
theorem Grd.blk (h:Grd T k w base A n c rs) (hg:g∈blkO A):A=some ⟨g,0,none⟩∧base≤g∧g<w.heap.size∧∃ cur,w.heap[g]?=some (.cells cur T (0,0))∧cur.size=c*k∧cur.toList.take (n*k)=rs.flatten:=by
 rcases h.1.2 with ⟨hv,h0⟩ | ⟨g',cap,cur,hv,hb,hh,_,_,hs,ht⟩
 ·injection hv with hv;subst hv;cases hg
 ·injection hv with e1 e2 e3
  subst e1;subst e3;obtain rfl:g=g':=by simpa [blkO] using hg
  exact ⟨rfl,hb,(Array.getElem?_eq_some_iff.1 hh).1,cur,hh,hs,ht⟩
theorem Grd.spot (h:Grd T k w base A n c rs) (hn:0<n):∃ g,A=some ⟨g,0,none⟩∧g∈blkO A:=by
 rcases h.1.2 with ⟨hv,h0⟩ | ⟨g',cap,cur,hv,_⟩
 ·omega
 ·injection hv with e1
  subst e1;exact ⟨g',rfl,by simp [blkO]⟩
theorem Grd.oth (h:Grd T k w base A n c rs) {S:List Nat} (ho:Oth S w w') (hS:∀ g∈blkO A,g∉S):Grd T k w' base A n c rs:=by
 refine ⟨⟨h.1.1,?_⟩,h.2⟩
 rcases h.1.2 with h0 | ⟨g,cap,cur,hv,hb,hh,r⟩
 ·exact .inl h0
 ·refine .inr ⟨g,cap,cur,hv,hb,?_,r⟩
  have hA:A=some ⟨g,0,none⟩:=by injection hv
  exact (ho.block g (Array.getElem?_eq_some_iff.1 hh).1 (hS g (by rw [hA];simp [blkO]))).trans hh
theorem Grd.step (h:Grd T k w base A n c rs) (hb:Below w.heap.size w w'):Grd T k w' base A n c rs:=h.oth (Oth.of_below (S:=[]) hb) (fun g hg=>by simp)
theorem Grd.base_le (h:Grd T k w base A n c rs) (hb:base'≤base):Grd T k w base' A n c rs:=by
 refine ⟨⟨h.1.1,?_⟩,h.2⟩
 rcases h.1.2 with h0 | ⟨g,cap,cur,hv,hbg,r⟩
 ·exact .inl h0
 ·exact .inr ⟨g,cap,cur,hv,by omega,r⟩
theorem Grd.away (h:Grd T k w base A n c rs) {x:Nat} {cs:List Value} (hx:Blk T' w x cs) (hT:T≠T'):x∉blkO A:=fun hm=>by
 obtain ⟨_,_,_,cur,hh,_⟩:=h.blk hm
 have e:=hh.symm.trans hx
 injection e with e
 injection e with _ e
 exact hT e
theorem Grd.nob (h:Grd T k w base A n c rs) (hT:T≠5):NoB (blkO A) w:=fun g hg ds fr e=>by
 obtain ⟨_,_,_,cur,hh,_⟩:=h.blk hg
 have e:=hh.symm.trans e
 injection e with e
 injection e with _ e
 exact hT e
theorem Grd.apart (h:Grd T k w base A n c rs) {k' base' n' c':Nat} {ts:List (List Value)} (q:Grd T' k' w base' B n' c' ts) (hT:T≠T'):∀ g∈blkO A,g∉blkO B:=fun g hg hm=>by
 obtain ⟨_,_,_,cur,hh,_⟩:=h.blk hg
 obtain ⟨_,_,_,cur',hh',_⟩:=q.blk hm
 have e:=hh.symm.trans hh'
 injection e with e
 injection e with _ e
 exact hT e
theorem Grd.lt (h:Grd T k w base A n c rs):∀ g∈blkO A,base≤g∧g<w.heap.size:=fun g hg=>⟨(h.blk hg).2.1,(h.blk hg).2.2.1⟩
theorem Grd.at_ (h:Grd T k w base A n c rs) (hi:i<n):∃ g r,A=some ⟨g,0,none⟩∧g<w.heap.size∧rs[i]?=some r∧r.length=k∧w.rangeAt g (i*k) r∧g∈blkO A:=by
 obtain ⟨g,eA,hg⟩:=h.spot (Nat.lt_of_le_of_lt (Nat.zero_le _) hi)
 subst eA
 have hl:i<rs.length:=by rw [h.2.1];exact hi
 have hr:=h.2.2 rs[i] (List.getElem_mem hl)
 refine ⟨g,rs[i],rfl,(h.lt g hg).2,List.getElem?_eq_getElem hl,hr.1,fun j v hv=>?_,hg⟩
 have hj:j<k:=by have:=(List.getElem?_eq_some_iff.1 hv).1;omega
 have hlt:i*k+j<n*k:=by
  have:(i+1)*k≤n*k:=Nat.mul_le_mul_right k hi;rw [Nat.succ_mul] at this;omega
 rw [World.ownsRow.cellAt h.1 (i*k+j) hlt,DuY h.2.2 (List.getElem?_eq_getElem hl) hj]
 exact hv
theorem Grd.rd (h:Grd T k w base A n c rs):RdG k w A n rs:=⟨h.2.1,h.2.2,fun hn=>by
 obtain ⟨g,eA,hg⟩:=h.spot hn
 subst eA
 refine ⟨g,0,rfl,(h.lt g hg).2,fun j u hu=>?_⟩
 have hj:=(List.getElem?_eq_some_iff.1 hu).1
 rw [Nat.zero_add,World.ownsRow.cellAt h.1 j (by have:=h.1.1;omega)]
 exact hu⟩
theorem Grd.nil_ (T:TypeId) (k:Nat) (w:World) (base:Nat):Grd T k w base none 0 0 []:=⟨World.ownsRow_nil w base _ k,rfl,fun r hr=>by cases hr⟩
theorem Grd.lit0 (T:TypeId) (k:Nat) (w:World) (base:Nat) (hb:base≤w.heap.size):Grd T k (w.alloc (.cells #[] T)) base (some ⟨w.heap.size,0,none⟩) 0 0 [] :=
 ⟨World.ownsRow_lit (size:=k) (base:=base) (e:=T) w #[] 0 hb (by unfold maxLen;omega) (by simp),rfl,fun r hr=>by cases hr⟩
theorem RdG.lit1 (T:TypeId) (w:World) (r:List Value) (h1:ones r):RdG r.length (w.alloc (.cells r.toArray T)) (some ⟨w.heap.size,0,none⟩) 1 [r]:=by
 refine ⟨rfl,fun q hq=>by rw [List.mem_singleton.1 hq];exact ⟨rfl,h1⟩,fun _=>⟨w.heap.size,0,rfl,by simp,fun j u hu=>?_⟩⟩
 rw [Nat.zero_add,cell_of_row _ w.heap.size j _ T (0,0) (heap_alloc_new w _)]
 simpa using hu
theorem RdG.step (h:RdG k w A m rs) (hb:Below w.heap.size w w'):RdG k w' A m rs:=⟨h.1,h.2.1,fun hm=>by
 obtain ⟨b,o,e,hlt,hc⟩:=h.2.2 hm
 exact ⟨b,o,e,Nat.lt_of_lt_of_le hlt hb.size,fun j u hu=>(hb.cell (p:=⟨b,o+j,none⟩) hlt).trans (hc j u hu)⟩⟩
theorem RdG.front (h:RdG k w A m rs) (hi:i≤m):RdG k w A i (rs.take i):=by
 refine ⟨by rw [List.length_take,h.1];omega,h.2.1.sub (fun r hr=>List.mem_of_mem_take hr),fun h0=>?_⟩
 obtain ⟨b,o,e,hlt,hc⟩:=h.2.2 (by omega)
 refine ⟨b,o,e,hlt,fun j u hu=>hc j u ?_⟩
 rw [DcV h.2.1,List.getElem?_take] at hu
 split at hu
 ·exact hu
 ·cases hu
theorem RdG.back (h:RdG k w A m rs) (hi:i≤m) (hc:m≤c):RdG k w (if c=i then A else A.map (·.add (i*k))) (m - i) (rs.drop i):=by
 refine ⟨by rw [List.length_drop,h.1],h.2.1.sub (fun r hr=>List.mem_of_mem_drop hr),fun h0=>?_⟩
 obtain ⟨b,o,e,hlt,hcl⟩:=h.2.2 (by omega)
 subst e
 rw [if_neg (by omega)]
 have hadd:(⟨b,o,none⟩:Addr).add (i*k)=⟨b,o+i*k,none⟩:=by unfold Addr.add;split <;> simp_all
 refine ⟨b,o+i*k,by rw [Option.map_some,hadd],hlt,fun j u hu=>?_⟩
 rw [ExX h.2.1,List.getElem?_drop] at hu
 rw [Nat.add_assoc]
 exact hcl _ u hu
end
theorem GT.parts {T S:TypeId} {z:List Value} {bytes:Nat} (gt:GT T S z bytes):∃ i:TypeInfo,prog.info? T=some i∧i.zero=some (.agg z.toArray)∧i.size=z.length∧i.bytes=bytes:=by
 have h:=gt.info
 rcases hi:prog.info? T with _ | i
 ·rw [hi] at h;cases h
 ·rw [hi] at h
  simp only [Option.map_some,Option.some.injEq,Prod.mk.injEq] at h;exact ⟨i,rfl,h.1,h.2.1,h.2.2⟩
theorem GT.rt {T S:TypeId} {z:List Value} {bytes:Nat} (gt:GT T S z bytes):RT T z:=⟨gt.row,by
 obtain ⟨i,h1,h2,h3,_⟩:=gt.parts
 rw [h1]
 simp only [Option.map_some,h2,h3]⟩
section
variable {T S:TypeId} {bytes:Nat} {z:List Value} {w w':World} {base n c m d g i:Nat} {A B:YA} {rs ts:List (List Value)}
theorem cutG_h (gt:GT T S z bytes) (h:i≤c):∀ W:World,(Instr.slice S (.slice A n c) none (some (.int .i64 (i:Int))) none).run prog W=.ok (.slice A i c) W:=by
 intro W
 obtain ⟨j,h1,_,_,_⟩:=gt.parts
 simp [Instr.slice,Instr.sliceBounds,Instr.sliceBound,asIntOf,go_sem,run_underlying gt.und,h,sizeOf,typeInfo,h1]
theorem cutG_l (gt:GT T S z bytes) (h:i≤n):∀ W:World,(Instr.slice S (.slice A n c) (some (.int .i64 (i:Int))) none none).run prog W=.ok (.slice (if c=i then A else A.map (·.add (i*z.length))) (n - i) (c - i)) W:=by
 intro W
 obtain ⟨j,h1,_,h3,_⟩:=gt.parts
 simp [Instr.slice,Instr.sliceBounds,Instr.sliceBound,asIntOf,go_sem,run_underlying gt.und,h,sizeOf,typeInfo,h1,h3]
theorem cutG_lh (gt:GT T S z bytes) (h:i≤m) (h2:m≤c):∀ W:World,(Instr.slice S (.slice A n c) (some (.int .i64 (i:Int))) (some (.int .i64 (m:Int))) none).run prog W=.ok (.slice (if c=i then A else A.map (·.add (i*z.length))) (m - i) (c - i)) W:=by
 intro W
 obtain ⟨j,h1,_,h3,_⟩:=gt.parts
 simp [Instr.slice,Instr.sliceBounds,Instr.sliceBound,asIntOf,go_sem,run_underlying gt.und,h,h2,sizeOf,typeInfo,h1,h3]
theorem DvY (gt:GT T S z bytes) {q:Nat} (h:i≤m) (h2:m≤q) (h3:q≤c):∀ W:World,(Instr.slice S (.slice A n c) (some (.int .i64 (i:Int))) (some (.int .i64 (m:Int))) (some (.int .i64 (q:Int)))).run prog W=.ok (.slice (if q=i then A else A.map (·.add (i*z.length))) (m - i) (q - i)) W:=by
 intro W
 obtain ⟨j,h1,_,h4,_⟩:=gt.parts
 simp [Instr.slice,Instr.sliceBounds,Instr.sliceBound,asIntOf,go_sem,run_underlying gt.und,h,h2,h3,sizeOf,typeInfo,h1,h4]
theorem BvX (gt:GT T S z bytes) (ty:TypeId) (hown:Grd T z.length w base A n c rs) (hr:RdG z.length w B m ts) (hsum:n+m≤1000000) (hby:bytes≤10000) (hbase:base≤w.heap.size) :
  ∃ A'' c'' w',(Builtin.append_ #[S,S] ty #[.slice A n c,.slice B m d]).run prog w=.ok (.slice A'' (n+m) c'') w'∧Grd T z.length w' base A'' (n+m) c'' (rs++ts)∧Oth (blkO A) w w'∧(∀ g∈blkO A'',g∈blkO A∨w.heap.size≤g):=by
 obtain ⟨i0,hi0,hz0,hz1,hz2⟩:=gt.parts
 rcases Nat.eq_zero_or_pos m with hm | hm
 ·subst hm
  have hl':ts=[]:=List.eq_nil_of_length_eq_zero hr.1;subst hl';refine ⟨A,c,w,?_,by simpa using hown,Oth.refl _ _,fun g hg=>.inl hg⟩;rcases B with _ | ad
  ·rcases hown.1.2 with ⟨hv,h0⟩ | ⟨g,cap,cur,hv,_,_,hnc,_⟩
   ·injection hv with e1 e2 e3
    subst e1;subst e2;subst e3;simp [Builtin.append_,run_underlying gt.und,sizeOf,typeInfo,hi0,Builtin.lenOf,Builtin.firstCells]
   ·injection hv with e1 e2 e3
    subst e1;subst e3;simp [Builtin.append_,run_underlying gt.und,sizeOf,typeInfo,hi0,Builtin.lenOf,Builtin.firstCells,hnc,storeCells]
  ·rcases hown.1.2 with ⟨hv,h0⟩ | ⟨g,cap,cur,hv,_,_,hnc,_⟩
   ·injection hv with e1 e2 e3
    subst e1;subst e2;subst e3;simp [Builtin.append_,run_underlying gt.und,sizeOf,typeInfo,hi0,Builtin.lenOf,Builtin.firstCells,loadCells,loadCellsFrom]
   ·injection hv with e1 e2 e3
    subst e1;subst e3;simp [Builtin.append_,run_underlying gt.und,sizeOf,typeInfo,hi0,Builtin.lenOf,Builtin.firstCells,hnc,storeCells,loadCells,loadCellsFrom]
 ·obtain ⟨b,off,rfl,hb,hcell⟩:=hr.2.2 hm
  obtain ⟨v',w',hrun,h2,h3,_,h5⟩:=run_append_own_at (P:=prog) w base S ty T i0 (.agg z.toArray) z.length bytes gt.und hi0 hz0 hz1 hz2 (by simp [Value.cells]) gt.pos (.slice A n c) n rs.flatten hown.1
   ⟨b,off,none⟩ m d ts.flatten (by rw [hr.2.1.len,hr.1]) (fun j u hu=>by
    have hadd:(⟨b,off,none⟩:Addr).add j=⟨b,off+j,none⟩:=by unfold Addr.add;split <;> simp_all
    rw [hadd];exact hcell j u hu) hr.2.1.one (by unfold maxLen;omega) (by
    have:(n+m)*bytes≤1000000*10000:=Nat.mul_le_mul hsum hby
    omega) hbase
  obtain ⟨A'',c'',rfl⟩:∃ A'' c'',v'=.slice A'' (n+m) c'':=by
   rcases h2.2 with ⟨rfl,h0⟩ | ⟨g,cap,cur,rfl,_⟩
   ·exact ⟨none,0,by rw [h0]⟩
   ·exact ⟨_,_,rfl⟩
  have hG:Grd T z.length w' base A'' (n+m) c'' (rs++ts):=⟨by rw [List.flatten_append];exact h2,by rw [List.length_append,hown.2.1,hr.1],hown.2.2.app hr.2.1⟩;refine ⟨A'',c'',w',hrun,hG,⟨h3.os,h3.tape,h3.output,h3.size,fun q hq hn=>h3.block q hq (fun e=>hn ?_)⟩,fun g hg=>?_⟩
  ·rcases A with _ | a
   ·cases e
   ·simp only [Value.ownBlock,Option.some.injEq] at e
    simp [blkO,e]
  ·obtain ⟨e,_⟩:=hG.blk hg
   subst e;rcases h5 with h5 | h5
   ·left
    rcases A with _ | a
    ·cases h5
    ·simp only [Value.ownBlock,Option.some.injEq] at h5
     simp [blkO,h5]
   ·right
    simp only [Value.ownBlock,Option.some.injEq] at h5;omega
end
