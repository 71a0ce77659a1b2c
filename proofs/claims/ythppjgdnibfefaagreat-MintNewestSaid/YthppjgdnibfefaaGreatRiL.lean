import Derived.Test.YthppjgdnibfefaaGreatGcmAll
import Derived.Test.YthppjgdnibfefaaGreatGrd
import Derived.Deep.RegionLaw
import Derived.Great.BuildSlice
import Derived.Laws.Cover3
set_option linter.all false
set_option maxRecDepth 100000
set_option maxHeartbeats 32000000
namespace Go.Proofs.YthppjgdnibfefaaGreat
open Tryz
open Go.RowKit
structure EB where
 x:Nat
 cb:Nat
 hb:Nat
 L:Nat
 H:Nat
 key:List UInt8
def EB.S (e:EB):List Nat:=[e.x,e.cb,e.hb]
structure EB.Is (e:EB) (p:BP):Prop where
 x:p.x=e.x
 cb:p.cb=e.cb
 hb:p.hb=e.hb
 key:p.key=e.key
 H:p.w0.heap.size=e.H
 lo:e.L≤p.lo
 ls:∀ y∈p.S,e.L≤y
 la:∀ g o,p.A0=some ⟨g,o,none⟩→e.L≤g
def EB.Ok (e:EB) (N F:Nat) (w:World):Prop:=∃ (p:BP) (f:Nat),e.Is p∧f≤F∧Bz p N f w
def EB.o (e:EB) (g:Nat):Prop:=g<e.L∨e.H≤g
section
variable {e e2:EB} {p:BP} {N F N' F' n f g lo:Nat} {w w':World} {S:List Nat}
theorem EB.Is.same (h:e.Is p):p.S=e.S:=by unfold BP.S EB.S;rw [h.x,h.cb,h.hb]
theorem EB.Ok.le (h:e.Ok N F w):e.H≤w.heap.size:=by
 obtain ⟨p,f,hi,_,hz⟩:=h
 rw [←hi.H];exact hz.old
theorem EB.Ok.in_ (h:e.Ok N F w):∀ y∈e.S,e.L≤y∧y<e.H:=by
 obtain ⟨p,f,hi,_,hz⟩:=h
 intro y hy
 rw [←hi.same] at hy
 exact ⟨hi.ls y hy,by rw [←hi.H];exact hz.lt y hy⟩
theorem EB.Ok.up (h:e.Ok N F w) (hn:N≤N') (hf:F≤F'):e.Ok N' F' w:=by
 obtain ⟨p,f,hi,hl,hz⟩:=h
 exact ⟨p,f,hi,Nat.le_trans hl hf,hz.up hn⟩
theorem EB.Ok.off (h:e.Ok N F w) (ho:Oth S w w') (hs:∀ g∈S,e.o g):e.Ok N F w':=by
 obtain ⟨p,f,hi,hl,hz⟩:=h
 have hord:=hz.ord
 have hlc:=hz.ob0.lt
 have hold:=hz.old
 have hH:=hi.H
 have hno:∀ k,e.L≤k→k<p.w0.heap.size→k∉S:=fun k h1 h2 hm=>by
  have:=hs k hm;unfold EB.o at this;omega
 have hsame:∀ k,e.L≤k→k<p.w0.heap.size→w'.heap[k]?=w.heap[k]?:=fun k h1 h2=>ho.block k (Nat.lt_of_lt_of_le h2 hold) (hno k h1 h2)
 have hx:=hi.ls p.x (by simp [BP.S])
 have hc:=hi.ls p.cb (by simp [BP.S])
 have hh:=hi.ls p.hb (by simp [BP.S])
 have ex:=hsame p.x hx hord.2.2.1
 have ec:=hsame p.cb hc (by omega)
 have eh:=hsame p.hb hh hord.2.2.2.1
 obtain ⟨W,hW0,hWs,hWi,hWn⟩:∃ W:World,(W.os=p.wc.os∧W.tape=p.wc.tape∧W.output=p.wc.output)∧W.heap.size=p.wc.heap.size∧(∀ k,k<p.wc.heap.size→k∈S→W.heap[k]?=w'.heap[k]?)∧(∀ k,k<p.wc.heap.size→k∉S→W.heap[k]?=p.wc.heap[k]?):=by
  refine ⟨{ p.wc with heap:=Array.ofFn (n:=p.wc.heap.size) fun i=>if i.val∈S then (w'.heap[i.val]?).getD p.wc.heap[i] else p.wc.heap[i] },⟨rfl,rfl,rfl⟩,by simp,fun k hk hm=>?_,fun k hk hm=>?_⟩
  ·have h1:k<w'.heap.size:=by have:=ho.size;omega
   simp [Array.getElem?_ofFn,hk,hm,Array.getElem?_eq_getElem h1]
  ·simp [Array.getElem?_ofFn,hk,hm]
 have hbut:But p.cb W w':=by
  refine ⟨(ho.os.trans hz.but.os).trans hW0.1.symm,(ho.tape.trans hz.but.tape).trans hW0.2.1.symm,(ho.output.trans hz.but.output).trans hW0.2.2.symm,?_,fun k hk hne=>?_⟩
  ·have:=ho.size;have:=hz.but.size;omega
  ·rw [hWs] at hk
   by_cases hm:k∈S
   ·exact (hWi k hk hm).symm
   ·rw [hWn k hk hm,←hz.but.block k hk hne]
    exact ho.block k (Nat.lt_of_lt_of_le hk hz.but.size) hm
 have hob0:Ob p.cb p.b p.lo p.key 0 W:=⟨hz.ob0.cf.block (hWn p.cb hlc (hno _ hc (by omega))),hz.ob0.tab.keep (fun q m fn hq hm hcl j hj=>by
  have hql:=hcl.lt hm
  have eq:=hWn q hql (hno q (Nat.le_trans hi.lo hq) (by omega))
  exact ⟨(World.cell?_of_block (w:=p.wc) (a:=⟨q,j,none⟩) eq).trans (hcl j hj).1,(World.frozen?_of_block (w:=p.wc) (a:=⟨q,j,none⟩) eq).trans (hcl j hj).2⟩),hz.ob0.len,hz.ob0.few⟩
 refine ⟨{ p with wc:=W },f,⟨hi.x,hi.cb,hi.hb,hi.key,hi.H,hi.lo,hi.ls,hi.la⟩,hl,?_⟩
 exact {
  old:=Nat.le_trans hold ho.size
  c0:=(World.cell?_of_block (w:=w) (a:=⟨p.x,0,none⟩) ex).trans hz.c0
  c1:=(World.cell?_of_block (w:=w) (a:=⟨p.x,1,none⟩) ex).trans hz.c1
  c2:=(World.cell?_of_block (w:=w) (a:=⟨p.x,2,none⟩) ex).trans hz.c2
  c3:=(World.cell?_of_block (w:=w) (a:=⟨p.x,3,none⟩) ex).trans hz.c3
  free:=(World.frozen?_of_block (w:=w) (a:=⟨p.x,3,none⟩) ex).trans hz.free
  cap:=hz.cap
  key:=⟨hz.key.1,fun hn=>by
   obtain ⟨g,o,eA,hg,hcl⟩:=hz.key.2 hn
   exact ⟨g,o,eA,hg,fun i hi2=>by
    rw [←hcl i hi2]
    exact World.cell?_of_block (w:=w) (a:=⟨g,o+i,none⟩) (hsame g (hi.la g o eA) hg)⟩⟩
  away:=hz.away
  ob0:=hob0
  but:=hbut
  ob:=by
   obtain ⟨m,hm,hob⟩:=hz.ob
   exact ⟨m,hm,⟨hob.cf.block ec,hob0.tab.apartJ (by decide) 0 (by omega) hob0.cf.nob hob0.cf.ne (fun q hlq hq=>hbut.block q hlq hq),hob.len,hob.few⟩⟩
  ho:=by
   obtain ⟨d,hd⟩:=hz.ho
   exact ⟨d,hd.same eh⟩
  ord:=by
   show W.heap.size≤p.x∧W.heap.size≤p.hb∧p.x<p.w0.heap.size∧p.hb<p.w0.heap.size∧p.x≠p.hb∧W.heap.size≤p.w0.heap.size
   rw [hWs];exact hord }
theorem EB.Ok.step (h:e.Ok N F w) (hb:Below w.heap.size w w'):e.Ok N F w':=h.off (Oth.of_below (S:=[]) hb) (fun g hg=>by cases hg)
theorem EB.of_new {key:YB} {r:Ending} (h:RetX2 key w r w'):∃ e:EB,r=.returned (.tuple #[.pointer (some ⟨e.x,0,none⟩),.int .i64 0])∧e.key=key∧Below w.heap.size w w'∧e.L=w.heap.size∧e.H=w'.heap.size∧e.Ok 1 0 w':=by
 obtain ⟨p,hr,hk,hb,hs,⟨h1,h2,h3⟩,hz⟩:=h
 exact ⟨⟨p.x,p.cb,p.hb,w.heap.size,w'.heap.size,p.key⟩,hr,hk,hb,rfl,rfl,p,0,⟨rfl,rfl,rfl,rfl,h3,h1,hs,h2⟩,Nat.le_refl _,hz⟩
end
open Go.RowKit
def idxR (s:Rg) (q:Int):Int:=match BbZ s q with | some i=>(i:Int) | none=>-1
theorem AxV {s:Rg} {q:Int} (h:hasR s q=false):idxR s q = -1:=by
 unfold hasR at h;unfold idxR
 cases e:BbZ s q with
 | none=>rfl
 | some i=>rw [e] at h;cases h
theorem CcW {s:Rg} {q:Int} (h:hasR s q=true):∃ i:Nat,idxR s q=(i:Int)∧BbZ s q=some i∧i<s.length:=by
 obtain ⟨i,r,hf,_,_,hl⟩:=CcY h
 exact ⟨i,by unfold idxR;rw [hf],hf,hl⟩
abbrev Ens:=List (EB×Int)
def rgE (es:Ens):Rg:=es.map fun e=>(e.2,e.1.key)
def enR (e:EB×Int):List Value:=.pointer (some ⟨e.1.x,0,none⟩)::.int .i64 e.2::bvs e.1.key
def zEn:List Value:=.pointer none::.int .i64 0::List.replicate 16 (.int .u8 0)
theorem BlW (es:Ens):(rgE es).length=es.length:=List.length_map _
theorem enR_len {e:EB×Int} (h:e.1.key.length=16):(enR e).length=18:=by
 unfold enR;simp [bvs,h]
theorem EyY (e:EB×Int):ones (enR e):=by
 intro v hv
 unfold enR at hv
 rcases List.mem_cons.1 hv with rfl | hv
 ·rfl
 rcases List.mem_cons.1 hv with rfl | hv
 ·rfl
 ·obtain ⟨b,_,rfl⟩:=List.mem_map.1 hv;rfl
theorem BxV:zEn.length=18:=rfl
theorem zEn_one:ones zEn:=by
 intro v hv
 unfold zEn at hv
 rcases List.mem_cons.1 hv with rfl | hv
 ·rfl
 rcases List.mem_cons.1 hv with rfl | hv
 ·rfl
 ·rw [List.eq_of_mem_replicate hv];rfl
theorem gt_en:GT 130 131 zEn 32:=⟨underlying131,AsJ (by kernel_rfl),by kernel_rfl,by decide,zEn_one⟩
theorem rt_en:RT 130 zEn:=gt_en.rt
abbrev GE (w:World) (base:Nat) (A:YA) (c:Nat) (es:Ens):Prop:=Grd 130 18 w base A es.length c (es.map enR)
theorem BfV {w:World} {ops:Array Oper} {rest:List Oper} {o:Oper} {a:Act} {Q:Exit→Act→World→Prop} {T:TypeId} {z:List Value} (rt:RT T z) (hgd:o.guard=none) (x:Operand) (hop:o.op=.load T x) (g k:Nat) (hx:a.eval x=.pointer (some ⟨g,k,none⟩)) (vs:List Value) (hr:w.rangeAt g k vs) (hl:vs.length=z.length)
  (hk:wpList prog ops Q rest (a.put o.dst (.agg vs.toArray)) w):wpList prog ops Q (o::rest) a w:=by
 obtain ⟨d,hu,hd⟩:=rt.row
 exact wpList_load_mid hgd _ x hop g k hx vs d hr hu hd (by rw [hl];exact rt.size) hk
structure Rn (base:Nat) (w:World) (x:Nat) (A:YA) (c:Nat) (es:Ens) (N F:Nat):Prop where
 blk:Blk 133 w x [.slice A es.length c]
 grd:GE w base A c es
 ok:∀ e∈es,e.1.Ok N F w∧e.1.key.length=16∧base≤e.1.L∧e.1.o x∧∀ g∈blkO A,e.1.o g
 pw:es.Pairwise (fun a b=>a.1.H≤b.1.L)
 low:base≤x
section
variable {base:Nat} {w w':World} {x c N F N' F':Nat} {A:YA} {es:Ens} {S:List Nat}
theorem Rn.nx (h:Rn base w x A c es N F):x∉blkO A:=h.grd.away h.blk (by decide)
theorem Rn.off (h:Rn base w x A c es N F) (ho:Oth S w w') (hx:x∉S) (hA:∀ g∈blkO A,g∉S) (he:∀ e∈es,∀ g∈S,e.1.o g):Rn base w' x A c es N F :=
 ⟨h.blk.oth ho hx,h.grd.oth ho hA,fun e hm=>⟨(h.ok e hm).1.off ho (he e hm),(h.ok e hm).2⟩,h.pw,h.low⟩
theorem Rn.step (h:Rn base w x A c es N F) (hb:Below w.heap.size w w'):Rn base w' x A c es N F:=h.off (Oth.of_below (S:=[]) hb) (by simp) (fun g hg=>by simp) (fun e hm g hg=>by cases hg)
theorem Rn.up (h:Rn base w x A c es N F) (hn:N≤N') (hf:F≤F'):Rn base w x A c es N' F':=⟨h.blk,h.grd,fun e hm=>⟨(h.ok e hm).1.up hn hf,(h.ok e hm).2⟩,h.pw,h.low⟩
theorem Rn.base_le {b:Nat} (h:Rn base w x A c es N F) (hb:b≤base):Rn b w x A c es N F :=
 ⟨h.blk,h.grd.base_le hb,fun e hm=>⟨(h.ok e hm).1,(h.ok e hm).2.1,Nat.le_trans hb (h.ok e hm).2.2.1,(h.ok e hm).2.2.2⟩,h.pw,Nat.le_trans hb h.low⟩
theorem Rn.at_ (h:Rn base w x A c es N F) {i:Nat} (hi:i<es.length):∃ g e,A=some ⟨g,0,none⟩∧g∈blkO A∧g<w.heap.size∧es[i]?=some e∧e∈es∧(enR e).length=18∧w.rangeAt g (i*18) (enR e)∧w.cell? ⟨g,i*18,none⟩=some (.pointer (some ⟨e.1.x,0,none⟩))∧w.cell? ⟨g,i*18+1,none⟩=some (.int .i64 e.2):=by
 obtain ⟨g,r,eA,hg,hr,hl,hrg,hm⟩:=h.grd.at_ hi
 rw [List.getElem?_map,List.getElem?_eq_getElem hi] at hr
 injection hr with hr
 subst hr
 refine ⟨g,es[i],eA,hm,hg,List.getElem?_eq_getElem hi,List.getElem_mem hi,hl,hrg,?_,?_⟩
 ·exact hrg 0 _ rfl
 ·exact hrg 1 _ rfl
theorem Rn.c0 (h:Rn base w x A c es N F):w.cell? ⟨x,0,none⟩=some (.slice A es.length c):=h.blk.cell 0
end
theorem BwK:∀ (vs cs:List Value) (o:Nat),o+vs.length≤cs.length→AxJ cs o vs=cs.take o++vs++cs.drop (o+vs.length)
 | [],cs,o,_=>by simp [AxJ]
 | v::r,cs,o,h=>by
  rw [List.length_cons] at h;rw [AxJ,BwK r (cs.set o v) (o+1) (by rw [List.length_set];omega)]
  have h1:(cs.set o v).take (o+1)=cs.take o++[v]:=by
   rw [List.set_eq_take_append_cons_drop,if_pos (by omega)];rw [List.take_append,List.take_of_length_le (by rw [List.length_take];omega),List.length_take,Nat.min_eq_left (by omega),Nat.add_sub_cancel_left];rfl
  have h2:(cs.set o v).drop (o+1+r.length)=cs.drop (o+1+r.length):=by
   rw [List.drop_set_of_lt (by omega)]
  rw [h1,h2,List.length_cons,show o+(r.length+1)=o+1+r.length by omega];simp
theorem del_mem {T:TypeId} {k:Nat} {w:World} {base n c i m g:Nat} {rs:List (List Value)} {z:List Value} (h:Grd T k w base (some ⟨g,0,none⟩) n c rs) (hi:i<n) (hm:n=m+1) (hz:z.length=k) :
  Grd T k ((w.setCells g (i*k) (rs.drop (i+1)).flatten).setCells g (m*k) z) base (some ⟨g,0,none⟩) m c (rs.eraseIdx i):=by
 obtain ⟨_,hb,hg,cur,hh,hs,ht⟩:=h.blk (g:=g) (by simp [blkO])
 have hcap:=h.cap
 have hk:Blk T w g cur.toList:=by unfold Blk;rw [hh]
 have hsz:cur.toList.length=c*k:=by rw [Array.length_toList];exact hs
 have hdl:(rs.drop (i+1)).flatten.length=(m - i)*k:=by rw [(h.2.2.sub (fun r hr=>List.mem_of_mem_drop hr):recs k (rs.drop (i+1))).len,List.length_drop,h.2.1,hm];congr 1;omega
 have hmk:i*k+(m - i)*k=m*k:=by rw [←Nat.add_mul];congr 1;omega
 have hmc:m*k+k≤c*k:=by rw [←Nat.succ_mul];exact Nat.mul_le_mul_right k (by omega)
 have hik:i*k≤n*k:=Nat.mul_le_mul_right k (by omega)
 have hmn:m*k≤n*k:=Nat.mul_le_mul_right k (by omega)
 have hnc:n*k≤c*k:=Nat.mul_le_mul_right k hcap.1
 have k2:=((hk.puts (rs.drop (i+1)).flatten (i*k)).puts z (m*k))
 have hl2:(AxJ (AxJ cur.toList (i*k) (rs.drop (i+1)).flatten) (m*k) z).length=c*k:=by rw [AyK,AyK,hsz]
 have hre:recs k (rs.eraseIdx i):=h.2.2.sub (fun r hr=>List.mem_of_mem_eraseIdx hr)
 have hle:(rs.eraseIdx i).length=m:=by rw [List.length_eraseIdx_of_lt (by rw [h.2.1];exact hi),h.2.1];omega
 refine ⟨⟨by rw [hre.len,hle],.inr ⟨g,c,_,rfl,hb,k2,by omega,hcap.2,?_,?_⟩⟩,hle,hre⟩
 ·rw [List.size_toArray,hl2]
 ·rw [show (AxJ (AxJ cur.toList (i*k) (rs.drop (i+1)).flatten) (m*k) z).toArray.toList=AxJ (AxJ cur.toList (i*k) (rs.drop (i+1)).flatten) (m*k) z from rfl]
  rw [BwK z _ _ (by rw [AyK,hsz,hz];exact hmc),List.append_assoc,List.take_append_of_le_length (by rw [List.length_take,AyK,hsz];omega),List.take_take,Nat.min_self];rw [BwK _ _ _ (by rw [hdl,hsz];omega),hdl,hmk,List.take_append_of_le_length (by rw [List.length_append,List.length_take,hdl,hsz];omega),List.take_of_length_le (by rw [List.length_append,List.length_take,hdl,hsz];omega)];rw [List.eraseIdx_eq_take_drop_succ,List.flatten_append,DcV h.2.2,←ht,List.take_take,Nat.min_eq_left hik]
theorem BlV {ops:Array Oper} {o:Oper} {a:Act} {w w1:World} {K:Act→World→Prop} {Q:Exit→Act→World→Prop} {E:Prop} (hgd:o.guard=none) (s x:Operand) (t:TypeId) (ho:o.op=.call { callee:=.builtin .append,args:=#[s,x],argTypes:=#[t,t] })
  (v1 v2 v:Value) (hs:a.eval s=v1) (hx:a.eval x=v2) (hrun:∀ ty,(Builtin.append_ #[t,t] ty #[v1,v2]).run prog w=.ok v w1) (h:K (a.put o.dst v) w1) :
  if Region.wanted o (yielded ops a.tmps)=true then Oper.wp prog o a w K Q else E:=by
 have hw:Region.wanted o (yielded ops a.tmps)=true:=by simp [Region.wanted,hgd]
 rw [if_pos hw]
 unfold Oper.wp execOp
 simp only [ho,resolve,invoke,builtin,Sem.run_bind,Sem.run_pure,Result.andThen_ok,List.map_toArray,List.map_cons,List.map_nil,hs,hx,hrun]
 exact h
theorem EaQ {T S:TypeId} {z:List Value} {bytes:Nat} (gt:GT T S z bytes) (ty:TypeId) (w:World) (g o d:Nat) (hc:∀ j,j<z.length→(w.cell? ⟨g,o+j,none⟩).isSome=true∧w.frozen? ⟨g,o+j,none⟩=false) :
  (Builtin.clear_ #[S] ty #[.slice (some ⟨g,o,none⟩) 1 d]).run prog w=.ok (.tuple #[]) (w.setCells g o z):=by
 have hz:=gt.rt.zero
 have hzc:(Builtin.zeroCells (Value.agg z.toArray).cells 1).toList=z:=by
  simp only [Builtin.zeroCells,Value.cells,Nat.one_mul,List.size_toArray];apply List.ext_getElem
  ·simp
  ·intro i h1 h2
   simp [Nat.mod_eq_of_lt h2];rw [List.getElem?_eq_getElem h2];rfl
 have hst:=run_storeCells_cells (P:=prog) g o z 0 w (by simpa using fun j hj=>(hc j hj).1) (by simpa using fun j hj=>(hc j hj).2) gt.one
 simp only [Nat.add_zero] at hst
 simp [Builtin.clear_,run_underlying gt.und,hz,hzc,hst]
theorem del_any (base:Nat) (A:YA) (n c i:Nat) (Ji:Int) (rs:List (List Value)) (w:World) (h:Grd 130 18 w base A n c rs) (hi:i<n) (hn:n≤1000) (hJ:Ji=(i:Int)+1) :
  Calls prog 111 #[.slice A n c,.int .i64 i,.int .i64 Ji] w fun e w'=>e=.returned (.slice A (n - 1) c)∧Grd 130 18 w' base A (n - 1) c (rs.eraseIdx i)∧Oth (blkO A) w w':=by
 obtain ⟨g,eA,hg⟩:=h.spot (by omega)
 subst eA
 obtain ⟨m,HM⟩:∃ m,Hid (n=m+1):=⟨n - 1,η (by omega)⟩
 obtain ⟨J,HJ⟩:∃ J,Hid (J=i+1):=⟨_,η rfl⟩
 obtain ⟨M,HMM⟩:∃ M,Hid (M=n - J):=⟨_,η rfl⟩
 obtain ⟨d,HD⟩:∃ d,Hid (d=c - J):=⟨_,η rfl⟩
 obtain ⟨d1,HD1⟩:∃ d,Hid (d=c - m):=⟨_,η rfl⟩
 have hmo:=HM.o;have hjo:=HJ.o;have hMo:=HMM.o;have hdo:=HD.o;have hd1:=HD1.o
 have hcap:=h.cap
 have hjji:Ji=(J:Int):=by rw [hJ,hjo];simp
 clear hJ
 subst hjji
 have H:=η h
 obtain ⟨_,hb,hgl,cur,hh,hs,ht⟩:=h.blk hg
 have hk:Blk 130 w g cur.toList:=by unfold Blk;rw [hh]
 have hsz:cur.toList.length=c*18:=by rw [Array.length_toList];exact hs
 have hX:∃ X:Addr,(if c=J then (some ⟨g,0,none⟩:YA) else (some ⟨g,0,none⟩:YA).map (·.add (J*18)))=some X∧∀ j u,(rs.drop J).flatten[j]?=some u→w.cell? (X.add j)=some u:=by
  have hrd:=h.rd.back (i:=J) (c:=c) (by omega) hcap.1;by_cases hc:c=J
  ·refine ⟨⟨g,0,none⟩,by rw [if_pos hc],fun j u hu=>?_⟩
   have h0:(rs.drop J).flatten=[]:=by
    rw [List.drop_eq_nil_of_le (by rw [h.2.1];omega)];rfl
   rw [h0] at hu;cases hu
  ·rw [if_neg hc] at hrd ⊢
   refine ⟨(⟨g,0,none⟩:Addr).add (J*18),rfl,fun j u hu=>?_⟩
   have hpos:0<n - J:=by
    rcases Nat.eq_zero_or_pos (n - J) with h0 | h0
    ·rw [List.drop_eq_nil_of_le (by rw [h.2.1];omega)] at hu;cases hu
    ·exact h0
   obtain ⟨b,o,e,_,hcl⟩:=hrd.2.2 hpos;rw [Option.map_some] at e;injection e with e;rw [e];have hadd:(⟨b,o,none⟩:Addr).add j=⟨b,o+j,none⟩:=by unfold Addr.add;split <;> simp_all
   rw [hadd];exact hcl j u hu
 obtain ⟨X,eX,hXc⟩:=hX
 have hrecd:recs 18 (rs.drop J):=h.2.2.sub (fun r hr=>List.mem_of_mem_drop hr)
 have hfl:(rs.drop J).flatten.length=M*18:=by rw [hrecd.len,List.length_drop,h.2.1,hMo]
 obtain ⟨i0,hi0,_,hi2,_⟩:=gt_en.parts
 obtain ⟨W1,HW1⟩:∃ W1,Hid (W1=w.drew.setCells g (i*18) (rs.drop J).flatten):=⟨_,η rfl⟩
 have happ:Hid (∀ ty,(Builtin.append_ #[131,131] ty #[.slice (some ⟨g,0,none⟩) i c,.slice (some X) M d]).run prog w.drew=.ok (.slice (some ⟨g,0,none⟩) m c) W1):=η (fun ty=>by
  have hr:=run_append_room_cells (P:=prog) w.drew 131 ty 130 i0 underlying131 hi0 g 0 i c X M d (rs.drop J).flatten (by rw [hfl,hi2];rfl) hXc hrecd.one (by omega) (fun j hj=>by
   show (w.cell? _).isSome=true
   rw [hi2,hk.cell,List.getElem?_eq_getElem (by
    rw [hsz]
    have h1:j<M*18:=by rw [←hfl];exact hj
    have h2:zEn.length=18:=rfl
    rw [h2];omega)];rfl) (fun j hj=>hk.free _)
  rw [hr,show i+M=m by omega,hi2,Nat.zero_add,HW1.o]
  rfl)
 have hk1:Blk 130 W1 g (AxJ cur.toList (i*18) (rs.drop J).flatten):=by rw [HW1.o];exact Blk.puts _ _ w.drew _ hk
 obtain ⟨W2,HW2⟩:∃ W2,Hid (W2=W1.setCells g (m*18) zEn):=⟨_,η rfl⟩
 have hclr:∀ ty,(Builtin.clear_ #[131] ty #[.slice (some ⟨g,m*18,none⟩) 1 d1]).run prog W1=.ok (.tuple #[]) W2:=fun ty=>by
  rw [HW2.o]
  exact EaQ gt_en ty W1 g (m*18) d1 (fun j hj=>by
   rw [BxV] at hj
   refine ⟨?_,hk1.free _⟩
   rw [hk1.cell,List.getElem?_eq_getElem (by rw [AyK,hsz];omega)];rfl)
 have c13:∀ W:World,∃ v,(Instr.slice 131 (.slice (some ⟨g,0,none⟩) n c) (some (.int .i64 (i:Int))) (some (.int .i64 (J:Int))) (some (.int .i64 (n:Int)))).run prog W=.ok v W:=fun W=>⟨_,DvY gt_en (by omega) (by omega) hcap.1 W⟩
 obtain ⟨V13,HC13⟩:∃ V,∀ W:World,(Instr.slice 131 (.slice (some ⟨g,0,none⟩) n c) (some (.int .i64 (i:Int))) (some (.int .i64 (J:Int))) (some (.int .i64 (n:Int)))).run prog W=.ok V W:=⟨_,DvY gt_en (by omega) (by omega) hcap.1⟩
 have c22:=cutG_h gt_en (n:=n) (A:=some ⟨g,0,none⟩) (show i≤c by omega)
 have c25:∀ W:World,(Instr.slice 131 (.slice (some ⟨g,0,none⟩) n c) (some (.int .i64 (J:Int))) none none).run prog W=.ok (.slice (some X) M d) W:=by
  have:=cutG_l gt_en (n:=n) (c:=c) (A:=some ⟨g,0,none⟩) (show J≤n by omega);rw [BxV,eX,←hMo,←hdo] at this;exact this
 have c31:∀ W:World,(Instr.slice 131 (.slice (some ⟨g,0,none⟩) m c) (some (.int .i64 (m:Int))) (some (.int .i64 (n:Int))) none).run prog W=.ok (.slice (some ⟨g,m*18,none⟩) 1 d1) W:=by
  have:=cutG_lh gt_en (n:=m) (c:=c) (A:=some ⟨g,0,none⟩) (show m≤n by omega) hcap.1;have hadd:(⟨g,0,none⟩:Addr).add (m*18)=⟨g,m*18,none⟩:=by unfold Addr.add;split <;> simp_all
  rw [if_neg (by omega),Option.map_some,BxV,hadd,show n - m=1 by omega,←hd1] at this;exact this
 have ne:((i:Int) == (J:Int))=false:=by rw [beq_eq_false_iff_ne];omega
 have HN:=η (And.intro hi hn)
 clear hXc eX hrecd hfl hi0 hi2 hh hs ht hk hk1 hsz hb hgl hg h hi hn hmo hjo hMo hdo hd1 hcap c13
 go_enter func111,ntmps111
 go_wp2_with fail
 go_region_law (refine BlV rfl (.tmp 22) (.tmp 25) 131 rfl _ _ _ rfl rfl happ.o ?_)
 go_wp2_with fail
 go_ret
 have hmo:=HM.o
 refine ⟨by rw [show n - 1=m by omega];rfl,?_,?_⟩
 ·rw [show n - 1=m by omega,HW2.o,HW1.o,HJ.o]
  exact del_mem (w:=w.drew) H.o HN.o.1 hmo rfl
 ·rw [HW2.o,HW1.o]
  exact AcK g _ _ _ _ (AcK g _ _ _ _ (Oth.of_below (Below.refl _ _).drew))
open Go.RowKit
theorem ExZ (cs:List Value) (p q:Int) (b:Nat) (w:World) (h1:cs[1]?=some (.int .i64 p)) (hq:w.cell? ⟨b,0,none⟩=some (.int .i64 q)) (v:Bool) (hv:(p == q)=v) :
  Calls prog 101 #[.agg cs.toArray,.pointer (some ⟨b,0,none⟩)] w fun e w'=>e=.returned (.bool v)∧Below w.heap.size w w':=by
 have H1:=η h1
 have HQ:=η hq
 clear h1 hq
 go_enter func101,ntmps101
 go_wp2_with (first
  | (refine AeV rfl 130 (.tmp 0) rfl cs rfl ?_;intro w1 g1 k1 hb1 hg1;have hc1:=(k1.cell 1).trans H1.o;have hc0:=(hb1.cell (p:=⟨b,0,none⟩) (World.block_lt_of_cell? w _ HQ.o)).trans HQ.o;have HB1:=η hb1;clear hb1 k1 hg1))
 go_ret
 exact ⟨rfl,HB1.o⟩
theorem EvY (base:Nat) (A:YA) (c:Nat) (es:Ens) (b:Nat) (q:Int) (w:World) (h:GE w base A c es) (hn:es.length≤1000) (hq:w.cell? ⟨b,0,none⟩=some (.int .i64 q)) :
  Calls prog 100 #[.slice A es.length c,.func (.func 101) #[] #[.pointer (some ⟨b,0,none⟩)]] w fun e w'=>e=.returned (.int .i64 (idxR (rgE es) q))∧Below w.heap.size w w':=by
 have H:=η h
 have HQ:=η hq
 obtain ⟨n,HN⟩:∃ n,Hid (es.length=n):=⟨_,η rfl⟩
 rw [HN.o] at hn ⊢
 clear h hq
 go_enter func100,ntmps100
 go_wp2_with fail
 go_loopw [8] (fun i wr=>∃ k:Nat,k≤n∧i=.int .i64 (k:Int)∧Hid (Below w.heap.size w wr∧∀ j e,j<k→es[j]?=some e→e.2≠q)) (fun i _=>n - (intOf i).toNat)
 case atStart=>exact ⟨0,by omega,rfl,η ⟨Below.refl _ _,fun j e hj=>absurd hj (by omega)⟩⟩
 case round =>
  obtain ⟨k,hk,rfl,HK⟩:=hrel;by_cases hlt:k<n
  ·have HG:=η (H.o.step HK.o.1)
   obtain ⟨g,r,rfl,hg,hr,hl,hrg,_⟩:=HG.o.at_ (i:=k) (by rw [HN.o];exact hlt);rw [List.getElem?_map] at hr
   obtain ⟨e0,he0,rfl⟩:∃ e0,es[k]?=some e0∧enR e0=r:=by
    rcases hh:es[k]? with _ | e0
    ·rw [hh] at hr;cases hr
    ·rw [hh] at hr;injection hr with hr;exact ⟨e0,rfl,hr⟩
   have HE:=η he0;have HR:=η (And.intro hl hrg);obtain ⟨v,HV⟩:∃ v,Hid ((e0.2 == q)=v):=⟨_,η rfl⟩;have HF:=η (ExZ (enR e0) e0.2 q b wr rfl (by exact (HK.o.1.cell (p:=⟨b,0,none⟩) (World.block_lt_of_cell? w _ HQ.o)).trans HQ.o) v HV.o);clear he0 hr hl hrg hg
   go_wp2_with (first
    | (refine BfV rt_en rfl (.tmp 14) rfl g (k*18) (by first | rfl | simp [Act.eval,Act.put]) (enR e0) HR.o.2 HR.o.1 ?_))
   refine HF.o.mono ?_;rintro e w1 ⟨rfl,hb⟩;have HB1:=η (AaJ HK.o.1 hb);clear hb HF;rcases v with _ | _
   ·go_wp2_with fail
    go_roundw
    case rel=>exact ⟨k+1,by omega,by go_num,η ⟨HB1.o,fun j e hj he=>by
     rcases Nat.lt_or_ge j k with h | h
     ·exact HK.o.2 j e h he
     ·obtain rfl:j=k:=by omega
      rw [HE.o] at he
      injection he with he
      subst he
      exact beq_eq_false_iff_ne.1 HV.o⟩⟩
    case measure=>simp [intOf];omega
   ·go_wp2_with fail
    go_ret;refine ⟨?_,HB1.o⟩
    have hf:BbZ (rgE es) q=some k:=by
     unfold BbZ rgE;rw [List.findIdx?_eq_some_iff_getElem];have hkl:k<es.length:=by rw [HN.o];exact hlt
     refine ⟨by rw [List.length_map];exact hkl,?_,fun j hj=>?_⟩
     ·rw [List.getElem_map]
      have:es[k]=e0:=by have:=HE.o;rw [List.getElem?_eq_getElem hkl] at this;injection this
      rw [this];exact HV.o
     ·rw [List.getElem_map]
      have:=HK.o.2 j es[j] hj (List.getElem?_eq_getElem (by omega));simpa using this
    unfold idxR;rw [hf];rfl
  ·have hkn:k=n:=by omega
   subst hkn;go_wp2_with fail;go_ret;refine ⟨?_,HK.o.1⟩
   have hf:hasR (rgE es) q=false:=by
    rw [CpW];unfold BhX rgE;rw [List.map_map];intro hm;obtain ⟨e0,he,e1⟩:=List.mem_map.1 hm;obtain ⟨j,hj,hje⟩:=List.getElem_of_mem he;exact HK.o.2 j e0 (by rw [←HN.o];exact hj) (by rw [List.getElem?_eq_getElem hj,hje]) e1
   rw [AxV hf];rfl
theorem BnX (base:Nat) (x:Nat) (A:YA) (c:Nat) (es:Ens) (N F:Nat) (q:Int) (w:World) (h:Rn base w x A c es N F) (hn:es.length≤1000) :
  Calls prog 62 #[.pointer (some ⟨x,0,none⟩),.int .i64 q] w fun e w'=>e=.returned (.int .i64 (idxR (rgE es) q))∧Below w.heap.size w w':=by
 have hb1:=AaK w (.cells #[.int .i64 q] 3)
 have HI:=η (EvY base A c es w.heap.size q (w.alloc (.cells #[.int .i64 q] 3)) (h.grd.step hb1) hn (World.cell?_alloc_at _ _ _ _ rfl))
 have HB1:=η hb1
 have hc0:(w.alloc (.cells #[.int .i64 q] 3)).cell? ⟨x,0,none⟩=some (.slice A es.length c):=(hb1.cell (p:=⟨x,0,none⟩) h.blk.lt).trans h.c0
 have hmf:∀ (fn:Fn) (first cap:Array Value) (w:World),(Instr.makeFunc fn first cap).run prog w=.ok (.func fn first cap) w:=fun _ _ _ _=>rfl
 clear h hb1
 go_enter func62,ntmps62
 go_wp2_with fail
 refine HI.o.mono ?_
 rintro e w1 ⟨rfl,hb⟩
 have HB2:=η (AaJ HB1.o hb)
 clear hb
 go_wp2_with fail
 go_ret
 exact ⟨rfl,HB2.o⟩
def RetKy (l:YB) (v:Bool) (w:World) (e:Ending) (w':World):Prop :=
 ∃ A c,e=.returned (.tuple #[.slice A l.length c,.bool v])∧OwnB w' w.heap.size A l.length c l∧Below w.heap.size w w'
theorem rg_at {es:Ens} {q:Int} (h:hasR (rgE es) q=true):∃ (i:Nat) (e:EB×Int),idxR (rgE es) q=(i:Int)∧i<es.length∧es[i]?=some e∧e.2=q∧e.1.key=keyR (rgE es) q∧BbZ (rgE es) q=some i:=by
 obtain ⟨i,r,hf,hr,hq,hl⟩:=CcY h
 rw [BlW] at hl
 have he:(rgE es)[i]?=some (es[i].2,es[i].1.key):=by unfold rgE;rw [List.getElem?_map,List.getElem?_eq_getElem hl];rfl
 rw [hr] at he
 injection he with he
 refine ⟨i,es[i],by unfold idxR;rw [hf],hl,List.getElem?_eq_getElem hl,by rw [he] at hq;exact hq,?_,hf⟩
 exact (DjX (p:=es[i].2) (k:=es[i].1.key) hf (by rw [hr,he])).symm
theorem rkey_any (base:Nat) (x:Nat) (A:YA) (c:Nat) (es:Ens) (N F:Nat) (q:Int) (w:World) (h:Rn base w x A c es N F) (hn:es.length≤1000) :
  Calls prog 33 #[.pointer (some ⟨x,0,none⟩),.int .i64 q] w (RetKy (keyR (rgE es) q) (hasR (rgE es) q) w):=by
 have HI:=η (BnX base x A c es N F q w h hn)
 have H:=η h
 clear h
 cases hv:hasR (rgE es) q
 ·rw [EvQ hv]
  rw [AxV hv] at HI;clear hv;go_enter func33,ntmps33;go_wp2_with fail;refine HI.o.mono ?_;rintro e w1 ⟨rfl,hb⟩;have HB:=η hb;clear hb;go_wp2_with fail;go_ret2;exact ⟨none,0,rfl,OwnB.nil_ _ _,HB.o⟩
 ·obtain ⟨i,e0,hi,hl,he,_,hk,_⟩:=rg_at hv
  rw [hi] at HI;rw [←hk];clear hv hi hk;obtain ⟨n,HN⟩:∃ n,Hid (es.length=n):=⟨_,η rfl⟩;have HE:=η he;have HKL:=η (H.o.ok e0 (List.mem_of_getElem? he)).2.1;have hlt:decide ((i:Int)<0)=false:=decide_eq_false (by omega);rw [HN.o] at hn hl;clear he;go_enter func33,ntmps33;go_wp2_with fail;refine HI.o.mono ?_;rintro e w1 ⟨rfl,hb⟩;have HB:=η hb;have H1:=η (H.o.step hb);clear hb;have hc0:=H1.o.c0;rw [HN.o] at hc0;obtain ⟨g,e1,rfl,_,hg,he1,_,_,hrg,_,_⟩:=H1.o.at_ (i:=i) (by rw [HN.o];exact hl);rw [HE.o] at he1;injection he1 with he1;subst he1
  have HRB:Hid (RB w1 w1.heap.size (some ⟨g,i*18+2,none⟩) 16 e0.1.key):=η ⟨HKL.o,fun _=>⟨g,i*18+2,rfl,hg,fun j hj=>by
   rw [Nat.add_assoc]
   refine hrg (2+j) _ ?_
   unfold enR
   rw [show 2+j=j+1+1 by omega,List.getElem?_cons_succ,List.getElem?_cons_succ]
   simp [bvs,hj]⟩⟩
  clear hrg hg;go_wp2_with fail;refine (CfJ (some ⟨g,i*18+2,none⟩) 16 16 w1.heap.size e0.1.key w1 (by exact HRB.o) (Nat.le_refl _) (by omega)).mono ?_;rintro e w2 ⟨A2,c2,rfl,ho,hb2⟩;have HO:=η (ho.base_le HB.o.size);have HB2:=η (AaJ HB.o hb2);clear ho hb2;go_wp2_with fail;go_ret2;exact ⟨A2,c2,by rw [HKL.o];rfl,by rw [HKL.o];exact HO.o,HB2.o⟩
theorem box_no (base:Nat) (x:Nat) (A:YA) (c:Nat) (es:Ens) (N F:Nat) (q:Int) (w:World) (h:Rn base w x A c es N F) (hn:es.length≤1000) (hv:hasR (rgE es) q=false) :
  Calls prog 81 #[.pointer (some ⟨x,0,none⟩),.int .i64 q] w fun e w'=>e=.returned (.tuple #[.pointer none,.bool false])∧Below w.heap.size w w':=by
 have HI:=η (BnX base x A c es N F q w h hn)
 rw [AxV hv] at HI
 clear hv h
 go_enter func81,ntmps81
 go_wp2_with fail
 refine HI.o.mono ?_
 rintro e w1 ⟨rfl,hb⟩
 have HB:=η hb
 clear hb
 go_wp2_with fail
 go_ret2
 exact ⟨rfl,HB.o⟩
theorem BkQ (base:Nat) (x:Nat) (A:YA) (c:Nat) (es:Ens) (N F:Nat) (q:Int) (w:World) (h:Rn base w x A c es N F) (hn:es.length≤1000) (hv:hasR (rgE es) q=true) :
  ∃ (i:Nat) (e0:EB×Int),es[i]?=some e0∧BbZ (rgE es) q=some i∧e0.2=q∧e0.1.key=keyR (rgE es) q ∧
  Calls prog 81 #[.pointer (some ⟨x,0,none⟩),.int .i64 q] w fun e w'=>e=.returned (.tuple #[.pointer (some ⟨e0.1.x,0,none⟩),.bool true])∧Below w.heap.size w w':=by
 have HI:=η (BnX base x A c es N F q w h hn)
 have H:=η h
 clear h
 obtain ⟨i,e0,hi,hl,he,hq,hk,hf⟩:=rg_at hv
 rw [hi] at HI
 clear hv hi
 refine ⟨i,e0,he,hf,hq,hk,?_⟩
 clear hq hk hf
 obtain ⟨n,HN⟩:∃ n,Hid (es.length=n):=⟨_,η rfl⟩
 have HE:=η he
 have hlt:decide ((i:Int)<0)=false:=decide_eq_false (by omega)
 rw [HN.o] at hn hl
 clear he
 go_enter func81,ntmps81
 go_wp2_with fail
 refine HI.o.mono ?_
 rintro e w1 ⟨rfl,hb⟩
 have HB:=η hb
 have H1:=η (H.o.step hb)
 clear hb
 have hc0:=H1.o.c0
 rw [HN.o] at hc0
 obtain ⟨g,e1,rfl,_,hg,he1,_,_,_,hc1,_⟩:=H1.o.at_ (i:=i) (by rw [HN.o];exact hl)
 rw [HE.o] at he1
 injection he1 with he1
 subst he1
 clear hg
 go_wp2_with fail
 go_ret2
 exact ⟨rfl,HB.o⟩
theorem CjQ (base:Nat) (x:Nat) (A:YA) (c:Nat) (es:Ens) (N F:Nat) (w:World) (h:Rn base w x A c es N F) (hn:es.length≤1000) :
  Calls prog 36 #[.pointer (some ⟨x,0,none⟩)] w fun e w'=>e=.returned (.tuple #[.int .i64 (newR (rgE es)).1,.bool (newR (rgE es)).2])∧Below w.heap.size w w':=by
 have H:=η h
 rcases Nat.eq_zero_or_pos es.length with h0 | h0
 ·obtain rfl:es=[]:=List.eq_nil_of_length_eq_zero h0
  have hc0:=h.c0;clear h h0 hn;show Calls _ _ _ _ fun e w'=>e=.returned (.tuple #[.int .i64 0,.bool false])∧Below w.heap.size w w';go_enter func36,ntmps36;go_wp2_with fail;go_ret2;exact ⟨rfl,Below.refl _ _⟩
 ·obtain ⟨m,hm⟩:∃ m,es.length=m+1:=⟨es.length - 1,by omega⟩
  have hml:m<es.length:=by omega
  obtain ⟨n,HN⟩:∃ n,Hid (es.length=n):=⟨_,η rfl⟩;have hc0:=h.c0;rw [HN.o] at hc0;obtain ⟨g,e0,rfl,_,hg,he,_,_,_,_,hc1⟩:=h.at_ (i:=m) hml
  have hnew:newR (rgE es)=(e0.2,true):=by
   have hl:0<(rgE es).length:=by rw [BlW];exact h0
   rw [DsY hl];have:es[m]=e0:=by rw [List.getElem?_eq_getElem hml] at he;injection he
   simp [BhX,rgE,hm,this]
  rw [hnew];have r1:(n:Int) - 1=(m:Int):=by have:=HN.o;omega
  have hd:((n:Int) == 0)=false:=by rw [beq_eq_false_iff_ne];have:=HN.o;omega
  have hmn:m<n:=by have:=HN.o;omega
  rw [HN.o] at hn;clear hg he hnew h hml hm h0;go_enter func36,ntmps36;go_wp2_with fail;go_quiet (fail);go_wp2_with fail;go_ret2;exact ⟨rfl,AdV (Below.refl _ _) _⟩
open Go.RowKit
def isSq (q:Int):Bool:=decide (0≤q∧q≤127)
theorem DaQ (q:Int) (w:World):Calls prog 68 #[.int .i64 q] w fun e w'=>e=.returned (.bool (isSq q))∧w=w':=by
 by_cases h0:0≤q
 ·have d0:decide (q≥0)=true:=decide_eq_true h0
  by_cases h1:q≤127
  ·have d1:decide (q≤127)=true:=decide_eq_true h1
   rw [show isSq q=true by unfold isSq;exact decide_eq_true ⟨h0,h1⟩];go_enter func68,ntmps68;go_wp2_with fail;go_ret;exact ⟨rfl,rfl⟩
  ·have d1:decide (q≤127)=false:=decide_eq_false h1
   rw [show isSq q=false by unfold isSq;exact decide_eq_false (fun e=>h1 e.2)];go_enter func68,ntmps68;go_wp2_with fail;go_ret;exact ⟨rfl,rfl⟩
 ·have d0:decide (q≥0)=false:=decide_eq_false h0
  rw [show isSq q=false by unfold isSq;exact decide_eq_false (fun e=>h0 e.1)];go_enter func68,ntmps68;go_wp2_with fail;go_ret;exact ⟨rfl,rfl⟩
theorem Rn.new {w w':World} {x:Nat} (h:Blk 133 w' x [.slice none 0 0]) (hx:w.heap.size≤x) (N F:Nat):Rn w.heap.size w' x none 0 [] N F :=
 ⟨h,Grd.nil_ _ _ _ _,fun e he=>(by cases he),List.Pairwise.nil,hx⟩
theorem CnW (w:World):Calls prog 39 #[] w fun e w'=>∃ x,e=.returned (.pointer (some ⟨x,0,none⟩))∧Below w.heap.size w w'∧Rn w.heap.size w' x none 0 [] 1 0:=by
 have h:=Blk.new w 133 [.slice none 0 0] _ rfl
 go_enter func39,ntmps39
 go_wp2_with fail
 go_ret
 exact ⟨_,rfl,AaK _ _,Rn.new h (Nat.le_refl _) 1 0⟩
theorem BwJ {vs cs:List Value} (h:vs.length=cs.length):AxJ cs 0 vs=vs:=by
 rw [BwK vs cs 0 (by omega),List.take_zero,Nat.zero_add,List.drop_of_length_le (by omega),List.append_nil,List.nil_append]
theorem bld_en (p:YA) (q:Int) (l:YB) (hl:l.length=16):prog.built 130 [(0,.pointer p),(1,.int .i64 q),(2,.agg (bvs l).toArray)]=some (.pointer p::.int .i64 q::bvs l).toArray:=by
 match l,hl with
 | [a0,a1,a2,a3,a4,a5,a6,a7,a8,a9,b0,b1,b2,b3,b4,b5],_=>show prog.built _ _=_;kernel_rfl
noncomputable def bldE (a b c:Value) (w:World):Result Next:=Sem.run prog (do let r ←Instr.build 130 #[(0,a),(1,b),(2,c)];pure (Next.value r)) w
theorem ex_blE (ev:Operand→Value) (x y z:Operand) (d:Option Tmp) (ty:TypeId) (ps:String) (af:Array Edge) (g:Option (Nat×Bool)) (w:World):(execOp ev ⟨d,.build 130 #[(0,x),(1,y),(2,z)],ty,ps,af,g⟩).run prog w=bldE (ev x) (ev y) (ev z) w:=by
 unfold bldE execOp
 simp only [List.map_toArray,List.map_cons,List.map_nil]
theorem ex_ldK (ev:Operand→Value) (x:Operand) (d:Option Tmp) (ty:TypeId) (ps:String) (af:Array Edge) (g:Option (Nat×Bool)) (w:World):(execOp ev ⟨d,.load 128 x,ty,ps,af,g⟩).run prog w=ldHd 128 (ev x) w:=rfl
theorem bl_en (p:YA) (q:Int) (l:YB) (hl:l.length=16) (w:World):bldE (.pointer p) (.int .i64 q) (.agg (bvs l).toArray) w=.ok (.value (.agg (.pointer p::.int .i64 q::bvs l).toArray)) w:=by
 unfold bldE
 simp only [Sem.run_bind,run_build w _ #[(0,.pointer p),(1,.int .i64 q),(2,.agg (bvs l).toArray)] _ (bld_en p q l hl),Result.andThen_ok,Sem.run_pure]
noncomputable def bsE (a:Value) (w:World):Result Next:=Sem.run prog (do let r ←Instr.buildSlice 131 1 #[(0,a)];pure (Next.value r)) w
theorem ex_bsE (ev:Operand→Value) (x:Operand) (d:Option Tmp) (ty:TypeId) (ps:String) (af:Array Edge) (g:Option (Nat×Bool)) (w:World):(execOp ev ⟨d,.buildSlice 131 1 #[(0,x)],ty,ps,af,g⟩).run prog w=bsE (ev x) w:=by
 unfold bsE execOp
 simp only [List.map_toArray,List.map_cons,List.map_nil]
theorem bs_en (p:YA) (q:Int) (l:YB) (hl:l.length=16) (w:World):bsE (.agg (.pointer p::.int .i64 q::bvs l).toArray) w=.ok (.value (.slice (some ⟨w.heap.size,0,none⟩) 1 1)) (w.alloc (.cells (.pointer p::.int .i64 q::bvs l).toArray 130)):=by
 obtain ⟨i0,hi0,hz0,hz1,_⟩:=gt_en.parts
 have hf:Instr.fill (fun i=>some (i*i0.size,i0.size)) ((Array.range (1*i0.size)).map ((Value.agg zEn.toArray).cells[· % (Value.agg zEn.toArray).cells.size]!)) [(0,.agg (.pointer p::.int .i64 q::bvs l).toArray)]=some (.pointer p::.int .i64 q::bvs l).toArray:=by
  rw [hz1]
  match l,hl with
  | [a0,a1,a2,a3,a4,a5,a6,a7,a8,a9,b0,b1,b2,b3,b4,b5],_=>show Instr.fill _ _ _=_;kernel_rfl
 have hr:=run_buildSlice (P:=prog) w 131 130 1 #[(0,.agg (.pointer p::.int .i64 q::bvs l).toArray)] _ i0 _ underlying131 hi0 hz0 (by rw [hz1,BxV];decide) (by rw [hz1,BxV];decide) hf
 unfold bsE
 simp only [Sem.run_bind,hr,Result.andThen_ok,Sem.run_pure]
theorem EnW:RT 128 (bvs (List.replicate 16 0)):=⟨AsJ (by kernel_rfl),by kernel_rfl⟩
theorem DlY (l:YB):(bvs l).length=l.length:=by simp [bvs]
theorem DwW (ts:Array TypeId) (ty ty':TypeId) (a:Array Value):Builtin.append_ ts ty a=Builtin.append_ ts ty' a:=rfl
theorem rb_blk {T:TypeId} {w:World} {q:Nat} {l:YB} (k:Blk T w q (bvs l)):RB w w.heap.size (some ⟨q,0,none⟩) l.length l :=
 ⟨rfl,fun _=>⟨q,0,rfl,k.lt,fun i hi=>by rw [Nat.zero_add,k.cell];simp only [bvs,List.getElem?_map,List.getElem?_eq_getElem hi,Option.map_some]⟩⟩
def RetRn (base x:Nat) (A:YA) (es:Ens) (N F:Nat) (s:Rg) (w w':World):Prop :=
 ∃ (A':YA) (c':Nat) (es':Ens),Rn base w' x A' c' es' N F∧rgE es'=s∧Oth (x::blkO A) w w'∧(∀ e∈es',e∈es∨w.heap.size≤e.1.L)∧(∀ g∈blkO A',g∈blkO A∨w.heap.size≤g)
attribute [local go_sem ↓] ex_blE ex_ldK ex_bsE
theorem FbZ (base:Nat) (x:Nat) (A:YA) (c:Nat) (es:Ens) (N F:Nat) (q:Int) (l:YB) (w:World) (h:Rn base w x A c es N F) (hn:es.length≤1000) (hl:l.length=16) (h1:1≤N) (hbw:base≤w.heap.size) :
  Calls prog 69 #[.pointer (some ⟨x,0,none⟩),.int .i64 q,.agg (bvs l).toArray] w fun e w'=>e=.returned (.tuple #[])∧RetRn base x A es N F (rgE es++[(q,l)]) w w':=by
 have H:=η h
 have HNN:=η (And.intro hn (And.intro h1 hbw))
 obtain ⟨n,HN⟩:∃ n,Hid (es.length=n):=⟨_,η rfl⟩
 have HL:=η hl
 clear h hl h1 hbw hn
 go_enter func69,ntmps69
 go_wp2_with (first
  | (refine AeV rfl 128 (.tmp 2) rfl (bvs l) rfl ?_;intro w1 g1 k1 hb1 hg1;have K1:=η k1;have HB1:=η (And.intro hb1 hg1);clear k1 hb1 hg1))
 refine (DbX (some ⟨g1,0,none⟩) 16 l w1 (by have:=rb_blk K1.o;rw [HL.o] at this;exact this) (Nat.le_refl _)).mono ?_
 intro e w2 hr
 obtain ⟨b,rfl,hbk,hb2,hbL,hbH,hbo⟩:=EB.of_new hr
 have K2:=η (K1.o.step hb2)
 have HB2:=η (AaJ HB1.o.1 hb2)
 have H2:=η (H.o.step HB2.o)
 have HBO:=η (And.intro hbk (And.intro hbL (And.intro hbH hbo)))
 have HS1:=η HB1.o.1.size
 clear hr hb2 hbk hbL hbH hbo HB1 K1
 obtain ⟨A',c',W,hrun,hG,hO,hA'⟩:=BvX gt_en 0 (d:=1) (H2.o.grd.step ((Below.refl _ _).drew.trans (AaK w2.drew (.cells (enR (b,q)).toArray 130)))) (by
  have:=RdG.lit1 130 w2.drew (enR (b,q)) (EyY _)
  rw [enR_len (by show b.key.length=16;rw [HBO.o.1];exact HL.o)] at this
  exact this) (by have:=HNN.o.1;omega) (by omega) (Nat.le_trans HNN.o.2.2 (Nat.le_trans HB2.o.size (by simp)))
 rw [HN.o] at hrun
 have HRUN:Hid (∀ ty,(Builtin.append_ #[131,131] ty #[.slice A n c,.slice (some ⟨w2.heap.size,0,none⟩) 1 1]).run prog (w2.drew.alloc (.cells (enR (b,q)).toArray 130))=.ok (.slice A' (n+1) c') W):=η (fun ty=>by rw [DwW _ ty 0];exact hrun)
 have HG:=η hG
 have HO2:Hid (Oth (blkO A) w2 W):=η ((Oth.of_below ((Below.refl _ _).drew.trans (AaK w2.drew _))).trans hO)
 have HA:=η hA'
 have hxW:Hid (Blk 133 W x [.slice A n c]):=η (by
  have:=H2.o.blk.oth HO2.o H2.o.nx
  rw [HN.o] at this
  exact this)
 have hcW:=hxW.o.cell 0
 have hfW:=hxW.o.free 0
 have hcx:=H2.o.c0
 rw [HN.o] at hcx
 have hcx2:=((AaK w2 (.cells (Value.pointer (some ⟨b.x,0,none⟩)::.int .i64 q::bvs l).toArray 130)).cell (p:=⟨x,0,none⟩) H2.o.blk.lt).trans hcx
 have hld:∀ W:World,W.heap=w2.heap→ldHd 128 (.pointer (some ⟨g1,0,none⟩)) W=.ok (.value (.agg (bvs l).toArray)) W:=fun W e=>CgK EnW (T':=128) (cs:=bvs l) (by unfold Blk;rw [e];exact K2.o) (by rw [List.drop_zero];exact List.take_of_length_le (by simp [bvs,HL.o])) (by simp [bvs,HL.o])
 have hl1:=hld w2.drew rfl
 have hbe:=bl_en (some ⟨b.x,0,none⟩) q l HL.o
 have hbs:=bs_en (some ⟨b.x,0,none⟩) q l HL.o
 have hen:enR (b,q)=.pointer (some ⟨b.x,0,none⟩)::.int .i64 q::bvs l:=by unfold enR;rw [show (b,q).1.key=l from HBO.o.1]
 rw [hen] at HRUN
 clear hen hrun hG hO hA' hld
 have HEND:Hid (RetRn base x A es N F (rgE es++[(q,l)]) w (W.setCell ⟨x,0,none⟩ (.slice A' (n+1) c'))):=η (by
  refine ⟨A',c',es++[(b,q)],?_,?_,?_,?_,?_⟩
  ·have hn1:(es++[(b,q)]).length=n+1:=by rw [List.length_append,HN.o];rfl
   have hox:Oth [x] W (W.setCell ⟨x,0,none⟩ (.slice A' (n+1) c')):=(Oth.refl [x] W).set (by simp) 0 _
   have hxA:x∉blkO A':=HG.o.away hxW.o (by decide)
   have hall:Oth (x::blkO A) w2 (W.setCell ⟨x,0,none⟩ (.slice A' (n+1) c')):=(HO2.o.more (fun k hk=>.tail _ hk)).trans (hox.more (fun k hk=>by rw [List.mem_singleton.1 hk];exact .head _))
   have hxlt:x<w.heap.size:=H.o.blk.lt
   have hbL:w.heap.size≤b.L:=by rw [HBO.o.2.1];exact HS1.o
   have hnew:∀ g∈blkO A',g∈blkO A∨w2.heap.size≤g:=fun g hg=>(HA.o g hg).imp id (fun k=>by simp at k;omega)
   refine ⟨?_,?_,fun e he=>?_,?_,H.o.low⟩
   ·rw [hn1];exact hxW.o.set 0 _
   ·show Grd _ 18 _ base A' (es++[(b,q)]).length c' ((es++[(b,q)]).map enR)
    have hG1:=HG.o
    rw [HN.o] at hG1
    rw [hn1,List.map_append]
    exact hG1.oth hox (fun g hg hm=>hxA (by rw [List.mem_singleton] at hm;rw [←hm];exact hg))
   ·rcases List.mem_append.1 he with he | he
    ·obtain ⟨o1,o2,o3,o4,o5⟩:=H2.o.ok e he
     refine ⟨o1.off hall (fun g hg=>?_),o2,o3,o4,fun g hg=>?_⟩
     ·rcases List.mem_cons.1 hg with rfl | hg
      ·exact o4
      ·exact o5 g hg
     ·rcases hnew g hg with hg | hg
      ·exact o5 g hg
      ·exact .inr (Nat.le_trans o1.le hg)
    ·rw [List.mem_singleton.1 he]
     have hlow:∀ g∈x::blkO A,b.o g:=fun g hg=>by
      refine .inl (Nat.lt_of_lt_of_le ?_ hbL)
      rcases List.mem_cons.1 hg with rfl | hg
      ·exact hxlt
      ·exact (H.o.grd.lt g hg).2
     refine ⟨(HBO.o.2.2.2.off hall hlow).up HNN.o.2.1 (Nat.zero_le _),by show b.key.length=16;rw [HBO.o.1];exact HL.o,Nat.le_trans HNN.o.2.2 hbL,hlow x (.head _),fun g hg=>?_⟩
     rcases hnew g hg with hg | hg
     ·exact hlow g (.tail _ hg)
     ·exact .inr (by rw [HBO.o.2.2.1];exact hg)
   ·refine List.pairwise_append.2 ⟨H.o.pw,List.pairwise_singleton _ _,fun a ha c hc=>?_⟩
    rw [List.mem_singleton.1 hc]
    exact Nat.le_trans (H.o.ok a ha).1.le hbL
  ·unfold rgE;rw [List.map_append];show _++[((b,q).2,(b,q).1.key)]=_;rw [show (b,q).1.key=l from HBO.o.1]
  ·have hox:Oth [x] W (W.setCell ⟨x,0,none⟩ (.slice A' (n+1) c')):=(Oth.refl [x] W).set (by simp) 0 _
   exact ((Oth.of_below HB2.o).trans (HO2.o.more (fun k hk=>.tail _ hk))).trans (hox.more (fun k hk=>by rw [List.mem_singleton.1 hk];exact .head _))
  ·intro e he
   rcases List.mem_append.1 he with he | he
   ·exact .inl he
   ·right;rw [List.mem_singleton.1 he];show w.heap.size≤b.L;rw [HBO.o.2.1];exact HS1.o
  ·exact fun g hg=>(HA.o g hg).imp id (fun k=>by have:=HB2.o.size;simp at k;omega))
 clear HG HO2 HA HBO K2
 go_wp2_with fail
 go_region_law (refine BlV rfl (.tmp 17) (.tmp 22) 131 rfl _ _ _ rfl rfl HRUN.o ?_)
 all_goals (go_wp2_with fail;exact ⟨rfl,_,results_none rfl _ _ _,rfl,HEND.o⟩)
end Go.Proofs.YthppjgdnibfefaaGreat
namespace Go.Proofs.YthppjgdnibfefaaGreat
open Tryz
open Go.RowKit
theorem BtY {q:Int} (h:isSq q=true):0≤q∧q≤127:=by unfold isSq at h;exact of_decide_eq_true h
theorem sq_no {q:Int} (h:isSq q=false):¬(0≤q∧q≤127):=by unfold isSq at h;exact of_decide_eq_false h
section
variable {s:Rg} {q:Int} {k:YB}
theorem BrX (h:isSq q=false):AlJ s q k=(s,11):=by unfold AlJ;rw [if_pos (fun e=>sq_no h ⟨e.1,e.2.1⟩)]
theorem DaW (h:k.length≠16):AlJ s q k=(s,11):=by unfold AlJ;rw [if_pos (fun e=>h e.2.2)]
theorem CjX (h:isSq q=true) (hk:k.length=16) (hh:hasR s q=true):AlJ s q k=(s,16):=by
 unfold AlJ;rw [if_neg (fun e=>e ⟨(BtY h).1,(BtY h).2,hk⟩),if_pos hh]
theorem DaX (h:isSq q=true) (hk:k.length=16) (hh:hasR s q=false) (hl:s.length=16):AlJ s q k=(s,18):=by
 unfold AlJ;rw [if_neg (fun e=>e ⟨(BtY h).1,(BtY h).2,hk⟩),if_neg (by rw [hh];decide),if_pos hl]
theorem DaY (h:isSq q=true) (hk:k.length=16) (hh:hasR s q=false) (hl:s.length≠16):AlJ s q k=(s++[(q,k)],0):=by
 unfold AlJ;rw [if_neg (fun e=>e ⟨(BtY h).1,(BtY h).2,hk⟩),if_neg (by rw [hh];decide),if_neg hl]
theorem CbK (h:isSq q=false):retR s q=(s,11):=by unfold retR;rw [if_pos (sq_no h)]
theorem DpV (h:isSq q=true) (hh:hasR s q=false):retR s q=(s,17):=by
 unfold retR;rw [if_neg (fun e=>e (BtY h)),if_neg (by rw [hh];decide)]
theorem DpW (h:isSq q=true) {i:Nat} (hf:BbZ s q=some i):retR s q=(s.eraseIdx i,0):=by
 have hh:hasR s q=true:=by unfold hasR;rw [hf];rfl
 unfold retR;rw [if_neg (fun e=>e (BtY h)),if_pos hh,hf];rfl
end
theorem RetRn.same {base x:Nat} {A:YA} {c:Nat} {es:Ens} {N F:Nat} {w w':World} (h:Rn base w x A c es N F) (hb:Below w.heap.size w w'):RetRn base x A es N F (rgE es) w w' :=
 ⟨A,c,es,h.step hb,rfl,Oth.of_below hb,fun e he=>.inl he,fun g hg=>.inl hg⟩
theorem RetRn.later {base x:Nat} {A:YA} {es:Ens} {N F:Nat} {s:Rg} {w w1 w':World} (hb:Below w.heap.size w w1) (h:RetRn base x A es N F s w1 w'):RetRn base x A es N F s w w':=by
 obtain ⟨A',c',es',h1,h2,h3,h4,h5⟩:=h
 exact ⟨A',c',es',h1,h2,(Oth.of_below hb).trans h3,fun e he=>(h4 e he).imp id (fun k=>Nat.le_trans hb.size k),fun g hg=>(h5 g hg).imp id (fun k=>Nat.le_trans hb.size k)⟩
theorem rb_range {w:World} {b o n:Nat} {l:YB} (h:RB w w.heap.size (some ⟨b,o,none⟩) n l) (hn:0<n):w.rangeAt b o (bvs l):=fun j v hv=>by
 obtain ⟨b',o',e,_,hc⟩:=h.2 hn
 injection e with e
 injection e with e1 e2
 subst e1;subst e2
 have hj:j<l.length:=by have:=(List.getElem?_eq_some_iff.1 hv).1;simpa [bvs] using this
 rw [hc j hj,←hv]
 simp [bvs,hj]
theorem BjZ (base:Nat) (x:Nat) (A:YA) (c:Nat) (es:Ens) (N F:Nat) (q:Int) (K:YA) (m d:Nat) (l:YB) (w:World) (h:Rn base w x A c es N F) (hn:es.length≤16) (hk:RB w w.heap.size K m l) (hd:m≤d) (h1:1≤N) (hbw:base≤w.heap.size) :
  Calls prog 38 #[.pointer (some ⟨x,0,none⟩),.int .i64 q,.slice K m d] w fun e w'=>e=.returned (.int .i64 (AlJ (rgE es) q l).2)∧RetRn base x A es N F (AlJ (rgE es) q l).1 w w':=by
 have H:=η h
 have HK:=η hk
 have hlen:=hk.len
 have HNN:=η (And.intro h1 hbw)
 obtain ⟨n,HN⟩:∃ n,Hid (es.length=n):=⟨_,η rfl⟩
 have HS:=DaQ q
 have HI:=η (BnX base x A c es N F q w h (by omega))
 have hn2:n≤16:=by rw [←HN.o];exact hn
 clear h hk h1 hbw hn
 cases hs:isSq q
 ·rw [BrX hs]
  rw [hs] at HS;have HSS:=η HS;clear hs HS;go_enter func38,ntmps38;go_wp2_with fail;refine (HSS.o _).mono ?_;rintro e w1 ⟨rfl,rfl⟩;go_wp2_with fail;go_ret;exact ⟨rfl,RetRn.same H.o (Below.refl _ _)⟩
 ·rw [hs] at HS
  have HSS:=η HS;by_cases hm:m=16
  ·subst hm
   obtain ⟨b,o,rfl⟩:∃ b o,K=some ⟨b,o,none⟩:=by obtain ⟨b,o,e,_⟩:=HK.o.2 (by omega);exact ⟨b,o,e⟩
   cases hv:hasR (rgE es) q
   ·rw [AxV hv] at HI
    by_cases hl:n=16
    ·rw [DaX hs hlen hv (by rw [BlW,HN.o];exact hl)]
     subst hl;clear hs HS hv;go_enter func38,ntmps38;go_wp2_with fail;refine (HSS.o _).mono ?_;rintro e w1 ⟨rfl,rfl⟩;go_wp2_with fail;refine HI.o.mono ?_;rintro e w1 ⟨rfl,hb⟩;have HB:=η hb;have hc0:=(H.o.step hb).c0;rw [HN.o] at hc0;clear hb;go_wp2_with fail;go_ret;exact ⟨rfl,RetRn.same H.o HB.o⟩
    ·rw [DaY hs hlen hv (by rw [BlW,HN.o];exact hl)]
     have hge:decide ((n:Int)≥16)=false:=decide_eq_false (by omega);have harr:∀ W:World,(Instr.arrayAt 128 (.slice (some ⟨b,o,none⟩) 16 d)).run prog W=.ok (.pointer (some ⟨b,o,none⟩)) W:=fun W=>run_arrayAt (P:=prog) W 128 _ 16 _ 16 d underlying128 (Nat.le_refl _);clear hs HS hv;go_enter func38,ntmps38;go_wp2_with fail;refine (HSS.o _).mono ?_;rintro e w1 ⟨rfl,rfl⟩;go_wp2_with fail;refine HI.o.mono ?_;rintro e w1 ⟨rfl,hb⟩;have HB:=η hb;have H1:=η (H.o.step hb);have hc0:=H1.o.c0;rw [HN.o] at hc0;have HR:=η (rb_range (HK.o.step hb) (by omega));clear hb
     go_wp2_with (first
      | (refine BfV EnW rfl (.tmp 28) rfl b o rfl (bvs l) HR.o (by rw [DlY,hlen];rfl) ?_))
     refine (FbZ base x A c es N F q l w1 (by exact H1.o) (by rw [HN.o];omega) hlen HNN.o.1 (Nat.le_trans HNN.o.2 HB.o.size)).mono ?_;rintro e w2 ⟨rfl,hr⟩;have HR2:=η (hr.later HB.o);clear hr;go_wp2_with fail;go_ret;exact ⟨rfl,HR2.o⟩
   ·rw [CjX hs hlen hv]
    obtain ⟨i,hi,_,_⟩:=CcW hv;rw [hi] at HI;have hge:decide ((i:Int)≥0)=true:=decide_eq_true (by omega);clear hs HS hv hi;go_enter func38,ntmps38;go_wp2_with fail;refine (HSS.o _).mono ?_;rintro e w1 ⟨rfl,rfl⟩;go_wp2_with fail;refine HI.o.mono ?_;rintro e w1 ⟨rfl,hb⟩;have HB:=η hb;clear hb;go_wp2_with fail;go_ret;exact ⟨rfl,RetRn.same H.o HB.o⟩
  ·rw [DaW (by omega)]
   have hne:((m:Int) == 16)=false:=by rw [beq_eq_false_iff_ne];omega
   have hne2:((m:Int) != 16)=true:=by simp [bne,hne]
   clear hs HS;go_enter func38,ntmps38;go_wp2_with fail;refine (HSS.o _).mono ?_;rintro e w1 ⟨rfl,rfl⟩;go_wp2_with fail;go_ret;exact ⟨rfl,RetRn.same H.o (Below.refl _ _)⟩
def RetRnA (base x:Nat) (A:YA) (es:Ens) (N F:Nat) (s:Rg) (w w':World):Prop :=
 ∃ (c':Nat) (es':Ens),Rn base w' x A c' es' N F∧rgE es'=s∧Oth (x::blkO A) w w'∧∀ e∈es',e∈es
theorem RetRnA.all {base x:Nat} {A:YA} {es:Ens} {N F:Nat} {s:Rg} {w w':World} (h:RetRnA base x A es N F s w w'):RetRn base x A es N F s w w':=by
 obtain ⟨c',es',h1,h2,h3,h4⟩:=h
 exact ⟨A,c',es',h1,h2,h3,fun e he=>.inl (h4 e he),fun g hg=>.inl hg⟩
theorem RetRnA.same {base x:Nat} {A:YA} {c:Nat} {es:Ens} {N F:Nat} {w w':World} (h:Rn base w x A c es N F) (hb:Below w.heap.size w w'):RetRnA base x A es N F (rgE es) w w' :=
 ⟨c,es,h.step hb,rfl,Oth.of_below hb,fun e he=>he⟩
theorem RetRnA.cut {base x:Nat} {A:YA} {c:Nat} {es:Ens} {N F i n:Nat} {w w1 W:World} (h:Rn base w1 x A c es N F) (hb:Below w.heap.size w w1) (hi:i<es.length) (hn:es.length=n) (hg:Grd 130 18 W base A (n - 1) c ((es.map enR).eraseIdx i)) (ho:Oth (blkO A) w1 W) :
  RetRnA base x A es N F ((rgE es).eraseIdx i) w (W.setCell ⟨x,0,none⟩ (.slice A (n - 1) c)):=by
 have hl:(es.eraseIdx i).length=n - 1:=by rw [List.length_eraseIdx_of_lt hi,hn]
 have hox:Oth [x] W (W.setCell ⟨x,0,none⟩ (.slice A (n - 1) c)):=(Oth.refl [x] W).set (by simp) 0 _
 have hall:Oth (x::blkO A) w1 (W.setCell ⟨x,0,none⟩ (.slice A (n - 1) c)):=(ho.more (fun k hk=>.tail _ hk)).trans (hox.more (fun k hk=>by rw [List.mem_singleton.1 hk];exact .head _))
 have hx:=h.blk.oth ho h.nx
 have hmem:∀ e∈es.eraseIdx i,e∈es:=fun e he=>List.mem_of_mem_eraseIdx he
 refine ⟨c,es.eraseIdx i,⟨?_,?_,fun e he=>?_,h.pw.sublist (List.eraseIdx_sublist _ _),h.low⟩,?_,(Oth.of_below hb).trans hall,hmem⟩
 ·rw [hl];exact hx.set 0 _
 ·show Grd _ 18 _ base A (es.eraseIdx i).length c ((es.eraseIdx i).map enR)
  rw [hl,show (es.eraseIdx i).map enR=(es.map enR).eraseIdx i by simp only [List.eraseIdx_eq_take_drop_succ,List.map_append,List.map_take,List.map_drop]];exact hg.oth hox (fun g hg' hm=>h.nx (by rw [List.mem_singleton] at hm;rw [←hm];exact hg'))
 ·obtain ⟨o1,o2,o3,o4,o5⟩:=h.ok e (hmem e he)
  refine ⟨o1.off hall (fun g hg=>?_),o2,o3,o4,o5⟩;rcases List.mem_cons.1 hg with rfl | hg
  ·exact o4
  ·exact o5 g hg
 ·unfold rgE;simp only [List.eraseIdx_eq_take_drop_succ,List.map_append,List.map_take,List.map_drop]
theorem DiK (base:Nat) (x:Nat) (A:YA) (c:Nat) (es:Ens) (N F:Nat) (q:Int) (w:World) (h:Rn base w x A c es N F) (hn:es.length≤16) :
  Calls prog 73 #[.pointer (some ⟨x,0,none⟩),.int .i64 q] w fun e w'=>e=.returned (.int .i64 (retR (rgE es) q).2)∧RetRnA base x A es N F (retR (rgE es) q).1 w w':=by
 have H:=η h
 obtain ⟨n,HN⟩:∃ n,Hid (es.length=n):=⟨_,η rfl⟩
 have HS:=DaQ q
 have HI:=η (BnX base x A c es N F q w h (by omega))
 have hn2:n≤16:=by rw [←HN.o];exact hn
 clear h hn
 cases hs:isSq q
 ·rw [CbK hs]
  rw [hs] at HS;have HSS:=η HS;clear hs HS;go_enter func73,ntmps73;go_wp2_with fail;refine (HSS.o _).mono ?_;rintro e w1 ⟨rfl,rfl⟩;go_wp2_with fail;go_ret;exact ⟨rfl,RetRnA.same H.o (Below.refl _ _)⟩
 ·rw [hs] at HS
  have HSS:=η HS;cases hv:hasR (rgE es) q
  ·rw [AxV hv] at HI
   rw [DpV hs hv];clear hs HS hv;go_enter func73,ntmps73;go_wp2_with fail;refine (HSS.o _).mono ?_;rintro e w1 ⟨rfl,rfl⟩;go_wp2_with fail;refine HI.o.mono ?_;rintro e w1 ⟨rfl,hb⟩;have HB:=η hb;clear hb;go_wp2_with fail;go_ret;exact ⟨rfl,RetRnA.same H.o HB.o⟩
  ·obtain ⟨i,hi,hf,hl⟩:=CcW hv
   rw [hi] at HI;rw [DpW hs hf];rw [BlW,HN.o] at hl;have hge:decide ((i:Int)<0)=false:=decide_eq_false (by omega);clear hs HS hv hi hf;go_enter func73,ntmps73;go_wp2_with fail;refine (HSS.o _).mono ?_;rintro e w1 ⟨rfl,rfl⟩;go_wp2_with fail;refine HI.o.mono ?_;rintro e w1 ⟨rfl,hb⟩;have HB:=η hb;have H1:=η (H.o.step hb);have hc0:=H1.o.c0;rw [HN.o] at hc0;clear hb;go_wp2_with fail;refine (del_any base A n c i _ (es.map enR) w1 (by have:=H1.o.grd;unfold GE at this;rw [HN.o] at this;exact this) hl (by omega) (by first | rfl | simp)).mono ?_;rintro e W ⟨rfl,hg,ho⟩;have HR:=η (RetRnA.cut H1.o HB.o (by rw [HN.o];exact hl) HN.o hg ho);have hcW:=(H1.o.blk.oth ho H1.o.nx).cell 0;rw [HN.o] at hcW;have hcW2:W.cell? ⟨x,0,none⟩=some (.slice A n c):=hcW;have hfW:=(H1.o.blk.oth ho H1.o.nx).free 0;clear hg ho hcW;go_wp2_with fail;go_ret;exact ⟨rfl,HR.o⟩
theorem EbQ (base:Nat) (x:Nat) (A:YA) (c:Nat) (es:Ens) (N F:Nat) (q:Int) (w:World) (h:Rn base w x A c es N F) (hn:es.length≤16) :
  Calls prog 73 #[.pointer (some ⟨x,0,none⟩),.int .i64 q] w fun e w'=>e=.returned (.int .i64 (retR (rgE es) q).2)∧RetRn base x A es N F (retR (rgE es) q).1 w w' :=
 (DiK base x A c es N F q w h hn).mono fun e w' k=>⟨k.1,k.2.all⟩
theorem EbV (base:Nat) (x:Nat) (A:YA) (c:Nat) (es:Ens) (N F:Nat) (w:World) (h:Rn base w x A c es N F) (hn:es.length≤1000) :
  Calls prog 48 #[.pointer (some ⟨x,0,none⟩)] w fun e w'=>∃ (y:Nat) (B:YA) (d:Nat) (fs:Ens),e=.returned (.pointer (some ⟨y,0,none⟩))∧Below w.heap.size w w'∧Rn w.heap.size w' y B d fs 1 0∧rgE fs=rgE es:=by
 have H:=η h
 obtain ⟨n,HN⟩:∃ n,Hid (es.length=n):=⟨_,η rfl⟩
 rw [HN.o] at hn
 clear h
 go_enter func48,ntmps48
 go_wp2_with fail
 refine (CnW w).mono ?_
 rintro e w1 ⟨y,rfl,hb1,hr1⟩
 have HB1:=η hb1
 have HR1:=η hr1
 have hc0:=(H.o.step hb1).c0
 rw [HN.o] at hc0
 clear hb1 hr1
 go_wp2_with fail
 go_loopw [12] (fun i wr=>∃ (k:Nat),k≤n∧i=.int .i64 (k:Int)∧Hid (Below w.heap.size w wr∧∃ (B:YA) (d:Nat) (fs:Ens),Rn w.heap.size wr y B d fs 1 0∧rgE fs=(rgE es).take k)) (fun i _=>n - (intOf i).toNat)
 case atStart=>exact ⟨0,by omega,rfl,η ⟨HB1.o,none,0,[],HR1.o,rfl⟩⟩
 case round =>
  obtain ⟨k,hk,rfl,HK⟩:=hrel;by_cases hlt:k<n
  ·have HG:=η (H.o.step HK.o.1)
   obtain ⟨g,e0,rfl,_,_,he,hm,hl,hrg,_,_⟩:=HG.o.at_ (i:=k) (by rw [HN.o];exact hlt);have HE:=η (And.intro he hm);have HR2:=η (And.intro hl hrg);have HKL:=η (HG.o.ok e0 hm).2.1;obtain ⟨B,d,fs,hfs,hfe⟩:=HK.o.2;have HFS:=η (And.intro hfs hfe);clear he hl hrg hm hfs hfe
   go_wp2_with (first
    | (refine BfV rt_en rfl (.tmp 14) rfl g (k*18) (by first | rfl | simp [Act.eval,Act.put]) (enR e0) HR2.o.2 HR2.o.1 ?_)
    | (refine AbJ rt_en rfl rfl ?_;intro w2 q2 k2 hb2 hq2;have K2:=η k2;have HB2:=η hb2;have HQ2:=η hq2;clear k2 hb2 hq2)
    | (refine AtK rt_en rfl (.tmp 5) (.tmp 15) rfl q2 0 rfl zEn (enR e0) rfl (EyY e0) HR2.o.1 K2.o (by show 0+18≤18;omega) ?_;intro w3 k3 ho3 hs3;have K3:Hid (Blk 130 w3 q2 (enR e0)):=η (by have z:=k3;rw [BwJ HR2.o.1] at z;exact z);have hc3:w3.cell? ⟨q2,1,none⟩=some (.int .i64 e0.2):=(by have z:=K3.o.cell 1;exact z);have HB3:=η (HB2.o.trans (ho3.below (fun j hj=>by rw [List.mem_singleton.1 hj];exact HQ2.o) HB2.o.size));clear k3 ho3 hs3)
    | (refine AtW EnW rfl (.tmp 19) rfl q2 2 rfl (enR e0) (bvs e0.1.key) K3.o (by unfold enR;rw [List.drop_succ_cons,List.drop_succ_cons,List.drop_zero];exact List.take_of_length_le (by rw [DlY,HKL.o];exact Nat.le_refl _)) (by rw [DlY,HKL.o];rfl) ?_))
   refine (FbZ w.heap.size y B d fs 1 0 e0.2 e0.1.key w3 (by exact HFS.o.1.step HB3.o) (by have:=congrArg List.length HFS.o.2;rw [BlW,List.length_take] at this;omega) HKL.o (Nat.le_refl _) (Nat.le_trans HK.o.1.size HB3.o.size)).mono ?_;rintro e w4 ⟨rfl,hr⟩;obtain ⟨B4,d4,fs4,hr4,he4,ho4,_,hb4⟩:=hr;have HR4:=η hr4
   have HE4:Hid (rgE fs4=(rgE es).take (k+1)):=η (by
    rw [he4,HFS.o.2,List.take_add_one]
    congr 1
    unfold rgE
    rw [List.getElem?_map,HE.o.1]
    rfl)
   have HB4:Hid (Below w.heap.size w w4):=η ((AaJ HK.o.1 HB3.o).trans (ho4.below (fun j hj=>by
    rcases List.mem_cons.1 hj with rfl | hj
    ·exact HFS.o.1.low
    ·exact (HFS.o.1.grd.lt j hj).1) (Nat.le_trans HK.o.1.size HB3.o.size)))
   clear hr4 he4 ho4 hb4;go_wp2_with fail;go_roundw
   case rel=>exact ⟨k+1,by omega,by go_num,η ⟨HB4.o,B4,d4,fs4,HR4.o,HE4.o⟩⟩
   case measure=>simp [intOf];omega
  ·have hkn:k=n:=by omega
   subst hkn;obtain ⟨B,d,fs,hfs,hfe⟩:=HK.o.2;have HFS:=η (And.intro hfs hfe);clear hfs hfe;go_wp2_with fail;go_ret;exact ⟨y,B,d,fs,rfl,HK.o.1,HFS.o.1,by rw [HFS.o.2];exact List.take_of_length_le (by rw [BlW,HN.o];exact Nat.le_refl _)⟩
