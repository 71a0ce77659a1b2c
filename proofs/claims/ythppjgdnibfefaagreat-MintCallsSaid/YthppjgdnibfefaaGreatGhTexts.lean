import Derived.Shelf.RegionOpen
import Derived.Test.YthppjgdnibfefaaGreatGhHash
set_option linter.all false
set_option maxRecDepth 100000
set_option maxHeartbeats 32000000
namespace Go.Proofs.YthppjgdnibfefaaGreat
open Tryz
open Go.RowKit Go.Shelf
def z16:List UInt8:=List.replicate 16 0
theorem zero16 (w:World):(zeroValue 128).run prog w=.ok (.agg (bvs z16).toArray) w:=by
 have h:(prog.info? 128).bind (·.zero)=some (.agg (bvs z16).toArray):=by kernel_rfl
 rcases hi:prog.info? 128 with _ | i
 ·rw [hi] at h;simp at h
 ·rw [hi] at h
  have hz:i.zero=some (.agg (bvs z16).toArray):=h;simp [zeroValue,typeInfo,hi,hz]
theorem BmJ:z16.length=16:=List.length_replicate
def DbV (bs:YB) (k:Nat):List UInt8:=(bs.drop (16*k)).take 16
theorem DbQ (bs:YB) (k:Nat):(DbV bs k).length=min 16 (bs.length - 16*k):=by simp [DbV]
theorem pad_lay (bs:YB) (k:Nat):layL z16 0 (DbV bs k)=padK bs k 16:=by
 apply List.ext_getElem?
 intro j
 rw [BzJ _ _ _ _ (by omega),DbQ]
 by_cases hj:j<16
 ·rw [BbV bs k 16 j hj,if_pos hj]
  by_cases h2:16*k+j<bs.length
  ·rw [if_pos ⟨by omega,by omega⟩,DbV,List.getElem?_take,if_pos (by omega),List.getElem?_drop,Nat.sub_zero,List.getD_eq_getElem?_getD,List.getElem?_eq_getElem h2]
   rfl
  ·rw [if_neg (by omega),List.getD_eq_getElem?_getD,List.getElem?_eq_none (show bs.length≤16*k+j by omega),z16,List.getElem?_replicate,if_pos hj]
   rfl
 ·have hz:=BmJ
  have hp:=AfZ bs k 16;rw [if_neg (by omega),List.getElem?_eq_none (by omega),List.getElem?_eq_none (by omega)]
theorem up_16:prog.underlying 128=some (.array 16 5):=by kernel_rfl
theorem sz_16:(prog.info? 128).map (·.size)=some 16:=by kernel_rfl
def KpB (n₀ B:Nat) (W W':World):Prop:=Below n₀ W W'∧W'.heap[B]?=W.heap[B]?
theorem kpB_t {n₀ B:Nat} {W1 W2 W3:World} (h:KpB n₀ B W1 W2) (k:KpB n₀ B W2 W3):KpB n₀ B W1 W3:=⟨h.1.trans k.1,k.2.trans h.2⟩
theorem kpB_b {n₀ B:Nat} {w:World} (hn:n₀≤w.heap.size) (hB:B<w.heap.size) (W:World) (l:Nat) (o o':Obj) (hl:w.heap.size≤l) (h:W.heap[l]?=some o) (h1:o.isCells=false) (h2:o.isWalk=false):KpB n₀ B W (W.putObj l o') :=
 ⟨belowK_b hn W l o o' hl h h1 h2,(belowK_b (Nat.le_refl _) W l o o' hl h h1 h2).block B hB⟩
theorem CdW {W W':World} (hb:Below W.heap.size W W'):W.grownBy W' none:=⟨hb.os,hb.tape,hb.output,hb.size,fun k hk _=>hb.block k hk⟩
section
variable {F:Fence} {n:Nat} {w:World} {ops:Array Oper} {rest:List Oper} {o:Oper} {a:Act} {Q:Exit→Act→World→Prop}
theorem CjW (hgd:o.guard=none) (x:Operand) (hop:o.op=.load 128 x) (g:Nat) (hx:a.eval x=.pointer (some ⟨g,0,none⟩)) (l:YB) (hl:l.length=16) (hc:Ar w g 0 l)
  (hk:wpListIn F n prog ops Q rest (a.put o.dst (AV l)) w):wpListIn F n prog ops Q (o::rest) a w:=by
 refine wpListIn_plain hgd fun K hK=>⟨fun f hf=>?_,?_⟩
 ·simp [Oper.about,hop] at hf
 ·rw [Oper.semAt_eq _ _ _ (by simp [hop])]
  unfold execOp;simp only [hop,hx,Instr.loadAt,Instr.sureAddr,Sem.run_bind,Sem.run_pure,Result.andThen_ok,run_loadVar_mid (P:=prog) w g 0 _ (bvs l) (.array 16 5) hc.1 up_16 rfl (by rw [AaY,hl];exact sz_16)];exact hK _ _ hk
end
theorem EkX (g:Nat) (W:World):(Instr.sliceAt 128 (.pointer (some ⟨g,0,none⟩)) none none none).run prog W=.ok (.slice (some ⟨g,0,none⟩) 16 16) W:=by kernel_rfl
theorem EaX (m k:Nat) (hk:k<m):(List.range m).take k++[k]=(List.range m).take (k+1):=by
 rw [List.take_add_one,List.getElem?_range hk];rfl
attribute [local irreducible] padK DbV AV
attribute [local go_sem] Oper.semAt_some
theorem div1_in (n:Nat) (hn:1≤n) (l B m c n₀:Nat) (A:YA) (bs:YB) (J Jx:List Nat→World→Prop) (B0:Nat) (hJa:AbidesFrom B0 J)
  (hY:∀ pre x W,J pre W→pre.length<(m+15) / 16→YieldAt Fence.wide (n - 1) prog l #[AV (padK bs x 16)] W fun e W'=>(e=.returned (.bool true)∧J (pre++[x]) W'∧KpB n₀ B W W')∨(e=.returned (.bool false)∧Jx (pre++[x]) W'))
  (W:World) (hB:W.cell? ⟨B,0,none⟩=some (.slice A m c)) (hR:RB W n₀ A m bs) (hmc:m≤c) (hm:m≤1000000000) (hn0:n₀≤W.heap.size) (hBW:B<W.heap.size) (hJ0:J [] W) :
  CallsIn Fence.wide n prog 218 #[.func (.yield l) #[] #[],.pointer (some ⟨B,0,none⟩)] W fun e W'=>(∃ v,e=.returned v) ∧
   ((∃ ys,ys=List.range ((m+15) / 16)∧J ys W')∨(∃ pre,pre <+: List.range ((m+15) / 16)∧Jx pre W')):=by
 have HR:=η hR
 have hlen:=hR.len
 have hzr:=zero16
 have HJA:=η hJa
 clear hR hJa
 obtain ⟨M,HM⟩:∃ M,Hid (M=(m+15) / 16):=⟨_,η rfl⟩
 have hM:=HM.o
 rw [←HM.o] at hY ⊢
 have HRT:=η (EaX M)
 obtain ⟨rs,HRS⟩:∃ rs,Hid (rs=List.range M∧rs.length=M):=⟨_,η ⟨rfl,List.length_range⟩⟩
 rw [←HRS.o.1] at HRT ⊢
 refine callsIn_of_wp func218 rfl trivial ?_ rfl
 simp only [ntmps218,List.size_toArray,List.length_cons,List.length_nil,Nat.reduceAdd,Nat.reduceSub,Array.replicate_succ,Array.replicate_zero,List.push_toArray,List.append_toArray,List.nil_append,List.cons_append]
 gi_wp2
 gi_loopw [3] (fun t wr=>∃ k:Nat,k≤M∧t=.int .i64 (16*(k:Int))∧Hid (J (rs.take k) wr)∧Hid (KpB n₀ B W wr∧W.heap.size≤wr.heap.size)) (fun t _=>m+16 - (intOf t).toNat)
 case atStart=>exact ⟨0,by omega,by simp,η (by rw [List.take_zero];exact hJ0),η ⟨⟨Below.refl _ _,rfl⟩,Nat.le_refl _⟩⟩
 case round =>
  obtain ⟨k,hk,rfl,hJ,hb⟩:=hrel;clear hJ0;have hcB:wr.cell? ⟨B,0,none⟩=some (.slice A m c):=(World.cell?_of_block hb.o.1.2).trans hB;by_cases hlt:16*k<m
  ·have h16i:(16*(k:Int))<(m:Int):=by omega
   have hwr:IntKind.i64.wrap (16*(k:Int)+16)=16*(k:Int)+16:=by rw [IntKind.wrap_i64];omega
   obtain ⟨T,HT⟩:∃ T,Hid (T=DbV bs k∧T.length=min (m - 16*k) 16):=⟨_,η ⟨rfl,by rw [DbQ,hlen];omega⟩⟩
   have hcut:∀ W:World,(Instr.slice 41 (.slice A m c) (some (.int .i64 (16*(k:Int)))) none none).run prog W=.ok (.slice (cutA A c (16*k)) (m - 16*k) (c - 16*k)) W:=by
    intro W;have h:=CbY A m c (16*k) (by omega) W;rwa [show ((16*k:Nat):Int)=16*(k:Int) by omega] at h
   have hpart:=(HR.o.below hb.o.1.1).part (i:=16*k) (j:=m) (c:=c) (by omega) (Nat.le_refl _) hmc;rw [List.take_of_length_le (by omega)] at hpart;obtain ⟨g,o,hA,hg,hcells⟩:=hpart.2 (by omega);rw [hA] at hcut;have hsl:=EkX wr.heap.size;obtain ⟨W2,HW2⟩:∃ W2,Hid (W2=(wr.alloc (.cells (bvs z16).toArray 128)).drew):=⟨_,η rfl⟩;obtain ⟨W3,HW3⟩:∃ W3,Hid (W3=W2.setCells wr.heap.size 0 (bvs T)):=⟨_,η rfl⟩;have hAr2:Ar W2 wr.heap.size 0 z16:=by rw [HW2.o];exact (Ar.new wr z16 _).drew
   have hBel2:Below wr.heap.size wr W2:=by rw [HW2.o];exact (AaK wr _).drew
   have hcp:(Builtin.copy_ #[41,41] 3 #[.slice (some ⟨wr.heap.size,0,none⟩) 16 16,.slice (some ⟨g,o,none⟩) (m - 16*k) (c - 16*k)]).run prog (wr.alloc (.cells (bvs z16).toArray 128)).drew=.ok (.int .i64 (T.length:Int)) W3:=by
    rw [HW3.o,←HW2.o]
    have h:=run_copy_cells (P:=prog) W2 41 41 3 5 wr.heap.size 0 16 16 ⟨g,o,none⟩ (m - 16*k) (c - 16*k) (bvs T) underlying41 (by kernel_rfl) (by rw [AaY,HT.o.2]) (fun j v hv=>by
     rw [Addr.add_mid]
     have hjT:j<T.length:=by have:=(List.getElem?_eq_some_iff.1 hv).1;rwa [AaY] at this
     have hjl:=HT.o.2
     rw [BqQ,HT.o.1] at hv
     have e1:(DbV bs k)[j]?=(bs.drop (16*k))[j]?:=by unfold DbV;rw [List.getElem?_take,if_pos (by omega)]
     rw [e1] at hv
     rcases hx:(bs.drop (16*k))[j]? with _ | x
     ·rw [hx] at hv;simp at hv
     ·rw [hx] at hv
      injection hv with hv
      rw [←hv]
      have hjb:j<(bs.drop (16*k)).length:=(List.getElem?_eq_some_iff.1 hx).1
      have hcj:=hcells j hjb
      have hx3:(bs.drop (16*k))[j]=x:=by have:=List.getElem?_eq_getElem hjb;rw [hx] at this;injection this with this;exact this.symm
      rw [hx3] at hcj
      exact (hBel2.cell (p:=⟨g,o+j,none⟩) (by show g<_;have:=hb.o.2;omega)).trans hcj) (fun j hj=>by
     rw [AaY,HT.o.2] at hj
     exact (hAr2.2 j (by rw [AaY,BmJ];omega)).1) (fun j hj=>by
     rw [AaY,HT.o.2] at hj
     exact (hAr2.2 j (by rw [AaY,BmJ];omega)).2) (BhX _)
    rw [h,AaY];rfl
   have HA3:Hid (Ar W3 wr.heap.size 0 (padK bs k 16)):=η (by
    have h:=hAr2.lay 0 T (by rw [HT.o.2,BmJ];omega)
    rw [Nat.add_zero,←HW3.o,HT.o.1,pad_lay] at h
    exact h)
   have hBel3:Below wr.heap.size wr W3:=by rw [HW3.o];exact AaQ hBel2 (Nat.le_refl _) _ _
   have HJ3:Hid (J (rs.take k) W3):=η (HJA.o _ wr W3 none hJ.o (CdW hBel3) (fun r e=>by cases e));have HB3:Hid (KpB n₀ B W W3∧W.heap.size≤W3.heap.size):=η ⟨kpB_t hb.o.1 ⟨hBel3.mono (by have:=hb.o.2;omega),hBel3.block B (by have:=hb.o.2;omega)⟩,Nat.le_trans hb.o.2 hBel3.size⟩;have hcB2:(wr.alloc (.cells (bvs z16).toArray 128)).drew.cell? ⟨B,0,none⟩=some (.slice A m c):=by rw [←HW2.o];exact (hBel2.cell (p:=⟨B,0,none⟩) (by show B<_;have:=hb.o.2;omega)).trans hcB
   have HKM:=η (show k<M by omega);have HLT:Hid ((rs.take k).length=k):=η (by rw [List.length_take,HRS.o.2];omega);have HP:=η (AfZ bs k 16);obtain ⟨fn,tmps,assign,body,hy,hRd⟩:=hY _ k W3 HJ3.o (by rw [HLT.o];exact HKM.o);have HRD:=η hRd;clear hRd hAr2 hBel2 hBel3 hcells hpart hA hY;gi_wp2_with fail;gi_region
   all_goals
    gi_wp2_with (first | (refine CjW rfl (.tmp 4) rfl wr.heap.size rfl _ HP.o (by exact HA3.o) ?_))
   refine HRD.o.mono ?_;rintro e W4 (⟨rfl,hJ4,hk4⟩ | ⟨rfl,hJx4⟩)
   ·gi_wp2
    go_roundw
    case rel=>exact ⟨k+1,by omega,by congr 1,η (by rw [←HRT.o k HKM.o];exact hJ4),η ⟨kpB_t HB3.o.1 hk4,Nat.le_trans HB3.o.2 hk4.1.size⟩⟩
    case measure=>simp [intOf];omega
   ·gi_wp2
    refine bodyPost_ret (results_none rfl _ _ _) rfl ?_;exact ⟨⟨_,rfl⟩,.inr ⟨_,by rw [HRT.o k HKM.o];exact List.take_prefix _ _,hJx4⟩⟩
  ·obtain rfl:k=M:=by omega
   gi_wp2;go_end0;exact ⟨⟨_,rfl⟩,.inl ⟨_,rfl,by have h:=hJ.o;rw [List.take_of_length_le (by rw [HRS.o.2];omega)] at h;exact h⟩⟩
end Go.Proofs.YthppjgdnibfefaaGreat
namespace Go.Proofs.YthppjgdnibfefaaGreat
open Tryz
open Go.RowKit Go.Shelf
theorem EdZ (A:YA) (m c:Nat) (w:World):Calls prog 208 #[.slice A m c] w fun e w'=>e=.returned (.func (.func 218) #[] #[.pointer (some ⟨w.heap.size,0,none⟩)])∧w'=w.alloc (.cells #[.slice A m c] 41):=by
 go_enter func208,ntmps208
 go_wp2_with fail
 go_ret
 exact ⟨rfl,rfl⟩
theorem EyW (n:Nat) (hn:1≤n) (B m c n₀:Nat) (A:YA) (bs:YB) (w:World) (hB:w.cell? ⟨B,0,none⟩=some (.slice A m c)) (hR:RB w n₀ A m bs) (hmc:m≤c) (hm:m≤1000000000) (hn0:n₀≤w.heap.size) (hBW:B<w.heap.size) :
  SeqStopsK Fence.wide n prog 218 #[.pointer (some ⟨B,0,none⟩)] (fun i:Nat=>#[AV (padK bs i 16)]) (KpB n₀ B) (fun ys=>ys=List.range ((m+15) / 16)) (fun pre=>pre <+: List.range ((m+15) / 16)) ((m+15) / 16) w:=fun l J Jx W hW hJ _ hY h0 =>
 div1_in n hn l B m c n₀ A bs J Jx W.heap.size hJ hY W ((hW.cell (p:=⟨B,0,none⟩) hBW).trans hB) (hR.below (hW.mono hn0)) hmc hm (Nat.le_trans hn0 hW.size) (Nat.lt_of_lt_of_le hBW hW.size) h0
section
variable {F:Fence} {n:Nat} {w:World} {ops:Array Oper} {rest:List Oper} {o:Oper} {a:Act} {Q:Exit→Act→World→Prop}
theorem CjQ (hgd:o.guard=none) (x y:Operand) (hop:o.op=.store 128 x y) (g:Nat) (hx:a.eval x=.pointer (some ⟨g,0,none⟩)) (l l0:YB) (hy:a.eval y=AV l) (hl:l.length=16) (hl0:l0.length=16) (hc:Ar w g 0 l0)
  (hk:wpListIn F n prog ops Q rest (a.put o.dst undef) (w.setCells g 0 (bvs l))):wpListIn F n prog ops Q (o::rest) a w:=by
 refine wpListIn_plain hgd fun K hK=>⟨fun f hf=>?_,?_⟩
 ·simp [Oper.about,hop] at hf
 ·rw [Oper.semAt_eq _ _ _ (by simp [hop])]
  unfold execOp;have hy':a.eval y=.agg (bvs l).toArray:=hy;have hth:w.there g 0 (bvs l).toArray.size:=by have:=hc.2;rw [AaY,hl0] at this;simpa [AaY,hl] using this
  simp only [hop,hx,hy',Instr.storeAt,Instr.sureAddr,Sem.run_bind,Sem.run_pure,Result.andThen_ok,run_storeVar_mid (P:=prog) w g 0 _ (bvs l).toArray hth (by simpa [AaY,hl] using sz_16) (CqK l)];exact hK _ _ (by simpa using hk)
theorem CrJ (hgd:o.guard=none) (x:Operand) (hop:o.op=.load 247 x) (g:Nat) (hx:a.eval x=.pointer (some ⟨g,0,none⟩)) (y:Nat) (hc:Xw w g y)
  (hk:wpListIn F n prog ops Q rest (a.put o.dst (PE y)) w):wpListIn F n prog ops Q (o::rest) a w:=CrK hgd x hop g hx _ _ hc hk
theorem CqY (hgd:o.guard=none) (x y:Operand) (hop:o.op=.store 247 x y) (g:Nat) (hx:a.eval x=.pointer (some ⟨g,0,none⟩)) (p q:Nat) (hy:a.eval y=PE p) (hc:Xw w g q)
  (hk:wpListIn F n prog ops Q rest (a.put o.dst undef) (w.setCells g 0 (es (p / 2 ^ 64) (p % 2 ^ 64)))):wpListIn F n prog ops Q (o::rest) a w:=CqZ hgd x y hop g hx _ _ _ _ hy hc hk
theorem CjV (hgd:o.guard=none) (x:Operand) (hop:o.op=.buildSlice 270 1 #[(0,x)]) (y:Nat) (hx:a.eval x=PE y)
  (hk:wpListIn F n prog ops Q rest (a.put o.dst (.slice (some ⟨w.heap.size,0,none⟩) 1 1)) (w.alloc (.cells (eC y).toArray 247))):wpListIn F n prog ops Q (o::rest) a w:=by
 refine wpListIn_plain hgd fun K hK=>⟨fun f hf=>?_,?_⟩
 ·simp [Oper.about,hop] at hf
 ·rw [Oper.semAt_eq _ _ _ (by simp [hop])]
  unfold execOp;have hx2:a.eval x=EV (y / 2 ^ 64) (y % 2 ^ 64):=hx;simp only [hop,List.map_toArray,List.map_cons,List.map_nil,hx2,Sem.run_bind,DnY,Result.andThen_ok];exact hK _ _ hk
theorem CjX (hgd:o.guard=none) (s x:Operand) (hop:o.op=.call { callee:=.builtin .append,args:=#[s,x],argTypes:=#[270,270] })
  (base:Nat) (A:YA) (k c:Nat) (xs:List Nat) (hs:a.eval s=.slice A k c) (hown:OwnE w base A k c xs) (g m c':Nat) (ys:List Nat) (hx:a.eval x=.slice (some ⟨g,0,none⟩) m c') (hm:ys.length=m)
  (hcell:∀ j u,(ys.flatMap eC)[j]?=some u→w.cell? ⟨g,j,none⟩=some u) (hmax:k+m≤1000000000) (hbase:base≤w.heap.size)
  (hK:∀ A'' c'' w',OwnE w' base A'' (k+m) c'' (xs++ys)→Below base w w'→KeepsOthers w w'→wpListIn F n prog ops Q rest (a.put o.dst (.slice A'' (k+m) c'')) w'):wpListIn F n prog ops Q (o::rest) a w:=by
 have hX:=cells_pe
 obtain ⟨i0,hi0,hz0,hz1,hz2⟩:=info_parts hX.info
 refine wpListIn_append_own w hgd s x _ hop base _ i0 _ 2 16 hX.und hi0 hz0 hz1 hz2 hX.zk hX.pos (.slice A k c) k _ hs hown.1 ⟨g,0,none⟩ m c' (ys.flatMap eC) hx (by rw [CoZ hX.len,hm]) (fun j u hu=>by
   rw [Addr.add_mid,Nat.zero_add];exact hcell j u hu) (fun u hu=>by
   obtain ⟨y,_,hy⟩:=List.mem_flatMap.1 hu
   exact hX.one y u hy) (by unfold maxLen;omega) (by omega) hbase ?_
 intro v' w' k1 k2 _
 obtain ⟨A'',c'',rfl⟩:∃ A'' c'',v'=.slice A'' (k+m) c'':=by
  rcases k1.2 with ⟨rfl,h0⟩ | ⟨g,cap,cur,rfl,_⟩
  ·exact ⟨none,0,by rw [h0]⟩
  ·exact ⟨_,_,rfl⟩
 refine hK A'' c'' w' ⟨by rw [List.flatMap_append];exact k1,by rw [List.length_append,hown.2,hm]⟩ ((Below.refl _ _).grown k2 hbase (fun k hk=>(World.ownsRow.lt hown.1 k hk).1)) (KeepsOthers.of_grownBy k2 fun j o ej hj=>?_)
 rcases hown.1.2 with ⟨e,_⟩ | ⟨g,cap,cur,e,_,hh,_⟩
 ·rw [e] at ej;cases ej
 ·rw [e] at ej
  have e2:g=j:=Option.some.inj ej;have h3:=hh.symm.trans (e2 ▸ hj);rw [←Option.some.inj h3];rfl
end
theorem DqJ {W W':World} {row:Option Nat} {base k c:Nat} {A:YA} {xs:List Nat} (h:OwnE W base A k c xs) (hg:W.grownBy W' row) (hr:∀ r,row=some r→∃ o:Obj,W.heap[r]?=some o∧o.isCells=false):OwnE W' base A k c xs:=by
 refine ⟨⟨h.1.1,?_⟩,h.2⟩
 rcases h.1.2 with h0 | ⟨g,cap,cur,hv,hbg,hh,r⟩
 ·exact .inl h0
 ·exact .inr ⟨g,cap,cur,hv,hbg,(grownBy_keeps_cells hg hr hh rfl).trans hh,r⟩
theorem OwnE.set {W:World} {base k c:Nat} {A:YA} {xs:List Nat} (h:OwnE W base A k c xs) {p:Addr} (hp:p.block<base) (v:Value):OwnE (W.setCell p v) base A k c xs:=by
 refine ⟨⟨h.1.1,?_⟩,h.2⟩
 rcases h.1.2 with h0 | ⟨g,cap,cur,hv,hbg,hh,r⟩
 ·exact .inl h0
 ·exact .inr ⟨g,cap,cur,hv,hbg,(Below.heap_setCell W p v g (by omega)).trans hh,r⟩
def BkI (w:World) (bs:YB) (pre:List Nat) (W:World):Prop :=
 ∃ A1 c1,W.cell? ⟨w.heap.size,0,none⟩=some (.slice A1 pre.length c1)∧W.frozen? ⟨w.heap.size,0,none⟩=false∧OwnE W (w.heap.size+2) A1 pre.length c1 (pre.map fun i=>nB (padK bs i 16))∧Below w.heap.size w W∧w.heap.size+2≤W.heap.size
theorem bk_own (w:World) (bs:YB) (B:Nat) (hB:w.heap.size≤B):OwnFrom B (BkI w bs):=by
 intro s W W' row hs hg hr
 obtain ⟨A1,c1,h1,h2,h3,h4,h5⟩:=hs
 have hr':∀ r,row=some r→∃ o:Obj,W.heap[r]?=some o∧o.isCells=false:=fun r e=>(hr r e).2
 exact ⟨A1,c1,cell_kept h1 hg hr',(frozen_kept h1 hg hr').trans h2,DqJ h3 hg hr',ownFrom_below (Nat.le_refl _) hB s W W' row h4 hg hr,Nat.le_trans h5 hg.size⟩
theorem BkI.keep {w W W':World} {bs:YB} {pre:List Nat} (h:BkI w bs pre W) (hb:Below W.heap.size W W'):BkI w bs pre W':=by
 obtain ⟨A1,c1,h1,h2,h3,h4,h5⟩:=h
 have hl:w.heap.size<W.heap.size:=World.block_lt_of_cell? W _ h1
 exact ⟨A1,c1,(hb.cell (p:=⟨w.heap.size,0,none⟩) hl).trans h1,(hb.frozen (p:=⟨w.heap.size,0,none⟩) hl).trans h2,OwnX.below h3 hb,h4.trans (hb.mono h4.size),Nat.le_trans h5 hb.size⟩
def BkA (w:World) (bs:YB) (A:YA) (m c:Nat) (S:Nat) (x:Nat) (a':Act) (W:World):Prop :=
 ∃ b4,a'={ tmps:=#[Value.slice A m c,undef,Value.slice none 0 0,Value.pointer (some ⟨w.heap.size,0,none⟩),.pointer (some ⟨b4,0,none⟩),undef,undef,Value.slice A m c,Value.func (Fn.func 218) #[] #[Value.pointer (some ⟨w.heap.size+1,0,none⟩)],AV (padK bs x 16),undef,undef,undef,undef,undef,undef,undef,undef,undef,undef],defers:=[] }∧Ar W b4 0 (padK bs x 16)∧S≤b4
theorem bka_own (w:World) (bs:YB) (A:YA) (m c S B:Nat) (x:Nat) (a':Act):OwnFrom B (fun (_:Unit) W=>BkA w bs A m c S x a' W):=by
 intro s W W' row hs hg hr
 obtain ⟨b4,e,h,h2⟩:=hs
 have hr':∀ r,row=some r→∃ o:Obj,W.heap[r]?=some o∧o.isCells=false:=fun r e=>(hr r e).2
 obtain ⟨ob,ho,hc⟩:=cells_of_cell (h.cell (List.getElem?_eq_getElem (show 0<(padK bs x 16).length by rw [AfZ];omega)))
 exact ⟨b4,e,h.block (grownBy_keeps_cells hg hr' ho hc),h2⟩
attribute [local irreducible] padK PE nB AV
attribute [local go_sem] Oper.semAt_some
theorem CiW (A:YA) (m c:Nat) (bs:YB) (w:World) (hR:RB w w.heap.size A m bs) (hmc:m≤c) (hm:m≤1000000) :
  Calls prog 184 #[.slice A m c] w fun e w'=>∃ A1 c1,e=.returned (.slice A1 ((m+15) / 16) c1)∧OwnE w' w.heap.size A1 ((m+15) / 16) c1 (bks bs)∧Below w.heap.size w w':=by
 refine (callsIn_wide (n:=3)).1 ?_
 refine callsIn_of_wp_marks func184 rfl trivial ?_ rfl
 simp only [ntmps184,List.size_toArray,List.length_cons,List.length_nil,Nat.reduceAdd,Nat.reduceSub,Array.replicate_succ,Array.replicate_zero,List.push_toArray,List.append_toArray,List.nil_append,List.cons_append]
 gi_wp2_with (refine ⟨trivial,?_⟩;gi_at_call 208;refine (callsIn_wide.2 (EdZ _ _ _ _)).mono ?_;rintro e w1 ⟨rfl,rfl⟩)
 have hlen:=hR.len
 have HX:=η hR
 obtain ⟨W0,HW0⟩:∃ W0,Hid (W0=(w.alloc (.cells #[.slice none 0 0] 270)).alloc (.cells #[.slice A m c] 41)):=⟨_,η rfl⟩
 have hS0:W0.heap.size=w.heap.size+2:=by rw [HW0.o];simp
 have hbw:Below w.heap.size w W0:=by rw [HW0.o];exact (AaK w _).alloc (by simp) _
 have hcB:W0.cell? ⟨w.heap.size+1,0,none⟩=some (.slice A m c):=by rw [HW0.o,World.cell?_alloc_at _ _ _ _ (by simp)];rfl
 have hI0:BkI w bs [] W0:=by
  refine ⟨none,0,?_,?_,OwnX.nil_ _ _ _ _ _,hbw,by omega⟩
  ·rw [HW0.o,World.cell?_alloc_past _ _ _ (by simp),World.cell?_alloc_at _ _ _ _ rfl];rfl
  ·rw [HW0.o,World.frozen?_alloc_past _ _ _ (by simp),World.frozen?_alloc_at _ _ _ _ rfl]
 rw [←HW0.o]
 clear HW0
 refine wpIn_rangeFunc_ownH rfl (by omega) (gf:=218) (lb:=#[.pointer (some ⟨w.heap.size+1,0,none⟩)]) rfl trivial (enters_of func218 (by kernel_rfl) rfl)
  (EyW _ (by omega) (w.heap.size+1) m c w.heap.size A bs W0 hcB (hR.below hbw) hmc (by omega) (by omega) (by omega)) kpB_t (kpB_b (by omega) (by omega)) (Below.refl _ _) (fun _=>rfl)
  (BkI w bs) (fun _ _ _=>False) (bk_own w bs _ (by omega)) (fun _ _ _ _ _ hs _ _=>hs) hI0 (BkA w bs A m c (w.heap.size+2)) (bka_own w bs A m c _ _) ?assign ?body ?done ?stop
 case assign =>
  intro l pre x W K hi hK;have hzr:=zero16;have hs:w.heap.size+2≤W.heap.size:=by obtain ⟨_,_,_,_,_,_,h5⟩:=hi;exact h5
  have hbel:Below W.heap.size W ((W.alloc (.cells (bvs z16).toArray 128)).setCells W.heap.size 0 (bvs (padK bs x 16))):=AaQ (AaK _ _) (Nat.le_refl _) _ _;have HK:=η (hK _ _ ((AvQ hbel).from _) ⟨hbel.mono (by omega),hbel.block (w.heap.size+1) (by omega)⟩ (hi.keep hbel) ⟨W.heap.size,rfl,(Ar.new W z16 128).whole _ (by rw [AfZ,BmJ]),by omega⟩);clear hK hbel hi;gi_wp2_with (refine CjQ rfl (.tmp 4) (.tmp 9) rfl W.heap.size rfl (padK bs x 16) z16 rfl (AfZ _ _ _) BmJ (by exact Ar.new W z16 _) ?_);exact HK.o
 case body =>
  rintro l pre x a' W hl hrec hi ⟨b4,rfl,har,hb4⟩ hlen;have HPL:=η hlen;have h4W:b4<W.heap.size:=har.lt (by rw [AfZ];omega);obtain ⟨y,HY⟩:∃ y,Hid (y=nB (padK bs x 16)∧y<2 ^ 128):=⟨_,η ⟨rfl,EtV _ (AfZ _ _ _)⟩⟩
  have HOF:Hid (Calls prog 172 #[.slice (some ⟨b4,0,none⟩) 16 16] W fun e w'=>e=.returned (.tuple #[PE y,.int .i64 0])∧Below W.heap.size W w'):=η (by
   have hr:=har.rb (B:=W.heap.size) h4W
   rw [AfZ] at hr
   rw [HY.o.1,nB_pe _ (AfZ _ _ _)]
   exact of_ok _ 16 _ W (by omega) (AfZ _ _ _) hr)
  have HI:=η hi;have hs:w.heap.size+2≤W.heap.size:=by obtain ⟨_,_,_,_,_,_,h5⟩:=hi;exact h5
  have hsl:=EkX b4;clear hi har hlen hrec HX hcB hI0 hbw;gi_wp2_with (first | (refine ⟨trivial,?_⟩;gi_at_call 172;refine (CallsIn.inRound l (callsIn_wide.2 HOF.o)).mono ?_;rintro e w1 ⟨rfl,hb1⟩;have HB1:=η hb1;clear hb1;obtain ⟨w2,HW2⟩:∃ w2,Hid (w2=(w1.alloc (.cells #[.int .u64 0,.int .u64 0] 247)).setCells w1.heap.size 0 (es (y / 2 ^ 64) (y % 2 ^ 64))):=⟨_,η rfl⟩;have HB2:Hid (Below W.heap.size W w2):=η (by rw [HW2.o];exact AaQ (HB1.o.alloc HB1.o.size _) HB1.o.size _ _);have HX2:Hid (Xw w2 w1.heap.size y):=η (by rw [HW2.o];exact Ew.whole (Ew.new w1 0 0 _ rfl) _ _);have HI2:=η (HI.o.keep HB2.o);obtain ⟨A1,c1,k1,k2,k3,k4,k5⟩:=HI2.o;have HK3:=η k3;have HK5:=η (⟨k2,k5⟩:_∧_);clear k2 k3 k4 k5) | (refine CqY rfl (.tmp 5) (.tmp 13) rfl w1.heap.size rfl y 0 rfl (by exact Ew.new w1 0 0 _ rfl) ?_;show wpListIn _ _ _ _ _ _ _ ((w1.alloc (.cells #[.int .u64 0,.int .u64 0] 247)).setCells w1.heap.size 0 (es (y / 2 ^ 64) (y % 2 ^ 64)));rw [←HW2.o]) | (refine CrJ rfl (.tmp 5) rfl w1.heap.size rfl y (by exact HX2.o) ?_) | (refine CjV rfl (.tmp 16) rfl y rfl ?_) | (refine CjX rfl (.tmp 15) (.tmp 17) rfl (w.heap.size+2) A1 pre.length c1 (pre.map fun i=>nB (padK bs i 16)) rfl (by exact OwnX.below HK3.o (AaK _ _)) w2.heap.size 1 1 [y] rfl rfl (by exact EbX w2 y) (by have:=HPL.o;omega) (by have:=HK5.o.2;rw [World.size_alloc];omega) ?_;intro A2 c2 w3 ho3 hb3 hk3;have HO3:=η ho3;have HB3:=η hb3;have HKO:=η hk3;have k3c:w3.cell? ⟨w.heap.size,0,none⟩=some (.slice A1 pre.length c1):=(hb3.cell (p:=⟨w.heap.size,0,none⟩) (by show w.heap.size<w.heap.size+2;omega)).trans ((World.cell?_alloc_past _ _ _ (by show w.heap.size<_;have:=HK5.o.2;omega)).trans k1);have k3f:w3.frozen? ⟨w.heap.size,0,none⟩=false:=(hb3.frozen (p:=⟨w.heap.size,0,none⟩) (by show w.heap.size<w.heap.size+2;omega)).trans ((World.frozen?_alloc_past _ _ _ (by show w.heap.size<_;have:=HK5.o.2;omega)).trans HK5.o.1);clear ho3 hb3 hk3));have hs2:=HB2.o.size;have hs3:=HB3.o.size;rw [World.size_alloc] at hs3;have hch:Below (w.heap.size+2) W w3:=(HB2.o.mono (by omega)).trans (((AaK w2 _).mono (by omega)).trans HB3.o);refine ⟨((AvQ HB2.o).trans ((AvQ (AaK w2 _)).trans (HKO.o.trans (KeepsOthers.setCell _ _ _)))).from _,⟨(hch.mono (by omega)).setCell (p:=⟨w.heap.size,0,none⟩) (by simp) _,(Below.heap_setCell w3 ⟨w.heap.size,0,none⟩ _ (w.heap.size+1) (by simp)).trans (hch.block (w.heap.size+1) (by omega))⟩,?_⟩;refine ⟨A2,c2,?_,by simp [k3f],?_,?_,?_⟩
  ·rw [List.length_append,List.length_singleton]
   exact World.cell?_setCell_same w3 _ _ k3c
  ·rw [List.length_append,List.length_singleton,List.map_append,List.map_cons,List.map_nil,←HY.o.1]
   exact OwnE.set HO3.o (by simp) _
  ·obtain ⟨_,_,_,_,_,hbw2,_⟩:=HI.o
   exact (hbw2.trans (hch.mono (by omega))).setCell (p:=⟨w.heap.size,0,none⟩) (by simp) _
  ·simp
   omega
 case done =>
  rintro D ys W hD rfl hi hK;obtain ⟨A1,c1,h1,h2,h3,h4,h5⟩:=hi;have HO:=η h3;have HB:=η h4;have HK:=η hK;clear h2 h3 h4 h5 hK;gi_wp2_with fail;rw [List.length_range] at h1;refine ⟨by simp,.inl ⟨_,_,rfl,run_takeDeferred HK.o,?_⟩⟩;refine ⟨_,results_tmp rfl _ _ _,A1,c1,rfl,?_,?_⟩
  ·have h:=DqJ HO.o (grownBy_putObj' W D (.deferred none)) (fun r e=>by cases e;exact ⟨_,HK.o,rfl⟩)
   rw [List.length_range] at h;have e:(List.range ((m+15) / 16)).map (fun i=>nB (padK bs i 16))=bks bs:=by unfold bks bksN;rw [hlen]
   rw [e] at h;exact OwnX.base_le h (by omega)
  ·exact HB.o.trans (belowK_b (w:=w) (Nat.le_refl _) _ D _ _ (by omega) HK.o rfl rfl)
 case stop =>
  rintro D c pre W _ _ h _;exact h.elim
end Go.Proofs.YthppjgdnibfefaaGreat
namespace Go.Proofs.YthppjgdnibfefaaGreat
open Tryz
open Go.RowKit
theorem CxY (n:Nat) (hn:n≤1000000000):numL (AhX n)=8*n:=by
 have h:=BnZ 8 (n*8)
 rw [DuK (n*8) (by omega)] at h
 unfold AhX
 omega
theorem EqQ (l:YB) (h:l.length=16):padK l 0 16=l:=by
 apply List.ext_getElem?
 intro j
 by_cases hj:j<16
 ·rw [BbV l 0 16 j hj,if_pos hj,Nat.mul_zero,Nat.zero_add,List.getD_eq_getElem?_getD,List.getElem?_eq_getElem (by omega)]
  rfl
 ·rw [List.getElem?_eq_none (by rw [AfZ];omega),List.getElem?_eq_none (by omega)]
theorem EcQ (n1 n2:Nat) (h1:n1≤1000000000) (h2:n2≤1000000000):bks (AhX n1++AhX n2)=[hl (8*n1) (8*n2)]:=by
 have e:(AhX n1++AhX n2).length=16:=by rw [List.length_append,AwY,AwY]
 have e1:oH (AhX n1++AhX n2)=8*n1:=by unfold oH;rw [List.take_left' (AwY n1),CxY n1 h1]
 have e2:oL (AhX n1++AhX n2)=8*n2:=by unfold oL;rw [List.drop_left' (AwY n1),CxY n2 h2]
 unfold bks
 rw [e]
 show [nB (padK (AhX n1++AhX n2) 0 16)]=_
 rw [EqQ _ e]
 unfold nB
 rw [e1,e2]
theorem FaQ (A:YA) (n c:Nat) (w:World) (hn:n≤1000000000):Calls prog 185 #[.slice A n c] w fun e w'=>e=.returned (.int .u64 ((8*n:Nat):Int))∧w=w':=by
 go_enter func185,ntmps185
 go_wp2_with fail
 go_ret
 refine ⟨?_,rfl⟩
 congr 2
 try omega
theorem DuY (x:Nat) (w:World) (hx:x<2 ^ 128):Calls prog 186 #[PE x] w (RetB 16 (bB x) w):=by
 have h:=EbQ x hx
 exact EzX _ _ w h.1 h.2
theorem one_xe (a1 a2:Nat) (h1:a1<2 ^ 64) (h2:a2<2 ^ 64) (w:World):XE (w.alloc (.cells #[.int .u64 (a1:Int),.int .u64 (a2:Int)] 247)) (w.heap.size+1) (some ⟨w.heap.size,0,none⟩) 1 [hl a1 a2]:=by
 refine ⟨rfl,fun i x hx=>?_,fun _=>⟨w.heap.size,0,rfl,Nat.lt_succ_self _,fun i x hx=>?_⟩⟩
 ·match i,hx with
  | 0,hx=>injection hx with hx;rw [←hx];exact EvY _ _ h1 h2
 ·match i,hx with
  | 0,hx =>
   injection hx with hx;have up:=hl_up a1 a2 h2;rw [←hx,up.1,up.2];exact (Ew.new w a1 a2 _ rfl).1
theorem OwnX.apart {T:TypeId} {k:Nat} {f:Nat→List Value} {w:World} {base n c b:Nat} {A:YA} {xs:List Nat} (h:OwnX T k f w base A n c xs) (hb:b<base):∀ g o,A=some ⟨g,o,none⟩→g≠b:=by
 intro g o e hg
 rcases h.1.2 with ⟨hv,_⟩ | ⟨g2,cap,cur,hv,hbg,_⟩
 ·injection hv with hA
  rw [hA] at e;cases e
 ·injection hv with hA
  rw [hA] at e;injection e with e;injection e with e;omega
def RetG16 (l:YB) (b h:Nat) (w:World) (e:Ending) (w':World):Prop:=∃ A c,e=.returned (.slice A 16 c)∧OwnB w' w.heap.size A 16 c l∧But b w w'∧Ho w' b h true
attribute [local irreducible] PE gMul AiJ Ho bks AhX hl bB
theorem sum_gh (b h:Nat) (d:Bool) (A1 A2:YA) (n1 c1 n2 c2:Nat) (l1 l2:YB) (w:World) (o:Ho w b h d) (hh:h<2 ^ 128) (h1:RB w w.heap.size A1 n1 l1) (h2:RB w w.heap.size A2 n2 l2) (hc1:n1≤c1) (hc2:n2≤c2) (hn1:n1≤1000000) (hn2:n2≤1000000) (hne:∀ g o,0<n2→A2=some ⟨g,o,none⟩→g≠b) :
  Calls prog 152 #[.pointer (some ⟨b,0,none⟩),.slice A1 n1 c1,.slice A2 n2 c2] w (RetG16 (bB (sumG h l1 l2)) b h w):=by
 have HO0:=η o
 have H1:=η h1
 have H2:=η h2
 have HH:=η hh
 have HNE:=η hne
 have hbw:=o.lt
 have e1:=h1.len
 have e2:=h2.len
 obtain ⟨R,HR⟩:∃ R,Hid (R=bB (sumG h l1 l2)):=⟨_,η rfl⟩
 rw [←HR.o]
 obtain ⟨x3,HX3⟩:∃ x3,Hid (x3=hl (8*n1) (8*n2)):=⟨_,η rfl⟩
 obtain ⟨q1,HQ1⟩:∃ q1,Hid (q1=AiJ h 0 (bks l1)∧q1<2 ^ 128):=⟨_,η ⟨rfl,BlJ h hh _ 0 (by omega) (BdJ l1)⟩⟩
 obtain ⟨q2,HQ2⟩:∃ q2,Hid (q2=AiJ h q1 (bks l2)∧q2<2 ^ 128):=⟨_,η ⟨rfl,BlJ h hh _ _ HQ1.o.2 (BdJ l2)⟩⟩
 obtain ⟨q3,HQ3⟩:∃ q3,Hid (q3=AiJ h q2 [x3]∧q3<2 ^ 128):=⟨_,η ⟨rfl,BlJ h hh _ _ HQ2.o.2 (fun i x hx=>by
  match i,hx with
  | 0,hx=>injection hx with hx;rw [←hx,HX3.o];exact EvY _ _ (by omega) (by omega))⟩⟩
 have HRQ:Hid (R=bB q3):=η (by rw [HR.o,HQ3.o.1,HQ2.o.1,HQ1.o.1,HX3.o,←EcQ n1 n2 (by omega) (by omega),←CaK,←CaK];unfold sumG sumN;rw [e1,e2,List.append_assoc])
 rw [HRQ.o]
 clear HR HRQ o h1 h2 hh hne
 obtain ⟨m1,HM1⟩:∃ m1,Hid (m1=(n1+15) / 16∧m1≤100000):=⟨_,η ⟨rfl,by omega⟩⟩
 obtain ⟨m2,HM2⟩:∃ m2,Hid (m2=(n2+15) / 16∧m2≤100000):=⟨_,η ⟨rfl,by omega⟩⟩
 obtain ⟨a1,HA1⟩:∃ a1,Hid (a1=8*n1∧a1<2 ^ 64):=⟨_,η ⟨rfl,by omega⟩⟩
 obtain ⟨a2,HA2⟩:∃ a2,Hid (a2=8*n2∧a2<2 ^ 64):=⟨_,η ⟨rfl,by omega⟩⟩
 rw [←HA1.o.1,←HA2.o.1] at HX3
 have HF1:Hid (∀ (v:World) A c dd,Ho v b h dd→XE v v.heap.size A m1 (bks l1)→(∀ g o,A=some ⟨g,o,none⟩→g≠b)→Calls prog 183 #[.pointer (some ⟨b,0,none⟩),.agg #[.int .u64 0,.int .u64 0],.slice A m1 c] v (UseG (PE q1) b h (dd || decide (0<m1)) v)):=η (fun v A c dd ho hx hn=>by
  have h:=DiV b h 0 dd A m1 c (bks l1) v ho HH.o (by omega) (by unfold maxLen;have:=HM1.o.2;omega) hx (fun g o _=>hn g o)
  rw [pe_0,←HQ1.o.1] at h
  exact h)
 have HF2:Hid (∀ (v:World) A c dd,Ho v b h dd→XE v v.heap.size A m2 (bks l2)→(∀ g o,A=some ⟨g,o,none⟩→g≠b)→Calls prog 183 #[.pointer (some ⟨b,0,none⟩),PE q1,.slice A m2 c] v (UseG (PE q2) b h (dd || decide (0<m2)) v)):=η (fun v A c dd ho hx hn=>by
  have h:=DiV b h q1 dd A m2 c (bks l2) v ho HH.o HQ1.o.2 (by unfold maxLen;have:=HM2.o.2;omega) hx (fun g o _=>hn g o)
  rw [←HQ2.o.1] at h
  exact h)
 have HF3:Hid (∀ (v:World) dd,Ho v b h dd→Calls prog 183 #[.pointer (some ⟨b,0,none⟩),PE q2,.slice (some ⟨v.heap.size,0,none⟩) 1 1] (v.alloc (.cells #[.int .u64 (a1:Int),.int .u64 (a2:Int)] 247)) (UseG (PE q3) b h true (v.alloc (.cells #[.int .u64 (a1:Int),.int .u64 (a2:Int)] 247)))):=η (fun v dd ho=>by
  have h:=DiV b h q2 dd (some ⟨v.heap.size,0,none⟩) 1 1 [x3] (v.alloc (.cells #[.int .u64 (a1:Int),.int .u64 (a2:Int)] 247)) (ho.alloc _) HH.o HQ2.o.2 (by unfold maxLen;omega) (by rw [HX3.o,World.size_alloc];exact one_xe a1 a2 HA1.o.2 HA2.o.2 v) (fun g o _ e=>by injection e with e;injection e with e;have:=ho.lt;omega)
  rw [←HQ3.o.1,show (dd || decide (0<1))=true by simp] at h
  exact h)
 have HT1:Hid (∀ v,Calls prog 185 #[.slice A1 n1 c1] v fun e w'=>e=.returned (.int .u64 (a1:Int))∧v=w'):=η (fun v=>by rw [HA1.o.1];exact FaQ A1 n1 c1 v (by omega))
 have HT2:Hid (∀ v,Calls prog 185 #[.slice A2 n2 c2] v fun e w'=>e=.returned (.int .u64 (a2:Int))∧v=w'):=η (fun v=>by rw [HA2.o.1];exact FaQ A2 n2 c2 v (by omega))
 go_enter func152,ntmps152
 go_wp2_with fail
 refine (CiW A1 n1 c1 l1 _ H1.o hc1 hn1).mono ?_
 rintro e w1 ⟨B1,d1,rfl,ho1,hb1⟩
 rw [←HM1.o.1] at ho1 ⊢
 have HE1:=η (OwnE.xe ho1 (BdJ l1))
 have HN1:=η (OwnX.apart ho1 hbw)
 have HO1:=η (HO0.o.keep hb1)
 have HR1:=η (H2.o.below hb1)
 have HB1:=η (But.of_below (b:=b) hb1)
 clear ho1 hb1
 go_wp2_with fail
 refine (HF1.o _ _ _ _ HO1.o HE1.o HN1.o).mono ?_
 rintro e w2 ⟨rfl,hb2,ho2⟩
 obtain ⟨dd,hdd⟩:∃ dd,dd=(d || decide (0<m1)):=⟨_,rfl⟩
 rw [←hdd] at ho2
 have HO2:=η ho2
 have HR2:=η (HR1.o.but hb2 (HB1.o.size) HNE.o)
 have HB2:=η (HB1.o.trans hb2)
 clear ho2 hb2 hdd HF1 HE1 HN1 HO1 HR1 HB1
 obtain ⟨V,HV⟩:∃ V,Hid (V=w2.heap.size):=⟨_,η rfl⟩
 obtain ⟨w3,HW3⟩:∃ w3,Hid (w3=(w2.alloc (.cells #[.int .u64 0,.int .u64 0] 247)).setCells w2.heap.size 0 (es (q1 / 2 ^ 64) (q1 % 2 ^ 64))):=⟨_,η rfl⟩
 have hs2:=HB2.o.size
 have hbV:b<V:=by rw [HV.o];exact HO2.o.lt
 have hwV:w.heap.size≤V:=by rw [HV.o];exact hs2
 have HO3:Hid (Ho w3 b h dd):=η (by rw [HW3.o];exact (HO2.o.alloc _).setCells2 (by rw [←HV.o];omega) _ _ _)
 have HX3':Hid (Xw w3 V q1):=η (by rw [HW3.o,HV.o];exact Ew.whole (Ew.new w2 0 0 _ rfl) _ _)
 have HR3:Hid (RB w3 w.heap.size A2 n2 l2):=η (by rw [HW3.o];exact HR2.o.below (AaQ ((AaK w2 _).mono hs2) hs2 _ _))
 have HB3:Hid (But b w w3):=η (by rw [HW3.o];exact (HB2.o.alloc _).setCells2 (.inr hs2) _ _ _)
 go_wp2_with (refine AlZ rfl (.tmp 7) (.tmp 12) rfl w2.heap.size rfl q1 0 rfl (by exact Ew.new w2 0 0 _ rfl) ?_;show wpList _ _ _ _ _ ((w2.alloc (.cells #[.int .u64 0,.int .u64 0] 247)).setCells w2.heap.size 0 (es (q1 / 2 ^ 64) (q1 % 2 ^ 64)));rw [←HW3.o,←HV.o];clear HW3 HO2 HR2 HB2)
 have HBL:Hid (Calls prog 184 #[.slice A2 n2 c2] w3.drew fun e w'=>∃ B1 d1,e=.returned (.slice B1 m2 d1)∧OwnE w' w3.heap.size B1 m2 d1 (bks l2)∧Below w3.heap.size w3 w'):=η (by
  refine (CiW A2 n2 c2 l2 w3.drew (HR3.o.more HB3.o.size) hc2 hn2).mono ?_
  rintro e w' ⟨B1,d1,rfl,h1,h2⟩
  rw [←HM2.o.1] at h1 ⊢
  exact ⟨B1,d1,rfl,h1,(Below.refl _ _).drew.trans h2⟩)
 have hld3:ldP (.pointer (some ⟨V,0,none⟩)) w3.drew=.ok (.value (PE q1)) w3.drew:=BhQ (HX3'.o.keep (Below.refl _ _).drew)
 refine wp_region_held_drew (S:=fun _=>True) (by kernel_rfl) trivial (fun hHeld=>?_)
 (try dsimp only at hHeld)
 refine tkJ 0 rfl hHeld ?_
 (try simp only [Act.put,sxT])
 refine tkJ 2 rfl hHeld ?_
 (try simp only [Act.put,sxT])
 refine wpAnyH_ready (rs:=[1,3]) (by kernel_rfl) (by simp) ?_
 refine AllReadyH.cons rfl (fun K hK=>?_) (AllReadyH.cons rfl (fun K hK=>?_) AllReadyH.nil)
 ·(try simp only [rxT])
  go_simp;refine hK.o _ _ trivial (fun hHeld=>?_);clear hK K;(try simp only [Act.put,sxT]);refine rdI 3 rfl (fun K hK=>?_);(try simp only [rxT]);go_simp;refine HBL.o.mono ?_;rintro e w5 ⟨B2,d2,rfl,ho5,hb5⟩;have HE5:=η (OwnE.xe ho5 (BdJ l2));have HN5:=η (OwnX.apart ho5 (show b<w3.heap.size from HO3.o.lt));have HO5:=η (HO3.o.keep hb5);have HX5:=η (HX3'.o.keep hb5);have HB5:=η (HB3.o.trans (But.of_below hb5));have hld5:=BhQ HX5.o;clear ho5 hb5;(try go_wp2_with fail);refine hK.o _ _ trivial (fun hHeld=>?_);clear hK K;(try simp only [Act.put,sxT]);refine rdI 4 rfl (fun K hK=>?_);(try simp only [rxT]);go_simp;refine (HF2.o _ _ _ _ HO5.o HE5.o HN5.o).mono ?_;rintro e w6 ⟨rfl,hb6,ho6⟩;obtain ⟨de,hde⟩:∃ de,de=(dd || decide (0<m2)):=⟨_,rfl⟩;rw [←hde] at ho6;have HO6:=η ho6;have HX6:=η (HX5.o.but hb6 (by omega));have HB6:=η (HB5.o.trans hb6);have q4:=EkJ q2 HX6.o.2;clear ho6 hb6 hde;(try go_wp2_with fail);refine hK.o _ _ trivial (fun hHeld=>?_);clear hK K;(try simp only [Act.put,sxT]);refine rdI 5 rfl (fun K hK=>?_);(try simp only [rxT]);go_simp;refine hK.o _ _ trivial (fun _=>?_);clear hK K;(try simp only [Act.put,sxT]);refine wpAnyH_done (by kernel_rfl) ?_ _;obtain ⟨w7,HW7⟩:∃ w7,Hid (w7=w6.setCells V 0 (es (q2 / 2 ^ 64) (q2 % 2 ^ 64))):=⟨_,η rfl⟩;have HO7:Hid (Ho w7 b h de):=η (by rw [HW7.o];exact HO6.o.setCells2 (by omega) _ _ _);have HX7:Hid (Xw w7 V q2):=η (by rw [HW7.o];exact Ew.whole HX6.o _ _);have HB7:Hid (But b w w7):=η (by rw [HW7.o];exact HB6.o.setCells2 (.inr hwV) _ _ _);rw [←HW7.o];clear HW7 HO6 HX6 HB6 q4 HO5 HX5 HB5 HE5 HN5 HBL;have HF3':Hid (Calls prog 183 #[.pointer (some ⟨b,0,none⟩),PE q2,.slice (some ⟨w7.heap.size,0,none⟩) 1 1] (w7.drew.alloc (.cells #[.int .u64 (a1:Int),.int .u64 (a2:Int)] 247)) (UseG (PE q3) b h true (w7.drew.alloc (.cells #[.int .u64 (a1:Int),.int .u64 (a2:Int)] 247)))):=η (HF3.o w7.drew de HO7.o.drew);have hld7:ldP (.pointer (some ⟨V,0,none⟩)) w7.drew=.ok (.value (PE q2)) w7.drew:=BhQ (HX7.o.keep (Below.refl _ _).drew);have hld8:ldP (.pointer (some ⟨V,0,none⟩)) (w7.drew.alloc (.cells #[.int .u64 (a1:Int),.int .u64 (a2:Int)] 247))=.ok (.value (PE q2)) (w7.drew.alloc (.cells #[.int .u64 (a1:Int),.int .u64 (a2:Int)] 247)):=BhQ (HX7.o.keep ((Below.refl _ _).drew.alloc (Nat.le_refl _) _));go_wp2_with fail;refine wp_region_held_drew (S:=fun w'=>ldP (.pointer (some ⟨V,0,none⟩)) w'=.ok (.value (PE q2)) w') (by kernel_rfl) hld7 (fun hHeld=>?_);(try dsimp only at hHeld);refine tkJ 0 rfl hHeld ?_;(try simp only [Act.put,sxT]);refine tkJ 1 rfl hHeld ?_;(try simp only [Act.put,sxT]);refine tkJ 2 rfl hHeld ?_;(try simp only [Act.put,sxT]);refine tkJ 4 rfl hHeld ?_;(try simp only [Act.put,sxT]);refine rdI 3 rfl (fun K hK=>?_);(try simp only [rxT]);go_simp;refine (HT1.o _).mono ?_;rintro e w8 ⟨rfl,rfl⟩;(try go_wp2_with fail);refine hK.o _ _ hld7 (fun hHeld=>?_);clear hK K;(try simp only [Act.put,sxT]);refine rdI 5 rfl (fun K hK=>?_)
  (try simp only [rxT]);go_simp;refine (HT2.o _).mono ?_;rintro e w8 ⟨rfl,rfl⟩;(try go_wp2_with fail);refine hK.o _ _ hld7 (fun hHeld=>?_);clear hK K;(try simp only [Act.put,sxT]);refine tkJ 6 rfl hHeld ?_;(try simp only [Act.put,sxT]);refine rdI 7 rfl (fun K hK=>?_);(try simp only [rxT]);go_simp;refine hK.o _ _ hld8 (fun hHeld=>?_);clear hK K;(try simp only [Act.put,sxT]);refine rdI 8 rfl (fun K hK=>?_);(try simp only [rxT]);go_simp;refine HF3'.o.mono ?_;rintro e w9 ⟨rfl,hb9,ho9⟩;have HO9:=η ho9;have HB9:Hid (But b w w9):=η ((HB7.o.drew.alloc _).trans hb9);have HX9:=η ((HX7.o.keep ((Below.refl w7.heap.size w7).drew.alloc (Nat.le_refl _) (.cells #[.int .u64 (a1:Int),.int .u64 (a2:Int)] 247))).but hb9 (by omega));clear ho9 hb9;(try go_wp2_with fail);refine hK.o _ _ (BhQ HX9.o) (fun hHeld=>?_);clear hK K;(try simp only [Act.put,sxT]);refine rdI 9 rfl (fun K hK=>?_);(try simp only [rxT]);go_simp;refine (DuY q3 _ HQ3.o.2).mono ?_;rintro e w10 ⟨A10,c10,rfl,ho10,hb10⟩;have HO10:=η (HO9.o.keep hb10);have HB10:Hid (But b w w10):=η (HB9.o.trans (But.of_below hb10));have HR10:=η (OwnB.base_le ho10 HB9.o.size);have HX10:=η (HX9.o.keep hb10);clear ho10 hb10;(try go_wp2_with fail);refine hK.o _ _ (BhQ HX10.o) (fun hHeld=>?_);clear hK K;(try simp only [Act.put,sxT]);refine rdI 10 rfl (fun K hK=>?_);(try simp only [rxT]);go_simp;refine hK.o _ _ (BhQ HX10.o) (fun _=>?_);clear hK K;(try simp only [Act.put,sxT]);refine wpAnyH_done (by kernel_rfl) ?_ _;go_wp2_with fail;go_ret;exact ⟨A10,c10,rfl,HR10.o,HB10.o,HO10.o⟩
 ·(try simp only [rxT])
  go_simp;refine HBL.o.mono ?_;rintro e w5 ⟨B2,d2,rfl,ho5,hb5⟩;have HE5:=η (OwnE.xe ho5 (BdJ l2));have HN5:=η (OwnX.apart ho5 (show b<w3.heap.size from HO3.o.lt));have HO5:=η (HO3.o.keep hb5);have HX5:=η (HX3'.o.keep hb5);have HB5:=η (HB3.o.trans (But.of_below hb5));have hld5:=BhQ HX5.o;clear ho5 hb5;(try go_wp2_with fail);refine hK.o _ _ trivial (fun hHeld=>?_);clear hK K;(try simp only [Act.put,sxT]);refine rdI 1 rfl (fun K hK=>?_);(try simp only [rxT]);go_simp;refine hK.o _ _ trivial (fun hHeld=>?_);clear hK K;(try simp only [Act.put,sxT]);refine rdI 4 rfl (fun K hK=>?_);(try simp only [rxT]);go_simp;refine (HF2.o _ _ _ _ HO5.o HE5.o HN5.o).mono ?_;rintro e w6 ⟨rfl,hb6,ho6⟩;obtain ⟨de,hde⟩:∃ de,de=(dd || decide (0<m2)):=⟨_,rfl⟩;rw [←hde] at ho6;have HO6:=η ho6;have HX6:=η (HX5.o.but hb6 (by omega));have HB6:=η (HB5.o.trans hb6);have q4:=EkJ q2 HX6.o.2;clear ho6 hb6 hde;(try go_wp2_with fail);refine hK.o _ _ trivial (fun hHeld=>?_);clear hK K;(try simp only [Act.put,sxT]);refine rdI 5 rfl (fun K hK=>?_);(try simp only [rxT]);go_simp;refine hK.o _ _ trivial (fun _=>?_);clear hK K;(try simp only [Act.put,sxT]);refine wpAnyH_done (by kernel_rfl) ?_ _;obtain ⟨w7,HW7⟩:∃ w7,Hid (w7=w6.setCells V 0 (es (q2 / 2 ^ 64) (q2 % 2 ^ 64))):=⟨_,η rfl⟩;have HO7:Hid (Ho w7 b h de):=η (by rw [HW7.o];exact HO6.o.setCells2 (by omega) _ _ _);have HX7:Hid (Xw w7 V q2):=η (by rw [HW7.o];exact Ew.whole HX6.o _ _);have HB7:Hid (But b w w7):=η (by rw [HW7.o];exact HB6.o.setCells2 (.inr hwV) _ _ _);rw [←HW7.o];clear HW7 HO6 HX6 HB6 q4 HO5 HX5 HB5 HE5 HN5 HBL;have HF3':Hid (Calls prog 183 #[.pointer (some ⟨b,0,none⟩),PE q2,.slice (some ⟨w7.heap.size,0,none⟩) 1 1] (w7.drew.alloc (.cells #[.int .u64 (a1:Int),.int .u64 (a2:Int)] 247)) (UseG (PE q3) b h true (w7.drew.alloc (.cells #[.int .u64 (a1:Int),.int .u64 (a2:Int)] 247)))):=η (HF3.o w7.drew de HO7.o.drew);have hld7:ldP (.pointer (some ⟨V,0,none⟩)) w7.drew=.ok (.value (PE q2)) w7.drew:=BhQ (HX7.o.keep (Below.refl _ _).drew);have hld8:ldP (.pointer (some ⟨V,0,none⟩)) (w7.drew.alloc (.cells #[.int .u64 (a1:Int),.int .u64 (a2:Int)] 247))=.ok (.value (PE q2)) (w7.drew.alloc (.cells #[.int .u64 (a1:Int),.int .u64 (a2:Int)] 247)):=BhQ (HX7.o.keep ((Below.refl _ _).drew.alloc (Nat.le_refl _) _));go_wp2_with fail;refine wp_region_held_drew (S:=fun w'=>ldP (.pointer (some ⟨V,0,none⟩)) w'=.ok (.value (PE q2)) w') (by kernel_rfl) hld7 (fun hHeld=>?_);(try dsimp only at hHeld);refine tkJ 0 rfl hHeld ?_;(try simp only [Act.put,sxT]);refine tkJ 1 rfl hHeld ?_;(try simp only [Act.put,sxT]);refine tkJ 2 rfl hHeld ?_;(try simp only [Act.put,sxT]);refine tkJ 4 rfl hHeld ?_;(try simp only [Act.put,sxT]);refine rdI 3 rfl (fun K hK=>?_);(try simp only [rxT]);go_simp;refine (HT1.o _).mono ?_;rintro e w8 ⟨rfl,rfl⟩;(try go_wp2_with fail);refine hK.o _ _ hld7 (fun hHeld=>?_);clear hK K;(try simp only [Act.put,sxT]);refine rdI 5 rfl (fun K hK=>?_)
  (try simp only [rxT]);go_simp;refine (HT2.o _).mono ?_;rintro e w8 ⟨rfl,rfl⟩;(try go_wp2_with fail);refine hK.o _ _ hld7 (fun hHeld=>?_);clear hK K;(try simp only [Act.put,sxT]);refine tkJ 6 rfl hHeld ?_;(try simp only [Act.put,sxT]);refine rdI 7 rfl (fun K hK=>?_);(try simp only [rxT]);go_simp;refine hK.o _ _ hld8 (fun hHeld=>?_);clear hK K;(try simp only [Act.put,sxT]);refine rdI 8 rfl (fun K hK=>?_);(try simp only [rxT]);go_simp;refine HF3'.o.mono ?_;rintro e w9 ⟨rfl,hb9,ho9⟩;have HO9:=η ho9;have HB9:Hid (But b w w9):=η ((HB7.o.drew.alloc _).trans hb9);have HX9:=η ((HX7.o.keep ((Below.refl w7.heap.size w7).drew.alloc (Nat.le_refl _) (.cells #[.int .u64 (a1:Int),.int .u64 (a2:Int)] 247))).but hb9 (by omega));clear ho9 hb9;(try go_wp2_with fail);refine hK.o _ _ (BhQ HX9.o) (fun hHeld=>?_);clear hK K;(try simp only [Act.put,sxT]);refine rdI 9 rfl (fun K hK=>?_);(try simp only [rxT]);go_simp;refine (DuY q3 _ HQ3.o.2).mono ?_;rintro e w10 ⟨A10,c10,rfl,ho10,hb10⟩;have HO10:=η (HO9.o.keep hb10);have HB10:Hid (But b w w10):=η (HB9.o.trans (But.of_below hb10));have HR10:=η (OwnB.base_le ho10 HB9.o.size);have HX10:=η (HX9.o.keep hb10);clear ho10 hb10;(try go_wp2_with fail);refine hK.o _ _ (BhQ HX10.o) (fun hHeld=>?_);clear hK K;(try simp only [Act.put,sxT]);refine rdI 10 rfl (fun K hK=>?_);(try simp only [rxT]);go_simp;refine hK.o _ _ (BhQ HX10.o) (fun _=>?_);clear hK K;(try simp only [Act.put,sxT]);refine wpAnyH_done (by kernel_rfl) ?_ _;go_wp2_with fail;go_ret;exact ⟨A10,c10,rfl,HR10.o,HB10.o,HO10.o⟩
end Go.Proofs.YthppjgdnibfefaaGreat
namespace Go.Proofs.YthppjgdnibfefaaGreat
open Tryz
def keyL:List UInt8:=[0x66,0xe9,0x4b,0xd4,0xef,0x8a,0x2c,0x3b,0x88,0x4c,0xfa,0x59,0xca,0x34,0x2b,0x2e]
def textL:List UInt8:=[0x03,0x88,0xda,0xce,0x60,0xb6,0xa3,0x92,0xf3,0x28,0xc2,0xb9,0x71,0xb2,0xfe,0x78]
theorem EuX:nB keyL=136792598789324718765670228683992083246:=by decide +kernel
open Go.RowKit
noncomputable def osP (u:Value) (w:World):Result Next:=Sem.run prog (do let r ←Instr.buildSlice 270 1 #[(0,u)];pure (Next.value r)) w
theorem ex_osP (ev:Operand→Value) (x:Operand) (d:Option Tmp) (ty:TypeId) (ps:String) (af:Array Edge) (g:Option (Nat×Bool)) (w:World):(execOp ev ⟨d,.buildSlice 270 1 #[(0,x)],ty,ps,af,g⟩).run prog w=osP (ev x) w:=by
 unfold osP execOp
 simp only [List.map_toArray,List.map_cons,List.map_nil]
theorem osP_pe (p:Nat) (w:World):osP (PE p) w=.ok (.value (.slice (some ⟨w.heap.size,0,none⟩) 1 1)) (w.alloc (.cells (eC p).toArray 247)):=by
 unfold osP
 have h:(Instr.buildSlice 270 1 #[(0,PE p)]).run prog w=_:=DnY w (p / 2 ^ 64) (p % 2 ^ 64)
 simp only [Sem.run_bind,h,Result.andThen_ok,Sem.run_pure]
 rfl
attribute [go_sem ↓] ex_osP
attribute [go_sem] osP_pe
def AL (w:World) (b h V gl x0:Nat) (W:World):Prop:=Ho W b h true∧Xw W V h∧W.rangeAt gl 0 (es (x0 / 2 ^ 64) (x0 % 2 ^ 64))∧Below w.heap.size w W∧w.heap.size≤b∧V≠b∧gl≠b∧gl<W.heap.size
attribute [local irreducible] PE gMul AiJ Ho bks AhX bB sumG nB keyL ldP stP bsP osP AL gTab AoZ
