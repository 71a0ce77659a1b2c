import Derived.Test.YthppjgdnibfefaaGreatOpen
import Derived.Test.YthppjgdnibfefaaGreatMiM
import Derived.Deep.SlicePairs
import Derived.Lib.SmallJoins
import Derived.Deep.MidRow
set_option linter.all false
set_option maxRecDepth 100000
set_option maxHeartbeats 32000000
namespace Go.Proofs.YthppjgdnibfefaaGreat
open Go.ChangeShapes Go.WideShapes Go.ChangeAt Go.RowKit Go.Joins Go.Deep
theorem AtY {H:Type} {enc:TypeId×Value→H} {w:World} {f:Nat} {v:Value} {x:DataW H×List MemPlace}
  (hf:DataW.trod enc Tryz.prog w 0 (fun _=>true) true f 41 [v]=some x):∃ (A:YA) (l:YB) (c:Nat),v=.slice A l.length c∧RB w w.heap.size A l.length l∧l.length≤c∧c≤maxLen:=by
 rcases open_ints Tryz.underlying41 Tryz.underlying5 (by kernel_rfl) hf with ⟨hcs,_⟩ | ⟨a,l,c,zs,hcs,_,hl,hm,hz,_,hcell,hwz⟩
 ·simp at hcs
  subst hcs;exact ⟨none,[],0,rfl,RB.nil_,Nat.le_refl _,Nat.zero_le _⟩
 ·simp at hcs
  subst hcs;obtain ⟨ls,hr⟩:=CbQ hl (by simpa using hz) hcell hwz;have e:=hr.len;subst e;exact ⟨some a,ls,c,rfl,hr,hl,hm⟩
section
variable {H:Type} {enc:TypeId×Value→H} {w:World} {n:Nat} {rest:List Value}
theorem DrY {x:DataW H×List MemPlace} (h:DataW.trod enc Tryz.prog w 0 (fun _=>true) true n 24 rest=some x):∃ p:Pn,p.life<2 ^ 64∧rest=p.cells:=by
 have hC:Tryz.prog.cellsOf 24=4:=by kernel_rfl
 have hI:Tryz.prog.cellsOf 3=1:=by kernel_rfl
 have hB:Tryz.prog.cellsOf 4=1:=by kernel_rfl
 have hU:Tryz.prog.cellsOf 22=1:=by kernel_rfl
 obtain ⟨y0,y1,y2,y3,n,_,hsz,h0,h1,h2,h3⟩:=trod_struct4 Tryz.underlying24 h
 rw [hC] at hsz
 match rest,hsz with
 | [a0,a1,a2,a3],hsz =>
  simp only [hI,hB,hU,List.drop_zero,List.drop_succ_cons,List.take_succ_cons,List.take_zero] at h0 h1 h2 h3;obtain ⟨t,ht,_,wt⟩:=DataW.trod_int Tryz.underlying3 h0;obtain ⟨b,hb,_⟩:=DataW.trod_bool Tryz.underlying4 h1;obtain ⟨p,hp,_,wp⟩:=DataW.trod_int Tryz.underlying3 h2;obtain ⟨u,hu,_,wu⟩:=DataW.trod_int Tryz.underlying22 h3;injection ht with ht _;injection hb with hb _;injection hp with hp _;injection hu with hu _;subst ht hb hp hu;have hu2:0≤u∧u≤18446744073709551615:=bounds_u64 wu;have hn:((u.toNat:Nat):Int)=u:=Int.toNat_of_nonneg hu2.1;refine ⟨⟨t,b,p,u.toNat⟩,by simp only;omega,?_⟩;unfold Pn.cells;simp only [hn]
theorem open_hd4 {x:DataW H×List MemPlace} (h:DataW.trod enc Tryz.prog w 0 (fun _=>true) true n 44 rest=some x):∃ k:Hd,k.ok w∧rest=k.cells:=by
 have hC:Tryz.prog.cellsOf 44=4:=by kernel_rfl
 have hI:Tryz.prog.cellsOf 5=1:=by kernel_rfl
 have hU:Tryz.prog.cellsOf 42=1:=by kernel_rfl
 have hG:Tryz.prog.cellsOf 41=1:=by kernel_rfl
 obtain ⟨y0,y1,y2,y3,n,_,hsz,h0,h1,h2,h3⟩:=trod_struct4 Tryz.underlying44 h
 rw [hC] at hsz
 match rest,hsz with
 | [a0,a1,a2,a3],hsz =>
  simp only [hI,hG,hU,List.drop_zero,List.drop_succ_cons,List.take_succ_cons,List.take_zero] at h0 h1 h2 h3;obtain ⟨a,ha,_,wa⟩:=DataW.trod_int Tryz.underlying5 h0;obtain ⟨b,hb,_,wb⟩:=DataW.trod_int Tryz.underlying42 h1;injection ha with ha _;injection hb with hb _;subst ha hb;obtain ⟨A2,l2,c2,rfl,r2,s2⟩:=AtY h2;obtain ⟨A3,l3,c3,rfl,r3,s3⟩:=AtY h3;obtain ⟨f,rfl⟩:=byte_of wa;have hb2:0≤b∧b≤4294967295:=bounds_u32 wb;have hn:((b.toNat:Nat):Int)=b:=Int.toNat_of_nonneg hb2.1;refine ⟨⟨f,b.toNat,A2,c2,l2,A3,c3,l3⟩,⟨r2,r3,s2,s3,by simp only;omega⟩,?_⟩;unfold Hd.cells;simp only [hn]
theorem open_in6 {x:DataW H×List MemPlace} (h:DataW.trod enc Tryz.prog w 0 (fun _=>true) true n 46 rest=some x):∃ k:In,k.ok w∧rest=k.cells:=by
 have hC:Tryz.prog.cellsOf 46=6:=by kernel_rfl
 have hI:Tryz.prog.cellsOf 44=4:=by kernel_rfl
 have hG:Tryz.prog.cellsOf 41=1:=by kernel_rfl
 obtain ⟨y0,y1,y2,n,_,hsz,h0,h1,h2⟩:=trod_struct3 Tryz.underlying46 h
 rw [hC] at hsz
 match rest,hsz with
 | [a0,a1,a2,a3,a4,a5],hsz =>
  simp only [hI,hG,List.drop_zero,List.drop_succ_cons,List.take_succ_cons,List.take_zero] at h0 h1 h2;obtain ⟨k,hk,e⟩:=open_hd4 h0;obtain ⟨A2,l2,c2,rfl,r2,s2⟩:=AtY h1;obtain ⟨A3,l3,c3,rfl,r3,s3⟩:=AtY h2;unfold Hd.cells at e;injection e with e0 e;injection e with e1 e;injection e with e2 e;injection e with e3 e;subst e0 e1 e2 e3;exact ⟨⟨k,A2,c2,l2,A3,c3,l3⟩,⟨hk,r2,r3,s2,s3⟩,rfl⟩
theorem DyY {t:TypeId} {f0 f1 f2 f3 f4 f5 f6:Field} {fuel:Nat} {cs:List Value} {x:DataW H×List MemPlace} (ht:Tryz.prog.underlying t=some (.struct #[f0,f1,f2,f3,f4,f5,f6])) (h:DataW.trod enc Tryz.prog w 0 (fun _=>true) true fuel t cs=some x) :
  ∃ y0 y1 y2 y3 y4 y5 y6 n,cs.length=Tryz.prog.cellsOf t∧DataW.trod enc Tryz.prog w 0 (fun _=>true) true n f0.type ((cs.drop f0.offset).take (Tryz.prog.cellsOf f0.type))=some y0∧DataW.trod enc Tryz.prog w 0 (fun _=>true) true n f1.type ((cs.drop f1.offset).take (Tryz.prog.cellsOf f1.type))=some y1∧DataW.trod enc Tryz.prog w 0 (fun _=>true) true n f2.type ((cs.drop f2.offset).take (Tryz.prog.cellsOf f2.type))=some y2 ∧
   DataW.trod enc Tryz.prog w 0 (fun _=>true) true n f3.type ((cs.drop f3.offset).take (Tryz.prog.cellsOf f3.type))=some y3∧DataW.trod enc Tryz.prog w 0 (fun _=>true) true n f4.type ((cs.drop f4.offset).take (Tryz.prog.cellsOf f4.type))=some y4∧DataW.trod enc Tryz.prog w 0 (fun _=>true) true n f5.type ((cs.drop f5.offset).take (Tryz.prog.cellsOf f5.type))=some y5∧DataW.trod enc Tryz.prog w 0 (fun _=>true) true n f6.type ((cs.drop f6.offset).take (Tryz.prog.cellsOf f6.type))=some y6:=by
 obtain ⟨xs,n,_,rfl,hl,hlen,hf⟩:=DataW.trod_struct ht h
 match xs,hlen with
 | [y0,y1,y2,y3,y4,y5,y6],_=>exact ⟨y0,y1,y2,y3,y4,y5,y6,n,hl,by simpa using hf 0 f0 rfl,by simpa using hf 1 f1 rfl,by simpa using hf 2 f2 rfl,by simpa using hf 3 f3 rfl,by simpa using hf 4 f4 rfl,by simpa using hf 5 f5 rfl,by simpa using hf 6 f6 rfl⟩
theorem CzJ {x:DataW H×List MemPlace} (h:DataW.trod enc Tryz.prog w 0 (fun _=>true) true n 48 rest=some x):∃ k:Cm,k.ok w∧rest=k.cells:=by
 have hC:Tryz.prog.cellsOf 48=15:=by kernel_rfl
 have hI:Tryz.prog.cellsOf 3=1:=by kernel_rfl
 have hP:Tryz.prog.cellsOf 24=4:=by kernel_rfl
 have hJ:Tryz.prog.cellsOf 46=6:=by kernel_rfl
 have hU:Tryz.prog.cellsOf 22=1:=by kernel_rfl
 have hG:Tryz.prog.cellsOf 41=1:=by kernel_rfl
 obtain ⟨y0,y1,y2,y3,y4,y5,y6,n,hsz,h0,h1,h2,h3,h4,h5,h6⟩:=DyY Tryz.underlying48 h
 rw [hC] at hsz
 match rest,hsz with
 | [a0,a1,a2,a3,a4,a5,a6,a7,a8,a9,a10,a11,a12,a13,a14],hsz =>
   simp only [hI,hP,hJ,hU,hG,List.drop_zero,List.drop_succ_cons,List.take_succ_cons,List.take_zero] at h0 h1 h2 h3 h4 h5 h6;obtain ⟨t,ht,_,wt⟩:=DataW.trod_int Tryz.underlying3 h0;obtain ⟨q,hq,_,wq⟩:=DataW.trod_int Tryz.underlying3 h1;obtain ⟨u,hu,_,wu⟩:=DataW.trod_int Tryz.underlying22 h6;obtain ⟨p,hp,ep⟩:=DrY h2;obtain ⟨A3,l3,c3,rfl,r3,s3⟩:=AtY h3;obtain ⟨A4,l4,c4,rfl,r4,s4⟩:=AtY h4;obtain ⟨i,hi,ei⟩:=open_in6 h5;injection ht with ht _;injection hq with hq _;injection hu with hu _;subst ht hq hu;unfold Pn.cells at ep;injection ep with e0 ep;injection ep with e1 ep;injection ep with e2 ep;injection ep with e3 ep;subst e0 e1 e2 e3;unfold In.cells at ei;injection ei with e0 ei;injection ei with e1 ei;injection ei with e2 ei;injection ei with e3 ei;injection ei with e4 ei;injection ei with e5 ei;subst e0 e1 e2 e3 e4 e5;have hu2:0≤u∧u≤18446744073709551615:=bounds_u64 wu;have hn:((u.toNat:Nat):Int)=u:=Int.toNat_of_nonneg hu2.1;refine ⟨⟨t,q,p,A3,c3,l3,A4,c4,l4,i,u.toNat⟩,⟨r3,r4,s3,s4,hi,by simp only;omega,hp⟩,?_⟩;unfold Cm.cells;simp only [hn]
end
theorem AuX {H:Type} {enc:TypeId×Value→H} {w:World} {r:Reach} {b0:Nat} {v:Value} {d:DataW H} {p:List MemPlace}
  (hv:Value.okWide Tryz.prog w r b0 24 v) (h:DataW.Trod enc Tryz.prog w 0 (fun _=>true) true 24 v d p):∃ k:Pn,k.life<2 ^ 64∧v=k.val:=by
 obtain ⟨cs,rfl,hsz⟩:=okWide_struct Tryz.underlying24 hv
 obtain ⟨fuel,hf⟩:=h
 obtain ⟨k,hk,e⟩:=DrY hf
 refine ⟨k,hk,?_⟩
 obtain ⟨l⟩:=cs
 have e2:l=k.cells:=e
 unfold Pn.val;rw [e2]
theorem BjW {H:Type} {enc:TypeId×Value→H} {w:World} {r:Reach} {b0:Nat} {v:Value} {d:DataW H} {p:List MemPlace}
  (hv:Value.okWide Tryz.prog w r b0 48 v) (h:DataW.Trod enc Tryz.prog w 0 (fun _=>true) true 48 v d p):∃ k:Cm,k.ok w∧v=k.val:=by
 obtain ⟨cs,rfl,hsz⟩:=okWide_struct Tryz.underlying48 hv
 obtain ⟨fuel,hf⟩:=h
 obtain ⟨k,hk,e⟩:=CzJ hf
 refine ⟨k,hk,?_⟩
 obtain ⟨l⟩:=cs
 have e2:l=k.cells:=e
 unfold Cm.val;rw [e2]
theorem EbX {α:Type} {len:Nat} {g:Nat→α} {i:Nat} {y:α} (h:((List.range len).map g)[i]?=some y):i<len∧y=g i:=by
 rw [List.getElem?_map,Option.map_eq_some_iff] at h
 obtain ⟨j,hj,rfl⟩:=h
 have hjl:=(List.getElem?_eq_some_iff.1 hj).1
 rw [List.length_range] at hjl
 rw [List.getElem?_range hjl] at hj
 injection hj with hj
 exact ⟨hjl,by rw [hj]⟩
instance:Inhabited Cm:=⟨⟨0,0,⟨0,false,0,0⟩,none,0,[],none,0,[],zeroI,0⟩⟩
theorem AwK {H:Type} {enc:TypeId×Value→H} {w:World} {f:Nat} {a:YA} {len cap:Nat} {d:DataW H} {p:List MemPlace}
  (hf:DataW.trod enc Tryz.prog w 0 (fun _=>true) true f 25 (Value.slice a len cap).cells.toList=some (d,p)):(∃ xs,CMs w a len xs)∧len≤cap∧cap≤maxLen:=by
 have ce:Tryz.prog.cellsOf 48=15:=by kernel_rfl
 rcases open_slice Tryz.underlying25 hf with ⟨hcs,_⟩ | ⟨x,l,c,m,n,D,Pl,hcs,_,hl,hm,hmm,_,hx⟩
 ·simp [Value.cells] at hcs
  obtain ⟨rfl,rfl,rfl⟩:=hcs;exact ⟨⟨[],rfl,fun p h=>by simp at h,fun h=>absurd h (by omega)⟩,Nat.le_refl _,Nat.zero_le _⟩
 ·simp [Value.cells] at hcs
  obtain ⟨rfl,rfl,rfl⟩:=hcs;refine ⟨?_,hl,hm⟩;simp only [if_true] at hmm;subst hmm
  obtain ⟨g,hg⟩:=Deep.choose_lt (n:=len) (p:=fun i (r:Cm)=>r.ok w∧∀ j v,r.cells[j]?=some v→w.cell? (x.add (i*15+j))=some v) (fun i hi=>by
   obtain ⟨cs',h1,h2⟩:=hx i (by omega)
   rw [ce] at h1
   obtain ⟨_,hlen,hcell⟩:=World.cells?_some h1
   obtain ⟨k,hk,rfl⟩:=CzJ h2
   refine ⟨k,hk,fun j v hv=>?_⟩
   have hj:=(List.getElem?_eq_some_iff.1 hv).1
   have:=hcell j (by omega)
   rw [add_add] at this
   rw [this]
   exact hv)
  rcases Nat.eq_zero_or_pos len with h0 | h0
  ·subst h0;exact ⟨[],rfl,fun p h=>by simp at h,fun h=>absurd h (by omega)⟩
  ·obtain ⟨b,off,spot⟩:=x
   have hc:=(hg 0 h0).2 0 _ rfl;have hspot:spot=none:=by simpa [Addr.add] using World.cell?_spot hc
   subst hspot;have hb:b<w.heap.size:=World.block_lt_of_cell? w _ hc;have hadd:∀ i,(⟨b,off,none⟩:Addr).add i=⟨b,off+i,none⟩:=fun i=>by unfold Addr.add;split <;> simp_all
   refine ⟨(List.range len).map g,by simp,fun p hp=>?_,fun _=>⟨b,off,rfl,hb,fun i y h=>?_⟩⟩
   ·obtain ⟨i,hi,rfl⟩:=List.mem_map.1 hp
    exact (hg i (by simpa using hi)).1
   ·obtain ⟨hi,rfl⟩:=EbX h
    obtain ⟨_,k1⟩:=hg i hi;intro j v hv;have:=k1 j v hv;rw [hadd,←Nat.add_assoc] at this;exact this
