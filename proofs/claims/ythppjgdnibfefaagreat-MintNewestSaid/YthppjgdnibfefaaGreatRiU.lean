import Derived.Test.YthppjgdnibfefaaGreatRiR
import Derived.Test.YthppjgdnibfefaaGreatGcmShow
set_option linter.all false
set_option maxRecDepth 100000
set_option maxHeartbeats 32000000
namespace Go.Proofs.YthppjgdnibfefaaGreat
open Tryz
open Go.RowKit
structure Cr where
 t:Int
 q:Int
 A:Option Addr
 n:Nat
 c:Nat
 key:List UInt8
def Cr.cells (k:Cr):List Value:=[.int .i64 k.t,.int .i64 k.q,.slice k.A k.n k.c]
def Cr.val (k:Cr):Value:=.agg k.cells.toArray
def Cr.ok (k:Cr) (B:Nat) (w:World):Prop:=RB w B k.A k.n k.key∧k.n≤k.c∧k.c≤maxLen
def doR (s:Rg) (k:Cr):Rg×Int:=if k.t=0 then AlJ s k.q k.key else if k.t=1 then retR s k.q else (s,0)
structure PRe (N F:Nat) (v:World) (x y:Nat) (s t:Rg) (G:List Nat) (w:World) (A:YA) (c:Nat) (es:Ens) (B:YA) (d:Nat) (ks:List KR):Prop where
 bel:Below v.heap.size v w
 rn:Rn v.heap.size w x A c es N F
 rs:Rs v.heap.size w y B d ks
 ee:rgE es=s
 kk:rgK ks=t
 yo:∀ e∈es,e.1.o y∧∀ g∈blkO B,e.1.o g
 gs:∀ g∈G,g<w.heap.size∧g≠x∧g≠y∧g∉blkO A∧g∉blkO B∧(∀ e∈es,e.1.o g)∧∀ k∈ks,g∉blkO k.A
 os:okR s
 ot:okR t
 n1:1≤N
 ko:∀ e∈es,∀ k∈ks,∀ g∈blkO k.A,e.1.o g
def PR (N F:Nat) (v:World) (x y:Nat) (s t:Rg) (G:List Nat) (w:World):Prop:=∃ A c es B d ks,PRe N F v x y s t G w A c es B d ks
def Kp (G:List Nat) (w w':World):Prop:=∀ g∈G,w'.heap[g]?=w.heap[g]?
theorem Blk.kp {T:TypeId} {w w':World} {g:Nat} {cs:List Value} {G:List Nat} (h:Blk T w g cs) (k:Kp G w w') (hg:g∈G):Blk T w' g cs:=(k g hg).trans h
theorem OwnB.kp {w w':World} {base n c:Nat} {A:YA} {l:YB} {G:List Nat} (h:OwnB w base A n c l) (k:Kp G w w') (hg:∀ g∈blkO A,g∈G):OwnB w' base A n c l:=by
 refine ⟨h.1,?_⟩
 rcases h.2 with h0 | ⟨g,cap,cur,hv,hbg,hh,r⟩
 ·exact .inl h0
 ·have hA:A=some ⟨g,0,none⟩:=by injection hv
  exact .inr ⟨g,cap,cur,hv,hbg,(k g (hg g (by rw [hA];simp [blkO]))).trans hh,r⟩
theorem BbV {w:World} {base n c:Nat} {A:YA} {l:YB} (h:OwnB w base A n c l):∀ g∈blkO A,base≤g∧g<w.heap.size:=fun g hg=>by
 obtain ⟨a,ea,hga⟩:=AwQ hg
 exact World.ownsRow.lt h g (by show Value.ownBlock (.slice A n c)=some g;rw [ea];exact congrArg some hga)
section
variable {N F N' F':Nat} {v w w':World} {x y c d:Nat} {s t s':Rg} {G S:List Nat} {A B:YA} {es:Ens} {ks:List KR}
theorem PRe.oth (h:PRe N F v x y s t G w A c es B d ks) (ho:Oth S w w') (hb:Below v.heap.size w w') (hS:∀ g∈S,g∈G):PRe N F v x y s t G w' A c es B d ks:=by
 have hk:∀ k∈ks,∀ g∈blkO k.A,g∉S:=fun k hk g hg hm=>(h.gs g (hS g hm)).2.2.2.2.2.2 k hk hg
 refine ⟨h.bel.trans hb,h.rn.off ho (fun hm=>(h.gs x (hS x hm)).2.1 rfl) (fun g hg hm=>(h.gs g (hS g hm)).2.2.2.1 hg) (fun e he g hg=>(h.gs g (hS g hg)).2.2.2.2.2.1 e he),h.rs.off ho (fun hm=>(h.gs y (hS y hm)).2.2.1 rfl) (fun g hg hm=>(h.gs g (hS g hm)).2.2.2.2.1 hg) hk,h.ee,h.kk,h.yo,fun g hg=>⟨Nat.lt_of_lt_of_le (h.gs g hg).1 ho.size,(h.gs g hg).2⟩,h.os,h.ot,h.n1,h.ko⟩
theorem PR.step (h:PR N F v x y s t G w) (hb:Below w.heap.size w w'):PR N F v x y s t G w':=by
 obtain ⟨A,c,es,B,d,ks,h⟩:=h
 exact ⟨A,c,es,B,d,ks,h.oth (S:=[]) (Oth.of_below hb) (hb.mono h.bel.size) (fun g hg=>by cases hg)⟩
theorem PR.poke (h:PR N F v x y s t G w) (ho:Oth S w w') (hS:∀ g∈S,g∈G) (hv:∀ g∈S,v.heap.size≤g):PR N F v x y s t G w':=by
 obtain ⟨A,c,es,B,d,ks,h⟩:=h
 exact ⟨A,c,es,B,d,ks,h.oth ho (ho.below hv h.bel.size) hS⟩
theorem PR.bel (h:PR N F v x y s t G w):Below v.heap.size v w:=by
 obtain ⟨A,c,es,B,d,ks,h⟩:=h
 exact h.bel
theorem PR.fresh (h:PR N F v x y s t G w) (L:List Nat) (hL:∀ g∈L,w.heap.size≤g∧g<w'.heap.size) (hb:Below w.heap.size w w'):PR N F v x y s t (L++G) w':=by
 obtain ⟨A,c,es,B,d,ks,h⟩:=h
 have k:=h.oth (S:=[]) (Oth.of_below hb) (hb.mono h.bel.size) (fun g hg=>by cases hg)
 refine ⟨A,c,es,B,d,ks,k.bel,k.rn,k.rs,k.ee,k.kk,k.yo,fun g hg=>?_,k.os,k.ot,k.n1,k.ko⟩
 rcases List.mem_append.1 hg with hg | hg
 ·obtain ⟨h1,h2⟩:=hL g hg
  have hx:=h.rn.blk.lt;have hy:=h.rs.blk.lt;refine ⟨h2,by omega,by omega,fun hm=>?_,fun hm=>?_,fun e he=>.inr (Nat.le_trans (h.rn.ok e he).1.le h1),fun r hr hm=>?_⟩
  ·have:=(h.rn.grd.lt g hm).2;omega
  ·have:=(h.rs.grd.lt g hm).2;omega
  ·have:=(BbV (h.rs.key r hr) g hm).2;omega
 ·exact k.gs g hg
theorem PR.less {G':List Nat} (h:PR N F v x y s t G w) (hG:∀ g∈G',g∈G):PR N F v x y s t G' w:=by
 obtain ⟨A,c,es,B,d,ks,h⟩:=h
 exact ⟨A,c,es,B,d,ks,h.bel,h.rn,h.rs,h.ee,h.kk,h.yo,fun g hg=>h.gs g (hG g hg),h.os,h.ot,h.n1,h.ko⟩
theorem PRe.inst (h:PRe N F v x y s t G w A c es B d ks) (hr:RetRn v.heap.size x A es N F s' w w') (hs:okR s'):PR N F v x y s' t G w'∧Kp G w w':=by
 obtain ⟨A',c',es',r1,r2,r3,r4,r5⟩:=hr
 have hlow:∀ g∈x::blkO A,v.heap.size≤g:=fun g hg=>by
  rcases List.mem_cons.1 hg with rfl | hg
  ·exact h.rn.low
  ·exact (h.rn.grd.lt g hg).1
 have hb:Below v.heap.size w w':=r3.below hlow h.bel.size
 have hnob:NoB (x::blkO A) w:=fun j hj cs fr e=>by
  rcases List.mem_cons.1 hj with rfl | hj
  ·exact h.rn.blk.nob (by decide) j (by simp) cs fr e
  ·exact h.rn.grd.nob (by decide) j hj cs fr e
 have hxy:y∉x::blkO A:=fun hm=>by
  rcases List.mem_cons.1 hm with e | hm
  ·exact h.rs.blk.far h.rn.blk (by decide) e
  ·exact h.rn.grd.away h.rs.blk (by decide) hm
 have hBA:∀ g∈blkO B,g∉x::blkO A:=fun g hg hm=>by
  rcases List.mem_cons.1 hm with rfl | hm
  ·exact h.rs.grd.away h.rn.blk (by decide) hg
  ·exact h.rn.grd.apart h.rs.grd (by decide) g hm hg
 have hrs:Rs v.heap.size w' y B d ks:=⟨h.rs.blk.oth r3 hxy,h.rs.grd.oth r3 hBA,fun k hk=>(h.rs.key k hk).offS r3 hnob,h.rs.low⟩
 have hyl:=h.rs.blk.lt
 refine ⟨⟨A',c',es',B,d,ks,h.bel.trans hb,r1,hrs,r2,h.kk,fun e he=>?_,fun g hg=>?_,hs,h.ot,h.n1,fun e he k hk g hg=>?_⟩,fun g hg=>?_⟩
 ·rcases r4 e he with k | k
  ·exact h.yo e k
  ·exact ⟨.inl (by omega),fun g hg=>.inl (by have:=(h.rs.grd.lt g hg).2;omega)⟩
 ·obtain ⟨g1,g2,g3,g4,g5,g6,g7⟩:=h.gs g hg
  refine ⟨Nat.lt_of_lt_of_le g1 r3.size,g2,g3,fun hm=>?_,g5,fun e he=>?_,g7⟩
  ·rcases r5 g hm with k | k
   ·exact g4 k
   ·omega
  ·rcases r4 e he with k | k
   ·exact g6 e k
   ·exact .inl (by omega)
 ·rcases r4 e he with z | z
  ·exact h.ko e z k hk g hg
  ·exact .inl (by have:=(BbV (h.rs.key k hk) g hg).2;omega)
 ·obtain ⟨g1,g2,_,g4,_⟩:=h.gs g hg
  exact r3.block g g1 (fun hm=>by
   rcases List.mem_cons.1 hm with e | hm
   ·exact g2 e
   ·exact g4 hm)
theorem PRe.rinst (h:PRe N F v x y s t G w A c es B d ks) (hr:RetRs v.heap.size y B ks s' w w') (hs:okR s'):PR N F v x y s s' G w'∧Kp G w w':=by
 obtain ⟨B',d',ks',r1,r2,r3,r4,r5⟩:=hr
 have hlow:∀ g∈y::blkO B,v.heap.size≤g:=fun g hg=>by
  rcases List.mem_cons.1 hg with rfl | hg
  ·exact h.rs.low
  ·exact (h.rs.grd.lt g hg).1
 have hb:Below v.heap.size w w':=r3.below hlow h.bel.size
 have hxy:x∉y::blkO B:=fun hm=>by
  rcases List.mem_cons.1 hm with e | hm
  ·exact h.rn.blk.far h.rs.blk (by decide) e
  ·exact h.rs.grd.away h.rn.blk (by decide) hm
 have hBA:∀ g∈blkO A,g∉y::blkO B:=fun g hg hm=>by
  rcases List.mem_cons.1 hm with rfl | hm
  ·exact h.rn.grd.away h.rs.blk (by decide) hg
  ·exact h.rn.grd.apart h.rs.grd (by decide) g hg hm
 have hrn:Rn v.heap.size w' x A c es N F:=h.rn.off r3 hxy hBA (fun e he g hg=>by
  rcases List.mem_cons.1 hg with rfl | hg
  ·exact (h.yo e he).1
  ·exact (h.yo e he).2 g hg)
 refine ⟨⟨A,c,es,B',d',ks',h.bel.trans hb,hrn,r1,h.ee,r2,fun e he=>⟨(h.yo e he).1,fun g hg=>?_⟩,fun g hg=>?_,h.os,hs,h.n1,fun e he k hk g hg=>?_⟩,fun g hg=>?_⟩
 ·rcases r5 g hg with k | k
  ·exact (h.yo e he).2 g k
  ·exact .inr (Nat.le_trans (h.rn.ok e he).1.le k)
 ·obtain ⟨g1,g2,g3,g4,g5,g6,g7⟩:=h.gs g hg
  refine ⟨Nat.lt_of_lt_of_le g1 r3.size,g2,g3,g4,fun hm=>?_,g6,fun k hk hm=>?_⟩
  ·rcases r5 g hm with z | z
   ·exact g5 z
   ·omega
  ·rcases r4 k hk with z | z
   ·exact g7 k z hm
   ·have:=z g hm;omega
 ·rcases r4 k hk with z | z
  ·exact h.ko e he k z g hg
  ·exact .inr (Nat.le_trans (h.rn.ok e he).1.le (z g hg))
 ·obtain ⟨g1,_,g3,_,g5,_⟩:=h.gs g hg
  exact r3.block g g1 (fun hm=>by
   rcases List.mem_cons.1 hm with e | hm
   ·exact g3 e
   ·exact g5 hm)
theorem PRe.len (h:PRe N F v x y s t G w A c es B d ks):es.length≤16∧ks.length≤16:=by
 have h1:=h.os.n
 have h2:=h.ot.n
 rw [←h.ee,BlW] at h1
 rw [←h.kk,BaQ] at h2
 exact ⟨h1,h2⟩
end
def DwZ (N F:Nat) (v:World) (x y:Nat) (s t:Rg) (G:List Nat) (a:Int) (w:World) (e:Ending) (w':World):Prop:=e=.returned (.int .i64 a)∧PR N F v x y s t G w'∧Kp G w w'
theorem pr_inst (N F:Nat) (v:World) (x y:Nat) (s t:Rg) (G:List Nat) (w:World) (h:PR N F v x y s t G w) (q:Int) (K:YA) (m d:Nat) (l:YB) (hk:RB w w.heap.size K m l) (hd:m≤d) :
  Calls prog 38 #[.pointer (some ⟨x,0,none⟩),.int .i64 q,.slice K m d] w (DwZ N F v x y (AlJ s q l).1 t G (AlJ s q l).2 w):=by
 obtain ⟨A,c,es,B,d2,ks,h⟩:=h
 refine (BjZ _ x A c es N F q K m d l w h.rn h.len.1 hk hd h.n1 h.bel.size).mono fun e w' hr=>?_
 rw [h.ee] at hr
 exact ⟨hr.1,h.inst hr.2 (DtZ h.os)⟩
theorem pr_ret (N F:Nat) (v:World) (x y:Nat) (s t:Rg) (G:List Nat) (w:World) (h:PR N F v x y s t G w) (q:Int) :
  Calls prog 73 #[.pointer (some ⟨x,0,none⟩),.int .i64 q] w (DwZ N F v x y (retR s q).1 t G (retR s q).2 w):=by
 obtain ⟨A,c,es,B,d2,ks,h⟩:=h
 refine (EbQ _ x A c es N F q w h.rn h.len.1).mono fun e w' hr=>?_
 rw [h.ee] at hr
 exact ⟨hr.1,h.inst hr.2 (EpK h.os)⟩
theorem pr_rinst (N F:Nat) (v:World) (x y:Nat) (s t:Rg) (G:List Nat) (w:World) (h:PR N F v x y s t G w) (q:Int) (K:YA) (m d:Nat) (l:YB) (hk:RB w w.heap.size K m l) :
  Calls prog 72 #[.pointer (some ⟨y,0,none⟩),.int .i64 q,.slice K m d] w (DwZ N F v x y s (AlJ t q l).1 G (AlJ t q l).2 w):=by
 obtain ⟨A,c,es,B,d2,ks,h⟩:=h
 refine (EoY _ y B d2 ks q K m d l w h.rs h.len.2 hk h.bel.size).mono fun e w' hr=>?_
 rw [h.kk] at hr
 exact ⟨hr.1,h.rinst hr.2 (DtZ h.ot)⟩
theorem pr_rret (N F:Nat) (v:World) (x y:Nat) (s t:Rg) (G:List Nat) (w:World) (h:PR N F v x y s t G w) (q:Int) :
  Calls prog 74 #[.pointer (some ⟨y,0,none⟩),.int .i64 q] w (DwZ N F v x y s (retR t q).1 G (retR t q).2 w):=by
 obtain ⟨A,c,es,B,d2,ks,h⟩:=h
 refine (rret_any _ y B d2 ks q w h.rs h.len.2 h.bel.size).mono fun e w' hr=>?_
 rw [h.kk] at hr
 exact ⟨hr.1,h.rinst hr.2 (EpK h.ot)⟩
open Go.RowKit
section
variable {w w':World} {B n:Nat} {A:YA} {ks:List Cr}
end
theorem CfK (x:UInt8):∃ y:UInt8,((x.toNat:Int)+1) % 256=(y.toNat:Int):=⟨UInt8.ofNat (x.toNat+1),by simp⟩
def CfV (N F:Nat) (v:World) (x y:Nat) (s t:Rg) (G:List Nat) (k:Cr) (w:World) (e:Ending) (w':World):Prop:=e=.returned (.bool ((doR s k).2 == (doR t k).2))∧PR N F v x y (doR s k).1 (doR t k).1 G w'∧Kp G w w'
theorem PR.kp {N F:Nat} {v w w':World} {x y:Nat} {s t:Rg} {G:List Nat} (h:PR N F v x y s t G w) (hb:Below w.heap.size w w'):Kp G w w':=by
 obtain ⟨A,c,es,B,d,ks,h⟩:=h
 exact fun g hg=>hb.block g (h.gs g hg).1
theorem PR.inG {N F:Nat} {v w:World} {x y:Nat} {s t:Rg} {G:List Nat} (h:PR N F v x y s t G w):∀ g∈G,g<w.heap.size:=by
 obtain ⟨A,c,es,B,d,ks,h⟩:=h
 exact fun g hg=>(h.gs g hg).1
theorem Kp.trans {G:List Nat} {w w1 w2:World} (h:Kp G w w1) (k:Kp G w1 w2):Kp G w w2:=fun g hg=>(k g hg).trans (h g hg)
theorem Kp.less {G G':List Nat} {w w1:World} (h:Kp G w w1) (hG:∀ g∈G',g∈G):Kp G' w w1:=fun g hg=>h g (hG g hg)
theorem EyZ (N F:Nat) (v:World) (x y:Nat) (s t:Rg) (G:List Nat) (w:World) (h:PR N F v x y s t G w) (k:Cr) (hk:k.ok v.heap.size v) (hn:k.n≤100) (h0:k.t=0) :
  Calls prog 45 #[.pointer (some ⟨x,0,none⟩),.pointer (some ⟨y,0,none⟩),k.val] w (CfV N F v x y s t G k w):=by
 have HK:=η hk
 have HH:=η h
 have hklen:=hk.1.len
 obtain ⟨kt,HT⟩:∃ z,Hid (k.t=z):=⟨_,η rfl⟩
 have HD:∀ s,doR s k=AlJ s k.q k.key:=fun s=>by unfold doR;rw [if_pos h0]
 have d0:((kt:Int) == 0)=true:=by rw [beq_iff_eq,←HT.o];exact h0
 unfold CfV
 rw [HD,HD]
 clear h hk HD
 unfold Cr.val
 go_enter func45,ntmps45
 go_wp2_with (first
  | (refine AeV rfl 113 (.tmp 2) rfl k.cells rfl ?_;intro w1 bx k1 hb1 hbx;have c0:w1.cell? ⟨bx,0,none⟩=some (.int .i64 k.t):=k1.cell 0;have cq:w1.cell? ⟨bx,1,none⟩=some (.int .i64 k.q):=k1.cell 1;have c2:w1.cell? ⟨bx,2,none⟩=some (.slice k.A k.n k.c):=k1.cell 2;have K1:=η k1;have P1:=η (HH.o.fresh (w':=w1) [bx] (fun g hg=>by rw [List.mem_singleton.1 hg];exact ⟨hbx,k1.lt⟩) hb1);have HV:Hid (v.heap.size≤w1.heap.size):=η (Nat.le_trans HH.o.bel.size hb1.size);have HG:Hid (∀ g∈G,g<w1.heap.size):=η (fun g hg=>Nat.lt_of_lt_of_le (HH.o.inG g hg) hb1.size);have HKP1:=η (HH.o.kp hb1);clear k1 hb1 hbx))
 refine (AdX k.A k.n k.c 0 k.key w1 (by exact HK.o.1.step P1.o.bel) (by omega)).mono ?_
 rintro e w2 ⟨A1,c1,rfl,ho,hb2⟩
 have P2:Hid (PR N F v x y s t (blkO A1++(bx::G)) w2):=η (P1.o.fresh (blkO A1) (fun g hg=>BbV ho g hg) hb2)
 have O2:=η ho
 have HKP2:=η (HKP1.o.trans ((P1.o.kp hb2).less (fun g hg=>List.mem_cons_of_mem _ hg)))
 have K2:=η (K1.o.step hb2)
 have c0:w2.cell? ⟨bx,0,none⟩=some (.int .i64 kt):=by rw [←HT.o];exact K2.o.cell 0
 have cq:w2.cell? ⟨bx,1,none⟩=some (.int .i64 k.q):=K2.o.cell 1
 have c2:w2.cell? ⟨bx,2,none⟩=some (.slice k.A k.n k.c):=K2.o.cell 2
 clear ho hb2 K1 P1
 go_wp2_with fail
 refine wp_region_held_drew (S:=fun w'=>w'.cell? ⟨bx,1,none⟩=some (.int .i64 k.q)∧w'.cell? ⟨bx,2,none⟩=some (.slice k.A k.n k.c)) (by kernel_rfl) ⟨cq,c2⟩ (fun hHeld=>?_)
 (try dsimp only at hHeld)
 have Ω:=η (fun (w:World) (hSw:w.cell? ⟨bx,1,none⟩=some (.int .i64 k.q)∧w.cell? ⟨bx,2,none⟩=some (.slice k.A k.n k.c))=>hSw)
 refine tkJ 0 rfl hHeld ?_
 refine tkJ 1 rfl hHeld ?_
 refine tkJ 2 rfl hHeld ?_
 refine tkJ 3 rfl hHeld ?_
 refine tkJ 5 rfl hHeld ?_
 refine tkJ 6 rfl hHeld ?_
 refine tkJ 7 rfl hHeld ?_
 refine tkJ 8 rfl hHeld ?_
 refine tkJ 9 rfl hHeld ?_
 refine rdI 4 rfl (fun K hK=>?_)
 (try simp only [Act.put,rxT,sxT])
 go_simp
 refine (pr_inst N F v x y (s) (t) _ w2.drew (by first | exact P2.o | exact P2.o.step ((Below.refl _ _).drew)) k.q A1 k.n c1 k.key (by first | exact O2.o.rb | exact (O2.o.below ((Below.refl _ _).drew)).rb) O2.o.cap.1).mono ?_
 rintro e w3 ⟨rfl,hp3,hk3⟩
 have P3:=η hp3
 have K3:=η (K2.o.kp hk3 (by simp))
 have O3:=η (O2.o.kp hk3 (fun g hg=>List.mem_append_left _ hg))
 have HKP3:=η (HKP2.o.trans (hk3.less (fun g hg=>List.mem_append_right _ (List.mem_cons_of_mem _ hg))))
 clear hk3
 clear hp3
 (try go_wp2_with fail)
 refine hK.o _ _ ⟨K3.o.cell 1,K3.o.cell 2⟩ (fun hHeld=>?_)
 clear hK K
 refine rdI 10 rfl (fun K hK=>?_)
 (try simp only [Act.put,rxT,sxT])
 go_simp
 refine (pr_rinst N F v x y ((AlJ s k.q k.key).1) (t) _ w3 (by first | exact P3.o | exact P3.o.step ((Below.refl _ _).drew)) k.q k.A k.n k.c k.key (by first | exact HK.o.1.step P3.o.bel | exact HK.o.1.step (P3.o.step ((Below.refl _ _).drew)).bel)).mono ?_
 rintro e w4 ⟨rfl,hp4,hk4⟩
 have P4:=η hp4
 have K4:=η (K3.o.kp hk4 (by simp))
 have O4:=η (O3.o.kp hk4 (fun g hg=>List.mem_append_left _ hg))
 have HKP4:=η (HKP3.o.trans (hk4.less (fun g hg=>List.mem_append_right _ (List.mem_cons_of_mem _ hg))))
 clear hk4
 clear hp4
 (try go_wp2_with fail)
 refine hK.o _ _ ⟨K4.o.cell 1,K4.o.cell 2⟩ (fun hHeld=>?_)
 clear hK K
 refine tkJ 11 rfl hHeld ?_
 refine tkJ 12 rfl hHeld ?_
 (try simp only [Act.put,rxT,sxT])
 refine wpAnyH_done (by kernel_rfl) ?_ _
 have HZ:=η (And.intro P4.o (And.intro O4.o HKP4.o))
 go_wp2_with fail
 go_loopw [9] (fun i wr=>∃ j:Nat,j≤k.n∧i=.int .i64 (j:Int)∧Hid (PR N F v x y ((AlJ s k.q k.key).1) ((AlJ t k.q k.key).1) (blkO A1++(bx::G)) wr∧Kp G w wr∧∃ q,OwnB wr w1.heap.size A1 k.n c1 q)) (fun i _=>k.n - (intOf i).toNat)
 case atStart=>exact ⟨0,by omega,rfl,η ⟨HZ.o.1,HZ.o.2.2,_,HZ.o.2.1⟩⟩
 case round =>
  obtain ⟨j,hj,rfl,HK⟩:=hrel;by_cases hlt:j<k.n
  ·obtain ⟨hpr,hkp,q,hown⟩:=HK.o
   obtain ⟨gb,hgb,hgl,hgs⟩:=hown.form (by omega);subst hgb;have hq:j<q.length:=by rw [hown.len];exact hlt
   obtain ⟨xb,hx⟩:∃ x,q[j]?=some x:=⟨_,List.getElem?_eq_getElem hq⟩;have hc:=hown.cellAt hx;have hf:=hown.freeAt j;obtain ⟨yb,hy⟩:=CfK xb;have hx8:=xb.toNat_lt;have HO:=η (And.intro hpr (And.intro hgl (And.intro hkp hown)));clear hx hgl hown hq hpr hgs hkp;go_wp2_with fail;go_roundw
   case rel=>exact ⟨j+1,by omega,by go_num,η ⟨HO.o.1.poke (S:=[gb]) ((Oth.refl [gb] wr).set (by simp) j _) (fun g hg=>by rw [List.mem_singleton.1 hg];simp [blkO]) (fun g hg=>by rw [List.mem_singleton.1 hg];exact Nat.le_trans HV.o HO.o.2.1),HO.o.2.2.1.trans (fun g hg=>((Oth.refl [gb] wr).set (by simp) j _).block g (HO.o.1.inG g (List.mem_append_right _ (List.mem_cons_of_mem _ hg))) (fun hm=>by rw [List.mem_singleton.1 hm] at hg;have:=HG.o gb hg;have:=HO.o.2.1;omega)),_,HO.o.2.2.2.stored j yb _ (by rw [bv])⟩⟩
   case measure=>simp [intOf];omega
  ·go_wp2_with fail
   go_ret;exact ⟨rfl,HK.o.1.less (fun g hg=>List.mem_append_right _ (List.mem_cons_of_mem _ hg)),HK.o.2.1⟩
theorem do19_ret (N F:Nat) (v:World) (x y:Nat) (s t:Rg) (G:List Nat) (w:World) (h:PR N F v x y s t G w) (k:Cr) (hk:k.ok v.heap.size v) (hn:k.n≤100) (h1:k.t=1) :
  Calls prog 45 #[.pointer (some ⟨x,0,none⟩),.pointer (some ⟨y,0,none⟩),k.val] w (CfV N F v x y s t G k w):=by
 have HK:=η hk
 have HH:=η h
 have hklen:=hk.1.len
 obtain ⟨kt,HT⟩:∃ z,Hid (k.t=z):=⟨_,η rfl⟩
 have HD:∀ s,doR s k=retR s k.q:=fun s=>by unfold doR;rw [if_neg (by omega),if_pos h1]
 have d0:((kt:Int) == 0)=false:=by rw [beq_eq_false_iff_ne,←HT.o];omega
 have d1:((kt:Int) == 1)=true:=by rw [beq_iff_eq,←HT.o];exact h1
 unfold CfV
 rw [HD,HD]
 clear h hk HD
 unfold Cr.val
 go_enter func45,ntmps45
 go_wp2_with (first
  | (refine AeV rfl 113 (.tmp 2) rfl k.cells rfl ?_;intro w1 bx k1 hb1 hbx;have c0:w1.cell? ⟨bx,0,none⟩=some (.int .i64 k.t):=k1.cell 0;have cq:w1.cell? ⟨bx,1,none⟩=some (.int .i64 k.q):=k1.cell 1;have c2:w1.cell? ⟨bx,2,none⟩=some (.slice k.A k.n k.c):=k1.cell 2;have K1:=η k1;have P1:=η (HH.o.fresh (w':=w1) [bx] (fun g hg=>by rw [List.mem_singleton.1 hg];exact ⟨hbx,k1.lt⟩) hb1);have HV:Hid (v.heap.size≤w1.heap.size):=η (Nat.le_trans HH.o.bel.size hb1.size);have HG:Hid (∀ g∈G,g<w1.heap.size):=η (fun g hg=>Nat.lt_of_lt_of_le (HH.o.inG g hg) hb1.size);have HKP1:=η (HH.o.kp hb1);clear k1 hb1 hbx))
 refine (AdX k.A k.n k.c 0 k.key w1 (by exact HK.o.1.step P1.o.bel) (by omega)).mono ?_
 rintro e w2 ⟨A1,c1,rfl,ho,hb2⟩
 have P2:Hid (PR N F v x y s t (blkO A1++(bx::G)) w2):=η (P1.o.fresh (blkO A1) (fun g hg=>BbV ho g hg) hb2)
 have O2:=η ho
 have HKP2:=η (HKP1.o.trans ((P1.o.kp hb2).less (fun g hg=>List.mem_cons_of_mem _ hg)))
 have K2:=η (K1.o.step hb2)
 have c0:w2.cell? ⟨bx,0,none⟩=some (.int .i64 kt):=by rw [←HT.o];exact K2.o.cell 0
 have cq:w2.cell? ⟨bx,1,none⟩=some (.int .i64 k.q):=K2.o.cell 1
 have c2:w2.cell? ⟨bx,2,none⟩=some (.slice k.A k.n k.c):=K2.o.cell 2
 clear ho hb2 K1 P1
 go_wp2_with fail
 refine wp_region_held_drew (S:=fun w'=>w'.cell? ⟨bx,1,none⟩=some (.int .i64 k.q)∧w'.cell? ⟨bx,2,none⟩=some (.slice k.A k.n k.c)) (by kernel_rfl) ⟨cq,c2⟩ (fun hHeld=>?_)
 (try dsimp only at hHeld)
 have Ω:=η (fun (w:World) (hSw:w.cell? ⟨bx,1,none⟩=some (.int .i64 k.q)∧w.cell? ⟨bx,2,none⟩=some (.slice k.A k.n k.c))=>hSw)
 refine tkJ 0 rfl hHeld ?_
 refine tkJ 1 rfl hHeld ?_
 refine tkJ 2 rfl hHeld ?_
 refine tkJ 4 rfl hHeld ?_
 refine tkJ 5 rfl hHeld ?_
 refine tkJ 6 rfl hHeld ?_
 refine rdI 3 rfl (fun K hK=>?_)
 (try simp only [Act.put,rxT,sxT])
 go_simp
 refine (pr_ret N F v x y (s) (t) _ w2.drew (by first | exact P2.o | exact P2.o.step ((Below.refl _ _).drew)) k.q).mono ?_
 rintro e w3 ⟨rfl,hp3,hk3⟩
 have P3:=η hp3
 have K3:=η (K2.o.kp hk3 (by simp))
 have O3:=η (O2.o.kp hk3 (fun g hg=>List.mem_append_left _ hg))
 have HKP3:=η (HKP2.o.trans (hk3.less (fun g hg=>List.mem_append_right _ (List.mem_cons_of_mem _ hg))))
 clear hk3
 clear hp3
 (try go_wp2_with fail)
 refine hK.o _ _ ⟨K3.o.cell 1,K3.o.cell 2⟩ (fun hHeld=>?_)
 clear hK K
 refine rdI 7 rfl (fun K hK=>?_)
 (try simp only [Act.put,rxT,sxT])
 go_simp
 refine (pr_rret N F v x y ((retR s k.q).1) (t) _ w3 (by first | exact P3.o | exact P3.o.step ((Below.refl _ _).drew)) k.q).mono ?_
 rintro e w4 ⟨rfl,hp4,hk4⟩
 have P4:=η hp4
 have K4:=η (K3.o.kp hk4 (by simp))
 have O4:=η (O3.o.kp hk4 (fun g hg=>List.mem_append_left _ hg))
 have HKP4:=η (HKP3.o.trans (hk4.less (fun g hg=>List.mem_append_right _ (List.mem_cons_of_mem _ hg))))
 clear hk4
 clear hp4
 (try go_wp2_with fail)
 refine hK.o _ _ ⟨K4.o.cell 1,K4.o.cell 2⟩ (fun hHeld=>?_)
 clear hK K
 refine tkJ 8 rfl hHeld ?_
 refine tkJ 9 rfl hHeld ?_
 (try simp only [Act.put,rxT,sxT])
 refine wpAnyH_done (by kernel_rfl) ?_ _
 have HZ:=η (And.intro P4.o (And.intro O4.o HKP4.o))
 go_wp2_with fail
 go_loopw [9] (fun i wr=>∃ j:Nat,j≤k.n∧i=.int .i64 (j:Int)∧Hid (PR N F v x y ((retR s k.q).1) ((retR t k.q).1) (blkO A1++(bx::G)) wr∧Kp G w wr∧∃ q,OwnB wr w1.heap.size A1 k.n c1 q)) (fun i _=>k.n - (intOf i).toNat)
 case atStart=>exact ⟨0,by omega,rfl,η ⟨HZ.o.1,HZ.o.2.2,_,HZ.o.2.1⟩⟩
 case round =>
  obtain ⟨j,hj,rfl,HK⟩:=hrel;by_cases hlt:j<k.n
  ·obtain ⟨hpr,hkp,q,hown⟩:=HK.o
   obtain ⟨gb,hgb,hgl,hgs⟩:=hown.form (by omega);subst hgb;have hq:j<q.length:=by rw [hown.len];exact hlt
   obtain ⟨xb,hx⟩:∃ x,q[j]?=some x:=⟨_,List.getElem?_eq_getElem hq⟩;have hc:=hown.cellAt hx;have hf:=hown.freeAt j;obtain ⟨yb,hy⟩:=CfK xb;have hx8:=xb.toNat_lt;have HO:=η (And.intro hpr (And.intro hgl (And.intro hkp hown)));clear hx hgl hown hq hpr hgs hkp;go_wp2_with fail;go_roundw
   case rel=>exact ⟨j+1,by omega,by go_num,η ⟨HO.o.1.poke (S:=[gb]) ((Oth.refl [gb] wr).set (by simp) j _) (fun g hg=>by rw [List.mem_singleton.1 hg];simp [blkO]) (fun g hg=>by rw [List.mem_singleton.1 hg];exact Nat.le_trans HV.o HO.o.2.1),HO.o.2.2.1.trans (fun g hg=>((Oth.refl [gb] wr).set (by simp) j _).block g (HO.o.1.inG g (List.mem_append_right _ (List.mem_cons_of_mem _ hg))) (fun hm=>by rw [List.mem_singleton.1 hm] at hg;have:=HG.o gb hg;have:=HO.o.2.1;omega)),_,HO.o.2.2.2.stored j yb _ (by rw [bv])⟩⟩
   case measure=>simp [intOf];omega
  ·go_wp2_with fail
   go_ret;exact ⟨rfl,HK.o.1.less (fun g hg=>List.mem_append_right _ (List.mem_cons_of_mem _ hg)),HK.o.2.1⟩
theorem EzJ (N F:Nat) (v:World) (x y:Nat) (s t:Rg) (G:List Nat) (w:World) (h:PR N F v x y s t G w) (k:Cr) (hk:k.ok v.heap.size v) (hn:k.n≤100) (h0:k.t≠0∧k.t≠1) :
  Calls prog 45 #[.pointer (some ⟨x,0,none⟩),.pointer (some ⟨y,0,none⟩),k.val] w (CfV N F v x y s t G k w):=by
 have HK:=η hk
 have HH:=η h
 have hklen:=hk.1.len
 obtain ⟨kt,HT⟩:∃ z,Hid (k.t=z):=⟨_,η rfl⟩
 have HD:∀ s,doR s k=(s,0):=fun s=>by unfold doR;rw [if_neg h0.1,if_neg h0.2]
 have d0:((kt:Int) == 0)=false:=by rw [beq_eq_false_iff_ne,←HT.o];exact h0.1
 have d1:((kt:Int) == 1)=false:=by rw [beq_eq_false_iff_ne,←HT.o];exact h0.2
 unfold CfV
 rw [HD,HD]
 clear h hk HD
 unfold Cr.val
 go_enter func45,ntmps45
 go_wp2_with (first
  | (refine AeV rfl 113 (.tmp 2) rfl k.cells rfl ?_;intro w1 bx k1 hb1 hbx;have c0:w1.cell? ⟨bx,0,none⟩=some (.int .i64 k.t):=k1.cell 0;have cq:w1.cell? ⟨bx,1,none⟩=some (.int .i64 k.q):=k1.cell 1;have c2:w1.cell? ⟨bx,2,none⟩=some (.slice k.A k.n k.c):=k1.cell 2;have K1:=η k1;have P1:=η (HH.o.fresh (w':=w1) [bx] (fun g hg=>by rw [List.mem_singleton.1 hg];exact ⟨hbx,k1.lt⟩) hb1);have HV:Hid (v.heap.size≤w1.heap.size):=η (Nat.le_trans HH.o.bel.size hb1.size);have HG:Hid (∀ g∈G,g<w1.heap.size):=η (fun g hg=>Nat.lt_of_lt_of_le (HH.o.inG g hg) hb1.size);have HKP1:=η (HH.o.kp hb1);clear k1 hb1 hbx))
 refine (AdX k.A k.n k.c 0 k.key w1 (by exact HK.o.1.step P1.o.bel) (by omega)).mono ?_
 rintro e w2 ⟨A1,c1,rfl,ho,hb2⟩
 have P2:Hid (PR N F v x y s t (blkO A1++(bx::G)) w2):=η (P1.o.fresh (blkO A1) (fun g hg=>BbV ho g hg) hb2)
 have O2:=η ho
 have HKP2:=η (HKP1.o.trans ((P1.o.kp hb2).less (fun g hg=>List.mem_cons_of_mem _ hg)))
 have K2:=η (K1.o.step hb2)
 have c0:w2.cell? ⟨bx,0,none⟩=some (.int .i64 kt):=by rw [←HT.o];exact K2.o.cell 0
 have cq:w2.cell? ⟨bx,1,none⟩=some (.int .i64 k.q):=K2.o.cell 1
 have c2:w2.cell? ⟨bx,2,none⟩=some (.slice k.A k.n k.c):=K2.o.cell 2
 clear ho hb2 K1 P1
 have HZ:=η (And.intro P2.o (And.intro O2.o HKP2.o))
 go_wp2_with fail
 go_loopw [9] (fun i wr=>∃ j:Nat,j≤k.n∧i=.int .i64 (j:Int)∧Hid (PR N F v x y (s) (t) (blkO A1++(bx::G)) wr∧Kp G w wr∧∃ q,OwnB wr w1.heap.size A1 k.n c1 q)) (fun i _=>k.n - (intOf i).toNat)
 case atStart=>exact ⟨0,by omega,rfl,η ⟨HZ.o.1,HZ.o.2.2,_,HZ.o.2.1⟩⟩
 case round =>
  obtain ⟨j,hj,rfl,HK⟩:=hrel;by_cases hlt:j<k.n
  ·obtain ⟨hpr,hkp,q,hown⟩:=HK.o
   obtain ⟨gb,hgb,hgl,hgs⟩:=hown.form (by omega);subst hgb;have hq:j<q.length:=by rw [hown.len];exact hlt
   obtain ⟨xb,hx⟩:∃ x,q[j]?=some x:=⟨_,List.getElem?_eq_getElem hq⟩;have hc:=hown.cellAt hx;have hf:=hown.freeAt j;obtain ⟨yb,hy⟩:=CfK xb;have hx8:=xb.toNat_lt;have HO:=η (And.intro hpr (And.intro hgl (And.intro hkp hown)));clear hx hgl hown hq hpr hgs hkp;go_wp2_with fail;go_roundw
   case rel=>exact ⟨j+1,by omega,by go_num,η ⟨HO.o.1.poke (S:=[gb]) ((Oth.refl [gb] wr).set (by simp) j _) (fun g hg=>by rw [List.mem_singleton.1 hg];simp [blkO]) (fun g hg=>by rw [List.mem_singleton.1 hg];exact Nat.le_trans HV.o HO.o.2.1),HO.o.2.2.1.trans (fun g hg=>((Oth.refl [gb] wr).set (by simp) j _).block g (HO.o.1.inG g (List.mem_append_right _ (List.mem_cons_of_mem _ hg))) (fun hm=>by rw [List.mem_singleton.1 hm] at hg;have:=HG.o gb hg;have:=HO.o.2.1;omega)),_,HO.o.2.2.2.stored j yb _ (by rw [bv])⟩⟩
   case measure=>simp [intOf];omega
  ·go_wp2_with fail
   go_ret;exact ⟨rfl,HK.o.1.less (fun g hg=>List.mem_append_right _ (List.mem_cons_of_mem _ hg)),HK.o.2.1⟩
theorem do19_g (N F:Nat) (v:World) (x y:Nat) (s t:Rg) (G:List Nat) (w:World) (h:PR N F v x y s t G w) (k:Cr) (hk:k.ok v.heap.size v) (hn:k.n≤100) :
  Calls prog 45 #[.pointer (some ⟨x,0,none⟩),.pointer (some ⟨y,0,none⟩),k.val] w (CfV N F v x y s t G k w):=by
 by_cases h0:k.t=0
 ·exact EyZ N F v x y s t G w h k hk hn h0
 by_cases h1:k.t=1
 ·exact do19_ret N F v x y s t G w h k hk hn h1
 ·exact EzJ N F v x y s t G w h k hk hn ⟨h0,h1⟩
open Go.RowKit
section
variable {v w w':World} {x y:Nat} {s u:Rg}
end
open Go.RowKit
theorem ex_ldCr (ev:Operand→Value) (x:Operand) (d:Option Tmp) (ty:TypeId) (ps:String) (af:Array Edge) (g:Option (Nat×Bool)) (w:World):(execOp ev ⟨d,.load 113 x,ty,ps,af,g⟩).run prog w=ldHd 113 (ev x) w:=rfl
section
variable {v w w':World} {x y c d:Nat} {s t:Rg} {G S:List Nat} {A B:YA} {es:Ens} {ks:List KR}
theorem Rs.base_le {b base:Nat} (h:Rs base w y B d ks) (hb:b≤base):Rs b w y B d ks:=⟨h.blk,h.grd.base_le hb,h.key,Nat.le_trans hb h.low⟩
end
attribute [local irreducible] wsW AeW keyF ArX AvQ AiY BoJ aftL encL tableL AoQ blkL ApQ putL numL xorL AlZ fstL hkL tagL trnL bB sumG nB ApW AmK tagR
open Go.RowKit
def RetEB (e:EB) (N F M:Nat) (L:YB) (E:Int) (w:World) (r:Ending) (w':World):Prop :=
 ∃ A c,r=.returned (.tuple #[.slice A M c,.int .i64 E])∧OwnB w' w.heap.size A M c L∧Oth e.S w w'∧e.Ok N F w'
theorem CrX {e:EB} {A:YA} (h:∀ g∈blkO A,g∉e.S):AwayS A e.S:=fun x hx g o ea he=>by
 subst he
 exact h g (by rw [ea];simp [blkO]) hx
theorem eb_seal (e:EB) (N F:Nat) (w:World) (h:e.Ok N F w) (hn:N+1≤1000000000) (A1 A2 A3:YA) (n1 c1 n2 c2 n3 c3:Nat) (l t a:YB) (h1:RB w w.heap.size A1 n1 l) (h2:RB w w.heap.size A2 n2 t) (h3:RB w w.heap.size A3 n3 a) (m3:n3≤c3) (a3:0<n3→∀ g∈blkO A3,g∉e.S) (hn2:n2≤65535) (hn3:n3≤65535) (M:Nat) (L:YB) (E:Int) (hR:ApW e.key l t a=(L,E)) (hM:L.length=M) :
  Calls prog 130 #[.pointer (some ⟨e.x,0,none⟩),.slice A1 n1 c1,.slice A2 n2 c2,.slice A3 n3 c3] w (RetEB e (N+1) F M L E w):=by
 obtain ⟨p,f,hi,hf,hz⟩:=h
 rw [←hi.x]
 refine (gseal_r p N f A1 A2 A3 n1 c1 n2 c2 n3 c3 l t a w hz hn h1 h2 h3 m3 (fun h0=>by rw [hi.same];exact CrX (a3 h0)) hn2 hn3).mono fun r w' hr=>?_
 obtain ⟨A,c,he,ho,hoff,hz'⟩:=hr.to f M L E rfl (by rw [hi.key];exact hR) hM
 exact ⟨A,c,he,ho,by rw [←hi.same];exact ⟨hoff.os,hoff.tape,hoff.output,hoff.size,hoff.block⟩,p,f,hi,hf,hz'⟩
theorem eb_open (e:EB) (N F:Nat) (w:World) (h:e.Ok N F w) (hn:N+1≤1000000000) (hF:F≤1000000000) (A1 A2 A3:YA) (n1 c1 n2 c2 n3 c3:Nat) (l s a:YB) (h1:RB w w.heap.size A1 n1 l) (h2:RB w w.heap.size A2 n2 s) (h3:RB w w.heap.size A3 n3 a) (m2:n2≤c2) (m3:n3≤c3) (a1:0<n1→∀ g∈blkO A1,g∉e.S) (a2:0<n2→∀ g∈blkO A2,g∉e.S) (a3:0<n3→∀ g∈blkO A3,g∉e.S) (hn2:n2≤65551) (hn3:n3≤65535) (M:Nat) (L:YB) (E:Int) (hR:AmK e.key l s a=(L,E)) (hM:L.length=M) :
  Calls prog 82 #[.pointer (some ⟨e.x,0,none⟩),.slice A1 n1 c1,.slice A2 n2 c2,.slice A3 n3 c3] w (RetEB e (N+1) (F+1) M L E w):=by
 obtain ⟨p,f,hi,hf,hz⟩:=h
 rw [←hi.x]
 refine (gopen_r p N f A1 A2 A3 n1 c1 n2 c2 n3 c3 l s a w hz hn (by omega) h1 h2 h3 m2 m3 (fun h0=>by rw [hi.same];exact CrX (a1 h0)) (fun h0=>by rw [hi.same];exact CrX (a2 h0)) (fun h0=>by rw [hi.same];exact CrX (a3 h0)) hn2 hn3).mono fun r w' hr=>?_
 obtain ⟨A,c,he,ho,hoff,hz'⟩:=hr.to _ M L E rfl (by rw [hi.key];exact hR) hM
 exact ⟨A,c,he,ho,by rw [←hi.same];exact ⟨hoff.os,hoff.tape,hoff.output,hoff.size,hoff.block⟩,p,_,hi,by split <;> omega,hz'⟩
section
variable {v w w':World} {base x c N F N' F' n d M:Nat} {A B:YA} {es:Ens} {e0:EB×Int} {l L:YB} {E:Int} {r:Ending} {S:List Nat}
theorem Rn.parted (h:Rn base w x A c es N F):∀ a∈es,∀ b∈es,a=b∨a.1.H≤b.1.L∨b.1.H≤a.1.L:=fun a ha b hb=>by
 obtain ⟨i,hi,rfl⟩:=List.getElem_of_mem ha
 obtain ⟨j,hj,rfl⟩:=List.getElem_of_mem hb
 have hp:=List.pairwise_iff_getElem.1 h.pw
 rcases Nat.lt_trichotomy i j with hl | hl | hl
 ·exact .inr (.inl (hp i j hi hj hl))
 ·subst hl;exact .inl rfl
 ·exact .inr (.inr (hp j i hj hi hl))
theorem EB.Ok.not_in {e:EB} {g:Nat} (h:e.Ok N F w) (ho:e.o g):g∉e.S:=fun hm=>by
 have:=h.in_ g hm
 unfold EB.o at ho
 omega
theorem Rn.call (h:Rn base w x A c es N F) (h0:e0∈es) (ho:Oth e0.1.S w w') (hk:e0.1.Ok N' F' w') (hn:N≤N') (hf:F≤F'):Rn base w' x A c es N' F':=by
 obtain ⟨k1,k2,k3,k4,k5⟩:=h.ok e0 h0
 refine ⟨h.blk.oth ho (k1.not_in k4),h.grd.oth ho (fun g hg=>k1.not_in (k5 g hg)),fun e he=>⟨?_,(h.ok e he).2⟩,h.pw,h.low⟩
 rcases h.parted e he e0 h0 with rfl | hd
 ·exact hk
 ·exact ((h.ok e he).1.off ho (fun g hg=>by
   have:=k1.in_ g hg
   unfold EB.o
   omega)).up hn hf
structure BX (v:World) (x:Nat) (A:YA) (c:Nat) (es:Ens) (N F:Nat) (rows:List (Option Addr×Nat×Nat×List UInt8)) (w:World):Prop where
 bel:Below v.heap.size v w
 rn:Rn v.heap.size w x A c es N F
 row:∀ r∈rows,RB w w.heap.size r.1 r.2.1 r.2.2.2∧r.2.1≤r.2.2.1∧(0<r.2.1→∀ g∈blkO r.1,∀ e∈es,e.1.o g)
variable {rows:List (Option Addr×Nat×Nat×List UInt8)}
end
structure XD where
 A:Option Addr
 c:Nat
 es:Ens
 B:Option Addr
 d:Nat
 ks:List KR
def RowG (v:World) (G:List Nat) (w:World) (r:Option Addr×Nat×Nat×List UInt8):Prop:=RB w w.heap.size r.1 r.2.1 r.2.2.2∧r.2.1≤r.2.2.1∧(0<r.2.1→∀ g∈blkO r.1,g∈G∨g<v.heap.size)
structure TX (N F:Nat) (v:World) (x y:Nat) (s t:Rg) (D:XD) (G:List Nat) (rows:List (Option Addr×Nat×Nat×List UInt8)) (w:World):Prop where
 pr:PRe N F v x y s t G w D.A D.c D.es D.B D.d D.ks
 row:∀ r∈rows,RowG v G w r
section
variable {N F N' F':Nat} {v w w':World} {x y n c d M:Nat} {s t s' t':Rg} {D:XD} {G:List Nat} {A B:YA} {rows:List (Option Addr×Nat×Nat×List UInt8)} {l L:YB} {E:Int} {r:Ending} {a:Int} {e0:EB×Int}
end
