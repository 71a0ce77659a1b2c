import Derived.Test.YthppjgdnibfefaaGreatCountAll
import Derived.Test.YthppjgdnibfefaaGreatRefGcm
import Derived.Test.YthppjgdnibfefaaGreatGhTexts
set_option linter.all false
set_option maxRecDepth 100000
set_option maxHeartbeats 32000000
namespace Go.Proofs.YthppjgdnibfefaaGreat
open Tryz
open Go.RowKit
structure BP where
 w0:World
 wc:World
 x:Nat
 cb:Nat
 hb:Nat
 b:Nat
 lo:Nat
 c0:Nat
 A0:Option Addr
 key:List UInt8
def BP.S (p:BP):List Nat:=[p.x,p.cb,p.hb]
structure Bz (p:BP) (n f:Nat) (w:World):Prop where
 old:p.w0.heap.size≤w.heap.size
 c0:w.cell? ⟨p.x,0,none⟩=some (.slice p.A0 16 p.c0)
 c1:w.cell? ⟨p.x,1,none⟩=some (.pointer (some ⟨p.cb,0,none⟩))
 c2:w.cell? ⟨p.x,2,none⟩=some (.pointer (some ⟨p.hb,0,none⟩))
 c3:w.cell? ⟨p.x,3,none⟩=some (.int .i64 (f:Int))
 free:w.frozen? ⟨p.x,3,none⟩=false
 cap:16≤p.c0
 key:RB w p.w0.heap.size p.A0 16 p.key
 away:AwayS p.A0 p.S
 ob0:Ob p.cb p.b p.lo p.key 0 p.wc
 but:But p.cb p.wc w
 ob:∃ m,m≤n∧Ob p.cb p.b p.lo p.key m w
 ho:∃ d,Ho w p.hb (nB (hkL p.key)) d
 ord:p.wc.heap.size≤p.x∧p.wc.heap.size≤p.hb∧p.x<p.w0.heap.size∧p.hb<p.w0.heap.size∧p.x≠p.hb∧p.wc.heap.size≤p.w0.heap.size
theorem Ho.same {w w':World} {b h:Nat} {d:Bool} (o:Ho w b h d) (e:w'.heap[b]?=w.heap[b]?):Ho w' b h d:=by
 obtain ⟨h0,f,hc,hr⟩:=o
 exact ⟨h0,f,fun j hj=>⟨(World.cell?_of_block (w:=w) (a:=⟨b,j,none⟩) e).trans (hc j hj).1,(World.frozen?_of_block (w:=w) (a:=⟨b,j,none⟩) e).trans (hc j hj).2⟩,hr⟩
section
variable {p:BP} {n f:Nat} {w w':World}
theorem Bz.lt (h:Bz p n f w):∀ y∈p.S,y<p.w0.heap.size:=by
 intro y hy
 have h0:=h.ord
 have h1:=h.ob0.lt
 simp only [BP.S,List.mem_cons,List.not_mem_nil,or_false] at hy
 rcases hy with rfl | rfl | rfl <;> omega
theorem Bz.hold (h:Bz p n f w) (hb:Below p.w0.heap.size w w'):Bz p n f w' where
 old:=Nat.le_trans h.old hb.size
 c0:=(hb.cell (p:=⟨p.x,0,none⟩) h.ord.2.2.1).trans h.c0
 c1:=(hb.cell (p:=⟨p.x,1,none⟩) h.ord.2.2.1).trans h.c1
 c2:=(hb.cell (p:=⟨p.x,2,none⟩) h.ord.2.2.1).trans h.c2
 c3:=(hb.cell (p:=⟨p.x,3,none⟩) h.ord.2.2.1).trans h.c3
 free:=(hb.frozen (p:=⟨p.x,3,none⟩) h.ord.2.2.1).trans h.free
 cap:=h.cap
 key:=h.key.below hb
 away:=h.away
 ob0:=h.ob0
 but:=h.but.behind (hb.mono h.ord.2.2.2.2.2)
 ob:=by
  obtain ⟨m,hm,ho⟩:=h.ob;exact ⟨m,hm,h.ob0.hold h.but ho (hb.mono h.ord.2.2.2.2.2)⟩
 ho:=by
  obtain ⟨d,ho⟩:=h.ho;exact ⟨d,ho.below hb h.ord.2.2.2.1⟩
 ord:=h.ord
theorem Bz.keep (h:Bz p n f w) (hb:Below w.heap.size w w'):Bz p n f w':=h.hold (hb.mono h.old)
theorem Bz.drew (h:Bz p n f w):Bz p n f w.drew:=h.keep (Below.refl _ _).drew
theorem Bz.up {n':Nat} (h:Bz p n f w) (hn:n≤n'):Bz p n' f w:={ h with ob:=h.ob.elim fun m k=>⟨m,Nat.le_trans k.1 hn,k.2⟩ }
theorem Bz.kr (h:Bz p n f w):RB w w.heap.size p.A0 16 p.key:=h.key.more h.old
theorem Bz.enc (h:Bz p n f w) (hb:But p.cb w w') (ho:∃ m,m≤n+1∧Ob p.cb p.b p.lo p.key m w'):Bz p (n+1) f w' :=
 have h0:=h.ord
 have h1:=h.ob0.lt
 have hx:p.x<w.heap.size:=Nat.lt_of_lt_of_le h0.2.2.1 h.old
 have hc:p.x≠p.cb:=by omega
 {old:=Nat.le_trans h.old hb.size
  c0:=(hb.cell (p:=⟨p.x,0,none⟩) hx hc).trans h.c0
  c1:=(hb.cell (p:=⟨p.x,1,none⟩) hx hc).trans h.c1
  c2:=(hb.cell (p:=⟨p.x,2,none⟩) hx hc).trans h.c2
  c3:=(hb.cell (p:=⟨p.x,3,none⟩) hx hc).trans h.c3
  free:=(hb.frozen (p:=⟨p.x,3,none⟩) hx hc).trans h.free
  cap:=h.cap
  key:=h.key.but hb h.old (fun g o _ e=>h.away p.cb (by simp [BP.S]) g o e)
  away:=h.away
  ob0:=h.ob0
  but:=h.but.trans hb
  ob:=ho
  ho:=by
   obtain ⟨d,ho⟩:=h.ho
   exact ⟨d,ho.same (hb.block p.hb (Nat.lt_of_lt_of_le h0.2.2.2.1 h.old) (by omega))⟩
  ord:=h0 }
theorem Bz.sum (h:Bz p n f w) (hb:But p.hb w w') (ho:∃ d,Ho w' p.hb (nB (hkL p.key)) d):Bz p n f w' :=
 have h0:=h.ord
 have hx:p.x<w.heap.size:=Nat.lt_of_lt_of_le h0.2.2.1 h.old
 have hl:Below p.wc.heap.size w w':=hb.below h0.2.1 (Nat.lt_of_lt_of_le h0.2.2.2.1 h.old)
 {old:=Nat.le_trans h.old hb.size
  c0:=(hb.cell (p:=⟨p.x,0,none⟩) hx h0.2.2.2.2.1).trans h.c0
  c1:=(hb.cell (p:=⟨p.x,1,none⟩) hx h0.2.2.2.2.1).trans h.c1
  c2:=(hb.cell (p:=⟨p.x,2,none⟩) hx h0.2.2.2.2.1).trans h.c2
  c3:=(hb.cell (p:=⟨p.x,3,none⟩) hx h0.2.2.2.2.1).trans h.c3
  free:=(hb.frozen (p:=⟨p.x,3,none⟩) hx h0.2.2.2.2.1).trans h.free
  cap:=h.cap
  key:=h.key.but hb h.old (fun g o _ e=>h.away p.hb (by simp [BP.S]) g o e)
  away:=h.away
  ob0:=h.ob0
  but:=h.but.behind hl
  ob:=by
   obtain ⟨m,hm,ho⟩:=h.ob
   exact ⟨m,hm,h.ob0.hold h.but ho hl⟩
  ho:=ho
  ord:=h0 }
theorem Bz.add (h:Bz p n f w):Bz p n (f+1) (w.setCell ⟨p.x,3,none⟩ (.int .i64 ((f:Int)+1))) :=
 have h0:=h.ord
 have hx:p.x<w.heap.size:=Nat.lt_of_lt_of_le h0.2.2.1 h.old
 have hb:But p.x w (w.setCell ⟨p.x,3,none⟩ (.int .i64 ((f:Int)+1))):=(But.refl p.x w).self 3 _
 have hl:Below p.wc.heap.size w (w.setCell ⟨p.x,3,none⟩ (.int .i64 ((f:Int)+1))):=hb.below h0.1 hx
 {old:=Nat.le_trans h.old hb.size
  c0:=(World.cell?_setCell_other _ _ _ _ (by intro e;injection e with _ e;omega)).trans h.c0
  c1:=(World.cell?_setCell_other _ _ _ _ (by intro e;injection e with _ e;omega)).trans h.c1
  c2:=(World.cell?_setCell_other _ _ _ _ (by intro e;injection e with _ e;omega)).trans h.c2
  c3:=by
   rw [Int.natCast_add]
   exact World.cell?_setCell_same w _ _ h.c3
  free:=by simp [h.free]
  cap:=h.cap
  key:=h.key.but hb h.old (fun g o _ e=>h.away p.x (by simp [BP.S]) g o e)
  away:=h.away
  ob0:=h.ob0
  but:=h.but.behind hl
  ob:=by
   obtain ⟨m,hm,ho⟩:=h.ob
   exact ⟨m,hm,h.ob0.hold h.but ho hl⟩
  ho:=by
   obtain ⟨d,ho⟩:=h.ho
   exact ⟨d,ho.same (hb.block p.hb (Nat.lt_of_lt_of_le h0.2.2.2.1 h.old) (by omega))⟩
  ord:=h0 }
end
theorem put_1 (w:World):Calls prog 156 #[.int .u64 1,.int .i64 4] w (AhW 4 [0,0,0,1] 0 w) :=
 (CxZ 1 4 w (by omega) (by omega)).mono fun e w' h=>by
  rcases h with ⟨_,h⟩ | ⟨h,_⟩
  ·rw [show putL 1 4=[0,0,0,1] by decide] at h
   exact h
  ·exact absurd (by decide) h
def RetO (p:BP) (n f:Nat) (r:List UInt8×Int) (w:World) (e:Ending) (w':World):Prop :=
 ∃ A c,e=.returned (.tuple #[.slice A r.1.length c,.int .i64 r.2])∧OwnB w' w.heap.size A r.1.length c r.1∧Off p.S w w'∧Bz p n f w'
def RetX2 (key:YB) (w:World) (e:Ending) (w':World):Prop :=
 ∃ p:BP,e=.returned (.tuple #[.pointer (some ⟨p.x,0,none⟩),.int .i64 0])∧p.key=key∧Below w.heap.size w w'∧(∀ y∈p.S,w.heap.size≤y)∧(w.heap.size≤p.lo∧(∀ g o,p.A0=some ⟨g,o,none⟩→w.heap.size≤g)∧p.w0.heap.size=w'.heap.size)∧Bz p 1 0 w'
def RetX (key:YB) (w:World) (e:Ending) (w':World):Prop :=
 ∃ p:BP,e=.returned (.tuple #[.pointer (some ⟨p.x,0,none⟩),.int .i64 0])∧p.key=key∧Below w.heap.size w w'∧(∀ y∈p.S,w.heap.size≤y)∧Bz p 1 0 w'
open Go.RowKit
attribute [local irreducible] wsW AeW keyF ArX AvQ AiY BoJ aftL encL tableL AoQ blkL ApQ putL numL xorL AlZ fstL hkL tagL trnL bB sumG nB
theorem EuW (A:YA) (n c q M:Nat) (w:World) (hq:w.cell? ⟨q,0,none⟩=some (.int .i64 (M:Int))) (v:Bool) (hv:decide ((M:Int)<(n:Int))=v) :
  Calls prog 149 #[.slice A n c,.pointer (some ⟨q,0,none⟩)] w fun e w'=>e=.returned (.bool v)∧w=w':=by
 go_enter func149,ntmps149
 go_wp2_with fail
 go_ret
 have hv2:decide (M<n)=v:=by rw [←hv];congr 1;simp
 exact ⟨by first | rfl | simp [hv,hv2],rfl⟩
theorem EvX (A:YA) (n c q M:Nat) (ps:List (YB)) (w:World) (h:RR w w.heap.size A n ps) (hn:n≤1000) (hq:w.cell? ⟨q,0,none⟩=some (.int .i64 (M:Int))) (hall:∀ p∈ps,p.length≤M) :
  Calls prog 125 #[.slice A n c,.func (.func 149) #[] #[.pointer (some ⟨q,0,none⟩)]] w fun e w'=>e=.returned (.int .i64 (-1))∧w=w':=by
 have H:=η h
 have HQ:=η hq
 have HA:=η hall
 clear h hq hall
 go_enter func125,ntmps125
 go_wp2_with fail
 go_loopw [8] (fun i wr=>∃ k:Nat,k≤n∧i=.int .i64 k∧w=wr) (fun i _=>n - (intOf i).toNat)
 case atStart=>exact ⟨0,by omega,rfl,rfl⟩
 case round =>
  obtain ⟨k,hk,rfl,rfl⟩:=hrel;by_cases hlt:k<n
  ·obtain ⟨b,o,rfl,hb,p,hp,Ai,ci,hc,hr⟩:=H.o.at_ hlt
   have HL:=η (EuW Ai p.length ci q M w HQ.o false (decide_eq_false (by have:=HA.o p (List.mem_of_getElem? hp);omega)));clear hp;go_wp2_with fail;refine HL.o.mono ?_;rintro e w1 ⟨rfl,rfl⟩;go_wp2_with fail;go_roundw
   case rel=>exact ⟨k+1,by omega,by go_num,trivial⟩
   case measure=>simp [intOf];omega
  ·have hkn:k=n:=by omega
   subst hkn;go_wp2_with fail;go_ret;exact ⟨rfl,rfl⟩
theorem DdY (A:YA) (n c q M:Nat) (ps:List (YB)) (w:World) (h:RR w w.heap.size A n ps) (hn:n≤1000) (hq:w.cell? ⟨q,0,none⟩=some (.int .i64 (M:Int))) (hall:∀ p∈ps,p.length≤M) :
  Calls prog 92 #[.slice A n c,.func (.func 149) #[] #[.pointer (some ⟨q,0,none⟩)]] w fun e w'=>e=.returned (.bool false)∧w=w':=by
 have HI:=η (EvX A n c q M ps w h hn hq hall)
 clear h hq hall
 go_enter func92,ntmps92
 go_wp2_with fail
 refine HI.o.mono ?_
 rintro e w1 ⟨rfl,rfl⟩
 go_wp2_with fail
 go_ret
 exact ⟨rfl,rfl⟩
theorem DnX (B:YA) (n c2 M:Nat) (ps:List (YB)) (w:World) (h:RR w w.heap.size B n ps) (hn:n≤1000) (hall:∀ p∈ps,p.length≤M) :
  Calls prog 115 #[.int .i64 (M:Int),.slice B n c2] w fun e w'=>e=.returned (.bool false)∧Below w.heap.size w w':=by
 have HC:Hid (Calls prog 92 #[.slice B n c2,.func (.func 149) #[] #[.pointer (some ⟨w.heap.size,0,none⟩)]] (w.alloc (.cells #[.int .i64 (M:Int)] 3)) fun e w'=>e=.returned (.bool false)∧w.alloc (.cells #[.int .i64 (M:Int)] 3)=w'):=η (by
  refine DdY B n c2 w.heap.size M ps _ ?_ hn (World.cell?_alloc_at _ _ _ _ rfl) hall
  have hb:=AaK w (.cells #[.int .i64 (M:Int)] 3)
  refine ⟨h.1,fun h0=>?_⟩
  obtain ⟨b,o,e,hbb,hc⟩:=(h.below hb).2 h0
  exact ⟨b,o,e,Nat.lt_of_lt_of_le hbb hb.size,fun i p hp=>by
   obtain ⟨Ai,ci,h1,h2⟩:=hc i p hp
   exact ⟨Ai,ci,h1,h2.more hb.size⟩⟩)
 have hmf:∀ (fn:Fn) (first cap:Array Value) (w:World),(Instr.makeFunc fn first cap).run prog w=.ok (.func fn first cap) w:=fun _ _ _ _=>rfl
 clear h hall
 go_enter func115,ntmps115
 go_wp2_with fail
 refine HC.o.mono ?_
 rintro e w1 ⟨rfl,rfl⟩
 go_wp2_with fail
 go_ret
 exact ⟨rfl,AaK _ _⟩
theorem DnY (w:World) (A:YA) (n c M:Nat) (Mi:Int) (hM:Mi=(M:Int)) (l:YB) (h:RB w w.heap.size A n l) (hm:n≤M) :
  Calls prog 115 #[.int .i64 Mi,.slice (some ⟨w.heap.size,0,none⟩) 1 1] (w.alloc (.cells #[.slice A n c] 41)) (fun e w'=>e=.returned (.bool false)∧Below w.heap.size w w'):=by
 subst hM
 have e1:=h.len
 have hrr:=RR.lit w [(A,c,l)] #[.slice A n c] 41 1 w.heap.size (by simp [e1]) rfl rfl (fun r hr=>by
  simp only [List.mem_cons,List.not_mem_nil,or_false] at hr
  subst hr
  rw [e1];exact h)
 refine (DnX _ 1 1 M [l] _ hrr (by omega) (fun q hq=>by simp only [List.mem_cons,List.not_mem_nil,or_false] at hq;subst hq;omega)).mono ?_
 rintro e w' ⟨rfl,hb⟩
 exact ⟨rfl,(AaK w _).trans (hb.mono (by simp))⟩
theorem tlong2 (w:World) (A1 A2:YA) (n1 n2 c1 c2 M:Nat) (Mi:Int) (hM:Mi=(M:Int)) (l1 l2:YB) (h1:RB w w.heap.size A1 n1 l1) (h2:RB w w.heap.size A2 n2 l2) (hm1:n1≤M) (hm2:n2≤M) :
  Calls prog 115 #[.int .i64 Mi,.slice (some ⟨w.heap.size,0,none⟩) 2 2] (w.alloc (.cells #[.slice A1 n1 c1,.slice A2 n2 c2] 41)) (fun e w'=>e=.returned (.bool false)∧Below w.heap.size w w'):=by
 subst hM
 have e1:=h1.len
 have e2:=h2.len
 have hrr:=RR.lit w [(A1,c1,l1),(A2,c2,l2)] #[.slice A1 n1 c1,.slice A2 n2 c2] 41 2 w.heap.size (by simp [e1,e2]) rfl rfl (fun r hr=>by
  simp only [List.mem_cons,List.not_mem_nil,or_false] at hr
  rcases hr with rfl | rfl
  ·rw [e1];exact h1
  ·rw [e2];exact h2)
 refine (DnX _ 2 2 M [l1,l2] _ hrr (by omega) (fun q hq=>by
  simp only [List.mem_cons,List.not_mem_nil,or_false] at hq
  rcases hq with rfl | rfl <;> omega)).mono ?_
 rintro e w' ⟨rfl,hb⟩
 exact ⟨rfl,(AaK w _).trans (hb.mono (by simp))⟩
theorem fst_two (n:YB):n++[0,0,0,1]=fstL n:=by unfold fstL;rfl
theorem CjZ (A:YA) (c0:Nat) (n:YB) (w:World) (h:RB w w.heap.size A 12 n) :
  Calls prog 150 #[.slice A 12 c0] w (RetB 16 (fstL n) w):=by
 have H:=η h
 have HF:=η (fst_two n)
 clear h
 go_enter func150,ntmps150
 go_wp2_with fail
 refine (put_1 _).mono ?_
 rintro e w1 ⟨A1,c1,rfl,ho1,hb1⟩
 have HO1:=η ho1
 have HB1:=η hb1
 clear ho1 hb1
 go_wp2_with fail
 refine (CcV _ A A1 12 4 16 c0 c1 n [0,0,0,1] (by exact H.o.step HB1.o) (by exact HO1.o.rb) rfl (by omega)).mono ?_
 rw [HF.o]
 rintro e w2 ⟨A2,c2,rfl,ho2,hb2⟩
 have HO2:=η (ho2.base_le HB1.o.size)
 have HB2:=η (HB1.o.trans (hb2.mono HB1.o.size))
 clear ho2 hb2
 go_wp2_with fail
 go_ret
 exact ⟨A2,c2,rfl,HO2.o,HB2.o⟩
theorem DbK (p:BP) (n f:Nat) (A1 A2:YA) (c1 n2 c2:Nat) (l t:YB) (w:World) (h:Bz p n f w) (h1:RB w w.heap.size A1 12 l) (h2:RB w w.heap.size A2 n2 t) (hn:n2≤65535) :
  Calls prog 117 #[.pointer (some ⟨p.x,0,none⟩),.slice A1 12 c1,.slice A2 n2 c2] w (RetB n2 (trnL p.key l t) w):=by
 have HX:=η h
 have H1:=η h1
 have H2:=η h2
 have HTRN:=η (EiX p.key l t n2 h2.len)
 clear h h1 h2
 go_enter func117,ntmps117
 go_wp2_with fail
 refine (CjZ A1 c1 l _ (by exact H1.o)).mono ?_
 rintro e w1 ⟨A5,c5,rfl,ho5,hb5⟩
 have HC5:=ho5.cap.1
 have HR5:=η ho5.rb
 have HB1:=η hb5
 clear ho5 hb5
 go_wp2_with fail
 refine (DeK A5 c5 (fstL l) _ (by exact HR5.o) HC5).mono ?_
 rintro e w2 ⟨A6,c6,rfl,ho6,hb6⟩
 have HC6:=ho6.cap.1
 have HR6:=η ho6.rb
 have HB2:=η (AaJ HB1.o hb6)
 clear ho6 hb6 HR5 HB1 HC5
 have hx0:=(HX.o.keep HB2.o).c0
 go_wp2_with fail
 refine (EzQ p.A0 A6 A2 p.c0 c6 n2 c2 p.key (aftL (fstL l) 1) t _ (by exact (HX.o.keep HB2.o).kr) HX.o.cap (by exact HR6.o) HC6 (by exact H2.o.step HB2.o) hn).mono ?_
 rw [HTRN.o]
 rintro e w3 ⟨A7,c7,rfl,ho7,hb7⟩
 have HO7:=η (ho7.base_le HB2.o.size)
 have HB3:=η (AaJ HB2.o hb7)
 clear ho7 hb7 hx0
 go_wp2_with fail
 go_ret
 exact ⟨A7,c7,rfl,HO7.o,HB3.o⟩
def RetTg (p:BP) (n f:Nat) (l:YB) (w:World) (e:Ending) (w':World):Prop :=
 ∃ A c,e=.returned (.slice A 16 c)∧OwnB w' w.heap.size A 16 c l∧Off p.S w w'∧Bz p n f w'
theorem BP.mem (p:BP):p.x∈p.S∧p.cb∈p.S∧p.hb∈p.S:=by simp [BP.S]
theorem DbV (p:BP) (n f:Nat) (A1 A2 A3:YA) (c1 n2 c2 n3 c3:Nat) (l t a:YB) (w:World) (h:Bz p n f w) (hn:n+1≤1000000000) (h1:RB w w.heap.size A1 12 l) (h2:RB w w.heap.size A2 n2 t) (h3:RB w w.heap.size A3 n3 a) (m2:n2≤c2) (m3:n3≤c3) (a2:0<n2→AwayS A2 p.S) (a3:0<n3→AwayS A3 p.S) (hn2:n2≤65535) (hn3:n3≤65535) :
  Calls prog 116 #[.pointer (some ⟨p.x,0,none⟩),.slice A1 12 c1,.slice A2 n2 c2,.slice A3 n3 c3] w (RetTg p (n+1) f (tagL p.key l t a) w):=by
 have HX:=η h
 have H1:=η h1
 have H2:=η h2
 have H3:=η h3
 have HA:=η (And.intro a2 a3)
 have HM:=η (And.intro m2 m3)
 have HK:=η (show (fstL l).length=16 from BhQ l h1.len)
 obtain ⟨m,hm,hob⟩:=h.ob
 have HOB:=η hob
 have HMN:=η (And.intro hm hn)
 obtain ⟨d,hho⟩:=h.ho
 have HHO:=η hho
 obtain ⟨s,HS⟩:∃ s,Hid (s=bB (sumG (nB (hkL p.key)) a t)):=⟨_,η rfl⟩
 obtain ⟨x,HE⟩:∃ x,Hid (x=encL p.key tableL (fstL l)):=⟨_,η rfl⟩
 have HT:Hid (xorL s x=tagL p.key l t a):=η (by rw [HS.o,HE.o];exact DoJ p.key l t a)
 have HHH:Hid (nB (hkL p.key)<2 ^ 128):=η (EuJ _ (EwW p.key hob.len))
 clear h h1 h2 h3 a2 a3 m2 m3 hm hob hho hn
 go_enter func116,ntmps116
 go_wp2_with fail
 refine wp_region_held_drew (S:=fun w'=>w'.cell? ⟨p.x,1,none⟩=some (.pointer (some ⟨p.cb,0,none⟩))) (by kernel_rfl) (by exact HX.o.drew.c1) (fun hHeld=>?_)
 (try dsimp only at hHeld)
 refine tkJ 0 rfl hHeld ?_
 refine tkJ 1 rfl hHeld ?_
 refine tkJ 2 rfl hHeld ?_
 refine tkJ 3 rfl hHeld ?_
 refine tkJ 4 rfl hHeld ?_
 refine rdI 5 rfl (fun K hK=>?_)
 (try simp only [Act.put,rxT,sxT])
 go_simp
 refine (CjZ A1 c1 l _ (by exact H1.o.drew)).mono ?_
 rintro e v1 ⟨A5,c5,rfl,ho5,hb5⟩
 have HC5:=ho5.cap.1
 have HB1:Hid (Below w.heap.size w v1):=η (by exact (Below.refl w.heap.size w).drew.trans hb5)
 have HO5:Hid (OwnB v1 w.heap.size A5 16 c5 (fstL l)):=η (by exact ho5)
 clear ho5 hb5
 (try go_wp2_with fail)
 refine hK.o _ _ (by exact (HX.o.keep HB1.o).c1) (fun hHeld=>?_)
 clear hK K
 refine rdI 6 rfl (fun K hK=>?_)
 (try simp only [Act.put,rxT,sxT])
 go_simp
 refine (BkJ p.cb p.b p.lo m c5 p.key (fstL l) A5 _ (by exact HOB.o.below HB1.o) (by have:=HMN.o;omega) (by exact HO5.o.rb) HC5 (HO5.o.far (Nat.lt_of_lt_of_le (HX.o.lt p.cb p.mem.2.1) HX.o.old))).mono ?_
 rw [←HE.o]
 rintro e v2 ⟨A6,c6,rfl,ho6,hbu6,hob6⟩
 have HX2:=η ((HX.o.keep HB1.o).enc hbu6 ⟨m+1,by have:=HMN.o;omega,hob6⟩)
 have HF2:=η ((Off.of_below (S:=p.S) HB1.o).trans (Off.of_but hbu6 p.mem.2.1))
 have HO6:=η (ho6.base_le HB1.o.size)
 have HHO2:=η ((HHO.o.keep HB1.o).same (hbu6.block p.hb (Nat.lt_of_lt_of_le (HX.o.lt p.hb p.mem.2.2) (Nat.le_trans HX.o.old HB1.o.size)) (by have:=HX.o.ord;have:=HX.o.ob0.lt;omega)))
 clear ho6 hbu6 hob6 HB1 HO5
 (try go_wp2_with fail)
 refine hK.o _ _ (by exact HX2.o.c1) (fun hHeld=>?_)
 clear hK K
 refine tkJ 7 rfl hHeld ?_
 refine tkJ 8 rfl hHeld ?_
 refine tkJ 9 rfl hHeld ?_
 refine tkJ 10 rfl hHeld ?_
 refine rdI 11 rfl (fun K hK=>?_)
 (try simp only [Act.put,rxT,sxT])
 go_simp
 refine hK.o _ _ (by exact HX2.o.c1) (fun _=>?_)
 clear hK K
 (try simp only [Act.put,rxT,sxT])
 refine wpAnyH_done (by kernel_rfl) ?_ _
 have hx2:=HX2.o.c2
 go_wp2_with fail
 refine (sum_gh p.hb (nB (hkL p.key)) d A3 A2 n3 c3 n2 c2 a t _ (by exact HHO2.o) HHH.o (by exact H3.o.off HF2.o HA.o.2) (by exact H2.o.off HF2.o HA.o.1) HM.o.2 HM.o.1 (by omega) (by omega) (fun g o h0 e=>HA.o.1 h0 p.hb p.mem.2.2 g o e)).mono ?_
 rw [←HS.o]
 rintro e w3 ⟨A7,c7,rfl,ho7,hbu7,hho7⟩
 have HX3:=η (HX2.o.sum hbu7 ⟨_,hho7⟩)
 have HF3:=η (HF2.o.trans (Off.of_but hbu7 p.mem.2.2))
 have HR7:=η ho7.rb
 have HR6:=η (HO6.o.but hbu7 (Nat.lt_of_lt_of_le (HX.o.lt p.hb p.mem.2.2) HX.o.old)).rb
 clear ho7 hbu7 hho7 hx2 HX2 HF2
 go_wp2_with fail
 refine (DmX A7 A6 16 c7 c6 0 0 s x _ (by exact HR7.o) (by exact HR6.o) (by omega)).mono ?_
 rw [HT.o]
 rintro e w4 ⟨A8,c8,rfl,ho8,hb8⟩
 have HO8:=η (ho8.base_le HF3.o.size)
 have HF4:=η (HF3.o.trans (Off.of_below hb8))
 have HX4:=η (HX3.o.keep hb8)
 clear ho8 hb8
 go_wp2_with fail
 go_ret
 exact ⟨A8,c8,rfl,HO8.o,HF4.o,HX4.o⟩
theorem AwayS.cut {A:YA} {S:List Nat} (h:AwayS A S) (hA:∃ g o,A=some ⟨g,o,none⟩) (c i:Nat):AwayS (cutA A c i) S:=by
 obtain ⟨b,q,rfl⟩:=hA
 intro x hx g o e
 refine h x hx g q ?_
 unfold cutA at e
 split at e
 ·injection e with e;injection e with e3 e4 e5
  rw [e3]
 ·simp only [Option.map_some] at e
  unfold Addr.add at e;split at e
  ·injection e with e;injection e with e3 e4 e5
   rw [e3]
  ·injection e with e;injection e with e3 e4 e5
   have e6:b=g:=e3;rw [e6]
theorem bx_built (A:YA) (n c p q:Nat):prog.built 188 [(0,.slice A n c),(1,.pointer (some ⟨p,0,none⟩)),(2,.pointer (some ⟨q,0,none⟩))]=some #[.slice A n c,.pointer (some ⟨p,0,none⟩),.pointer (some ⟨q,0,none⟩),.int .i64 0]:=by kernel_rfl
theorem EhQ {w:World} {ops:Array Oper} {rest:List Oper} {o:Oper} {a:Act} {Q:Exit→Act→World→Prop} (hgd:o.guard=none) (x y z:Operand) (hop:o.op=.build 188 #[(0,x),(1,y),(2,z)])
  (A:YA) (n c p q:Nat) (hx:a.eval x=.slice A n c) (hy:a.eval y=.pointer (some ⟨p,0,none⟩)) (hz:a.eval z=.pointer (some ⟨q,0,none⟩)) (h:wpList prog ops Q rest (a.put o.dst (.agg #[.slice A n c,.pointer (some ⟨p,0,none⟩),.pointer (some ⟨q,0,none⟩),.int .i64 0])) w):wpList prog ops Q (o::rest) a w:=by
 refine wpList_plain hgd fun K hK=>?_
 unfold Oper.wp execOp
 simp only [hop,List.map_toArray,List.map_cons,List.map_nil,hx,hy,hz,Sem.run_bind,run_build w _ #[(0,.slice A n c),(1,.pointer (some ⟨p,0,none⟩)),(2,.pointer (some ⟨q,0,none⟩))] _ (bx_built A n c p q),Result.andThen_ok]
 exact hK _ _ h
theorem bx_new (key:YB) (w w2 w4 w5 w6:World) (cb b lo hb c6:Nat) (A6:YA) (HB2:Below w.heap.size w w2) (hcb:w.heap.size≤cb) (hlo:w.heap.size≤lo) (HOB:Ob cb b lo key 0 w2) (HU4:But cb w2 w4) (HOB4:Ob cb b lo key 1 w4) (hhb:w4.heap.size≤hb) (HB5:Below w4.heap.size w4 w5) (HHO5:Ho w5 hb (nB (hkL key)) false) (HO6:OwnB w6 w5.heap.size A6 16 c6 key) (HB6:Below w5.heap.size w5 w6) :
  RetX2 key w (.returned (.tuple #[.pointer (some ⟨w6.heap.size,0,none⟩),.int .i64 0])) (w6.alloc (.cells #[.slice A6 16 c6,.pointer (some ⟨cb,0,none⟩),.pointer (some ⟨hb,0,none⟩),.int .i64 0] 188)):=by
 have hlc:=HOB.lt
 have hlh:=HHO5.lt
 have s24:=HU4.size
 have s2:=HB2.size
 have s45:=HB5.size
 have s56:=HB6.size
 have hal:=AaK w6 (.cells #[.slice A6 16 c6,.pointer (some ⟨cb,0,none⟩),.pointer (some ⟨hb,0,none⟩),.int .i64 0] 188)
 have hs7:(w6.alloc (.cells #[.slice A6 16 c6,.pointer (some ⟨cb,0,none⟩),.pointer (some ⟨hb,0,none⟩),.int .i64 0] 188)).heap.size=w6.heap.size+1:=by simp
 have hb47:Below w4.heap.size w4 (w6.alloc (.cells #[.slice A6 16 c6,.pointer (some ⟨cb,0,none⟩),.pointer (some ⟨hb,0,none⟩),.int .i64 0] 188)):=(HB5.trans (HB6.mono s45)).trans (hal.mono (by omega))
 refine ⟨⟨w6.alloc (.cells #[.slice A6 16 c6,.pointer (some ⟨cb,0,none⟩),.pointer (some ⟨hb,0,none⟩),.int .i64 0] 188),w2,w6.heap.size,cb,hb,b,lo,c6,A6,key⟩,rfl,rfl,?_,?_,⟨hlo,fun g o e=>?_,rfl⟩,?_⟩
 ·exact (HB2.trans (HU4.below hcb hlc)).trans (hb47.mono (by omega))
 ·intro y hy
  simp only [BP.S,List.mem_cons,List.not_mem_nil,or_false] at hy;rcases hy with rfl | rfl | rfl <;> omega
 ·have h6:w5.heap.size≤g:=(World.ownsRow.lt HO6 g (by show Value.ownBlock (.slice A6 16 c6)=some g;rw [show A6=some ⟨g,o,none⟩ from e];rfl)).1
  omega
 ·exact {
   old:=Nat.le_refl _
   c0:=World.cell?_alloc_at _ _ _ _ rfl
   c1:=World.cell?_alloc_at _ _ _ _ rfl
   c2:=World.cell?_alloc_at _ _ _ _ rfl
   c3:=World.cell?_alloc_at _ _ _ _ rfl
   free:=World.frozen?_alloc_at _ _ _ _ rfl
   cap:=HO6.cap.1
   key:=HO6.rb.step hal
   away:=by
    intro y hy
    simp only [BP.S,List.mem_cons,List.not_mem_nil,or_false] at hy
    rcases hy with rfl | rfl | rfl
    ·exact HO6.rb.far (by omega) (Nat.le_refl _)
    ·exact HO6.far (by omega)
    ·exact HO6.far (by omega)
   ob0:=HOB
   but:=HU4.trans (But.of_below hb47)
   ob:=⟨1,Nat.le_refl _,HOB4.below hb47⟩
   ho:=⟨false,HHO5.keep ((HB6.trans (hal.mono s56)))⟩
   ord:=by
    show w2.heap.size≤w6.heap.size∧w2.heap.size≤hb∧w6.heap.size<_∧hb<_∧w6.heap.size≠hb∧w2.heap.size≤_
    rw [hs7]
    omega }
theorem DbX (A:YA) (c:Nat) (key:YB) (w:World) (h:RB w w.heap.size A 16 key) (hc:16≤c) :
  Calls prog 106 #[.slice A 16 c] w (RetX2 key w):=by
 have H:=η h
 have HN:=η (DwY c A key w h hc)
 have HHK:=η (hk_eq key)
 have HKL:=η (EwW key h.len)
 clear h hc
 go_enter func106,ntmps106
 go_wp2_with fail
 refine HN.o.mono ?_
 rintro e w2 ⟨cb,b,lo,rfl,hb2,hcb,hbl,hob⟩
 have HB2:=η hb2
 have HOB:=η hob
 have HCB:Hid (w.heap.size≤cb∧cb<w2.heap.size):=η ⟨hcb,hob.lt⟩
 have HLO:=η hbl.2
 clear hb2 hob hcb hbl HN
 go_wp2_with (first
  | (at_make;refine AjY rfl _ _ rfl w2.heap.size .i64 .i64 _ _ 16 rfl rfl rfl rfl (by omega) (Nat.le_refl _) ?_;intro w3 hown3 hs3 hb3;have HO3:=η hown3;have HB3:=η hb3;clear hown3 hb3 hs3))
 refine (BkJ cb b lo 0 16 key (List.replicate 16 0) _ _ (by exact HOB.o.below HB3.o) (by omega) (by exact HO3.o.rb) (by omega) (by exact HO3.o.far HCB.o.2)).mono ?_
 rw [HHK.o]
 rintro e w4 ⟨A4,c4,rfl,ho4,hbu4,hob4⟩
 have HC4:=ho4.cap.1
 have HR4:=η ho4.rb
 have HU4:=η ((But.of_below (b:=cb) HB3.o).trans hbu4)
 have HOB4:=η hob4
 clear ho4 hbu4 hob4 HO3 HB3
 go_wp2_with fail
 refine (new_ok A4 c4 (hkL key) _ HC4 HKL.o (by exact HR4.o)).mono ?_
 rintro e w5 ⟨hb,rfl,hhb,hb5,hho5⟩
 have HHB:=η hhb
 have HB5:=η hb5
 have HHO5:=η hho5
 have HBW5:Hid (Below w.heap.size w w5):=η (((HB2.o.trans (HU4.o.below HCB.o.1 HCB.o.2)).trans (hb5.mono (Nat.le_trans HB2.o.size HU4.o.size))))
 clear hhb hb5 hho5 HR4 HC4
 go_wp2_with fail
 refine (CfJ A 16 c w5.heap.size key _ (by exact H.o.step HBW5.o) (by exact Nat.le_refl _) (by omega)).mono ?_
 rintro e w6 ⟨A6,c6,rfl,ho6,hb6⟩
 have HO6:=η ho6
 have HB6:=η hb6
 clear ho6 hb6
 go_wp2_with (refine EhQ rfl (.tmp 30) (.tmp 31) (.tmp 32) rfl A6 16 c6 cb hb rfl rfl rfl ?_)
 go_ret2
 exact bx_new key w w2 w4 w5 w6 cb b lo hb c6 A6 HB2.o HCB.o.1 HLO.o HOB.o HU4.o HOB4.o HHB.o HB5.o HHO5.o HO6.o HB6.o
theorem gnew_any (A:YA) (c:Nat) (key:YB) (w:World) (h:RB w w.heap.size A 16 key) (hc:16≤c) :
  Calls prog 106 #[.slice A 16 c] w (RetX key w) :=
 (DbX A c key w h hc).mono fun e w' k=>by
  obtain ⟨p,h1,h2,h3,h4,_,h5⟩:=k;exact ⟨p,h1,h2,h3,h4,h5⟩
theorem EwX (q:Value) (A1 A2 A3:YA) (n1 c1 n2 c2 n3 c3:Nat) (w:World) (h1:n1≠12) :
  Calls prog 130 #[q,.slice A1 n1 c1,.slice A2 n2 c2,.slice A3 n3 c3] w fun e w'=>e=.returned (.tuple #[.slice none 0 0,.int .i64 11])∧w=w':=by
 have g:((n1:Int) == 12)=false:=by rw [beq_eq_false_iff_ne];omega
 have g':((n1:Int) != 12)=true:=by simp [bne,g]
 go_enter func130,ntmps130
 go_wp2_with fail
 go_ret2
 exact ⟨rfl,rfl⟩
theorem DbW (p:BP) (n f:Nat) (A1 A2 A3:YA) (c1 n2 c2 n3 c3:Nat) (l t a:YB) (w:World) (h:Bz p n f w) (hn:n+1≤1000000000) (h1:RB w w.heap.size A1 12 l) (h2:RB w w.heap.size A2 n2 t) (h3:RB w w.heap.size A3 n3 a) (m3:n3≤c3) (a3:0<n3→AwayS A3 p.S) (hn2:n2≤65535) (hn3:n3≤65535) :
  Calls prog 130 #[.pointer (some ⟨p.x,0,none⟩),.slice A1 12 c1,.slice A2 n2 c2,.slice A3 n3 c3] w (RetO p (n+1) f (trnL p.key l t++tagL p.key l (trnL p.key l t) a,0) w):=by
 have HX:=η h
 have H1:=η h1
 have H2:=η h2
 have H3:=η h3
 have HA:=η a3
 have HM:=η m3
 have HN:=η hn
 have HKL:Hid (p.key.length=16):=η h.ob0.len
 have HL1:Hid (l.length=12):=η h1.len
 obtain ⟨u,HU⟩:∃ u,Hid (u=trnL p.key l t∧u.length=n2):=⟨_,η ⟨rfl,by rw [AnZ p.key l t h.ob0.len h1.len,h2.len]⟩⟩
 obtain ⟨g,HG⟩:∃ g,Hid (g=tagL p.key l u a∧g.length=16):=⟨_,η ⟨rfl,AsX p.key l u a h.ob0.len h1.len⟩⟩
 rw [←HU.o.1,←HG.o.1]
 clear h h1 h2 h3 a3 m3 hn
 go_enter func130,ntmps130
 go_wp2_with fail
 refine (tlong2 w A2 A3 n2 n3 c2 c3 65535 65535 rfl t a (by exact H2.o) (by exact H3.o) hn2 hn3).mono ?_
 rintro e w1 ⟨rfl,hb1⟩
 have HB1:=η hb1
 have HX1:=η (HX.o.keep hb1)
 clear hb1
 go_wp2_with fail
 refine (DbK p n f A1 A2 c1 n2 c2 l t _ (by exact HX1.o) (by exact H1.o.step HB1.o) (by exact H2.o.step HB1.o) hn2).mono ?_
 rw [←HU.o.1]
 rintro e w2 ⟨A4,c4,rfl,ho4,hb4⟩
 have HC4:=ho4.cap.1
 have HO4:=η ho4
 have HX2:=η (HX1.o.keep hb4)
 have HB2:=η (AaJ HB1.o hb4)
 have HA4:Hid (AwayS A4 p.S):=η (ho4.afar (fun y hy=>Nat.lt_of_lt_of_le (HX1.o.lt y hy) HX1.o.old))
 clear ho4 hb4 HX1
 go_wp2_with fail
 refine (DbV p n f A1 A4 A3 c1 n2 c4 n3 c3 l u a _ (by exact HX2.o) HN.o (by exact H1.o.step HB2.o) (by exact HO4.o.rb) (by exact H3.o.step HB2.o) HC4 HM.o (fun _=>HA4.o) HA.o hn2 hn3).mono ?_
 rw [←HG.o.1]
 rintro e w3 ⟨A5,c5,rfl,ho5,hf5,hx5⟩
 have HO5:=η ho5
 have HX3:=η hx5
 have HF3:=η ((Off.of_below (S:=p.S) HB2.o).trans hf5)
 have HR4:=η (HO4.o.off hf5 HA4.o).rb
 clear ho5 hf5 hx5 HO4 HX2
 go_wp2_with fail
 refine (CcV _ A4 A5 n2 16 (n2+16) c4 c5 u g (by exact HR4.o) (by exact HO5.o.rb) rfl (by omega)).mono ?_
 rintro e w4 ⟨A6,c6,rfl,ho6,hb6⟩
 have HO6:=η (ho6.base_le HF3.o.size)
 have HF4:=η (HF3.o.trans (Off.of_below hb6))
 have HX4:=η (HX3.o.keep hb6)
 have HLE:Hid ((u++g).length=n2+16):=η (by rw [List.length_append,HU.o.2,HG.o.2])
 clear ho6 hb6
 go_wp2_with fail
 go_ret2
 exact ⟨A6,c6,by show _=Ending.returned (.tuple #[.slice A6 (u++g).length c6,.int .i64 0]);rw [HLE.o];rfl,by show OwnB _ _ _ (u++g).length _ _;rw [HLE.o];exact HO6.o,HF4.o,HX4.o⟩
theorem gseal_r (p:BP) (n f:Nat) (A1 A2 A3:YA) (n1 c1 n2 c2 n3 c3:Nat) (l t a:YB) (w:World) (h:Bz p n f w) (hn:n+1≤1000000000) (h1:RB w w.heap.size A1 n1 l) (h2:RB w w.heap.size A2 n2 t) (h3:RB w w.heap.size A3 n3 a) (m3:n3≤c3) (a3:0<n3→AwayS A3 p.S) (hn2:n2≤65535) (hn3:n3≤65535) :
  Calls prog 130 #[.pointer (some ⟨p.x,0,none⟩),.slice A1 n1 c1,.slice A2 n2 c2,.slice A3 n3 c3] w (RetO p (n+1) f (ApW p.key l t a) w):=by
 unfold ApW
 by_cases h12:n1=12
 ·subst h12
  rw [if_pos h1.len];exact DbW p n f A1 A2 A3 c1 n2 c2 n3 c3 l t a w h hn h1 h2 h3 m3 a3 hn2 hn3
 ·rw [if_neg (by rw [h1.len];exact h12)]
  refine (EwX _ A1 A2 A3 n1 c1 n2 c2 n3 c3 w h12).mono fun e w' k=>?_;obtain ⟨rfl,rfl⟩:=k;exact ⟨none,0,rfl,OwnB.nil_ _ _,Off.refl _ _,h.up (by omega)⟩
theorem EwZ (q:Value) (A1 A2 A3:YA) (n1 c1 n2 c2 n3 c3:Nat) (w:World) (h1:n1≠12) :
  Calls prog 82 #[q,.slice A1 n1 c1,.slice A2 n2 c2,.slice A3 n3 c3] w fun e w'=>e=.returned (.tuple #[.slice none 0 0,.int .i64 11])∧w=w':=by
 have g:((n1:Int) == 12)=false:=by rw [beq_eq_false_iff_ne];omega
 have g':((n1:Int) != 12)=true:=by simp [bne,g]
 go_enter func82,ntmps82
 go_wp2_with fail
 go_ret2
 exact ⟨rfl,rfl⟩
theorem EwY (q:Value) (A1 A2 A3:YA) (c1 n2 c2 n3 c3:Nat) (s a:YB) (w:World) (h2:RB w w.heap.size A2 n2 s) (h3:RB w w.heap.size A3 n3 a) (hn2:n2<16) (hn3:n3≤65535) :
  Calls prog 82 #[q,.slice A1 12 c1,.slice A2 n2 c2,.slice A3 n3 c3] w fun e w'=>e=.returned (.tuple #[.slice none 0 0,.int .i64 12])∧Below w.heap.size w w':=by
 have H2:=η h2
 have H3:=η h3
 obtain ⟨z,HZ⟩:∃ z:Int,Hid (z=(n2:Int) - 16):=⟨_,η rfl⟩
 have r1:(n2:Int) - 16=z:=HZ.o.symm
 have g4:decide (z<0)=true:=decide_eq_true (by have:=HZ.o;omega)
 clear h2 h3
 go_enter func82,ntmps82
 go_wp2_with fail
 refine (DnY w A3 n3 c3 65535 65535 rfl a (by exact H3.o) hn3).mono ?_
 rintro e w1 ⟨rfl,hb1⟩
 have HB1:=η hb1
 clear hb1
 go_wp2_with fail
 refine (DnY w1 A2 n2 c2 65551 65551 rfl s (by exact H2.o.step HB1.o) (by omega)).mono ?_
 rintro e w2 ⟨rfl,hb2⟩
 have HB2:=η (AaJ HB1.o hb2)
 clear hb2
 go_wp2_with fail
 go_ret2
 exact ⟨rfl,HB2.o⟩
theorem ExJ (p:BP) (n f:Nat) (A1 A2 A3:YA) (c1 m N c2 n3 c3:Nat) (l s a:YB) (w:World) (h:Bz p n f w) (hn:n+1≤1000000000) (hf:f≤1000000000) (h1:RB w w.heap.size A1 12 l) (hN:N=m+16) (h2:RB w w.heap.size A2 N s) (h3:RB w w.heap.size A3 n3 a) (m2:N≤c2) (m3:n3≤c3) (a1:AwayS A1 p.S) (a2:0<N→AwayS A2 p.S) (a3:0<n3→AwayS A3 p.S) (hn2:m≤65535) (hn3:n3≤65535) (R:List UInt8×Int) (f':Nat) (hR:R=if tagL p.key l (s.take m) a=s.drop m then (trnL p.key l (s.take m),0) else ([],13)) (hf':f'=f+if R.2=13 then 1 else 0) :
  Calls prog 82 #[.pointer (some ⟨p.x,0,none⟩),.slice A1 12 c1,.slice A2 N c2,.slice A3 n3 c3] w (RetO p (n+1) f' R w):=by
 have e2:=h2.len
 have HX:=η h
 have H1:=η h1
 have H3:=η h3
 have HA:=η (And.intro (a2 (by omega)) a3)
 have HAF:Hid (∃ g o,A2=some ⟨g,o,none⟩):=η (by obtain ⟨g,o,e,_⟩:=h2.2 (by omega);exact ⟨g,o,e⟩)
 have HA1:=η a1
 have HM:=η (And.intro m2 m3)
 have HN:=η (And.intro hn hf)
 have htk:(s.take m).length=m:=by rw [List.length_take];omega
 obtain ⟨g,HG⟩:∃ g,Hid (g=tagL p.key l (s.take m) a∧g.length=16):=⟨_,η ⟨rfl,AsX p.key l _ a h.ob0.len h1.len⟩⟩
 obtain ⟨u,HU⟩:∃ u,Hid (u=trnL p.key l (s.take m)∧u.length=m):=⟨_,η ⟨rfl,by rw [AnZ p.key l _ h.ob0.len h1.len,htk]⟩⟩
 rw [←HG.o.1,←HU.o.1] at hR
 have HYES:Hid (s.drop m=g→R=(u,0)∧f'=f):=η (fun k=>by
  rw [if_pos k.symm] at hR
  subst hR
  exact ⟨rfl,by rw [hf'];rfl⟩)
 have HNO:Hid (s.drop m≠g→R=([],13)∧f'=f+1):=η (fun k=>by
  rw [if_neg (fun q=>k q.symm)] at hR
  subst hR
  exact ⟨rfl,by rw [hf'];rfl⟩)
 have H2:=η h2
 have HC2:Hid (RB w w.heap.size (cutA A2 c2 0) m (s.take m)):=η (h2.part (i:=0) (j:=m) (c:=c2) (by omega) (by omega) m2)
 have HD2:Hid (RB w w.heap.size (cutA A2 c2 m) 16 (s.drop m)):=η (by
  have k:=h2.part (i:=m) (j:=N) (c:=c2) (by omega) (Nat.le_refl _) m2
  rw [List.take_of_length_le (by omega),show N - m=16 by omega] at k
  exact k)
 have hcuth:∀ W:World,(Instr.slice 41 (.slice A2 N c2) none (some (.int .i64 (m:Int))) none).run prog W=.ok (.slice (cutA A2 c2 0) m c2) W:=BsZ A2 N c2 m (by omega)
 have hcutl:∀ W:World,(Instr.slice 41 (.slice A2 N c2) (some (.int .i64 (m:Int))) none none).run prog W=.ok (.slice (cutA A2 c2 m) 16 (c2 - m)) W:=by
  have k:=BvJ A2 N c2 m (by omega);rw [show N - m=16 by omega] at k;exact k
 have g4:decide ((m:Int)<0)=false:=decide_eq_false (by omega)
 have r1:(N:Int) - 16=(m:Int):=by omega
 have HNB:Hid (N≤65551∧m≤c2):=η ⟨by omega,by omega⟩
 obtain ⟨v,HV⟩:∃ v:Bool,Hid (v=(s.drop m == g)):=⟨_,η rfl⟩
 clear h h1 h2 h3 a1 a2 a3 m2 m3 hn hf htk e2 hR hf' hN
 go_enter func82,ntmps82
 go_wp2_with fail
 refine (DnY w A3 n3 c3 65535 65535 rfl a (by exact H3.o) hn3).mono ?_
 rintro e w1 ⟨rfl,hb1⟩
 have HB1:=η hb1
 clear hb1
 go_wp2_with fail
 refine (DnY w1 A2 N c2 65551 65551 rfl s (by exact H2.o.step HB1.o) HNB.o.1).mono ?_
 rintro e w2 ⟨rfl,hb2⟩
 have HB2:=η (AaJ HB1.o hb2)
 clear hb2 HB1
 go_wp2_with fail
 refine wp_region_held_drew (S:=fun w'=>True) (by kernel_rfl) trivial (fun hHeld=>?_)
 (try dsimp only at hHeld)
 refine tkJ 0 rfl hHeld ?_
 refine tkJ 1 rfl hHeld ?_
 refine tkJ 2 rfl hHeld ?_
 refine tkJ 3 rfl hHeld ?_
 refine tkJ 4 rfl hHeld ?_
 refine tkJ 5 rfl hHeld ?_
 refine tkJ 6 rfl hHeld ?_
 refine tkJ 7 rfl hHeld ?_
 refine tkJ 8 rfl hHeld ?_
 refine rdI 9 rfl (fun K hK=>?_)
 (try simp only [Act.put,rxT,sxT])
 go_simp
 refine (DbV p n f A1 (cutA A2 c2 0) A3 c1 m c2 n3 c3 l (s.take m) a _ (by exact (HX.o.keep HB2.o).drew) HN.o.1 (by exact (H1.o.step HB2.o).drew) (by exact (HC2.o.step HB2.o).drew) (by exact (H3.o.step HB2.o).drew) HNB.o.2 HM.o.2 (fun _=>HA.o.1.cut HAF.o _ _) HA.o.2 hn2 hn3).mono ?_
 rw [←HG.o.1]
 rintro e w3 ⟨A4,c4,rfl,ho4,hf4,hx4⟩
 have HR4:=η ho4.rb
 have HX4:=η hx4
 have HF4:Hid (Off p.S w w3):=η ((Off.of_below (S:=p.S) HB2.o).drew.trans hf4)
 clear ho4 hf4 hx4
 (try go_wp2_with fail)
 refine hK.o _ _ trivial (fun hHeld=>?_)
 clear hK K
 refine rdI 10 rfl (fun K hK=>?_)
 (try simp only [Act.put,rxT,sxT])
 go_simp
 refine (DdJ (cutA A2 c2 m) A4 16 (c2 - m) 16 c4 _ _ (s.drop m) g _ (by exact HD2.o.off HF4.o (fun _=>HA.o.1.cut HAF.o _ _)) (by exact HR4.o)).mono ?_
 rw [←HV.o]
 rintro e w4 ⟨rfl,rfl⟩
 (try go_wp2_with fail)
 refine hK.o _ _ trivial (fun hHeld=>?_)
 clear hK K
 refine rdI 11 rfl (fun K hK=>?_)
 (try simp only [Act.put,rxT,sxT])
 go_simp
 refine hK.o _ _ trivial (fun _=>?_)
 clear hK K
 (try simp only [Act.put,rxT,sxT])
 refine wpAnyH_done (by kernel_rfl) ?_ _
 have hvv:=HV.o
 rcases v with _ | _
 case true =>
  obtain ⟨rfl,rfl⟩:=HYES.o (by rw [←beq_iff_eq];exact hvv.symm);clear hvv;clear HYES HNO;go_wp2_with fail;refine (DbK p (n+1) _ A1 (cutA A2 c2 0) c1 m c2 l (s.take m) _ (by exact HX4.o) (by exact H1.o.off HF4.o (fun _=>HA1.o)) (by exact HC2.o.off HF4.o (fun _=>HA.o.1.cut HAF.o _ _)) hn2).mono ?_;rw [←HU.o.1];rintro e w5 ⟨A5,c5,rfl,ho5,hb5⟩;have HO5:=η (ho5.base_le HF4.o.size);have HF5:=η (HF4.o.trans (Off.of_below hb5));have HX5:=η (HX4.o.keep hb5);clear ho5 hb5;go_wp2_with fail;go_ret2;exact ⟨A5,c5,by show _=Ending.returned (.tuple #[.slice A5 u.length c5,.int .i64 0]);rw [HU.o.2];rfl,by show OwnB _ _ _ u.length _ _;rw [HU.o.2];exact HO5.o,HF5.o,HX5.o⟩
 case false =>
  obtain ⟨rfl,rfl⟩:=HNO.o (by rw [←beq_eq_false_iff_ne];exact hvv.symm);clear hvv;clear HYES HNO;go_wp2_with fail;refine (AzZ ⟨p.x,3,none⟩ (f:Int) 1 ((f:Int)+1) _ (by exact HX4.o.c3) (by exact HX4.o.free) (DmV f HN.o.2 _)).mono ?_;rintro e w5 ⟨rfl,rfl⟩;have HX5:=η HX4.o.add;have HF5:=η (HF4.o.trans (Off.of_but ((But.refl p.x _).self 3 (.int .i64 ((f:Int)+1))) p.mem.1));go_wp2_with fail;go_ret2;exact ⟨none,0,rfl,OwnB.nil_ _ _,HF5.o,HX5.o⟩
theorem gopen_r (p:BP) (n f:Nat) (A1 A2 A3:YA) (n1 c1 n2 c2 n3 c3:Nat) (l s a:YB) (w:World) (h:Bz p n f w) (hn:n+1≤1000000000) (hf:f≤1000000000) (h1:RB w w.heap.size A1 n1 l) (h2:RB w w.heap.size A2 n2 s) (h3:RB w w.heap.size A3 n3 a) (m2:n2≤c2) (m3:n3≤c3) (a1:0<n1→AwayS A1 p.S) (a2:0<n2→AwayS A2 p.S) (a3:0<n3→AwayS A3 p.S) (hn2:n2≤65551) (hn3:n3≤65535) :
  Calls prog 82 #[.pointer (some ⟨p.x,0,none⟩),.slice A1 n1 c1,.slice A2 n2 c2,.slice A3 n3 c3] w (RetO p (n+1) (f+if (AmK p.key l s a).2=13 then 1 else 0) (AmK p.key l s a) w):=by
 have e1:=h1.len
 have e2:=h2.len
 by_cases h12:n1=12
 ·subst h12
  by_cases h16:n2<16
  ·have hR:AmK p.key l s a=([],12):=by unfold AmK;rw [if_pos e1,if_pos (by omega)]
   rw [hR];refine (EwY _ A1 A2 A3 c1 n2 c2 n3 c3 s a w h2 h3 h16 hn3).mono fun e w' k=>?_;obtain ⟨rfl,hb⟩:=k;exact ⟨none,0,rfl,OwnB.nil_ _ _,Off.of_below hb,(h.keep hb).up (by omega)⟩
  ·obtain ⟨m,rfl⟩:∃ m,n2=m+16:=⟨n2 - 16,by omega⟩
   exact ExJ p n f A1 A2 A3 c1 m (m+16) c2 n3 c3 l s a w h hn hf h1 rfl h2 h3 m2 m3 (a1 (by omega)) a2 a3 (by omega) hn3 _ _ (by unfold AmK;rw [if_pos e1,if_neg (by omega),e2,Nat.add_sub_cancel]) rfl
 ·have hR:AmK p.key l s a=([],11):=by unfold AmK;rw [if_neg (by omega)]
  rw [hR];refine (EwZ _ A1 A2 A3 n1 c1 n2 c2 n3 c3 w h12).mono fun e w' k=>?_;obtain ⟨rfl,rfl⟩:=k;exact ⟨none,0,rfl,OwnB.nil_ _ _,Off.refl _ _,h.up (by omega)⟩
