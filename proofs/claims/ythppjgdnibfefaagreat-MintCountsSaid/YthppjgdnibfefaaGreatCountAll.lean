import Derived.Test.YthppjgdnibfefaaGreatRefCountAll
import Derived.Test.YthppjgdnibfefaaGreatObK
set_option linter.all false
set_option maxRecDepth 100000
set_option maxHeartbeats 32000000
namespace Go.Proofs.YthppjgdnibfefaaGreat
open Tryz
attribute [local irreducible] aftL encL tableL AoQ blkL ApQ putL numL
open Tryz
open Go.RowKit
theorem CcV (w:World) (A1 A2:YA) (n1 n2 N c1 c2:Nat) (l1 l2:YB) (h1:RB w w.heap.size A1 n1 l1) (h2:RB w w.heap.size A2 n2 l2) (hN:n1+n2=N) (hm:N≤1000000) :
  Calls prog 59 #[.slice (some ⟨w.heap.size,0,none⟩) 2 2] (w.alloc (.cells #[.slice A1 n1 c1,.slice A2 n2 c2] 41)) (fun e w'=>∃ A c,e=.returned (.slice A N c)∧OwnB w' w.heap.size A N c (l1++l2)∧Below w.heap.size w w'):=by
 have e1:=h1.len
 have e2:=h2.len
 have hrr:=RR.lit w [(A1,c1,l1),(A2,c2,l2)] #[.slice A1 n1 c1,.slice A2 n2 c2] 41 2 w.heap.size (by simp [e1,e2]) rfl rfl (fun r hr=>by
  simp only [List.mem_cons,List.not_mem_nil,or_false] at hr
  rcases hr with rfl | rfl
  ·rw [e1];exact h1
  ·rw [e2];exact h2)
 have ht:totL [l1,l2]=N:=by simp [totL,e1,e2,hN]
 refine (AwX _ 2 2 [l1,l2] _ hrr (by unfold maxLen;omega) (by rw [ht];omega)).mono ?_
 rintro e w' ⟨A,c,rfl,ho,hb⟩
 rw [ht] at ho ⊢
 rw [show [l1,l2].flatten=l1++l2 by simp] at ho
 exact ⟨A,c,rfl,ho.base_le (by simp),(AaK w _).trans (hb.mono (by simp))⟩
theorem aftL_eq (l:YB) (k V:Nat) (h:V=aftN l k):l.take 12++putL V 4=aftL l k:=by
 subst h
 unfold aftL
 rfl
theorem EeY (V:Nat) (h:V<2 ^ 32):AfQ V 4=0:=by
 rw [CeV]
 exact Nat.div_eq_of_lt (by omega)
theorem FbX (A:YA) (c0:Nat) (l:YB) (k:Nat) (w:World) (h:RB w w.heap.size A 16 l) (hc:16≤c0) (hk:k<2 ^ 64) :
  Calls prog 187 #[.slice A 16 c0,.int .u64 (k:Int)] w (AhW 16 (aftL l k) 0 w):=by
 have hl:=h.len
 have HR:=η h
 obtain ⟨q,HQ⟩:∃ q,Hid (q=numL (l.drop 12)∧q<2 ^ 32):=⟨_,η ⟨rfl,by have:=BdX 4 (l.drop 12) (by rw [List.length_drop];omega);omega⟩⟩
 obtain ⟨k',HK⟩:∃ k',Hid (k'=k % 2 ^ 32∧k'<2 ^ 32):=⟨_,η ⟨rfl,Nat.mod_lt _ (by omega)⟩⟩
 obtain ⟨V,HV⟩:∃ V,Hid (V=(q+k') % 2 ^ 32∧V<2 ^ 32):=⟨_,η ⟨rfl,Nat.mod_lt _ (by omega)⟩⟩
 have HVA:Hid (l.take 12++putL V 4=aftL l k):=η (aftL_eq l k V (by
  rw [HV.o.1,HK.o.1,HQ.o.1]
  unfold aftN
  omega))
 have q1:∀ W:World,(Instr.slice 41 (.slice A 16 c0) (some (.int .i64 12)) none none).run prog W=.ok (.slice (cutA A c0 12) 4 (c0 - 12)) W:=BvJ A 16 c0 12 (by omega)
 have q2:∀ W:World,(Instr.slice 41 (.slice A 16 c0) none (some (.int .i64 12)) none).run prog W=.ok (.slice (cutA A c0 0) 12 c0) W:=BsZ A 16 c0 12 (by omega)
 have HN:Hid (Calls prog 119 #[.slice (cutA A c0 12) 4 (c0 - 12)] w fun e w'=>e=.returned (.tuple #[.int .u64 (q:Int),.int .i64 0])∧w=w'):=η (by
  have hp:=h.part (i:=12) (j:=16) (c:=c0) (by omega) (by omega) hc
  rw [List.take_of_length_le (by omega)] at hp
  rw [HQ.o.1]
  exact CbW _ 4 _ _ _ w hp (by omega))
 have HP:Hid (∀ v,Calls prog 156 #[.int .u64 (V:Int),.int .i64 4] v (AhW 4 (putL V 4) 0 v)):=η (fun v=>(CxZ V 4 v (by have:=HV.o.2;omega) (by omega)).mono fun e w' k=>by
  rcases k with ⟨_,k⟩ | ⟨k,_⟩
  ·exact k
  ·exact absurd (EeY V HV.o.2) k)
 have HF:Hid (RB w w.heap.size (cutA A c0 0) 12 (l.take 12)):=η (h.part (i:=0) (j:=12) (c:=c0) (by omega) (by omega) hc)
 have hq32:q<4294967296:=HQ.o.2
 have hk32:k'<4294967296:=HK.o.2
 have hV32:V<4294967296:=HV.o.2
 have r0:(q:Int) % 4294967296=(q:Int):=by omega
 have r1:(k:Int) % 4294967296=(k':Int):=by have:=HK.o.1;omega
 have r2:((q:Int)+(k':Int)) % 4294967296=(V:Int):=by have:=HV.o.1;omega
 clear h hl
 go_enter func187,ntmps187
 go_wp2_with fail
 refine HN.o.mono ?_
 rintro e w1 ⟨rfl,rfl⟩
 clear HN
 go_wp2_with fail
 refine (HP.o _).mono ?_
 rintro e w1 ⟨A1,c1,rfl,ho1,hb1⟩
 have HO1:=η ho1
 have HB1:=η hb1
 clear ho1 hb1 HP
 go_wp2_with fail
 refine (CcV _ (cutA A c0 0) A1 12 4 16 c0 c1 (l.take 12) (putL V 4) (by exact HF.o.step HB1.o) (by exact HO1.o.rb) rfl (by omega)).mono ?_
 rintro e w2 ⟨A2,c2,rfl,ho2,hb2⟩
 have HO2:=η ho2
 have HB2:=η hb2
 clear ho2 hb2
 go_wp2_with fail
 go_ret2
 refine ⟨A2,c2,rfl,?_,HB1.o.trans (HB2.o.mono HB1.o.size)⟩
 rw [←HVA.o]
 exact HO2.o.base_le HB1.o.size
theorem DeK (A:YA) (c0:Nat) (l:YB) (w:World) (h:RB w w.heap.size A 16 l) (hc:16≤c0) :
  Calls prog 153 #[.slice A 16 c0] w (AhW 16 (aftL l 1) 0 w):=by
 have HA:=η (FbX A c0 l 1 w h hc (by omega))
 clear h hc
 go_enter func153,ntmps153
 go_wp2_with fail
 refine HA.o.mono ?_
 rintro e w1 ⟨A1,c1,rfl,ho,hb⟩
 have HO:=η ho
 have HB:=η hb
 clear ho hb
 go_wp2_with fail
 go_ret2
 exact ⟨A1,c1,rfl,HO.o,HB.o⟩
end Go.Proofs.YthppjgdnibfefaaGreat
namespace Go.Proofs.YthppjgdnibfefaaGreat
open Tryz
attribute [local irreducible] wsW AeW keyF ArX AvQ AiY BoJ aftL encL tableL AoQ blkL ApQ putL numL
open Go.RowKit
def RetS (n:Nat) (l:YB) (w:World) (e:Ending) (w':World):Prop :=
 ∃ A c,e=.returned (.tuple #[.slice A n c,.int .i64 0])∧RB w' w'.heap.size A n l∧(n≤c∧c≤maxLen)∧Below w.heap.size w w'
def lenV:Value→Nat | .slice _ n _=>n | _=>0
theorem cut_hm (A:YA) (n c h:Nat) (h2:h≤c):∀ W:World,(Instr.slice 41 (.slice A n c) none (some (.int .i64 (h:Int))) (some (.int .i64 (h:Int)))).run prog W=.ok (.slice (cutA A h 0) h h) W:=by
 intro W
 simp [Instr.slice,Instr.sliceBounds,Instr.sliceBound,asIntOf,go_sem,run_underlying underlying41,h2,cutA]
theorem DzV (A0 A1:YA) (c0 c1 n:Nat) (key l:YB) (w:World) (h0:RB w w.heap.size A0 16 key) (hc0:16≤c0) (h1:RB w w.heap.size A1 16 l) (hc1:16≤c1) (hn:n≤65535) :
  Calls prog 188 #[.slice A0 16 c0,.slice A1 16 c1,.int .i64 (n:Int)] w (RetS n (ApQ key l n) w):=by
 have el:=h1.len
 have H1:=η h1
 have HA:=η (DwY c0 A0 key w h0 hc0)
 have HC1:=η hc1
 obtain ⟨m,HM⟩:∃ m,Hid (m=(n+15) / 16):=⟨_,η rfl⟩
 have hm:=HM.o
 have HSL:Hid (ApQ key l n=(AoQ key l m).take n):=η (by unfold ApQ;rw [HM.o])
 clear h0 h1 hc0 hc1
 go_enter func188,ntmps188
 go_wp2_with fail
 refine HA.o.mono ?_
 rintro e w2 ⟨cb,b,lo,rfl,hb2,hcb,hbl,hob⟩
 have HB2:=η hb2
 have HOB:=η hob
 have HCB:Hid (w.heap.size≤cb∧cb<w2.heap.size):=η ⟨hcb,hob.lt⟩
 clear hb2 hob hbl hcb HA
 have HO0:Hid (OwnB w2 w2.heap.size none 0 0 (AoQ key l 0)):=η (by rw [show AoQ key l 0=[] by unfold AoQ;rfl];exact OwnB.nil_ _ _)
 have HR0:Hid (RB w2 w2.heap.size A1 16 (aftL l 0)):=η (by rw [FbY l 0 el rfl];exact H1.o.step HB2.o)
 have HAW0:Hid (Away A1 cb):=η (H1.o.far (by omega) HCB.o.1)
 go_wp2_with fail
 go_loopw [10,11] (fun v i wr=>∃ (k d c2:Nat) (A Ab:YA),k≤m∧v=.slice A (16*k) d∧i=.slice Ab 16 c2∧16≤c2∧Hid (OwnB wr w2.heap.size A (16*k) d (AoQ key l k))∧Hid (Ob cb b lo key k wr)∧Hid (RB wr wr.heap.size Ab 16 (aftL l k))∧Hid (Away Ab cb∧∀ g,Value.ownBlock (.slice A (16*k) d)=some g→Away Ab g)∧Hid (But cb w2 wr)) (fun v _ _=>n+16 - lenV v)
 case atStart=>exact ⟨0,0,c1,none,A1,by omega,rfl,rfl,HC1.o,HO0,HOB,HR0,η ⟨HAW0.o,fun g hg=>by cases hg⟩,η (But.refl _ _)⟩
 case round =>
  obtain ⟨k,d,c2,A,Ab,hk,rfl,rfl,hc2,ho,hob,hr,ha,hbu⟩:=hrel;clear HO0 HR0 HAW0;by_cases hlt:16*k<n
  ·have hd:decide (((16*k:Nat):Int)<(n:Int))=true:=decide_eq_true (by omega)
   have HBL:Hid (encL key tableL (aftL l k)=blkL key l k):=η (by unfold blkL;rfl);have HBK:=η (CkY key l k);have HAF:=η (aft_aft l k 1 el);go_wp2_with fail;refine (BkJ cb b lo k c2 key (aftL l k) Ab _ (by exact hob.o) (by omega) (by exact hr.o) hc2 ha.o.1).mono ?_;rw [HBL.o];rintro e w3 ⟨A3,c3,rfl,ho3,hbu3,hob3⟩;have HO3:=η ho3;have HBU3:=η hbu3;have HOB3:=η hob3;clear ho3 hbu3 hob3;go_wp2_with (at_builtin;refine AcQ rfl (.tmp 49) (.tmp 50) rfl w2.heap.size A (16*k) d (AoQ key l k) rfl (by exact ho.o.but HBU3.o HCB.o.2) w3.heap.size A3 16 c3 (blkL key l k) rfl (by exact HO3.o.rb) (by omega) (by exact Nat.le_trans hbu.o.size HBU3.o.size) ?_;intro A4 d4 w4 ho4 hg4 hb4;have HO4:=η ho4;have HG4:=η hg4;have HB4:=η hb4;clear ho4 hg4 hb4);refine (DeK Ab c2 (aftL l k) _ (by exact (hr.o.aside' HBU3.o ha.o.1).grew HG4.o ha.o.2) hc2).mono ?_;rw [HAF.o];rintro e w5 ⟨A5,c5,rfl,ho5,hb5⟩;have HO5:=η ho5;have HB5:=η hb5;have hc5:=ho5.cap.1;clear ho5 hb5;go_wp2_with fail;go_roundw
   case rel =>
    have hb35:Below w2.heap.size w3 w5:=HB4.o.trans (HB5.o.mono (Nat.le_trans (Nat.le_trans hbu.o.size HBU3.o.size) HB4.o.size));exact ⟨k+1,d4,c5,A4,A5,by omega,by rw [show 16*(k+1)=16*k+16 by omega],rfl,hc5,η (by rw [HBK.o,show 16*(k+1)=16*k+16 by omega];exact HO4.o.below HB5.o),η (HOB.o.hold (hbu.o.trans HBU3.o) HOB3.o hb35),η HO5.o.rb,η ⟨HO5.o.far (Nat.lt_of_lt_of_le HCB.o.2 (Nat.le_trans (Nat.le_trans hbu.o.size HBU3.o.size) HB4.o.size)),fun g hg=>HO5.o.far (World.ownsRow.lt HO4.o g (by rw [show 16*(k+1)=16*k+16 by omega] at hg;exact hg)).2⟩,η ((hbu.o.trans HBU3.o).behind hb35)⟩
   case measure=>simp [lenV];omega
  ·have hkm:k=m:=by omega
   subst hkm;have hd:decide (((16*k:Nat):Int)<(n:Int))=false:=decide_eq_false (by omega);have hcap:=ho.o.cap.1;have hcu:=cut_hm A (16*k) d n (by omega);go_wp2_with fail;go_ret2;have hrr:=RB.front (j:=n) ho.o.rb (by omega);rw [←HSL.o] at hrr;exact ⟨A,n,rfl,hrr,⟨Nat.le_refl _,by unfold maxLen;omega⟩,HB2.o.trans (hbu.o.below HCB.o.1 HCB.o.2)⟩
theorem EzQ (A0 A1 A2:YA) (c0 c1 n c2:Nat) (key l t:YB) (w:World) (h0:RB w w.heap.size A0 16 key) (hc0:16≤c0) (h1:RB w w.heap.size A1 16 l) (hc1:16≤c1) (h2:RB w w.heap.size A2 n t) (hn:n≤65535) :
  Calls prog 154 #[.slice A0 16 c0,.slice A1 16 c1,.slice A2 n c2] w (AhW n (xorL (ApQ key l n) t) 0 w):=by
 have H2:=η h2
 have HS:=η (DzV A0 A1 c0 c1 n key l w h0 hc0 h1 hc1 hn)
 obtain ⟨s,HSS⟩:∃ s,Hid (s=ApQ key l n):=⟨_,η rfl⟩
 rw [←HSS.o] at HS ⊢
 rw [CsK]
 clear h0 h1 h2 hc0 hc1
 go_enter func154,ntmps154
 go_wp2_with fail
 refine HS.o.mono ?_
 rintro e w1 ⟨A3,c3,rfl,hr3,hc3,hb3⟩
 have HR3:=η hr3
 have HB3:=η hb3
 clear hr3 hb3 hc3 HS
 go_wp2_with fail
 refine (DmX A2 A3 n c2 c3 0 0 t s _ (by exact H2.o.step HB3.o) (by exact HR3.o) (by omega)).mono ?_
 rintro e w4 ⟨A4,c4,rfl,ho4,hb4⟩
 have HO4:=η ho4
 have HB4:=η hb4
 clear ho4 hb4
 go_wp2_with fail
 go_ret2
 exact ⟨A4,c4,rfl,HO4.o.base_le HB3.o.size,HB3.o.trans (HB4.o.mono HB3.o.size)⟩
end Go.Proofs.YthppjgdnibfefaaGreat
namespace Go.Proofs.YthppjgdnibfefaaGreat
open Tryz
open Go.RowKit
structure Off (S:List Nat) (w w':World):Prop where
 os:w'.os=w.os
 tape:w'.tape=w.tape
 output:w'.output=w.output
 size:w.heap.size≤w'.heap.size
 block:∀ k,k<w.heap.size→k∉S→w'.heap[k]?=w.heap[k]?
def AwayS (A:YA) (S:List Nat):Prop:=∀ x∈S,Away A x
section
variable {S:List Nat} {w w1 w':World} {base B n c b:Nat} {A:YA} {l:YB}
theorem Off.refl (S:List Nat) (w:World):Off S w w:=⟨rfl,rfl,rfl,Nat.le_refl _,fun _ _ _=>rfl⟩
theorem Off.of_below (h:Below w.heap.size w w'):Off S w w':=⟨h.os,h.tape,h.output,h.size,fun k hk _=>h.block k hk⟩
theorem Off.of_but (h:But b w w') (hb:b∈S):Off S w w':=⟨h.os,h.tape,h.output,h.size,fun k hk hn=>h.block k hk (fun e=>hn (by rw [e];exact hb))⟩
theorem Off.trans (h:Off S w w1) (k:Off S w1 w'):Off S w w' :=
 ⟨k.os.trans h.os,k.tape.trans h.tape,k.output.trans h.output,Nat.le_trans h.size k.size,fun i hi hb=>(k.block i (Nat.lt_of_lt_of_le hi h.size) hb).trans (h.block i hi hb)⟩
theorem Off.drew (h:Off S w w1):Off S w w1.drew:=⟨h.os,h.tape,h.output,h.size,h.block⟩
theorem Off.below {lo:Nat} (h:Off S w w') (h1:∀ x∈S,lo≤x) (h2:lo≤w.heap.size):Below lo w w' :=
 ⟨h.os,h.tape,h.output,h.size,fun k hk=>h.block k (Nat.lt_of_lt_of_le hk h2) (fun e=>absurd (h1 k e) (by omega))⟩
theorem RB.off (h:RB w w.heap.size A n l) (hb:Off S w w') (ha:0<n→AwayS A S):RB w' w'.heap.size A n l :=
 ⟨h.1,fun hn=>by
  obtain ⟨g,o,e,hg,hc⟩:=h.2 hn
  refine ⟨g,o,e,Nat.lt_of_lt_of_le hg hb.size,fun i hi=>?_⟩
  rw [←hc i hi]
  exact World.cell?_of_block (w:=w) (hb.block g hg (fun hm=>ha hn g hm g o e rfl))⟩
theorem OwnB.off (h:OwnB w base A n c l) (hb:Off S w w') (ha:AwayS A S):OwnB w' base A n c l:=by
 refine ⟨h.1,?_⟩
 rcases h.2 with h0 | ⟨g,cap,cur,hv,hbg,hh,r⟩
 ·exact .inl h0
 ·injection hv with hA
  exact .inr ⟨g,cap,cur,by rw [hA];congr,hbg,(hb.block g (Array.getElem?_eq_some_iff.1 hh).1 (fun hm=>ha g hm g 0 hA rfl)).trans hh,r⟩
theorem RB.afar (h:RB w B A n l) (hb:∀ x∈S,B≤x):0<n→AwayS A S:=fun hn x hx=>h.far hn (hb x hx)
theorem OwnB.afar (h:OwnB w base A n c l) (hb:∀ x∈S,x<base):AwayS A S:=fun x hx=>h.far (hb x hx)
end
