import Derived.Test.YthppjgdnibfefaaGreatMiV
set_option linter.all false
set_option maxRecDepth 100000
set_option maxHeartbeats 32000000
namespace Go.Proofs.YthppjgdnibfefaaGreat
open Tryz
open Go.RowKit
theorem do_sums (k:Ms) (q:Cm) (ok:okR k.s) :
  (q.t=0→(doM k q).f+(doM k q).m+(doM k q).d=k.f+k.m+k.d+1∧(doM k q).n=k.n+1∧(doM k q).l=k.l) ∧
  (q.t=1→(doM k q).f+(doM k q).m+(doM k q).d=k.f+k.m+k.d∧(doM k q).n=0∧(doM k q).l=k.n) ∧
  (q.t≠0→q.t≠1→(doM k q).f+(doM k q).m+(doM k q).d=k.f+k.m+k.d∧(doM k q).n=k.n∧(doM k q).l=k.l):=by
 refine ⟨fun h=>?_,fun h=>?_,fun h h2=>?_⟩
 ·unfold doM DzJ
  rw [if_pos h];refine ⟨?_,rfl,rfl⟩;have hw:=BmQ (k:=AbK k) (c:=q.cl) (p:=q.i.pl) (now:=q.now) (r:=q.rl) ok;generalize outM (AbK k) q.cl q.i.pl q.now q.rl=u at hw ⊢;show (if u.k=0 then k.f+1 else k.f)+(if u.k=1 then k.m+1 else k.m)+(if u.k=2 then k.d+1 else k.d)=_;have h3:u.k=0∨u.k=1∨u.k=2:=by rcases hw with h | h | h <;> omega
  rcases h3 with h3 | h3 | h3 <;> rw [h3] <;> simp <;> omega
 ·unfold doM
  rw [if_neg (show ¬(q.t=0) by omega),if_pos h];exact ⟨rfl,rfl,rfl⟩
 ·unfold doM
  rw [if_neg h,if_neg h2];split
  ·unfold setM
   split
   ·exact ⟨rfl,rfl,rfl⟩
   ·exact ⟨rfl,rfl,rfl⟩
  ·split
   ·exact ⟨rfl,rfl,rfl⟩
   ·split
    ·exact ⟨rfl,rfl,rfl⟩
    ·exact ⟨rfl,rfl,rfl⟩
theorem MintCounts_walk (x0:Pn) (A1:YA) (n1 c1:Nat) (l1:List Cm) (w:World) (h0:x0.life<2 ^ 64) (h1:CMs w A1 n1 l1) (m1:n1≤c1∧c1≤maxLen) :
  Calls prog 7 #[x0.val,.slice A1 n1 c1] w fun e w'=>e=.returned (.bool true)∧Below w.heap.size w w':=by
 have H1:=η h1
 have M1:=η m1
 clear h0 h1 m1
 go_enter func7,ntmps7
 go_wp2_with (first
  | (refine AaZ rfl 24 (.tmp 0) rfl x0 rfl ?_;intro wa q hc1 hb1 hx1;have HA:=η (And.intro hc1 (And.intro hb1 hx1));clear hc1 hb1 hx1))
 refine (BbQ _).mono ?_
 rintro e w1 ⟨rfl,hb⟩
 have B1:=η (AaJ HA.o.2.1 hb)
 have Q1:=η (HA.o.1.step hb)
 clear hb
 go_wp2_with fail
 refine (AnV A1 n1 c1 l1 w1 (by exact H1.o.step B1.o) (Nat.le_trans M1.o.1 M1.o.2)).mono ?_
 rintro e w2 ⟨v1,rfl,hb,hv⟩
 have B2:=η (AaJ B1.o hb)
 have Q2:=η (Q1.o.step hb)
 clear hb
 rcases v1 with _ | _
 case true =>
  clear hv;go_wp2_with fail;go_ret;exact ⟨rfl,B2.o⟩
 have HG:=η (hv rfl)
 clear hv
 have HS:∀ v,AcX x0=v→Hid (AcX x0=v):=fun v h=>η h
 rcases hr:AcX x0 with _ | _
 ·have HV:=HS _ hr
  clear HS hr
  go_wp2_with (first
   | (refine atd 23 rfl ?_;refine AbZ ApX rfl (.tmp 2) rfl q rfl x0 _ (by exact Q2.o) (by exact AhQ x0) ?_))
  refine (AyX x0 w2).mono ?_;rintro e w3 ⟨hb,hc⟩;have B3:=η (AaJ B2.o hb);have Q3:=η (Q2.o.step hb);rcases hc with ⟨_,rfl⟩ | ⟨hc,_⟩;rotate_left
  ·exact absurd (HV.o.symm.trans hc) (by decide)
  clear hb
  go_wp2_with (first
   | (refine atd 28 rfl ?_;refine AbZ ApX rfl (.tmp 2) rfl q rfl x0 _ (by exact Q3.o) (by exact AhQ x0) ?_))
  refine (AsZ x0 w3).mono ?_;rintro e w4 ⟨rfl,hb⟩;have B4:=η (AaJ B3.o hb);have Q4:=η (Q3.o.step hb);have S4:=η hb;clear hb;go_wp2_with fail;refine (BgQ x0 w4).mono ?_;rintro e w5 ⟨hb,hc⟩;have B5:=η (AaJ B4.o hb);have Q5:=η (Q4.o.step hb);rcases hc with ⟨_,rfl⟩ | ⟨hc,_⟩;rotate_left
  ·exact absurd (HV.o.symm.trans hc) (by decide)
  clear hb
  go_wp2_with (first
   | (refine atd 48 rfl ?_;refine AbZ ApX rfl (.tmp 2) rfl q rfl x0 _ (by exact Q5.o) (by exact AhQ x0) ?_))
  refine (AsZ x0 w5).mono ?_;rintro e w6 ⟨rfl,hb⟩;have B6:=η (AaJ B5.o hb);clear hb;go_wp2_with fail;refine (AjV x0 w6 false HV.o).mono ?_;rintro e w7 ⟨rfl,hb⟩;have B7:=η (AaJ B6.o hb);clear hb;go_wp2_with fail;go_ret;exact ⟨rfl,B7.o⟩
 ·have HV:=HS _ hr
  clear HS hr
  go_wp2_with (first
   | (refine atd 23 rfl ?_;refine AbZ ApX rfl (.tmp 2) rfl q rfl x0 _ (by exact Q2.o) (by exact AhQ x0) ?_))
  refine (AyX x0 w2).mono ?_;rintro e w3 ⟨hb,hc⟩;have B3:=η (AaJ B2.o hb);have Q3:=η (Q2.o.step hb);rcases hc with ⟨hc,_⟩ | ⟨_,mi,x,rfl,hmy⟩
  ·exact absurd (HV.o.symm.trans hc) (by decide)
  have HMY:=η hmy;clear hb hmy
  go_wp2_with (first
   | (refine atd 28 rfl ?_;refine AbZ ApX rfl (.tmp 2) rfl q rfl x0 _ (by exact Q3.o) (by exact AhQ x0) ?_))
  refine (AsZ x0 w3).mono ?_;rintro e w4 ⟨rfl,hb⟩;have B4:=η (AaJ B3.o hb);have Q4:=η (Q3.o.step hb);have S4:=η hb;clear hb;go_wp2_with fail;refine (BgQ x0 w4).mono ?_;rintro e w5 ⟨hb,hc⟩;have B5:=η (AaJ B4.o hb);have Q5:=η (Q4.o.step hb);rcases hc with ⟨hc,_⟩ | ⟨_,mr,y,rfl,hlo,hmb,hrs⟩
  ·exact absurd (HV.o.symm.trans hc) (by decide)
  have HX:=η (mx_new (HMY.o.step S4.o) hb hlo hmb hrs);clear hb hlo hmb hrs;go_wp2_with fail;refine (AhK mi x (newM x0) w5 (by exact HX.o.mb)).mono ?_;rintro e w6 ⟨rfl,rfl⟩;go_wp2_with fail;have HCM:=η (H1.o.step B2.o)
  go_loopw [9,10,11,12] (fun a b c i wr=>∃ k:Nat,k≤n1∧i=.int .i64 (k:Int)∧a=.int .i64 ((upM x0 l1 k).f+(upM x0 l1 k).m+(upM x0 l1 k).d)∧b=.int .i64 (upM x0 l1 k).n∧c=.int .i64 (upM x0 l1 k).l∧∃ D,Hid (MX (1+2*k) k w2 mi mr x y (upM x0 l1 k) (upM x0 l1 k) D wr)) (fun _ _ _ i _=>n1 - (intOf i).toNat)
  case atStart=>exact ⟨0,by omega,rfl,rfl,rfl,rfl,_,η HX.o⟩
  case round =>
   obtain ⟨k,hk,rfl,rfl,rfl,rfl,D,HK⟩:=hrel;by_cases hlt:k<n1
   ·obtain ⟨b,o,e0,rfl,he,hm0,hok,hrg⟩:=(HCM.o.step HK.o.bel).at_ hlt
    have HE:=η he;have HRG:=η hrg;have HOK:Hid (e0.ok w2∧e0.sm):=η ⟨HCM.o.2.1 e0 hm0,HG.o.2 e0 hm0⟩;have HN:Hid (n1≤60):=η HG.o.1;clear he hm0 hok hrg
    go_wp2_with (first
     | (refine atd 63 rfl ?_;refine AiK AsY rfl (.tmp 62) rfl b (o+k*15) rfl e0 (by exact HRG.o) ?_))
    refine (DvX (1+2*k) k w2 mi mr x y (upM x0 l1 k) D wr (by exact HK.o) e0 HOK.o.1 HOK.o.2 (2*(k:Int)) (BnY x0 l1 k) (by have:=HN.o;omega) (by have:=HN.o;omega) (by have:=HN.o;omega)).mono ?_;rintro e w6 ⟨rfl,D',hm⟩;have HSU:=η (do_sums (upM x0 l1 k) e0 HK.o.my.os);have H6:Hid (MX (1+2*(k+1)) (k+1) w2 mi mr x y (upM x0 l1 (k+1)) (upM x0 l1 (k+1)) D' w6):=η (by rw [BvQ HE.o];exact hm);rw [←BvQ HE.o] at HSU;have FE:=η (BnY x0 l1 k);have FO:=η (BnY x0 l1 (k+1));clear hm
    have q0:w6.cell? ⟨b,o+k*15,none⟩=some (.int .i64 e0.t):=by
     obtain ⟨_,_,e1,e,he1,_,_,hrg⟩:=(HCM.o.step H6.o.bel).at_ hlt;cases e;cases HE.o.symm.trans he1;exact hrg 0 _ rfl
    clear HK;obtain ⟨kk,HKK⟩:∃ kk,upM x0 l1 k=kk:=⟨_,rfl⟩;obtain ⟨k2,HK2⟩:∃ k2,upM x0 l1 (k+1)=k2:=⟨_,rfl⟩;rw [HKK] at HSU FE ⊢;rw [HK2] at HSU FO H6;have HK2':=η HK2;clear HKK HK2;by_cases t0:e0.t=0
    ·have g0:(e0.t == 0)=true:=beq_iff_eq.2 t0
     have E:=η (HSU.o.1 t0);have y1:IntKind.i64.wrap (kk.f+kk.m+kk.d+1)=kk.f+kk.m+kk.d+1:=IntWalk.i64_in _ (by have:=FE.o;unfold Ms.few at this;have:=HN.o;omega);have y2:IntKind.i64.wrap (kk.n+1)=kk.n+1:=IntWalk.i64_in _ (by have:=FE.o;unfold Ms.few at this;have:=HN.o;omega);go_wp2_with fail;refine (AwY mi x k2 w6 (by exact H6.o.mb)).mono ?_;rintro e w7 ⟨rfl,hw⟩;subst hw;clear q0;go_wp2_with fail;refine (AtX mi x k2 w6 (by exact H6.o.mb)).mono ?_;rintro e w7 ⟨rfl,hb⟩;have H7:=η (H6.o.step hb);clear hb;have z1:IntKind.i64.wrap (k2.f+k2.m)=k2.f+k2.m:=IntWalk.i64_in _ (by have:=FO.o;unfold Ms.few at this;have:=HN.o;omega);have z2:IntKind.i64.wrap (k2.f+k2.m+k2.d)=k2.f+k2.m+k2.d:=IntWalk.i64_in _ (by have:=FO.o;unfold Ms.few at this;have:=HN.o;omega);have d1:decide (k2.f<0)=false:=decide_eq_false (by have:=FO.o;unfold Ms.few at this;omega);have d2:decide (k2.m<0)=false:=decide_eq_false (by have:=FO.o;unfold Ms.few at this;omega);have d3:decide (k2.d<0)=false:=decide_eq_false (by have:=FO.o;unfold Ms.few at this;omega);have s1:(k2.f+k2.m+k2.d != kk.f+kk.m+kk.d+1)=false:=by rw [E.o.1];exact bne_self_eq_false _
     have s2:(k2.n != kk.n+1)=false:=by rw [E.o.2.1];exact bne_self_eq_false _
     have s3:(k2.l != kk.l)=false:=by rw [E.o.2.2];exact bne_self_eq_false _
     have hn60:=HN.o;go_wp2_with fail;go_roundw
     case rel=>exact ⟨k+1,by have:=HN.o;omega,by go_num,by rw [HK2'.o,E.o.1],by rw [HK2'.o,E.o.2.1],by rw [HK2'.o,E.o.2.2],D',by rw [HK2'.o];exact H7⟩
     case measure=>simp [intOf];omega
    ·have g0:(e0.t == 0)=false:=beq_eq_false_iff_ne.2 t0
     by_cases t1:e0.t=1
     ·have g1:(e0.t == 1)=true:=beq_iff_eq.2 t1
      have E:=η (HSU.o.2.1 t1);go_wp2_with fail;refine (AwY mi x k2 w6 (by exact H6.o.mb)).mono ?_;rintro e w7 ⟨rfl,hw⟩;subst hw;clear q0;go_wp2_with fail;refine (AtX mi x k2 w6 (by exact H6.o.mb)).mono ?_;rintro e w7 ⟨rfl,hb⟩;have H7:=η (H6.o.step hb);clear hb;have z1:IntKind.i64.wrap (k2.f+k2.m)=k2.f+k2.m:=IntWalk.i64_in _ (by have:=FO.o;unfold Ms.few at this;have:=HN.o;omega);have z2:IntKind.i64.wrap (k2.f+k2.m+k2.d)=k2.f+k2.m+k2.d:=IntWalk.i64_in _ (by have:=FO.o;unfold Ms.few at this;have:=HN.o;omega);have d1:decide (k2.f<0)=false:=decide_eq_false (by have:=FO.o;unfold Ms.few at this;omega);have d2:decide (k2.m<0)=false:=decide_eq_false (by have:=FO.o;unfold Ms.few at this;omega);have d3:decide (k2.d<0)=false:=decide_eq_false (by have:=FO.o;unfold Ms.few at this;omega);have s1:(k2.f+k2.m+k2.d != kk.f+kk.m+kk.d)=false:=by rw [E.o.1];exact bne_self_eq_false _
      have s2:(k2.n != 0)=false:=by rw [E.o.2.1];exact bne_self_eq_false _
      have s3:(k2.l != kk.n)=false:=by rw [E.o.2.2];exact bne_self_eq_false _
      have hn60:=HN.o;go_wp2_with fail;go_roundw
      case rel=>exact ⟨k+1,by have:=HN.o;omega,by go_num,by rw [HK2'.o,E.o.1],by rw [HK2'.o,E.o.2.1],by rw [HK2'.o,E.o.2.2],D',by rw [HK2'.o];exact H7⟩
      case measure=>simp [intOf];omega
     ·have g1:(e0.t == 1)=false:=beq_eq_false_iff_ne.2 t1
      have E:=η (HSU.o.2.2 t0 t1);go_wp2_with fail;refine (AwY mi x k2 w6 (by exact H6.o.mb)).mono ?_;rintro e w7 ⟨rfl,hw⟩;subst hw;clear q0;go_wp2_with fail;refine (AtX mi x k2 w6 (by exact H6.o.mb)).mono ?_;rintro e w7 ⟨rfl,hb⟩;have H7:=η (H6.o.step hb);clear hb;have z1:IntKind.i64.wrap (k2.f+k2.m)=k2.f+k2.m:=IntWalk.i64_in _ (by have:=FO.o;unfold Ms.few at this;have:=HN.o;omega);have z2:IntKind.i64.wrap (k2.f+k2.m+k2.d)=k2.f+k2.m+k2.d:=IntWalk.i64_in _ (by have:=FO.o;unfold Ms.few at this;have:=HN.o;omega);have d1:decide (k2.f<0)=false:=decide_eq_false (by have:=FO.o;unfold Ms.few at this;omega);have d2:decide (k2.m<0)=false:=decide_eq_false (by have:=FO.o;unfold Ms.few at this;omega);have d3:decide (k2.d<0)=false:=decide_eq_false (by have:=FO.o;unfold Ms.few at this;omega);have s1:(k2.f+k2.m+k2.d != kk.f+kk.m+kk.d)=false:=by rw [E.o.1];exact bne_self_eq_false _
      have s2:(k2.n != kk.n)=false:=by rw [E.o.2.1];exact bne_self_eq_false _
      have s3:(k2.l != kk.l)=false:=by rw [E.o.2.2];exact bne_self_eq_false _
      have hn60:=HN.o;go_wp2_with fail;go_roundw
      case rel=>exact ⟨k+1,by have:=HN.o;omega,by go_num,by rw [HK2'.o,E.o.1],by rw [HK2'.o,E.o.2.1],by rw [HK2'.o,E.o.2.2],D',by rw [HK2'.o];exact H7⟩
      case measure=>simp [intOf];omega
   ·have hkn:k=n1:=by omega
    subst hkn;go_wp2_with fail;go_ret;exact ⟨rfl,AaJ B2.o HK.o.bel⟩
