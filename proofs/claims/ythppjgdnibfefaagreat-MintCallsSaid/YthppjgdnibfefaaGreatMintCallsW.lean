import Derived.Test.YthppjgdnibfefaaGreatMiV
set_option linter.all false
set_option maxRecDepth 100000
set_option maxHeartbeats 32000000
namespace Go.Proofs.YthppjgdnibfefaaGreat
open Tryz
open Go.RowKit
attribute [local go_sem ↓] CpV ex_ldCm
theorem ldCm_r {w:World} {b o:Nat} {q:Cm} (h:w.rangeAt b o q.cells):ldHd 48 (.pointer (some ⟨b,o,none⟩)) w=.ok (.value q.val) w:=by
 obtain ⟨d,hu,hd⟩:=rt_cm.row
 have:=run_loadAt_mid (P:=prog) w b o 48 q.cells d h hu hd rt_cm.size
 unfold ldHd
 simp only [Sem.run_bind,this,Result.andThen_ok,Sem.run_pure]
 rfl
def upF (k:Ms) (ks:List Cm) (i:Nat):Ms:=(ks.take i).foldl doM k
theorem DlZ {k:Ms} {ks:List Cm} {i:Nat} {c:Cm} (h:ks[i]?=some c):upF k ks (i+1)=doM (upF k ks i) c:=by
 unfold upF
 rw [List.take_add_one,h]
 simp
theorem DiW {k:Ms} {K:Int} (h:k.few K) (ks:List Cm):∀ i:Nat,(upF k ks i).few (K+2*(i:Int))
 | 0=>h.more (by omega)
 | i+1=>by
  rcases hc:ks[i]? with _ | c
  ·have e:upF k ks (i+1)=upF k ks i:=by
    unfold upF;rw [List.take_add_one,hc];simp
   rw [e];exact (DiW h ks i).more (by omega)
  ·rw [DlZ hc]
   exact (few_do c (DiW h ks i)).more (by omega)
theorem mx_two {N F:Nat} {v w w1 w2:World} {mi mr x y m2 y2 mr2 y3 c2 d3:Nat} {k:Ms} {D:XD} {A2 B3:YA} {es2:Ens} (h:MX N F v mi mr x y k k D w) (hy:MY w y2 A2 c2 es2 1 0 m2 (AvW k) [] w1) (hb:Below w1.heap.size w1 w2) (hs:Rs w1.heap.size w2 y3 B3 d3 D.ks) (hm:Blk 57 w2 mr2 (AdZ (AvW k) y3)) (hl:w1.heap.size≤mr2) (hy3:y3<mr2) (hB3:∀ g∈blkO B3,g<mr2):MX 1 0 w m2 mr2 y2 y3 (AvW k) (AvW k) ⟨A2,c2,es2,B3,d3,D.ks⟩ w2:=by
 have hko:∀ k∈D.ks,∀ g∈blkO k.A,g<w.heap.size:=fun k hk g hg=>(BbW (h.pr.rs.key k hk) g hg).2
 have e1:=hy.mb.lt
 have e2:=hy.rn.blk.lt
 have e3:=hs.low
 have e4:=hy.bel.size
 have e5:=hb.size
 refine ⟨⟨AaJ hy.bel hb,hy.rn.step hb,hs.base_le e4,hy.ee,h.pr.kk,fun e hm=>⟨.inr (Nat.le_trans (hy.rn.ok e hm).1.le e3),fun g hg=>.inr (Nat.le_trans (hy.rn.ok e hm).1.le (hs.grd.lt g hg).1)⟩,fun g hg=>?_,hy.os,h.pr.ot,Nat.le_refl _,fun e he k hk g hg=>.inl (Nat.lt_of_lt_of_le (hko k hk g hg) (hy.rn.ok e he).2.2.1)⟩,hy.mb.step hb,hm,⟨hy.lo,Nat.le_trans e4 hl⟩,hy.pr,hy.pr⟩
 simp only [List.mem_cons,List.not_mem_nil,or_false] at hg
 rcases hg with rfl | rfl
 ·exact ⟨by omega,hy.mo.1,by omega,hy.mo.2.1,fun hg=>by have:=(hs.grd.lt _ hg).1;omega,hy.mo.2.2,fun k hk hg=>by have:=hko k hk _ hg;have:=hy.lo;omega⟩
 ·exact ⟨hm.lt,by omega,by omega,fun hg=>by have:=(hy.rn.grd.lt _ hg).2;omega,fun hg=>by have:=hB3 _ hg;omega,fun e he=>.inr (Nat.le_trans (hy.rn.ok e he).1.le hl),fun k hk hg=>by have:=hko k hk _ hg;omega⟩
theorem MintCalls_walk (x0:Pn) (A1:YA) (n1 c1:Nat) (l1:List Cm) (A2:YA) (n2 c2:Nat) (l2:List Cm) (w:World) (h0:x0.life<2 ^ 64) (h1:CMs w A1 n1 l1) (m1:n1≤c1∧c1≤maxLen) (h2:CMs w A2 n2 l2) (m2:n2≤c2∧c2≤maxLen) :
  Calls prog 3 #[x0.val,.slice A1 n1 c1,.slice A2 n2 c2] w fun e w'=>e=.returned (.bool true)∧Below w.heap.size w w':=by
 have H1:=η h1
 have M1:=η m1
 have H2:=η h2
 have M2:=η m2
 clear h0 h1 m1 h2 m2
 go_enter func3,ntmps3
 go_wp2_with (first
  | (refine AbQ rfl 24 (.tmp 0) rfl x0 rfl ?_;intro wa q hc1 hb1 hx1;have HA:=η (And.intro hc1 (And.intro hb1 hx1));clear hc1 hb1 hx1))
 refine (DkQ _).mono ?_
 rintro e w1 ⟨rfl,hb⟩
 have B1:=η (AaJ HA.o.2.1 hb)
 have Q1:=η (HA.o.1.step hb)
 clear hb
 go_wp2_with fail
 refine (BzY A1 n1 c1 l1 w1 (by exact H1.o.step B1.o) (Nat.le_trans M1.o.1 M1.o.2)).mono ?_
 rintro e w2 ⟨v1,rfl,hb,hv⟩
 have B2:=η (AaJ B1.o hb)
 have Q2:=η (Q1.o.step hb)
 clear hb
 rcases v1 with _ | _
 case true =>
  clear hv;go_wp2_with fail;go_ret;exact ⟨rfl,B2.o⟩
 have HG1:=η (hv rfl)
 clear hv
 go_wp2_with fail
 refine (BzY A2 n2 c2 l2 w2 (by exact H2.o.step B2.o) (Nat.le_trans M2.o.1 M2.o.2)).mono ?_
 rintro e w3 ⟨v2,rfl,hb,hv⟩
 have B3:=η (AaJ B2.o hb)
 have Q3:=η (Q2.o.step hb)
 clear hb
 rcases v2 with _ | _
 case true =>
  clear hv;go_wp2_with fail;go_ret;exact ⟨rfl,B3.o⟩
 have HG2:=η (hv rfl)
 clear hv
 have HS:∀ v,AcW x0=v→Hid (AcW x0=v):=fun v h=>η h
 rcases hr:AcW x0 with _ | _
 ·have HV:=HS _ hr
  clear HS hr
  go_wp2_with (first
   | (refine atd 30 rfl ?_;refine AeY BbK rfl (.tmp 3) rfl q rfl x0 _ (by exact Q3.o) (by exact ApQ x0) ?_))
  refine (BjZ x0 w3).mono ?_;rintro e w4 ⟨hb,hc⟩;have B4:=η (AaJ B3.o hb);have Q4:=η (Q3.o.step hb);rcases hc with ⟨_,rfl⟩ | ⟨hc,_⟩;rotate_left
  ·exact absurd (HV.o.symm.trans hc) (by decide)
  clear hb
  go_wp2_with (first
   | (refine atd 35 rfl ?_;refine AeY BbK rfl (.tmp 3) rfl q rfl x0 _ (by exact Q4.o) (by exact ApQ x0) ?_))
  refine (BeQ x0 w4).mono ?_;rintro e w5 ⟨rfl,hb⟩;have B5:=η (AaJ B4.o hb);have Q5:=η (Q4.o.step hb);have S5:=η hb;clear hb;go_wp2_with fail;refine (CgK x0 w5).mono ?_;rintro e w6 ⟨hb,hc⟩;have B6:=η (AaJ B5.o hb);have Q6:=η (Q5.o.step hb);rcases hc with ⟨_,rfl⟩ | ⟨hc,_⟩;rotate_left
  ·exact absurd (HV.o.symm.trans hc) (by decide)
  clear hb;go_wp2_with fail;refine wp_region_held_drew (S:=fun w'=>Blk 24 w' q x0.cells) (by kernel_rfl) Q6.o (fun hHeld=>?_);(try dsimp only at hHeld);refine tkJ 0 rfl hHeld ?_;refine tkJ 1 rfl hHeld ?_;(try simp only [Act.put,rxT,sxT]);refine tkJ 2 rfl hHeld ?_;refine tkJ 3 rfl hHeld ?_;(try simp only [Act.put,rxT,sxT]);refine tkJ 4 rfl hHeld ?_;refine tkJ 5 rfl hHeld ?_;(try simp only [Act.put,rxT,sxT]);refine tkJ 6 rfl hHeld ?_;refine tkJ 7 rfl hHeld ?_;(try simp only [Act.put,rxT,sxT]);refine tkJ 8 rfl hHeld ?_;refine tkJ 9 rfl hHeld ?_;(try simp only [Act.put,rxT,sxT]);refine tkJ 10 rfl hHeld ?_;have Ω:=η (fun (w:World) (hSw:Blk 24 w q x0.cells)=>(show ldHd 24 (.pointer (some ⟨q,0,none⟩)) w=.ok (.value x0.val) w from BsK BbK (cs:=x0.cells) (vs:=x0.cells) hSw rfl rfl));refine tkJ 11 rfl hHeld ?_;refine tkJ 13 rfl hHeld ?_;refine rdI 12 rfl (fun K hK=>?_);(try simp only [Act.put,rxT,sxT]);go_simp;refine (AyW x0 _ false HV.o).mono ?_;rintro e w7 ⟨rfl,hb⟩;have T7:Hid (Below w6.heap.size w6 w7):=η (Below.trans (Below.refl _ _).drew hb);have Q7:=η (Q6.o.step T7.o);clear hb;(try go_wp2_with fail);refine hK.o _ _ Q7.o (fun hHeld=>?_);clear hK K;refine rdI 14 rfl (fun K hK=>?_);(try simp only [Act.put,rxT,sxT]);go_simp;refine (BeQ x0 w7).mono ?_;rintro e w8 ⟨rfl,hb⟩;have T8:=η (AaJ T7.o hb);have Q8:=η (Q7.o.step hb);clear hb;(try go_wp2_with fail);refine hK.o _ _ Q8.o (fun hHeld=>?_);clear hK K;refine rdI 15 rfl (fun K hK=>?_);(try simp only [Act.put,rxT,sxT]);go_simp;refine (AmK x0 w8 false HV.o).mono ?_;rintro e w9 ⟨rfl,hb⟩;have T9:=η (AaJ T8.o hb);have Q9:=η (Q8.o.step hb);clear hb;(try go_wp2_with fail);refine hK.o _ _ Q9.o (fun hHeld=>?_);clear hK K;refine tkJ 16 rfl hHeld ?_;refine tkJ 17 rfl hHeld ?_;(try simp only [Act.put,rxT,sxT]);refine wpAnyH_done (by kernel_rfl) ?_ _;(try dsimp only);have B9:=η (AaJ B6.o T9.o);go_wp2_with fail;go_ret;exact ⟨rfl,B9.o⟩
 ·have HV:=HS _ hr
  clear HS hr
  go_wp2_with (first
   | (refine atd 30 rfl ?_;refine AeY BbK rfl (.tmp 3) rfl q rfl x0 _ (by exact Q3.o) (by exact ApQ x0) ?_))
  refine (BjZ x0 w3).mono ?_;rintro e w4 ⟨hb,hc⟩;have B4:=η (AaJ B3.o hb);have Q4:=η (Q3.o.step hb);rcases hc with ⟨hc,_⟩ | ⟨_,mi,x,rfl,hmy⟩
  ·exact absurd (HV.o.symm.trans hc) (by decide)
  have HMY:=η hmy;clear hb hmy
  go_wp2_with (first
   | (refine atd 35 rfl ?_;refine AeY BbK rfl (.tmp 3) rfl q rfl x0 _ (by exact Q4.o) (by exact ApQ x0) ?_))
  refine (BeQ x0 w4).mono ?_;rintro e w5 ⟨rfl,hb⟩;have B5:=η (AaJ B4.o hb);have Q5:=η (Q4.o.step hb);have S5:=η hb;clear hb;go_wp2_with fail;refine (CgK x0 w5).mono ?_;rintro e w6 ⟨hb,hc⟩;have B6:=η (AaJ B5.o hb);have Q6:=η (Q5.o.step hb);rcases hc with ⟨hc,_⟩ | ⟨_,mr,y,rfl,hlo,hmb,hrs⟩
  ·exact absurd (HV.o.symm.trans hc) (by decide)
  have HX:=η (mx_new (HMY.o.step S5.o) hb hlo hmb hrs);clear hb hlo hmb hrs;go_wp2_with fail;refine wp_region_held_drew (S:=fun w'=>Blk 24 w' q x0.cells) (by kernel_rfl) Q6.o (fun hHeld=>?_);(try dsimp only at hHeld);refine tkJ 0 rfl hHeld ?_;refine tkJ 1 rfl hHeld ?_;(try simp only [Act.put,rxT,sxT]);refine tkJ 2 rfl hHeld ?_;refine tkJ 3 rfl hHeld ?_;(try simp only [Act.put,rxT,sxT]);refine tkJ 4 rfl hHeld ?_;refine tkJ 5 rfl hHeld ?_;(try simp only [Act.put,rxT,sxT]);refine tkJ 6 rfl hHeld ?_;refine tkJ 7 rfl hHeld ?_;(try simp only [Act.put,rxT,sxT]);refine tkJ 8 rfl hHeld ?_;refine tkJ 9 rfl hHeld ?_;(try simp only [Act.put,rxT,sxT]);refine tkJ 10 rfl hHeld ?_;have Ω:=η (fun (w:World) (hSw:Blk 24 w q x0.cells)=>(show ldHd 24 (.pointer (some ⟨q,0,none⟩)) w=.ok (.value x0.val) w from BsK BbK (cs:=x0.cells) (vs:=x0.cells) hSw rfl rfl));refine tkJ 11 rfl hHeld ?_;refine tkJ 13 rfl hHeld ?_;refine rdI 12 rfl (fun K hK=>?_);(try simp only [Act.put,rxT,sxT]);go_simp;refine (AyW x0 _ true HV.o).mono ?_;rintro e w7 ⟨rfl,hb⟩;have T7:Hid (Below w6.heap.size w6 w7):=η (Below.trans (Below.refl _ _).drew hb);have Q7:=η (Q6.o.step T7.o);clear hb;(try go_wp2_with fail);refine hK.o _ _ Q7.o (fun hHeld=>?_);clear hK K;refine rdI 14 rfl (fun K hK=>?_);(try simp only [Act.put,rxT,sxT]);go_simp;refine (BeQ x0 w7).mono ?_;rintro e w8 ⟨rfl,hb⟩;have T8:=η (AaJ T7.o hb);have Q8:=η (Q7.o.step hb);clear hb;(try go_wp2_with fail);refine hK.o _ _ Q8.o (fun hHeld=>?_);clear hK K;refine rdI 15 rfl (fun K hK=>?_);(try simp only [Act.put,rxT,sxT]);go_simp;refine (AmK x0 w8 true HV.o).mono ?_;rintro e w9 ⟨rfl,hb⟩;have T9:=η (AaJ T8.o hb);have Q9:=η (Q8.o.step hb);clear hb;(try go_wp2_with fail);refine hK.o _ _ Q9.o (fun hHeld=>?_);clear hK K;refine tkJ 16 rfl hHeld ?_;refine tkJ 17 rfl hHeld ?_;(try simp only [Act.put,rxT,sxT]);refine wpAnyH_done (by kernel_rfl) ?_ _;(try dsimp only);have B9:=η (AaJ B6.o T9.o);go_wp2_with fail;have HCM:=η (H1.o.step B3.o);have HXS:=η (HX.o.step T9.o)
  go_loopw [11] (fun i wr=>∃ k:Nat,k≤n1∧i=.int .i64 (k:Int)∧∃ D,Hid (MX (1+2*k) k w3 mi mr x y (upM x0 l1 k) (upM x0 l1 k) D wr)) (fun i _=>n1 - (intOf i).toNat)
  case atStart=>exact ⟨0,by omega,rfl,_,η HXS.o⟩
  case round =>
   obtain ⟨k,hk,rfl,D,HK⟩:=hrel;have HN:Hid (n1≤60):=η HG1.o.1;by_cases hlt:k<n1
   ·obtain ⟨b,o,e0,rfl,he,hm0,hok,hrg⟩:=(HCM.o.step HK.o.bel).at_ hlt
    have HE:=η he;have HRG:=η hrg;have HOK:Hid (e0.ok w3∧e0.sm):=η ⟨HCM.o.2.1 e0 hm0,HG1.o.2 e0 hm0⟩;clear he hm0 hok hrg;go_wp2_with fail;refine (AkV mi x (upM x0 l1 k) wr (by exact HK.o.mb)).mono ?_;rintro e w6 ⟨rfl,hw⟩;subst hw;have ql:=ldCm_r HRG.o;go_wp2_with fail;refine (DuQ (1+2*k) k w3 mi mr x y (upM x0 l1 k) D wr (by exact HK.o) e0 HOK.o.1 HOK.o.2 (2*(k:Int)) (DtX x0 l1 k) (by have:=HN.o;omega) (by have:=HN.o;omega) (by have:=HN.o;omega)).mono ?_;rintro e w6 ⟨rfl,D',hm⟩;rw [←DlY HE.o] at hm;have H6:=η (show MX (1+2*(k+1)) (k+1) w3 mi mr x y (upM x0 l1 (k+1)) (upM x0 l1 (k+1)) D' w6 from hm);clear hm HK ql;go_wp2_with fail;refine (BhZ w3.heap.size w3.heap.size x y _ _ _ _ _ _ _ _ mi mr (upM x0 l1 (k+1)) w6 (by exact H6.o.pr.rn) (by exact H6.o.pr.rs) (by exact H6.o.pr.ee) (by exact H6.o.pr.kk) (by exact H6.o.pr.os) (by exact H6.o.mb) (by exact H6.o.rb)).mono ?_;rintro e w7 ⟨rfl,hb⟩;have H7:=η (H6.o.step hb);clear hb;have hn60:=HN.o;go_wp2_with fail;go_roundw
    case rel=>exact ⟨k+1,by omega,by go_num,D',H7⟩
    case measure=>simp [intOf];omega
   ·have hkn:k=n1:=by omega
    subst hkn;obtain ⟨kk,hkk⟩:∃ kk,upM x0 l1 k=kk:=⟨_,rfl⟩;have FK:Hid (kk.few (2*(k:Int))):=η (by rw [←hkk];exact DtX x0 l1 k);rw [hkk] at HK;clear hkk;go_wp2_with fail;refine (CcQ _ x _ _ _ _ _ mi kk _ wr (by exact HK.o.my)).mono ?_;rintro e w10 ⟨m2,y2,A3,c3,es3,rfl,hb,hy⟩;have HM2:=η hy;have T10:=η hb;clear hb hy;go_wp2_with fail;refine (EeV _ y _ _ _ mr kk w10 (by exact HK.o.pr.rs.step T10.o) (by exact HK.o.rb.step T10.o) (by have:=HK.o.pr.len.2;have:=HN.o;omega)).mono ?_;rintro e w11 ⟨mr2,y3,B4r,d3,rfl,hb,hs,hm,hl,hy3,hB3⟩;have HX2:=η (mx_two HK.o HM2.o hb hs hm hl hy3 hB3);have HCM2:=η (H2.o.step (AaJ B3.o HK.o.bel));clear hb hs hm hl hy3 hB3;have BK:=η (AaJ B3.o HK.o.bel);have HK1:=HK;have hkk0:=hk;clear HK hk hlt;go_wp2_with fail;obtain ⟨wB,hwB⟩:∃ v:World,v=wr:=⟨_,rfl⟩;subst hwB
    go_loopw [14] (fun i wr=>∃ j:Nat,j≤n2∧i=.int .i64 (j:Int)∧∃ D,Hid (MX (1+2*j) j wB m2 mr2 y2 y3 (upF (AvW kk) l2 j) (upF (AvW kk) l2 j) D wr)) (fun i _=>n2 - (intOf i).toNat)
    case atStart=>exact ⟨0,by omega,rfl,_,η HX2.o⟩
    case round =>
     obtain ⟨j,hj,rfl,D2,HL⟩:=hrel;have HN2:Hid (n2≤60):=η HG2.o.1;by_cases hlt2:j<n2
     ·obtain ⟨b,o,e0,rfl,he,hm0,hok,hrg⟩:=(HCM2.o.step HL.o.bel).at_ hlt2
      have HE:=η he;have HRG:=η hrg;have HOK:Hid (e0.ok wB∧e0.sm):=η ⟨HCM2.o.2.1 e0 hm0,HG2.o.2 e0 hm0⟩;clear he hm0 hok hrg;go_wp2_with fail;refine (AkV m2 y2 (upF (AvW kk) l2 j) wr (by exact HL.o.mb)).mono ?_;rintro e w12 ⟨rfl,hw⟩;subst hw;have ql:=ldCm_r HRG.o;go_wp2_with fail;refine (DuQ (1+2*j) j wB m2 mr2 y2 y3 (upF (AvW kk) l2 j) D2 wr (by exact HL.o) e0 HOK.o.1 HOK.o.2 (2*(k:Int)+2*(j:Int)) (DiW (few_copy FK.o (by omega)) l2 j) (by have:=HN.o;have:=HN2.o;omega) (by have:=HN2.o;omega) (by have:=HN2.o;omega)).mono ?_;rintro e w13 ⟨rfl,D',hm⟩;rw [←DlZ HE.o] at hm;have H7:=η (show MX (1+2*(j+1)) (j+1) wB m2 mr2 y2 y3 (upF (AvW kk) l2 (j+1)) (upF (AvW kk) l2 (j+1)) D' w13 from hm);clear hm HL ql;have hn60:=HN2.o;go_wp2_with fail;go_roundw
      case rel=>exact ⟨j+1,by omega,by go_num,D',H7⟩
      case measure=>simp [intOf];omega
     ·have hkn:j=n2:=by omega
      subst hkn;obtain ⟨k2,hk2⟩:∃ k2,upF (AvW kk) l2 j=k2:=⟨_,rfl⟩;rw [hk2] at HL;clear hk2;have HO:=η (HK1.o.step HL.o.bel);go_wp2_with fail;refine (BcX mi x kk wr (by exact HO.o.mb)).mono ?_;rintro e w14 ⟨rfl,hw⟩;subst hw;go_wp2_with fail;refine (BcX m2 y2 k2 wr (by exact HL.o.mb)).mono ?_;rintro e w14 ⟨rfl,hw⟩;subst hw;go_wp2_with fail;refine (BhZ w3.heap.size w3.heap.size x y _ _ _ _ _ _ _ _ mi mr kk wr (by exact HO.o.pr.rn) (by exact HO.o.pr.rs) (by exact HO.o.pr.ee) (by exact HO.o.pr.kk) (by exact HO.o.pr.os) (by exact HO.o.mb) (by exact HO.o.rb)).mono ?_;rintro e w14 ⟨rfl,hb⟩;have HO2:=η (HO.o.step hb);have HL2:=η (HL.o.step hb);clear hb;go_wp2_with fail;refine (BhZ wB.heap.size wB.heap.size y2 y3 _ _ _ _ _ _ _ _ m2 mr2 k2 w14 (by exact HL2.o.pr.rn) (by exact HL2.o.pr.rs) (by exact HL2.o.pr.ee) (by exact HL2.o.pr.kk) (by exact HL2.o.pr.os) (by exact HL2.o.mb) (by exact HL2.o.rb)).mono ?_;rintro e w15 ⟨rfl,hb⟩;have HO3:=η (HO2.o.step hb);have HL3:=η (HL2.o.step hb);clear hb;have q7:w15.cell? ⟨mr,7,none⟩=some (.int .i64 kk.f):=HO3.o.rb.cell 7;have q8:w15.cell? ⟨mr,8,none⟩=some (.int .i64 kk.m):=HO3.o.rb.cell 8;have q9:w15.cell? ⟨mr,9,none⟩=some (.int .i64 kk.d):=HO3.o.rb.cell 9;have p7:w15.cell? ⟨mr2,7,none⟩=some (.int .i64 k2.f):=HL3.o.rb.cell 7;have p8:w15.cell? ⟨mr2,8,none⟩=some (.int .i64 k2.m):=HL3.o.rb.cell 8;have p9:w15.cell? ⟨mr2,9,none⟩=some (.int .i64 k2.d):=HL3.o.rb.cell 9;go_wp2_with fail;go_ret;exact ⟨rfl,AaJ BK.o HL3.o.bel⟩
