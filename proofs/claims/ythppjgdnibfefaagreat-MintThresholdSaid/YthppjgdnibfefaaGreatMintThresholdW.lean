/- MintThreshold's walk: Retry is demanded from the threshold on, and for the interval behind. No condition. -/
import Derived.Test.YthppjgdnibfefaaGreatMiV
set_option linter.unusedVariables false
set_option linter.unusedSimpArgs false
set_option maxRecDepth 100000
set_option maxHeartbeats 32000000
namespace Go.Proofs.YthppjgdnibfefaaGreat
open Go.RowKit
def Pt (t:Int):Pn:=⟨1,false,t,0⟩
theorem pt_right {t:Int} (h1:1≤t) (h2:t≤65535):rightP (Pt t)=true:=decide_eq_true ⟨⟨by show (0:Int)≤1;omega,by show (1:Int)≤2;omega⟩,⟨h1,h2⟩,by show (0:Nat)≤1099511627776;omega⟩
theorem act_t {k:Ms} {t:Int} (h:k.p=Pt t):activeM k=(decide (t≤k.n) || decide (t≤k.l)):=by
 unfold activeM
 rw [h]
 show ((1:Int) == 2 || ((1:Int) == 1 && (decide (t≤k.n) || decide (t≤k.l))))=_
 rw [show ((1:Int) == 2)=false from rfl,show ((1:Int) == 1)=true from rfl,Bool.false_or,Bool.true_and]
theorem out_thr {k:Ms} (h:k.s=[]):outM k [] zeroI.pl 0 []=if activeM k then drp 17 else fwd false:=by
 unfold outM
 rw [if_pos (by decide),h]
 cases activeM k
 ·rfl
 ·rw [if_pos rfl,if_pos rfl]
  exact retry_none
def TH (v:World) (x mi:Nat) (t:Int) (j s M:Nat) (w:World):Prop:=∃ kk N F,AZ v x none 0 [] N F mi kk [] [] w∧kk.p=Pt t∧kk.s=[]∧kk.n=(j:Int)∧kk.l=(s:Int)∧kk.few (2*(M:Int))∧N≤1+2*M∧F≤M
section
variable {v w w':World} {x mi j s M:Nat} {t:Int}
theorem TH.step (h:TH v x mi t j s M w) (hb:Below w.heap.size w w'):TH v x mi t j s M w':=by
 obtain ⟨kk,N,F,h1,h2⟩:=h
 exact ⟨kk,N,F,h1.step hb,h2⟩
theorem TH.more {M':Nat} (h:TH v x mi t j s M w) (hM:M≤M'):TH v x mi t j s M' w:=by
 obtain ⟨kk,N,F,h1,h2,h3,h4,h5,h6,h7,h8⟩:=h
 exact ⟨kk,N,F,h1,h2,h3,h4,h5,h6.more (by omega),by omega,by omega⟩
theorem TH.bel (h:TH v x mi t j s M w):Below v.heap.size v w:=by
 obtain ⟨kk,N,F,h1,h2⟩:=h
 exact h1.bel
theorem th_act (h:TH v x mi t j s M w):Calls Tryz.prog 27 #[.pointer (some ⟨mi,0,none⟩)] w fun e w'=>e=.returned (.bool (decide (t≤(j:Int)) || decide (t≤(s:Int))))∧Below w.heap.size w w'∧TH v x mi t j s M w':=by
 obtain ⟨kk,N,F,h1,h2,h3,h4,h5,h6⟩:=h
 refine (active21_any mi x kk w h1.my.mb _ ((act_t h2).trans (by rw [h4,h5]))).mono ?_
 rintro e w' ⟨he,hb⟩
 exact ⟨he,hb,kk,N,F,h1.step hb,h2,h3,h4,h5,h6⟩
theorem th_tick (h:TH v x mi t j s M w) (hr:rightP (Pt t)=true):Calls Tryz.prog 35 #[.pointer (some ⟨mi,0,none⟩)] w fun e w'=>e=.returned (.tuple #[])∧TH v x mi t 0 j M w':=by
 obtain ⟨kk,N,F,h1,h2,h3,h4,h5,h6,h7⟩:=h
 refine (tick21_any mi x kk w h1.my.mb).mono ?_
 rintro e w' ⟨he,hb,ho⟩
 exact ⟨he,tickM kk,N,F,h1.mint ho hb rfl (by show rightP kk.p=true;rw [h2];exact hr),h2,h3,rfl,h4,few_tick h6,h7⟩
theorem th_take (h:TH v x mi t j s M w) (hM:M≤1000) (vI:Value) (hI:vI=zeroI.val):Calls Tryz.prog 24 #[.pointer (some ⟨mi,0,none⟩),.slice none 0 0,vI,.int .u64 0,.slice none 0 0] w fun e w'=>∃ u B d,e=.returned (ocV u B d)∧TH v x mi t (j+1) s (M+1) w'∧u.k=if (decide (t≤((j+1:Nat):Int)) || decide (t≤(s:Int)))=true then 2 else 0:=by
 subst hI
 obtain ⟨kk,N,F,h1,h2,h3,h4,h5,h6,h7,h8⟩:=h
 refine (az_take v x none 0 [] N F mi kk _ _ w h1 (2*(M:Int)) h6 (by omega) (by omega) (by omega) none 0 [] (Ra.nil _ _) (by decide) zeroI ⟨Ra.nil _ _,Ra.nil _ _,Ra.nil _ _,Ra.nil _ _,by show (0:Nat)≤4294967295;omega⟩ (by show (0:Nat)≤1000;decide) 0 (by decide) none 0 [] (Ra.nil _ _) (by decide) _ (out_thr (k:=seenM kk) h3) 0 rfl).mono ?_
 rintro e w' ⟨B,d,he,hy⟩
 refine ⟨_,B,d,he,⟨_,N+2,F+1,hy.sub (fun r hr=>by cases hr) (fun r hr=>by cases hr),h2,h3,?_,h5,(few_cnt _ (few_seen h6)).more (by omega),by omega,by omega⟩,?_⟩
 ·show kk.n+1=_
  rw [h4]
  push_cast
  rfl
 ·have e1:activeM (seenM kk)=(decide (t≤((j+1:Nat):Int)) || decide (t≤(s:Int))):=(act_t (k:=seenM kk) h2).trans (by rw [show (seenM kk).n=((j+1:Nat):Int) from by show kk.n+1=_;rw [h4];push_cast;rfl,show (seenM kk).l=(s:Int) from h5])
  rw [e1]
  split <;> rfl
end
theorem MintThreshold_walk (x0:Int) (A1:Option Addr) (n1 c1:Nat) (l1:List UInt8) (w:World) (h0:(Lit.int .i64 x0).wf=true) (h1:RB w w.heap.size A1 n1 l1) (m1:n1≤c1∧c1≤maxLen) :
  Calls Tryz.prog 6 #[.int .i64 x0,.slice A1 n1 c1] w fun e w'=>e=.returned (.bool true)∧Below w.heap.size w w':=by
 have H1:=η h1
 have M1:=η m1
 clear h1 m1 h0
 go_enter Tryz.func6,Tryz.ntmps6
 go_wp2_with fail
 refine (alive21_any _).mono ?_
 rintro e w1 ⟨rfl,hb1⟩
 have B1:=η hb1
 clear hb1
 by_cases g1:n1≤40∧1≤x0∧x0≤65535
 rotate_left
 ·by_cases c1:n1≤40
  ·have d1:decide (40<(n1:Int))=false:=decide_eq_false (by omega)
   by_cases c2:1≤x0
   ·have d2:decide (x0<1)=false:=decide_eq_false (by omega)
    have d3:decide (65535<x0)=true:=decide_eq_true (by omega)
    go_wp2_with fail
    go_ret
    exact ⟨rfl,B1.out⟩
   ·have d2:decide (x0<1)=true:=decide_eq_true (by omega)
    go_wp2_with fail
    go_ret
    exact ⟨rfl,B1.out⟩
  ·have d1:decide (40<(n1:Int))=true:=decide_eq_true (by omega)
   go_wp2_with fail
   go_ret
   exact ⟨rfl,B1.out⟩
 obtain ⟨g1,g2,g3⟩:=g1
 have d1:decide (40<(n1:Int))=false:=decide_eq_false (by omega)
 have d2:decide (x0<1)=false:=decide_eq_false (by omega)
 have d3:decide (65535<x0)=false:=decide_eq_false (by omega)
 have HR:=η (pt_right g2 g3)
 go_wp2_with fail
 refine (new21_any (Pt x0) w1).mono ?_
 rintro e w2 ⟨hb,hc⟩
 rcases hc with ⟨hc,_⟩ | ⟨_,mi,x,rfl,hmy⟩
 ·exact absurd (HR.out.symm.trans hc) (by decide)
 have K2:Hid (TH w1 x mi x0 0 0 0 w2):=η ⟨newM (Pt x0),1,0,AZ.of_my hmy,rfl,rfl,rfl,rfl,few_new _,Nat.le_refl _,Nat.le_refl _⟩
 clear hb hmy d1 d2 d3
 go_wp2_with fail
 go_loopw [7,8] (fun a b wr=>∃ k s:Nat,k≤n1∧s≤20∧a=.int .i64 (s:Int)∧b=.int .i64 (k:Int)∧Hid (TH w1 x mi x0 0 s (20*k) wr)) (fun a b _=>n1 - (intOf b).toNat)
 case atStart=>exact ⟨0,0,by omega,by omega,rfl,rfl,K2⟩
 case round =>
  obtain ⟨k,s,hk,hs,rfl,rfl,HK⟩:=hrel
  by_cases hlt:k<n1
  ·obtain ⟨b,q,rfl,_,xb,hx,hcell⟩:=(H1.out.step (B1.out.trans (HK.out.bel.mono B1.out.size))).at_ hlt
   obtain ⟨T,hT⟩:∃ T:Nat,T=xb.toNat % 20:=⟨_,rfl⟩
   have HT:Hid (Int.tmod ((xb.toNat:Nat):Int) 20=(T:Int)∧T<20):=η ⟨by rw [hT,Int.tmod_eq_emod_of_nonneg (by omega)];omega,by omega⟩
   have hx0:=hx
   clear hT hcell
   have BY:∀ (M' s':Nat) (j':Nat) (W:World),TH w1 x mi x0 j' s' M' W→W.cell? ⟨b,q+k,none⟩=some (.int .u8 (xb.toNat:Int)):=by
    intro M' s' j' W hW
    obtain ⟨_,_,e,_,y,hy,hc⟩:=(H1.out.step (B1.out.trans (hW.bel.mono B1.out.size))).at_ hlt
    cases e
    cases hx0.symm.trans hy
    exact hc
   go_wp2_with fail
   go_loopw [9] (fun a wr'=>∃ j:Nat,j≤T∧a=.int .i64 (j:Int)∧Hid (TH w1 x mi x0 j s (20*k+j) wr')) (fun a _=>T - (intOf a).toNat)
   case atStart=>exact ⟨0,by omega,rfl,HK⟩
   case round =>
    clear HK
    obtain ⟨j,hj,rfl,HK⟩:=hrel
    have cb:=BY _ _ _ wr HK.out
    have rw1:wrap64 ((xb.toNat:Nat):Int)=((xb.toNat:Nat):Int):=by have:=xb.toNat_lt;unfold wrap64;omega
    have r1:Int.tmod (wrap64 ((xb.toNat:Nat):Int)) 20=(T:Int):=by rw [rw1];exact HT.out.1
    clear rw1
    have rj:IntKind.i64.wrap ((j:Int)+1)=(j:Int)+1:=IntWalk.i64_in _ (by have:=HT.out.2;omega)
    have hT:=HT.out.2
    by_cases hjl:j<T
    ·have dj:decide ((j:Int)<(T:Int))=true:=decide_eq_true (by omega)
     go_wp2_with fail
     refine (th_take HK.out (by omega) _ (by exact rfl)).mono ?_
     rintro e w4 ⟨u,B,d,rfl,hz,hu⟩
     have K4:=η hz
     have HU:=η hu
     clear hz hu cb r1 HK
     go_wp2_with (first
      | (with_reducible show wpList _ _ _ (⟨some 10,.alloc _,_,_,_,none⟩::_) _ _;refine wpList_newB rt_oc rfl rfl ?_;intro w5 pv hc1 hb1 hx1;have HN:=η (And.intro hc1 (And.intro hb1 hx1));clear hc1 hb1 hx1)
      | (with_reducible show wpList _ _ _ (⟨none,.store _ (.tmp 10) (.tmp 54),_,_,_,none⟩::_) _ _;refine wpList_stO rt_oc rfl (.tmp 10) (.tmp 54) rfl pv rfl u B d (ocV u B d) rfl (by exact rfl) _ (by exact HN.out.1) (by exact zOc_5) ?_;intro w6 hc1 ho1 hs1;have K6:=η (K4.out.step (oth_new HN.out.2.1 HN.out.2.2 ho1));have P6:Hid (Blk 73 w6 pv (ocC u B d)):=η hc1;clear hc1 ho1 hs1 HN K4))
     by_cases c1:x0≤(s:Int)
     ·skip
      have e1:decide (x0≤(s:Int))=true:=decide_eq_true (by omega)
      have HA:=fun W (h:TH w1 x mi x0 (j+1) s (20*k+j+1) W)=>th_act h
      rw [e1,Bool.or_true] at HA
      have hu:=HU.out
      rw [e1,Bool.or_true] at hu
      have hu:u.k=2:=hu
      have HA:=η HA
      have HUK:=η hu
      clear hu
      refine wp_region_held_drew (S:=fun w'=>Blk 73 w' pv (ocC u B d)) (by kernel_rfl) P6.out (fun hHeld=>?_)
      (try dsimp only at hHeld)
      refine tkI 0 (v:=?v0_1) rfl ⟨by rfl,?h0_1⟩ hHeld ?_
      case h0_1=>intro w _;(try simp only [rxT]);go_simp <;> with_reducible rfl
      (try simp only [Act.put,rxT,sxT])
      refine tkI 1 (v:=?v1_2) rfl ⟨by rfl,?h1_2⟩ hHeld ?_
      case h1_2=>intro w _;(try simp only [rxT]);go_simp <;> with_reducible rfl
      (try simp only [Act.put,rxT,sxT])
      refine tkI 2 (v:=?v2_3) rfl ⟨by rfl,?h2_3⟩ hHeld ?_
      case h2_3=>intro w _;(try simp only [rxT]);go_simp <;> with_reducible rfl
      (try simp only [Act.put,rxT,sxT])
      refine tkI 4 (v:=?v4_4) rfl ⟨by rfl,?h4_4⟩ hHeld ?_
      case h4_4=>intro w _;(try simp only [rxT]);go_simp <;> with_reducible rfl
      (try simp only [Act.put,rxT,sxT])
      refine tkI 5 (v:=?v5_5) rfl ⟨by rfl,?h5_5⟩ hHeld ?_
      case h5_5=>intro w _;(try simp only [rxT]);go_simp <;> with_reducible rfl
      (try simp only [Act.put,rxT,sxT])
      refine tkI 6 (v:=?v6_6) rfl ⟨by rfl,?h6_6⟩ hHeld ?_
      case h6_6=>intro w _;(try simp only [rxT]);go_simp <;> with_reducible rfl
      (try simp only [Act.put,rxT,sxT])
      refine rdI 3 rfl (fun K hK=>?_)
      (try simp only [rxT])
      go_simp
      refine (HA.out _ (by exact K6.out.step (Below.refl _ _).drew)).mono ?_
      rintro e w7 ⟨rfl,hz⟩
      have P7:Hid (Blk 73 w7 pv (ocC u B d)):=η ((P6.out.step (Below.refl _ _).drew).step hz.1)
      have K7:=η hz.2
      clear hz
      (try go_wp2_with fail)
      refine hK.out _ _ P7.out (fun hHeld=>?_)
      clear hK K
      (try simp only [Act.put,rxT,sxT])
      refine tkI 7 (v:=?v7_7) rfl ⟨by rfl,?h7_7⟩ hHeld ?_
      case h7_7=>intro w _;(try simp only [rxT]);go_simp <;> with_reducible rfl
      (try simp only [Act.put,rxT,sxT])
      refine wpAnyH_take (i:=8) (v:=undef) rfl (by kernel_rfl) (by kernel_rfl) (by kernel_rfl) (fun _ _ _ h=>h) (Or.inr ⟨by rfl,rfl⟩) hHeld ?_
      (try simp only [Act.put,rxT,sxT])
      refine wpAnyH_take (i:=9) (v:=undef) rfl (by kernel_rfl) (by kernel_rfl) (by kernel_rfl) (fun _ _ _ h=>h) (Or.inr ⟨by rfl,rfl⟩) hHeld ?_
      (try simp only [Act.put,rxT,sxT])
      refine wpAnyH_take (i:=10) (v:=undef) rfl (by kernel_rfl) (by kernel_rfl) (by kernel_rfl) (fun _ _ _ h=>h) (Or.inr ⟨by rfl,rfl⟩) hHeld ?_
      (try simp only [Act.put,rxT,sxT])
      refine wpAnyH_take (i:=11) (v:=undef) rfl (by kernel_rfl) (by kernel_rfl) (by kernel_rfl) (fun _ _ _ h=>h) (Or.inr ⟨by rfl,rfl⟩) hHeld ?_
      (try simp only [Act.put,rxT,sxT])
      refine tkI 12 (v:=?v12_8) rfl ⟨by rfl,?h12_8⟩ hHeld ?_
      case h12_8=>intro w _;(try simp only [rxT]);go_simp <;> with_reducible rfl
      (try simp only [Act.put,rxT,sxT])
      refine tkI 13 (v:=?v13_9) rfl ⟨by rfl,?h13_9⟩ hHeld ?_
      case h13_9=>intro w _;(try simp only [rxT]);go_simp <;> with_reducible rfl
      (try simp only [Act.put,rxT,sxT])
      refine tkI 14 (v:=?v14_10) rfl ⟨by rfl,?h14_10⟩ hHeld ?_
      case h14_10=>intro w _;(try simp only [rxT]);go_simp <;> with_reducible rfl
      (try simp only [Act.put,rxT,sxT])
      refine tkI 15 (v:=?v15_11) rfl ⟨by rfl,?h15_11⟩ hHeld ?_
      case h15_11=>intro w _;(try simp only [rxT]);go_simp <;> with_reducible rfl
      (try simp only [Act.put,rxT,sxT])
      refine tkI 16 (v:=?v16_12) rfl ⟨by rfl,?h16_12⟩ hHeld ?_
      case h16_12=>intro w hSw;(try dsimp only at hSw);have q0:=oc0_ hSw;rw [HUK.out] at q0;(try simp only [rxT]);go_simp <;> with_reducible rfl
      (try simp only [Act.put,rxT,sxT])
      refine tkI 17 (v:=?v17_13) rfl ⟨by rfl,?h17_13⟩ hHeld ?_
      case h17_13=>intro w _;(try simp only [rxT]);go_simp <;> with_reducible rfl
      (try simp only [Act.put,rxT,sxT])
      refine tkI 18 (v:=?v18_14) rfl ⟨by rfl,?h18_14⟩ hHeld ?_
      case h18_14=>intro w _;(try simp only [rxT]);go_simp <;> with_reducible rfl
      (try simp only [Act.put,rxT,sxT])
      refine tkI 19 (v:=?v19_15) rfl ⟨by rfl,?h19_15⟩ hHeld ?_
      case h19_15=>intro w _;(try simp only [rxT]);go_simp <;> with_reducible rfl
      (try simp only [Act.put,rxT,sxT])
      refine tkI 20 (v:=?v20_16) rfl ⟨by rfl,?h20_16⟩ hHeld ?_
      case h20_16=>intro w _;(try simp only [rxT]);go_simp <;> with_reducible rfl
      (try simp only [Act.put,rxT,sxT])
      refine rdI 21 rfl (fun K hK=>?_)
      (try simp only [rxT])
      go_simp
      refine (HA.out _ (by exact K7.out)).mono ?_
      rintro e w8 ⟨rfl,hz⟩
      have P8:Hid (Blk 73 w8 pv (ocC u B d)):=η (P7.out.step hz.1)
      have K8:=η hz.2
      clear hz
      (try go_wp2_with fail)
      refine hK.out _ _ P8.out (fun hHeld=>?_)
      clear hK K
      (try simp only [Act.put,rxT,sxT])
      refine tkI 22 (v:=?v22_17) rfl ⟨by rfl,?h22_17⟩ hHeld ?_
      case h22_17=>intro w _;(try simp only [rxT]);go_simp <;> with_reducible rfl
      (try simp only [Act.put,rxT,sxT])
      refine tkI 23 (v:=?v23_18) rfl ⟨by rfl,?h23_18⟩ hHeld ?_
      case h23_18=>intro w _;(try simp only [rxT]);go_simp <;> with_reducible rfl
      (try simp only [Act.put,rxT,sxT])
      refine tkI 24 (v:=?v24_19) rfl ⟨by rfl,?h24_19⟩ hHeld ?_
      case h24_19=>intro w _;(try simp only [rxT]);go_simp <;> with_reducible rfl
      (try simp only [Act.put,rxT,sxT])
      refine wpAnyH_done (by kernel_rfl) ?_ _
      (try dsimp only)
      go_wp2_with fail
      go_roundw
      case rel=>exact ⟨j+1,by omega,by go_num,K8⟩
      case measure=>simp [intOf];omega
     ·by_cases c2:x0≤((j+1:Nat):Int)
      ·skip
       have e1:decide (x0≤(s:Int))=false:=decide_eq_false (by omega)
       have e2:decide (x0≤(j:Int)+1)=true:=decide_eq_true (by omega)
       have e3:decide (x0≤((j+1:Nat):Int))=true:=decide_eq_true (by omega)
       have HA:=fun W (h:TH w1 x mi x0 (j+1) s (20*k+j+1) W)=>th_act h
       rw [e3,e1] at HA
       have hu:=HU.out
       rw [e3,e1] at hu
       have hu:u.k=2:=hu
       have HA:=η HA
       have HUK:=η hu
       clear hu
       refine wp_region_held_drew (S:=fun w'=>Blk 73 w' pv (ocC u B d)) (by kernel_rfl) P6.out (fun hHeld=>?_)
       (try dsimp only at hHeld)
       refine tkI 0 (v:=?v0_20) rfl ⟨by rfl,?h0_20⟩ hHeld ?_
       case h0_20=>intro w _;(try simp only [rxT]);go_simp <;> with_reducible rfl
       (try simp only [Act.put,rxT,sxT])
       refine tkI 1 (v:=?v1_21) rfl ⟨by rfl,?h1_21⟩ hHeld ?_
       case h1_21=>intro w _;(try simp only [rxT]);go_simp <;> with_reducible rfl
       (try simp only [Act.put,rxT,sxT])
       refine tkI 2 (v:=?v2_22) rfl ⟨by rfl,?h2_22⟩ hHeld ?_
       case h2_22=>intro w _;(try simp only [rxT]);go_simp <;> with_reducible rfl
       (try simp only [Act.put,rxT,sxT])
       refine tkI 4 (v:=?v4_23) rfl ⟨by rfl,?h4_23⟩ hHeld ?_
       case h4_23=>intro w _;(try simp only [rxT]);go_simp <;> with_reducible rfl
       (try simp only [Act.put,rxT,sxT])
       refine tkI 5 (v:=?v5_24) rfl ⟨by rfl,?h5_24⟩ hHeld ?_
       case h5_24=>intro w _;(try simp only [rxT]);go_simp <;> with_reducible rfl
       (try simp only [Act.put,rxT,sxT])
       refine tkI 6 (v:=?v6_25) rfl ⟨by rfl,?h6_25⟩ hHeld ?_
       case h6_25=>intro w _;(try simp only [rxT]);go_simp <;> with_reducible rfl
       (try simp only [Act.put,rxT,sxT])
       refine rdI 3 rfl (fun K hK=>?_)
       (try simp only [rxT])
       go_simp
       refine (HA.out _ (by exact K6.out.step (Below.refl _ _).drew)).mono ?_
       rintro e w7 ⟨rfl,hz⟩
       have P7:Hid (Blk 73 w7 pv (ocC u B d)):=η ((P6.out.step (Below.refl _ _).drew).step hz.1)
       have K7:=η hz.2
       clear hz
       (try go_wp2_with fail)
       refine hK.out _ _ P7.out (fun hHeld=>?_)
       clear hK K
       (try simp only [Act.put,rxT,sxT])
       refine tkI 7 (v:=?v7_26) rfl ⟨by rfl,?h7_26⟩ hHeld ?_
       case h7_26=>intro w _;(try simp only [rxT]);go_simp <;> with_reducible rfl
       (try simp only [Act.put,rxT,sxT])
       refine tkI 8 (v:=?v8_27) rfl ⟨by rfl,?h8_27⟩ hHeld ?_
       case h8_27=>intro w _;(try simp only [rxT]);go_simp <;> with_reducible rfl
       (try simp only [Act.put,rxT,sxT])
       refine tkI 9 (v:=?v9_28) rfl ⟨by rfl,?h9_28⟩ hHeld ?_
       case h9_28=>intro w _;(try simp only [rxT]);go_simp <;> with_reducible rfl
       (try simp only [Act.put,rxT,sxT])
       refine tkI 10 (v:=?v10_29) rfl ⟨by rfl,?h10_29⟩ hHeld ?_
       case h10_29=>intro w _;(try simp only [rxT]);go_simp <;> with_reducible rfl
       (try simp only [Act.put,rxT,sxT])
       refine tkI 11 (v:=?v11_30) rfl ⟨by rfl,?h11_30⟩ hHeld ?_
       case h11_30=>intro w _;(try simp only [rxT]);go_simp <;> with_reducible rfl
       (try simp only [Act.put,rxT,sxT])
       refine tkI 12 (v:=?v12_31) rfl ⟨by rfl,?h12_31⟩ hHeld ?_
       case h12_31=>intro w _;(try simp only [rxT]);go_simp <;> with_reducible rfl
       (try simp only [Act.put,rxT,sxT])
       refine tkI 13 (v:=?v13_32) rfl ⟨by rfl,?h13_32⟩ hHeld ?_
       case h13_32=>intro w _;(try simp only [rxT]);go_simp <;> with_reducible rfl
       (try simp only [Act.put,rxT,sxT])
       refine tkI 14 (v:=?v14_33) rfl ⟨by rfl,?h14_33⟩ hHeld ?_
       case h14_33=>intro w _;(try simp only [rxT]);go_simp <;> with_reducible rfl
       (try simp only [Act.put,rxT,sxT])
       refine tkI 15 (v:=?v15_34) rfl ⟨by rfl,?h15_34⟩ hHeld ?_
       case h15_34=>intro w _;(try simp only [rxT]);go_simp <;> with_reducible rfl
       (try simp only [Act.put,rxT,sxT])
       refine tkI 16 (v:=?v16_35) rfl ⟨by rfl,?h16_35⟩ hHeld ?_
       case h16_35=>intro w hSw;(try dsimp only at hSw);have q0:=oc0_ hSw;rw [HUK.out] at q0;(try simp only [rxT]);go_simp <;> with_reducible rfl
       (try simp only [Act.put,rxT,sxT])
       refine tkI 17 (v:=?v17_36) rfl ⟨by rfl,?h17_36⟩ hHeld ?_
       case h17_36=>intro w _;(try simp only [rxT]);go_simp <;> with_reducible rfl
       (try simp only [Act.put,rxT,sxT])
       refine tkI 18 (v:=?v18_37) rfl ⟨by rfl,?h18_37⟩ hHeld ?_
       case h18_37=>intro w _;(try simp only [rxT]);go_simp <;> with_reducible rfl
       (try simp only [Act.put,rxT,sxT])
       refine tkI 19 (v:=?v19_38) rfl ⟨by rfl,?h19_38⟩ hHeld ?_
       case h19_38=>intro w _;(try simp only [rxT]);go_simp <;> with_reducible rfl
       (try simp only [Act.put,rxT,sxT])
       refine tkI 20 (v:=?v20_39) rfl ⟨by rfl,?h20_39⟩ hHeld ?_
       case h20_39=>intro w _;(try simp only [rxT]);go_simp <;> with_reducible rfl
       (try simp only [Act.put,rxT,sxT])
       refine rdI 21 rfl (fun K hK=>?_)
       (try simp only [rxT])
       go_simp
       refine (HA.out _ (by exact K7.out)).mono ?_
       rintro e w8 ⟨rfl,hz⟩
       have P8:Hid (Blk 73 w8 pv (ocC u B d)):=η (P7.out.step hz.1)
       have K8:=η hz.2
       clear hz
       (try go_wp2_with fail)
       refine hK.out _ _ P8.out (fun hHeld=>?_)
       clear hK K
       (try simp only [Act.put,rxT,sxT])
       refine tkI 22 (v:=?v22_40) rfl ⟨by rfl,?h22_40⟩ hHeld ?_
       case h22_40=>intro w _;(try simp only [rxT]);go_simp <;> with_reducible rfl
       (try simp only [Act.put,rxT,sxT])
       refine tkI 23 (v:=?v23_41) rfl ⟨by rfl,?h23_41⟩ hHeld ?_
       case h23_41=>intro w _;(try simp only [rxT]);go_simp <;> with_reducible rfl
       (try simp only [Act.put,rxT,sxT])
       refine tkI 24 (v:=?v24_42) rfl ⟨by rfl,?h24_42⟩ hHeld ?_
       case h24_42=>intro w _;(try simp only [rxT]);go_simp <;> with_reducible rfl
       (try simp only [Act.put,rxT,sxT])
       refine wpAnyH_done (by kernel_rfl) ?_ _
       (try dsimp only)
       go_wp2_with fail
       go_roundw
       case rel=>exact ⟨j+1,by omega,by go_num,K8⟩
       case measure=>simp [intOf];omega
      ·skip
       have e1:decide (x0≤(s:Int))=false:=decide_eq_false (by omega)
       have e2:decide (x0≤(j:Int)+1)=false:=decide_eq_false (by omega)
       have e3:decide (x0≤((j+1:Nat):Int))=false:=decide_eq_false (by omega)
       have HA:=fun W (h:TH w1 x mi x0 (j+1) s (20*k+j+1) W)=>th_act h
       rw [e3,e1] at HA
       have hu:=HU.out
       rw [e3,e1] at hu
       have hu:u.k=0:=hu
       have HA:=η HA
       have HUK:=η hu
       clear hu
       refine wp_region_held_drew (S:=fun w'=>Blk 73 w' pv (ocC u B d)) (by kernel_rfl) P6.out (fun hHeld=>?_)
       (try dsimp only at hHeld)
       refine tkI 0 (v:=?v0_43) rfl ⟨by rfl,?h0_43⟩ hHeld ?_
       case h0_43=>intro w _;(try simp only [rxT]);go_simp <;> with_reducible rfl
       (try simp only [Act.put,rxT,sxT])
       refine tkI 1 (v:=?v1_44) rfl ⟨by rfl,?h1_44⟩ hHeld ?_
       case h1_44=>intro w _;(try simp only [rxT]);go_simp <;> with_reducible rfl
       (try simp only [Act.put,rxT,sxT])
       refine tkI 2 (v:=?v2_45) rfl ⟨by rfl,?h2_45⟩ hHeld ?_
       case h2_45=>intro w _;(try simp only [rxT]);go_simp <;> with_reducible rfl
       (try simp only [Act.put,rxT,sxT])
       refine tkI 4 (v:=?v4_46) rfl ⟨by rfl,?h4_46⟩ hHeld ?_
       case h4_46=>intro w _;(try simp only [rxT]);go_simp <;> with_reducible rfl
       (try simp only [Act.put,rxT,sxT])
       refine tkI 5 (v:=?v5_47) rfl ⟨by rfl,?h5_47⟩ hHeld ?_
       case h5_47=>intro w _;(try simp only [rxT]);go_simp <;> with_reducible rfl
       (try simp only [Act.put,rxT,sxT])
       refine tkI 6 (v:=?v6_48) rfl ⟨by rfl,?h6_48⟩ hHeld ?_
       case h6_48=>intro w _;(try simp only [rxT]);go_simp <;> with_reducible rfl
       (try simp only [Act.put,rxT,sxT])
       refine rdI 3 rfl (fun K hK=>?_)
       (try simp only [rxT])
       go_simp
       refine (HA.out _ (by exact K6.out.step (Below.refl _ _).drew)).mono ?_
       rintro e w7 ⟨rfl,hz⟩
       have P7:Hid (Blk 73 w7 pv (ocC u B d)):=η ((P6.out.step (Below.refl _ _).drew).step hz.1)
       have K7:=η hz.2
       clear hz
       (try go_wp2_with fail)
       refine hK.out _ _ P7.out (fun hHeld=>?_)
       clear hK K
       (try simp only [Act.put,rxT,sxT])
       refine tkI 7 (v:=?v7_49) rfl ⟨by rfl,?h7_49⟩ hHeld ?_
       case h7_49=>intro w _;(try simp only [rxT]);go_simp <;> with_reducible rfl
       (try simp only [Act.put,rxT,sxT])
       refine tkI 8 (v:=?v8_50) rfl ⟨by rfl,?h8_50⟩ hHeld ?_
       case h8_50=>intro w _;(try simp only [rxT]);go_simp <;> with_reducible rfl
       (try simp only [Act.put,rxT,sxT])
       refine tkI 9 (v:=?v9_51) rfl ⟨by rfl,?h9_51⟩ hHeld ?_
       case h9_51=>intro w _;(try simp only [rxT]);go_simp <;> with_reducible rfl
       (try simp only [Act.put,rxT,sxT])
       refine tkI 10 (v:=?v10_52) rfl ⟨by rfl,?h10_52⟩ hHeld ?_
       case h10_52=>intro w _;(try simp only [rxT]);go_simp <;> with_reducible rfl
       (try simp only [Act.put,rxT,sxT])
       refine tkI 11 (v:=?v11_53) rfl ⟨by rfl,?h11_53⟩ hHeld ?_
       case h11_53=>intro w _;(try simp only [rxT]);go_simp <;> with_reducible rfl
       (try simp only [Act.put,rxT,sxT])
       refine tkI 12 (v:=?v12_54) rfl ⟨by rfl,?h12_54⟩ hHeld ?_
       case h12_54=>intro w _;(try simp only [rxT]);go_simp <;> with_reducible rfl
       (try simp only [Act.put,rxT,sxT])
       refine tkI 13 (v:=?v13_55) rfl ⟨by rfl,?h13_55⟩ hHeld ?_
       case h13_55=>intro w _;(try simp only [rxT]);go_simp <;> with_reducible rfl
       (try simp only [Act.put,rxT,sxT])
       refine tkI 14 (v:=?v14_56) rfl ⟨by rfl,?h14_56⟩ hHeld ?_
       case h14_56=>intro w _;(try simp only [rxT]);go_simp <;> with_reducible rfl
       (try simp only [Act.put,rxT,sxT])
       refine tkI 15 (v:=?v15_57) rfl ⟨by rfl,?h15_57⟩ hHeld ?_
       case h15_57=>intro w _;(try simp only [rxT]);go_simp <;> with_reducible rfl
       (try simp only [Act.put,rxT,sxT])
       refine tkI 16 (v:=?v16_58) rfl ⟨by rfl,?h16_58⟩ hHeld ?_
       case h16_58=>intro w hSw;(try dsimp only at hSw);have q0:=oc0_ hSw;rw [HUK.out] at q0;(try simp only [rxT]);go_simp <;> with_reducible rfl
       (try simp only [Act.put,rxT,sxT])
       refine tkI 17 (v:=?v17_59) rfl ⟨by rfl,?h17_59⟩ hHeld ?_
       case h17_59=>intro w _;(try simp only [rxT]);go_simp <;> with_reducible rfl
       (try simp only [Act.put,rxT,sxT])
       refine tkI 18 (v:=?v18_60) rfl ⟨by rfl,?h18_60⟩ hHeld ?_
       case h18_60=>intro w _;(try simp only [rxT]);go_simp <;> with_reducible rfl
       (try simp only [Act.put,rxT,sxT])
       refine tkI 19 (v:=?v19_61) rfl ⟨by rfl,?h19_61⟩ hHeld ?_
       case h19_61=>intro w _;(try simp only [rxT]);go_simp <;> with_reducible rfl
       (try simp only [Act.put,rxT,sxT])
       refine tkI 20 (v:=?v20_62) rfl ⟨by rfl,?h20_62⟩ hHeld ?_
       case h20_62=>intro w _;(try simp only [rxT]);go_simp <;> with_reducible rfl
       (try simp only [Act.put,rxT,sxT])
       refine rdI 21 rfl (fun K hK=>?_)
       (try simp only [rxT])
       go_simp
       refine (HA.out _ (by exact K7.out)).mono ?_
       rintro e w8 ⟨rfl,hz⟩
       have P8:Hid (Blk 73 w8 pv (ocC u B d)):=η (P7.out.step hz.1)
       have K8:=η hz.2
       clear hz
       (try go_wp2_with fail)
       refine hK.out _ _ P8.out (fun hHeld=>?_)
       clear hK K
       (try simp only [Act.put,rxT,sxT])
       refine tkI 22 (v:=?v22_63) rfl ⟨by rfl,?h22_63⟩ hHeld ?_
       case h22_63=>intro w _;(try simp only [rxT]);go_simp <;> with_reducible rfl
       (try simp only [Act.put,rxT,sxT])
       refine tkI 23 (v:=?v23_64) rfl ⟨by rfl,?h23_64⟩ hHeld ?_
       case h23_64=>intro w _;(try simp only [rxT]);go_simp <;> with_reducible rfl
       (try simp only [Act.put,rxT,sxT])
       refine tkI 24 (v:=?v24_65) rfl ⟨by rfl,?h24_65⟩ hHeld ?_
       case h24_65=>intro w _;(try simp only [rxT]);go_simp <;> with_reducible rfl
       (try simp only [Act.put,rxT,sxT])
       refine wpAnyH_done (by kernel_rfl) ?_ _
       (try dsimp only)
       go_wp2_with fail
       go_roundw
       case rel=>exact ⟨j+1,by omega,by go_num,K8⟩
       case measure=>simp [intOf];omega
    ·have hjT:j=T:=by omega
     subst hjT
     have dj:decide ((j:Int)<(j:Int))=false:=decide_eq_false (by omega)
     have cb2:=cb
     go_wp2_with fail
     refine (th_tick HK.out HR.out).mono ?_
     rintro e w4 ⟨rfl,hz⟩
     have K4:=η hz
     have HA:=th_act hz
     rw [decide_eq_false (show ¬(x0≤((0:Nat):Int)) by omega),Bool.false_or] at HA
     have HA:=η HA
     clear hz cb cb2 r1
     by_cases c3:x0≤(j:Int)
     ·have e1:decide (x0≤(j:Int))=true:=decide_eq_true c3
      rw [e1] at HA
      go_wp2_with fail
      refine HA.out.mono ?_
      rintro e w5 ⟨rfl,hb,hz⟩
      have K5:=η (hz.more (M':=20*(k+1)) (by omega))
      clear hz hb
      go_wp2_with fail
      go_roundw
      case rel=>exact ⟨k+1,j,by omega,by omega,rfl,by go_num,K5⟩
      case measure=>simp [intOf];omega
     ·have e1:decide (x0≤(j:Int))=false:=decide_eq_false c3
      rw [e1] at HA
      go_wp2_with fail
      refine HA.out.mono ?_
      rintro e w5 ⟨rfl,hb,hz⟩
      have K5:=η (hz.more (M':=20*(k+1)) (by omega))
      clear hz hb
      go_wp2_with fail
      go_roundw
      case rel=>exact ⟨k+1,j,by omega,by omega,rfl,by go_num,K5⟩
      case measure=>simp [intOf];omega
  ·have hkn:k=n1:=by omega
   subst hkn
   go_wp2_with fail
   go_ret
   exact ⟨rfl,B1.out.trans (HK.out.bel.mono B1.out.size)⟩
end Go.Proofs.YthppjgdnibfefaaGreat
