import Derived.Test.YthppjgdnibfefaaGreatMiK
set_option linter.all false
set_option maxRecDepth 100000
set_option maxHeartbeats 32000000
namespace Go.Proofs.YthppjgdnibfefaaGreat
open Tryz
open Go.RowKit
attribute [local go_sem ↓] CeJ CeK BsX
theorem ChK (now life:Nat):AfV now life=if now+life<18446744073709551616 then now+life else 18446744073709551615:=rfl
theorem outM_def (k:Ms) (c:YB) (p:IPl) (now:Nat) (r:YB):outM k c p now r=if BbW p.2.1 then (if AbQ k then AcJ k.s k.p.life c p now r else fwd false) else if (!AbQ k && k.p.sh)=true then fwd false else if (AdQ k.s c p.2.1 now).2=0 then fwd true else if (!AbQ k)=true∨(AdQ k.s c p.2.1 now).2=13 then drp (AdQ k.s c p.2.1 now).2 else AcJ k.s k.p.life c p now r:=rfl
attribute [local irreducible] AdQ AjZ seqT fstT AcJ outM AiX AlJ retR newR AfV AbQ CfY
theorem mrc4 {T:TypeId} {w:World} {mr y:Nat} {k:Ms} (h:Blk T w mr (AhV k y)):w.cell? ⟨mr,4,none⟩=some (.pointer (some ⟨y,0,none⟩)):=h.cell 4
theorem last_row {ks:List KR} {m:Nat} (hm:ks.length=m+1) {k:KR} (hk:ks[m]?=some k):newR (rgK ks)=(k.q,true):=by
 have hl:0<(rgK ks).length:=by rw [BaQ];omega
 rw [DsY hl]
 have:ks[m]'(by omega)=k:=by rw [List.getElem?_eq_getElem (by omega)] at hk;injection hk
 simp [BhX,rgK,hm,this]
def RetOr (u:Oc) (w:World) (e:Ending) (w':World):Prop:=∃ B d,e=.returned (ocV u B d)∧OwnB w' w.heap.size B u.b.length d u.b∧Below w.heap.size w w'
theorem AvY (base y:Nat) (B:YA) (d:Nat) (ks:List KR) (mr:Nat) (k:Ms) (w:World) (h:Rs base w y B d ks) (hm:Blk 57 w mr (AhV k y)) (hk:rgK ks=k.s) (os:okR k.s) (hp:AcX k.p=true) (CA:YA) (cc:Nat) (cl:YB) (hc:RB w w.heap.size CA cl.length cl) (bc:cl.length≤1000) (j:In) (hj:j.ok w) (bt:j.t.length≤1000) (now:Nat) (hn:now<2 ^ 64) (RA:YA) (rc:Nat) (r:YB) (hr:RB w w.heap.size RA r.length r) (hrc:r.length≤rc∧rc≤maxLen) (br:r.length≤1000) (u:Oc) (hu:AcJ k.s k.p.life cl j.pl now r=u) :
  Calls prog 107 #[.pointer (some ⟨mr,0,none⟩),.slice CA cl.length cc,j.val,.int .u64 (now:Int),.slice RA r.length rc] w (RetOr u w):=by
 have hlf:=of_decide_eq_true hp
 have HLF:Hid (k.p.life≤1099511627776):=η (by omega)
 have H:=η h
 have HM:=η hm
 have HK:=η hk
 have HU:=η hu
 have HC:=η hc
 have HJ:=η hj
 have HR:=η hr
 have HOS:=η os
 have hle:=os.n
 rw [←hk,BaQ] at hle
 obtain ⟨n,HN⟩:∃ n,Hid (ks.length=n):=⟨_,η rfl⟩
 have HRL:Hid (r.length=r.length):=η rfl
 rw [HN.o] at hle
 have c4:w.cell? ⟨mr,4,none⟩=some (.pointer (some ⟨y,0,none⟩)):=hm.cell 4
 have cy:w.cell? ⟨y,0,none⟩=some (.slice B n d):=by rw [←HN.o];exact h.c0
 have HC4:=η (And.intro c4 cy)
 clear h hm hk hu hc hj hr hlf c4 cy hp os
 by_cases hs:n=0
 ·have d0:((n:Int) == 0)=true:=by rw [hs];rfl
  have eu:u=drp 17:=by
   have z:ks=[]:=List.eq_nil_of_length_eq_zero (by rw [HN.o];exact hs);rw [←HU.o,←HK.o,z];exact BpX
  subst eu;clear hs;go_enter func107,ntmps107
  go_wp2_with (first
   | (refine AgV rfl _ (.tmp 2) rfl j rfl ?_;intro w1 qi hc1 hb1 hx1;have H1:=η (And.intro hc1 (And.intro hb1 hx1));clear hc1 hb1 hx1)
   | (refine atd 10 rfl ?_;refine AbJ AbY rfl rfl ?_;intro w2 rv hc1 hb1 hx1;have Q2:=η (H1.o.1.step hb1);have V2:=η (And.intro hc1 (Nat.le_trans H1.o.2.1.size hx1));have B2:=η (AaJ H1.o.2.1 hb1);have c4:=mrc4 (HM.o.step B2.o);have cy:w2.cell? ⟨y,0,none⟩=some (.slice B n d):=(by rw [←HN.o];exact (H.o.step B2.o).c0);clear hc1 hb1 hx1 H1))
  refine (AiW 17 w2).mono ?_;rintro e w9 ⟨rfl,hb⟩;have B3:=η (hb);clear hb
  go_wp2_with (first
   | (refine AaV AbY rfl (.tmp 10) (.tmp 27) rfl rv rfl (drp 17) none 0 (ocV (drp 17) none 0) rfl (by exact rfl) _ (by exact V2.o.1.step B3.o) (by exact AdJ) ?_;intro wf hc1 ho1 hs1;have HF:=η (And.intro hc1 ho1);clear hc1 ho1 hs1))
  exact bodyPost_ret (v:=ocV (drp 17) none 0) (AbX AbY rfl _ _ rv (ocC (drp 17) none 0) rfl HF.o.1 rfl) rfl ⟨none,0,rfl,OwnB.nil_ _ _,(AaJ B2.o B3.o).trans (HF.o.2.below (fun j hj=>by rw [List.mem_singleton.1 hj];exact V2.o.2) (AaJ B2.o B3.o).size)⟩
 have hne:k.s≠[]:=fun z=>hs (by rw [←HN.o,←BaQ,HK.o,z];rfl)
 have d0:((n:Int) == 0)=false:=by rw [beq_eq_false_iff_ne];omega
 by_cases h20:r.length<20
 ·have d1:decide ((r.length:Int)<20)=true:=decide_eq_true (by omega)
  have eu:u=drp 21:=by rw [←HU.o];exact BlX hne h20
  subst eu;clear hne hs h20;go_enter func107,ntmps107
  go_wp2_with (first
   | (refine AgV rfl _ (.tmp 2) rfl j rfl ?_;intro w1 qi hc1 hb1 hx1;have H1:=η (And.intro hc1 (And.intro hb1 hx1));clear hc1 hb1 hx1)
   | (refine atd 10 rfl ?_;refine AbJ AbY rfl rfl ?_;intro w2 rv hc1 hb1 hx1;have Q2:=η (H1.o.1.step hb1);have V2:=η (And.intro hc1 (Nat.le_trans H1.o.2.1.size hx1));have B2:=η (AaJ H1.o.2.1 hb1);have c4:=mrc4 (HM.o.step B2.o);have cy:w2.cell? ⟨y,0,none⟩=some (.slice B n d):=(by rw [←HN.o];exact (H.o.step B2.o).c0);clear hc1 hb1 hx1 H1))
  refine (AiW 21 w2).mono ?_;rintro e w9 ⟨rfl,hb⟩;have B3:=η (hb);clear hb
  go_wp2_with (first
   | (refine AaV AbY rfl (.tmp 10) (.tmp 31) rfl rv rfl (drp 21) none 0 (ocV (drp 21) none 0) rfl (by exact rfl) _ (by exact V2.o.1.step B3.o) (by exact AdJ) ?_;intro wf hc1 ho1 hs1;have HF:=η (And.intro hc1 ho1);clear hc1 ho1 hs1))
  exact bodyPost_ret (v:=ocV (drp 21) none 0) (AbX AbY rfl _ _ rv (ocC (drp 21) none 0) rfl HF.o.1 rfl) rfl ⟨none,0,rfl,OwnB.nil_ _ _,(AaJ B2.o B3.o).trans (HF.o.2.below (fun j hj=>by rw [List.mem_singleton.1 hj];exact V2.o.2) (AaJ B2.o B3.o).size)⟩
 have d1:decide ((r.length:Int)<20)=false:=decide_eq_false (by omega)
 obtain ⟨m,hmn⟩:∃ m,n=m+1:=⟨n - 1,by omega⟩
 obtain ⟨g,k0,rfl,hgB,hk0,hk0m,hc0,_⟩:=H.o.at_ (i:=m) (by rw [HN.o];omega)
 have hnew:=last_row (m:=m) (by rw [HN.o];exact hmn) hk0
 rw [HK.o] at hnew
 obtain ⟨sc,HSC⟩:∃ sc,Hid (200::r.take 8=sc):=⟨_,η rfl⟩
 have HS9:Hid (sc.length=9):=η (by rw [←HSC.o,List.length_cons,List.length_take];omega)
 obtain ⟨un,HUN⟩:∃ un,Hid (AfV now k.p.life=un):=⟨_,η rfl⟩
 obtain ⟨⟨L,E⟩,HSL⟩:∃ z,Hid (AjZ k.s k0.q ((r.drop 8).take 12) cl ⟨un,j.h.a,sc⟩=z):=⟨_,η rfl⟩
 obtain ⟨⟨bb,be⟩,HSM⟩:∃ z,Hid (AiX j.h.b sc j.h.a L=z):=⟨_,η rfl⟩
 have HU2:Hid (u=if E≠0 then drp E else if be≠0 then drp be else mdo bb):=η (by
  have z:=EnV (r:=r) (life:=k.p.life) (now:=now) (c:=cl) (p:=j.pl) hne (by omega) rfl
  rw [←HU.o,z]
  have e1:(r.take 20).drop 8=(r.drop 8).take 12:=by rw [List.drop_take]
  have e2:(r.take 20).take 8=r.take 8:=by rw [List.take_take];rfl
  have e3:CfY k.s (newR k.s).1 cl j.pl.1.2.2.1 j.pl.1.2.2.2 (AfV now k.p.life) (r.take 20)=if E≠0 then ([],E) else (bb,be):=by
   unfold CfY
   rw [e1,e2,HSC.o,hnew,HUN.o,show j.pl.1.2.2.1=j.h.a from rfl,show j.pl.1.2.2.2=j.h.b from rfl,HSL.o,HSM.o]
  rw [e3]
  by_cases hE:E=0
  ·have hX:(if E≠0 then (([],E):List UInt8×Int) else (bb,be))=(bb,be):=if_neg (by simp [hE])
   rw [hX,if_neg (show ¬(E≠0) by simp [hE])]
  ·have hX:(if E≠0 then (([],E):List UInt8×Int) else (bb,be))=([],E):=if_pos hE
   rw [hX]
   show (if E≠0 then drp E else mdo [])=(if E≠0 then drp E else if be≠0 then drp be else mdo bb)
   rw [if_pos hE,if_pos hE])
 have h20':20≤r.length:=by omega
 have r1:(n:Int) - 1=(m:Int):=by omega
 have hmn':m<n:=by omega
 have HG:Hid (g∈blkO (some ⟨g,0,none⟩)∧w.cell? ⟨g,m*2,none⟩=some (.int .i64 k0.q)):=η ⟨hgB,hc0⟩
 have hq1:∀ W:World,(Instr.slice 41 (.slice RA r.length rc) none (some (.int .i64 8)) none).run prog W=.ok (.slice (cutA RA rc 0) 8 rc) W:=BsZ RA r.length rc 8 (by omega)
 have HQ2:Hid (∀ W:World,(Instr.slice 41 (.slice RA r.length rc) (some (.int .i64 8)) (some (.int .i64 20)) none).run prog W=.ok (.slice (cutA RA rc 8) 12 (rc - 8)) W):=η (DdV RA r.length rc 8 20 (by omega) (by omega))
 have HR8:Hid (RB w w.heap.size (cutA RA rc 0) 8 (r.take 8)):=η (by have z:=RB.part HR.o (i:=0) (j:=8) (c:=rc) (by omega) (by omega) hrc.1;exact z)
 have HR12:Hid (RB w w.heap.size (cutA RA rc 8) 12 ((r.drop 8).take 12)):=η (by
  have z:=RB.part HR.o (i:=8) (j:=20) (c:=rc) (by omega) (by omega) hrc.1
  rw [List.drop_take] at z
  exact z)
 obtain ⟨un0,HW⟩:∃ un0:Nat,Hid (un0<18446744073709551616∧IntKind.u64.wrap ((now:Int)+(k.p.life:Int))=(un0:Int)∧(un0<now→un=18446744073709551615)∧(¬un0<now→un=un0)):=by
  refine ⟨(now+k.p.life) % 18446744073709551616,η ⟨Nat.mod_lt _ (by decide),?_,?_,?_⟩⟩
  ·rw [IntKind.wrap_u64];omega
  ·intro hlt
   rw [←HUN.o,ChK];have:=HLF.o;rw [if_neg (by omega)]
  ·intro hlt
   rw [←HUN.o,ChK];have:=HLF.o;split <;> omega
 have hw1:=HW.o.2.1
 have HUB:Hid (un<2 ^ 64):=η (by rw [←HUN.o];exact CmV hn)
 obtain ⟨dv,hdv⟩:∃ dv,decide (un0<now)=dv:=⟨_,rfl⟩
 have hdvi:decide ((un0:Int)<(now:Int))=dv:=by rw [←hdv];exact decide_eq_decide.2 (by omega)
 have HDV:Hid (dv=true→un=18446744073709551615):=η (fun z=>HW.o.2.2.1 (of_decide_eq_true (hdv.trans z)))
 have HDW:Hid (dv=false→un=un0):=η (fun z=>HW.o.2.2.2 (of_decide_eq_false (hdv.trans z)))
 have hun0:=HW.o.1
 have HMN:=η hmn
 have HWM:Hid (IntKind.i64.wrap (m:Int)=(m:Int)):=η (by rw [IntKind.wrap_i64];omega)
 have HMM:Hid (0≤(m:Int)∧(m:Int)<(n:Int)):=η (by omega)
 clear hne hs h20 hnew hk0 hk0m hgB hc0 HC4 hmn
 go_enter func107,ntmps107
 go_wp2_with (first
  | (refine AgV rfl _ (.tmp 2) rfl j rfl ?_;intro w1 qi hc1 hb1 hx1;have H1:=η (And.intro hc1 (And.intro hb1 hx1));clear hc1 hb1 hx1)
  | (refine atd 10 rfl ?_;refine AbJ AbY rfl rfl ?_;intro w2 rv hc1 hb1 hx1;have Q2:=η (H1.o.1.step hb1);have V2:=η (And.intro hc1 (Nat.le_trans H1.o.2.1.size hx1));have B2:=η (AaJ H1.o.2.1 hb1);have c4:=mrc4 (HM.o.step B2.o);have cy:w2.cell? ⟨y,0,none⟩=some (.slice (some ⟨g,0,none⟩) n d):=(by rw [←HN.o];exact (H.o.step B2.o).c0);clear hc1 hb1 hx1 H1))
 have c3:w2.cell? ⟨mr,3,none⟩=some (.int .u64 (k.p.life:Int)):=(HM.o.step B2.o).cell 3
 go_wp2_with fail
 refine (DhX (cutA RA rc 0) rc (r.take 8) w2 (by exact HR8.o.step B2.o)).mono ?_
 rintro e w3 ⟨A1,c1,he,ho,hb⟩
 rw [HSC.o] at ho
 rw [←HS9.o] at he ho
 subst he
 have B3:=η hb
 have O3:=η ho
 have q2:w3.cell? ⟨qi,2,none⟩=some (.slice j.h.A j.h.a.length j.h.c):=(show Ic _ w3 qi j from Q2.o.step B3.o).c2
 have c3:w3.cell? ⟨mr,3,none⟩=some (.int .u64 (k.p.life:Int)):=((HM.o.step B2.o).step B3.o).cell 3
 clear ho hb hq1 c4 cy
 obtain ⟨f,HF1⟩:∃ f:Fd,Hid (f=⟨un,j.h.A,j.h.c,j.h.a,A1,c1,sc⟩):=⟨_,η rfl⟩
 have HFV:Hid (f.val=.agg #[.int .u64 (un:Int),.slice j.h.A j.h.a.length j.h.c,.slice A1 sc.length c1]):=η (by rw [HF1.o];rfl)
 rcases dv with _ | _
 ·have eun:=HDW.o rfl
  have HEU:=η eun;have HFV:Hid (f.val=.agg #[.int .u64 (un0:Int),.slice j.h.A j.h.a.length j.h.c,.slice A1 sc.length c1]):=η (by rw [HFV.o,eun]);clear eun
  go_wp2_with (first
   | (refine atd 14 rfl ?_;refine AcZ AcW rfl rfl ?_;intro w4 p hc1 hb1 hx1;have H4:=η (And.intro hc1 (And.intro hb1 hx1));clear hc1 hb1 hx1 q2)
   | (refine BiW AcW rfl (.tmp 14) (.tmp 53) rfl p rfl f zeroF (.agg #[.int .u64 (un0:Int),.slice j.h.A j.h.a.length j.h.c,.slice A1 sc.length c1]) rfl (by exact HFV.o.symm) (by exact H4.o.1) ?_;intro w5 hc1 ho1 hs1;have P5:=η hc1;have B5:=η (AaJ B3.o (AeJ H4.o.2.1 H4.o.2.2 ho1));have O5:=η (O3.o.below (AeJ H4.o.2.1 H4.o.2.2 ho1));clear hc1 ho1 hs1 H4))
  have W5:=η (AaJ B2.o B5.o);refine wp_region_held_drew (S:=fun w'=>w'.cell? ⟨mr,4,none⟩=some (.pointer (some ⟨y,0,none⟩))∧w'.cell? ⟨y,0,none⟩=some (.slice (some ⟨g,0,none⟩) n d)∧w'.cell? ⟨g,m*2,none⟩=some (.int .i64 k0.q)∧Fc 176 w' p f) (by kernel_rfl) ⟨(HM.o.step (AaJ W5.o (Below.refl _ _).drew)).cell 4,by rw [←HN.o];exact (H.o.step (AaJ W5.o (Below.refl _ _).drew)).c0,(((AaJ W5.o (Below.refl _ _).drew)).cell (p:=⟨g,m*2,none⟩) (World.block_lt_of_cell? w _ HG.o.2)).trans HG.o.2,P5.o.step (Below.refl _ _).drew⟩ (fun hHeld=>?_);(try dsimp only at hHeld);have Ω:=η (fun (w:World) (hSw:w.cell? ⟨mr,4,none⟩=some (.pointer (some ⟨y,0,none⟩))∧w.cell? ⟨y,0,none⟩=some (.slice (some ⟨g,0,none⟩) n d)∧w.cell? ⟨g,m*2,none⟩=some (.int .i64 k0.q)∧Fc 176 w p f)=>an hSw.1 (an hSw.2.1 (an hSw.2.2.1 (an (hSw.2.2.2.ld AcW) (an (HQ2.o w) (an HWM.o HMM.o))))));refine tkJ 0 rfl hHeld ?_;refine tkJ 1 rfl hHeld ?_;refine tkJ 2 rfl hHeld ?_;refine tkJ 3 rfl hHeld ?_;(try simp only [Act.put,rxT,sxT]);refine tkJ 4 rfl hHeld ?_;refine tkJ 5 rfl hHeld ?_;refine tkJ 6 rfl hHeld ?_;refine tkJ 7 rfl hHeld ?_;(try simp only [Act.put,rxT,sxT]);refine tkJ 8 rfl hHeld ?_;refine tkJ 9 rfl hHeld ?_;refine tkJ 10 rfl hHeld ?_;refine tkJ 11 rfl hHeld ?_;(try simp only [Act.put,rxT,sxT]);refine tkJ 12 rfl hHeld ?_;refine tkJ 13 rfl hHeld ?_;refine tkJ 14 rfl hHeld ?_;refine tkJ 15 rfl hHeld ?_;(try simp only [Act.put,rxT,sxT]);refine tkJ 16 rfl hHeld ?_;refine tkJ 17 rfl hHeld ?_;refine tkJ 18 rfl hHeld ?_;refine tkJ 19 rfl hHeld ?_;(try simp only [Act.put,rxT,sxT]);refine tkJ 20 rfl hHeld ?_;refine tkJ 21 rfl hHeld ?_;refine tkJ 22 rfl hHeld ?_;refine tkJ 23 rfl hHeld ?_;(try simp only [Act.put,rxT,sxT]);refine tkJ 24 rfl hHeld ?_;refine tkJ 25 rfl hHeld ?_;refine tkJ 26 rfl hHeld ?_;refine rdI 27 rfl (fun K hK=>?_);(try simp only [Act.put,rxT,sxT]);go_simp;have B6:=η (AaJ B5.o (Below.refl _ _).drew);have W6:=η (AaJ B2.o B6.o)
  have HFO:Hid (f.ok w5.drew):=η (by
   rw [HF1.o]
   exact ⟨HUB.o,HJ.o.h.a.step W6.o,O5.o.rb.step (Below.refl _ _).drew,HJ.o.h.ca,O5.o.cap⟩)
  rw [←HFV.o];refine (CaX base y (some ⟨g,0,none⟩) d ks k0.q _ (by exact H.o.step W6.o) (by rw [HN.o];omega) (by rw [HK.o];exact HOS.o) (cutA RA rc 8) CA 12 (rc - 8) cl.length cc ((r.drop 8).take 12) cl (by exact HR12.o.step W6.o) (by exact HC.o.step W6.o) f (by exact HFO.o) (by omega) (by omega) L.length L E (by rw [HK.o,HF1.o];exact HSL.o) rfl).mono ?_;rintro e w7 ⟨A7,c7,rfl,ho,hb⟩;have B7:=η (AaJ B6.o hb);have W7:=η (AaJ B2.o B7.o);have O7:=η ho;have P7:=η (P5.o.step ((Below.refl _ _).drew.trans hb));have O57:=η (O5.o.below ((Below.refl _ _).drew.trans hb));clear ho hb;(try go_wp2_with fail);refine hK.o _ _ ⟨(HM.o.step W7.o).cell 4,by rw [←HN.o];exact (H.o.step W7.o).c0,((W7.o).cell (p:=⟨g,m*2,none⟩) (World.block_lt_of_cell? w _ HG.o.2)).trans HG.o.2,P7.o⟩ (fun hHeld=>?_);clear hK K;refine tkJ 28 rfl hHeld ?_;refine tkJ 29 rfl hHeld ?_;refine tkJ 30 rfl hHeld ?_;refine tkJ 31 rfl hHeld ?_;refine tkJ 32 rfl hHeld ?_;(try simp only [Act.put,rxT,sxT]);refine wpAnyH_done (by kernel_rfl) ?_ _;by_cases hE:E=0;rotate_left
  ·have e1:(E != 0)=true:=by simpa using hE
   have eu:u=drp E:=by rw [HU2.o,if_pos hE]
   subst eu;clear hE;go_wp2_with fail;refine (AiW E w7).mono ?_;rintro e w9 ⟨rfl,hb⟩;have B8:=η (AaJ B7.o hb);clear hb
   go_wp2_with (first
    | (refine AaV AbY rfl (.tmp 10) (.tmp 88) rfl rv rfl (drp E) none 0 (ocV (drp E) none 0) rfl (by exact rfl) _ (by exact V2.o.1.step B8.o) (by exact AdJ) ?_;intro wf hc1 ho1 hs1;have HF:=η (And.intro hc1 ho1);clear hc1 ho1 hs1))
   exact bodyPost_ret (v:=ocV (drp E) none 0) (AbX AbY rfl _ _ rv (ocC (drp E) none 0) rfl HF.o.1 rfl) rfl ⟨none,0,rfl,OwnB.nil_ _ _,(AaJ B2.o B8.o).trans (HF.o.2.below (fun j hj=>by rw [List.mem_singleton.1 hj];exact V2.o.2) (AaJ B2.o B8.o).size)⟩
  have e1:(E != 0)=false:=by rw [hE];rfl
  have HU3:Hid (u=if be≠0 then drp be else mdo bb):=η (by rw [HU2.o,if_neg (by rw [hE];decide)]);clear hE;have qi2:w7.cell? ⟨qi,2,none⟩=some (.slice j.h.A j.h.a.length j.h.c):=(show Ic _ w7 qi j from Q2.o.step B7.o).c2;have qi3:w7.cell? ⟨qi,3,none⟩=some (.slice j.h.B j.h.b.length j.h.d):=(show Ic _ w7 qi j from Q2.o.step B7.o).c3;go_wp2_with fail;refine (CiX j.h.B A1 j.h.A A7 j.h.d c1 j.h.c c7 j.h.b sc j.h.a L w7 (by exact HJ.o.h.b.step W7.o) (by exact O57.o.rb) (by exact HJ.o.h.a.step W7.o) (by exact O7.o.rb) (by exact HJ.o.h.cb) (by exact O57.o.cap)).mono ?_;rw [HSM.o];rintro e w8 ⟨B8',c8,rfl,ho,hb⟩;have B8:=η (AaJ B7.o hb);have O8:=η (ho.base_le (Nat.le_trans W7.o.size (Nat.le_refl _)));clear ho hb qi2 qi3;by_cases hB:be=0;rotate_left
  ·have e2:(be != 0)=true:=by simpa using hB
   have eu:u=drp be:=by rw [HU3.o,if_pos hB]
   subst eu;clear hB;go_wp2_with fail;refine (AiW be w8).mono ?_;rintro e w9 ⟨rfl,hb⟩;have B9:=η (AaJ B8.o hb);clear hb
   go_wp2_with (first
    | (refine AaV AbY rfl (.tmp 10) (.tmp 104) rfl rv rfl (drp be) none 0 (ocV (drp be) none 0) rfl (by exact rfl) _ (by exact V2.o.1.step B9.o) (by exact AdJ) ?_;intro wf hc1 ho1 hs1;have HF:=η (And.intro hc1 ho1);clear hc1 ho1 hs1))
   exact bodyPost_ret (v:=ocV (drp be) none 0) (AbX AbY rfl _ _ rv (ocC (drp be) none 0) rfl HF.o.1 rfl) rfl ⟨none,0,rfl,OwnB.nil_ _ _,(AaJ B2.o B9.o).trans (HF.o.2.below (fun j hj=>by rw [List.mem_singleton.1 hj];exact V2.o.2) (AaJ B2.o B9.o).size)⟩
  have e2:(be != 0)=false:=by rw [hB];rfl
  have eu:u=mdo bb:=by rw [HU3.o,if_neg (by rw [hB];decide)]
  subst eu;clear hB
  go_wp2_with (first
   | (refine AaV AbY rfl (.tmp 10) (.tmp 106) rfl rv rfl (mdo bb) B8' c8 (.agg #[.int .i64 1,.bool false,.int .i64 0,.slice B8' bb.length c8,.int .i64 20]) rfl (by exact EsX _ _ _) _ (by exact V2.o.1.step B8.o) (by exact AdJ) ?_;intro wf hc1 ho1 hs1;have HF:=η (And.intro hc1 ho1);clear hc1 ho1 hs1))
  exact bodyPost_ret (v:=ocV (mdo bb) B8' c8) (AbX AbY rfl _ _ rv (ocC (mdo bb) B8' c8) rfl HF.o.1 rfl) rfl ⟨B8',c8,rfl,(O8.o).offS HF.o.2 ((V2.o.1.step B8.o).nob (by decide)),(AaJ B2.o B8.o).trans (HF.o.2.below (fun j hj=>by rw [List.mem_singleton.1 hj];exact V2.o.2) (AaJ B2.o B8.o).size)⟩
 ·have eun:=HDV.o rfl
  have HFV:Hid (f.val=.agg #[.int .u64 18446744073709551615,.slice j.h.A j.h.a.length j.h.c,.slice A1 sc.length c1]):=η (by rw [HFV.o,eun];rfl);clear eun
  go_wp2_with (first
   | (refine atd 14 rfl ?_;refine AcZ AcW rfl rfl ?_;intro w4 p hc1 hb1 hx1;have H4:=η (And.intro hc1 (And.intro hb1 hx1));clear hc1 hb1 hx1 q2)
   | (refine BiW AcW rfl (.tmp 14) (.tmp 53) rfl p rfl f zeroF (.agg #[.int .u64 18446744073709551615,.slice j.h.A j.h.a.length j.h.c,.slice A1 sc.length c1]) rfl (by exact HFV.o.symm) (by exact H4.o.1) ?_;intro w5 hc1 ho1 hs1;have P5:=η hc1;have B5:=η (AaJ B3.o (AeJ H4.o.2.1 H4.o.2.2 ho1));have O5:=η (O3.o.below (AeJ H4.o.2.1 H4.o.2.2 ho1));clear hc1 ho1 hs1 H4))
  have W5:=η (AaJ B2.o B5.o);refine wp_region_held_drew (S:=fun w'=>w'.cell? ⟨mr,4,none⟩=some (.pointer (some ⟨y,0,none⟩))∧w'.cell? ⟨y,0,none⟩=some (.slice (some ⟨g,0,none⟩) n d)∧w'.cell? ⟨g,m*2,none⟩=some (.int .i64 k0.q)∧Fc 176 w' p f) (by kernel_rfl) ⟨(HM.o.step (AaJ W5.o (Below.refl _ _).drew)).cell 4,by rw [←HN.o];exact (H.o.step (AaJ W5.o (Below.refl _ _).drew)).c0,(((AaJ W5.o (Below.refl _ _).drew)).cell (p:=⟨g,m*2,none⟩) (World.block_lt_of_cell? w _ HG.o.2)).trans HG.o.2,P5.o.step (Below.refl _ _).drew⟩ (fun hHeld=>?_);(try dsimp only at hHeld);have Ω:=η (fun (w:World) (hSw:w.cell? ⟨mr,4,none⟩=some (.pointer (some ⟨y,0,none⟩))∧w.cell? ⟨y,0,none⟩=some (.slice (some ⟨g,0,none⟩) n d)∧w.cell? ⟨g,m*2,none⟩=some (.int .i64 k0.q)∧Fc 176 w p f)=>an hSw.1 (an hSw.2.1 (an hSw.2.2.1 (an (hSw.2.2.2.ld AcW) (an (HQ2.o w) (an HWM.o HMM.o))))));refine tkJ 0 rfl hHeld ?_;refine tkJ 1 rfl hHeld ?_;refine tkJ 2 rfl hHeld ?_;refine tkJ 3 rfl hHeld ?_;(try simp only [Act.put,rxT,sxT]);refine tkJ 4 rfl hHeld ?_;refine tkJ 5 rfl hHeld ?_;refine tkJ 6 rfl hHeld ?_;refine tkJ 7 rfl hHeld ?_;(try simp only [Act.put,rxT,sxT]);refine tkJ 8 rfl hHeld ?_;refine tkJ 9 rfl hHeld ?_;refine tkJ 10 rfl hHeld ?_;refine tkJ 11 rfl hHeld ?_;(try simp only [Act.put,rxT,sxT]);refine tkJ 12 rfl hHeld ?_;refine tkJ 13 rfl hHeld ?_;refine tkJ 14 rfl hHeld ?_;refine tkJ 15 rfl hHeld ?_;(try simp only [Act.put,rxT,sxT]);refine tkJ 16 rfl hHeld ?_;refine tkJ 17 rfl hHeld ?_;refine tkJ 18 rfl hHeld ?_;refine tkJ 19 rfl hHeld ?_;(try simp only [Act.put,rxT,sxT]);refine tkJ 20 rfl hHeld ?_;refine tkJ 21 rfl hHeld ?_;refine tkJ 22 rfl hHeld ?_;refine tkJ 23 rfl hHeld ?_;(try simp only [Act.put,rxT,sxT]);refine tkJ 24 rfl hHeld ?_;refine tkJ 25 rfl hHeld ?_;refine tkJ 26 rfl hHeld ?_;refine rdI 27 rfl (fun K hK=>?_);(try simp only [Act.put,rxT,sxT]);go_simp;have B6:=η (AaJ B5.o (Below.refl _ _).drew);have W6:=η (AaJ B2.o B6.o)
  have HFO:Hid (f.ok w5.drew):=η (by
   rw [HF1.o]
   exact ⟨HUB.o,HJ.o.h.a.step W6.o,O5.o.rb.step (Below.refl _ _).drew,HJ.o.h.ca,O5.o.cap⟩)
  rw [←HFV.o];refine (CaX base y (some ⟨g,0,none⟩) d ks k0.q _ (by exact H.o.step W6.o) (by rw [HN.o];omega) (by rw [HK.o];exact HOS.o) (cutA RA rc 8) CA 12 (rc - 8) cl.length cc ((r.drop 8).take 12) cl (by exact HR12.o.step W6.o) (by exact HC.o.step W6.o) f (by exact HFO.o) (by omega) (by omega) L.length L E (by rw [HK.o,HF1.o];exact HSL.o) rfl).mono ?_;rintro e w7 ⟨A7,c7,rfl,ho,hb⟩;have B7:=η (AaJ B6.o hb);have W7:=η (AaJ B2.o B7.o);have O7:=η ho;have P7:=η (P5.o.step ((Below.refl _ _).drew.trans hb));have O57:=η (O5.o.below ((Below.refl _ _).drew.trans hb));clear ho hb;(try go_wp2_with fail);refine hK.o _ _ ⟨(HM.o.step W7.o).cell 4,by rw [←HN.o];exact (H.o.step W7.o).c0,((W7.o).cell (p:=⟨g,m*2,none⟩) (World.block_lt_of_cell? w _ HG.o.2)).trans HG.o.2,P7.o⟩ (fun hHeld=>?_);clear hK K;refine tkJ 28 rfl hHeld ?_;refine tkJ 29 rfl hHeld ?_;refine tkJ 30 rfl hHeld ?_;refine tkJ 31 rfl hHeld ?_;refine tkJ 32 rfl hHeld ?_;(try simp only [Act.put,rxT,sxT]);refine wpAnyH_done (by kernel_rfl) ?_ _;by_cases hE:E=0;rotate_left
  ·have e1:(E != 0)=true:=by simpa using hE
   have eu:u=drp E:=by rw [HU2.o,if_pos hE]
   subst eu;clear hE;go_wp2_with fail;refine (AiW E w7).mono ?_;rintro e w9 ⟨rfl,hb⟩;have B8:=η (AaJ B7.o hb);clear hb
   go_wp2_with (first
    | (refine AaV AbY rfl (.tmp 10) (.tmp 88) rfl rv rfl (drp E) none 0 (ocV (drp E) none 0) rfl (by exact rfl) _ (by exact V2.o.1.step B8.o) (by exact AdJ) ?_;intro wf hc1 ho1 hs1;have HF:=η (And.intro hc1 ho1);clear hc1 ho1 hs1))
   exact bodyPost_ret (v:=ocV (drp E) none 0) (AbX AbY rfl _ _ rv (ocC (drp E) none 0) rfl HF.o.1 rfl) rfl ⟨none,0,rfl,OwnB.nil_ _ _,(AaJ B2.o B8.o).trans (HF.o.2.below (fun j hj=>by rw [List.mem_singleton.1 hj];exact V2.o.2) (AaJ B2.o B8.o).size)⟩
  have e1:(E != 0)=false:=by rw [hE];rfl
  have HU3:Hid (u=if be≠0 then drp be else mdo bb):=η (by rw [HU2.o,if_neg (by rw [hE];decide)]);clear hE;have qi2:w7.cell? ⟨qi,2,none⟩=some (.slice j.h.A j.h.a.length j.h.c):=(show Ic _ w7 qi j from Q2.o.step B7.o).c2;have qi3:w7.cell? ⟨qi,3,none⟩=some (.slice j.h.B j.h.b.length j.h.d):=(show Ic _ w7 qi j from Q2.o.step B7.o).c3;go_wp2_with fail;refine (CiX j.h.B A1 j.h.A A7 j.h.d c1 j.h.c c7 j.h.b sc j.h.a L w7 (by exact HJ.o.h.b.step W7.o) (by exact O57.o.rb) (by exact HJ.o.h.a.step W7.o) (by exact O7.o.rb) (by exact HJ.o.h.cb) (by exact O57.o.cap)).mono ?_;rw [HSM.o];rintro e w8 ⟨B8',c8,rfl,ho,hb⟩;have B8:=η (AaJ B7.o hb);have O8:=η (ho.base_le (Nat.le_trans W7.o.size (Nat.le_refl _)));clear ho hb qi2 qi3;by_cases hB:be=0;rotate_left
  ·have e2:(be != 0)=true:=by simpa using hB
   have eu:u=drp be:=by rw [HU3.o,if_pos hB]
   subst eu;clear hB;go_wp2_with fail;refine (AiW be w8).mono ?_;rintro e w9 ⟨rfl,hb⟩;have B9:=η (AaJ B8.o hb);clear hb
   go_wp2_with (first
    | (refine AaV AbY rfl (.tmp 10) (.tmp 104) rfl rv rfl (drp be) none 0 (ocV (drp be) none 0) rfl (by exact rfl) _ (by exact V2.o.1.step B9.o) (by exact AdJ) ?_;intro wf hc1 ho1 hs1;have HF:=η (And.intro hc1 ho1);clear hc1 ho1 hs1))
   exact bodyPost_ret (v:=ocV (drp be) none 0) (AbX AbY rfl _ _ rv (ocC (drp be) none 0) rfl HF.o.1 rfl) rfl ⟨none,0,rfl,OwnB.nil_ _ _,(AaJ B2.o B9.o).trans (HF.o.2.below (fun j hj=>by rw [List.mem_singleton.1 hj];exact V2.o.2) (AaJ B2.o B9.o).size)⟩
  have e2:(be != 0)=false:=by rw [hB];rfl
  have eu:u=mdo bb:=by rw [HU3.o,if_neg (by rw [hB];decide)]
  subst eu;clear hB
  go_wp2_with (first
   | (refine AaV AbY rfl (.tmp 10) (.tmp 106) rfl rv rfl (mdo bb) B8' c8 (.agg #[.int .i64 1,.bool false,.int .i64 0,.slice B8' bb.length c8,.int .i64 20]) rfl (by exact EsX _ _ _) _ (by exact V2.o.1.step B8.o) (by exact AdJ) ?_;intro wf hc1 ho1 hs1;have HF:=η (And.intro hc1 ho1);clear hc1 ho1 hs1))
  exact bodyPost_ret (v:=ocV (mdo bb) B8' c8) (AbX AbY rfl _ _ rv (ocC (mdo bb) B8' c8) rfl HF.o.1 rfl) rfl ⟨B8',c8,rfl,(O8.o).offS HF.o.2 ((V2.o.1.step B8.o).nob (by decide)),(AaJ B2.o B8.o).trans (HF.o.2.below (fun j hj=>by rw [List.mem_singleton.1 hj];exact V2.o.2) (AaJ B2.o B8.o).size)⟩
theorem DhQ (base y:Nat) (B:YA) (d:Nat) (ks:List KR) (mr:Nat) (k:Ms) (w:World) (h:Rs base w y B d ks) (hm:Blk 57 w mr (AhV k y)) (hk:rgK ks=k.s) (os:okR k.s) (hp:AcX k.p=true) (CA:YA) (cc:Nat) (cl:YB) (hc:RB w w.heap.size CA cl.length cl) (bc:cl.length≤1000) (j:In) (hj:j.ok w) (bt:j.t.length≤1000) (now:Nat) (hn:now<2 ^ 64) (RA:YA) (rc:Nat) (r:YB) (hr:RB w w.heap.size RA r.length r) (hrc:r.length≤rc∧rc≤maxLen) (br:r.length≤1000) (u:Oc) (hu:outM k cl j.pl now r=u) :
  Calls prog 70 #[.pointer (some ⟨mr,0,none⟩),.slice CA cl.length cc,j.val,.int .u64 (now:Int),.slice RA r.length rc] w (RetOr u w):=by
 have H:=η h
 have HM:=η hm
 have HK:=η hk
 have HC:=η hc
 have HJ:=η hj
 have HR:=η hr
 have HOS:=η os
 have HPP:=η hp
 obtain ⟨a,HA⟩:∃ a,Hid (AbQ k=a):=⟨_,η rfl⟩
 have HLN:Hid (ks.length≤1000):=η (by have:=os.n;rw [←hk,BaQ] at this;omega)
 have HU0:Hid ((if BbW j.t=true then (if a=true then AcJ k.s k.p.life cl j.pl now r else fwd false) else if (!a && k.p.sh)=true then fwd false else if (AdQ k.s cl j.t now).2=0 then fwd true else if (!a)=true∨(AdQ k.s cl j.t now).2=13 then drp (AdQ k.s cl j.t now).2 else AcJ k.s k.p.life cl j.pl now r)=u):=η (by
  rw [←hu,outM_def,HA.o]
  rfl)
 clear h hm hk hc hj hr os hp hu
 have main:∀ ow:Bool,BbW j.t=ow→((ow=true∧j.t.length=0)∨(0<j.t.length∧∃ (tg to_:Nat) (xb:UInt8),j.T=some ⟨tg,to_,none⟩∧w.cell? ⟨tg,to_,none⟩=some (.int .u8 (xb.toNat:Int))∧decide ((xb.toNat:Int)≥128)=ow)) →
   Calls prog 70 #[.pointer (some ⟨mr,0,none⟩),.slice CA cl.length cc,j.val,.int .u64 (now:Int),.slice RA r.length rc] w (RetOr u w):=by
  intro ow how hcase
  have HU:Hid ((if ow=true then (if a=true then AcJ k.s k.p.life cl j.pl now r else fwd false) else if (!a && k.p.sh)=true then fwd false else if (AdQ k.s cl j.t now).2=0 then fwd true else if (!a)=true∨(AdQ k.s cl j.t now).2=13 then drp (AdQ k.s cl j.t now).2 else AcJ k.s k.p.life cl j.pl now r)=u):=η (by rw [←how];exact HU0.o)
  clear HU0 how
  rcases hcase with ⟨rfl,hl0⟩ | ⟨hl0,tg,to_,xb,hT,hcx,hxb⟩
  ·have d0:((j.t.length:Int) == 0)=true:=by rw [hl0];rfl
   have HL0:=η hl0;clear hl0;go_enter func70,ntmps70
   go_wp2_with (first
    | (refine AgV rfl _ (.tmp 2) rfl j rfl ?_;intro w1 qi hc1 hb1 hx1;have H1:=η (And.intro hc1 (And.intro hb1 hx1));clear hc1 hb1 hx1)
    | (refine atd 10 rfl ?_;refine AbJ AbY rfl rfl ?_;intro w2 rv hc1 hb1 hx1;have Q2:=η (H1.o.1.step hb1);have V2:=η (And.intro hc1 (Nat.le_trans H1.o.2.1.size hx1));have B2:=η (AaJ H1.o.2.1 hb1);skip;clear hc1 hb1 hx1 H1))
   refine (BaW mr y k w2 (by exact HM.o.step B2.o) a HA.o).mono ?_;rintro e w3 ⟨rfl,hb⟩;have B3:=η hb;have qj4:w3.cell? ⟨qi,4,none⟩=some (.slice j.T j.t.length j.e):=(show Ic _ w3 qi j from Q2.o.step B3.o).c4;clear hb;rcases a with _ | _
   ·have eu:u=fwd false:=HU.o.symm
    subst eu
    go_wp2_with (first
     | (refine AaV AbY rfl (.tmp 10) (.tmp 29) rfl rv rfl (fwd false) none 0 (.agg #[.int .i64 0,.bool false,.int .i64 0,.slice none 0 0,.int .i64 0]) rfl (by exact AyW _) _ (by exact V2.o.1.step B3.o) (by exact AdJ) ?_;intro wf hc1 ho1 hs1;have HF:=η (And.intro hc1 ho1);clear hc1 ho1 hs1))
    exact bodyPost_ret (v:=ocV (fwd false) none 0) (AbX AbY rfl _ _ rv (ocC (fwd false) none 0) rfl HF.o.1 rfl) rfl ⟨none,0,rfl,OwnB.nil_ _ _,(AaJ B2.o B3.o).trans (HF.o.2.below (fun j hj=>by rw [List.mem_singleton.1 hj];exact V2.o.2) (AaJ B2.o B3.o).size)⟩
   ·have HU2:Hid (AcJ k.s k.p.life cl j.pl now r=u):=η HU.o
    go_wp2_with (first
     | (refine atd 32 rfl ?_;refine AgJ BuJ rfl (.tmp 7) rfl qi rfl j (by exact Q2.o.step B3.o) ?_))
    have WX:=η (AaJ B2.o B3.o);refine (AvY base y B d ks mr k w3 (by exact H.o.step WX.o) (by exact HM.o.step WX.o) HK.o HOS.o HPP.o CA cc cl (by exact HC.o.step WX.o) bc j (by exact HJ.o.step WX.o) bt now hn RA rc r (by exact HR.o.step WX.o) hrc br u (by exact HU2.o)).mono ?_;rintro e w8 ⟨B8,c8,rfl,ho,hb⟩;have BX:=η (AaJ B3.o hb);have O8:=η (ho.base_le WX.o.size);clear ho hb
    go_wp2_with (first
     | (refine AaV AbY rfl (.tmp 10) (.tmp 35) rfl rv rfl (u) B8 c8 (ocV (u) B8 c8) rfl (by exact rfl) _ (by exact V2.o.1.step BX.o) (by exact AdJ) ?_;intro wf hc1 ho1 hs1;have HF:=η (And.intro hc1 ho1);clear hc1 ho1 hs1))
    exact bodyPost_ret (v:=ocV (u) B8 c8) (AbX AbY rfl _ _ rv (ocC (u) B8 c8) rfl HF.o.1 rfl) rfl ⟨B8,c8,rfl,(O8.o).offS HF.o.2 ((V2.o.1.step BX.o).nob (by decide)),(AaJ B2.o BX.o).trans (HF.o.2.below (fun j hj=>by rw [List.mem_singleton.1 hj];exact V2.o.2) (AaJ B2.o BX.o).size)⟩
  ·have d0:((j.t.length:Int) == 0)=false:=by rw [beq_eq_false_iff_ne];omega
   have HT:=η hT;have HX:=η hcx;clear hcx hT;rcases ow with _ | _;rotate_left
   ·go_enter func70,ntmps70
    go_wp2_with (first
     | (refine AgV rfl _ (.tmp 2) rfl j rfl ?_;intro w1 qi hc1 hb1 hx1;have H1:=η (And.intro hc1 (And.intro hb1 hx1));clear hc1 hb1 hx1)
     | (refine atd 10 rfl ?_;refine AbJ AbY rfl rfl ?_;intro w2 rv hc1 hb1 hx1;have Q2:=η (H1.o.1.step hb1);have V2:=η (And.intro hc1 (Nat.le_trans H1.o.2.1.size hx1));have B2:=η (AaJ H1.o.2.1 hb1);skip;clear hc1 hb1 hx1 H1))
    refine (BaW mr y k w2 (by exact HM.o.step B2.o) a HA.o).mono ?_;rintro e w3 ⟨rfl,hb⟩;have B3:=η hb;have qj4:w3.cell? ⟨qi,4,none⟩=some (.slice j.T j.t.length j.e):=(show Ic _ w3 qi j from Q2.o.step B3.o).c4;clear hb;have qx:w3.cell? ⟨tg,to_,none⟩=some (.int .u8 (xb.toNat:Int)):=((AaJ B2.o B3.o).cell (p:=⟨tg,to_,none⟩) (World.block_lt_of_cell? w _ HX.o)).trans HX.o;rw [HT.o] at qj4;rcases a with _ | _
    ·have eu:u=fwd false:=HU.o.symm
     subst eu
     go_wp2_with (first
      | (refine AaV AbY rfl (.tmp 10) (.tmp 29) rfl rv rfl (fwd false) none 0 (.agg #[.int .i64 0,.bool false,.int .i64 0,.slice none 0 0,.int .i64 0]) rfl (by exact AyW _) _ (by exact V2.o.1.step B3.o) (by exact AdJ) ?_;intro wf hc1 ho1 hs1;have HF:=η (And.intro hc1 ho1);clear hc1 ho1 hs1))
     exact bodyPost_ret (v:=ocV (fwd false) none 0) (AbX AbY rfl _ _ rv (ocC (fwd false) none 0) rfl HF.o.1 rfl) rfl ⟨none,0,rfl,OwnB.nil_ _ _,(AaJ B2.o B3.o).trans (HF.o.2.below (fun j hj=>by rw [List.mem_singleton.1 hj];exact V2.o.2) (AaJ B2.o B3.o).size)⟩
    ·have HU2:Hid (AcJ k.s k.p.life cl j.pl now r=u):=η HU.o
     go_wp2_with (first
      | (refine atd 32 rfl ?_;refine AgJ BuJ rfl (.tmp 7) rfl qi rfl j (by exact Q2.o.step B3.o) ?_))
     have WX:=η (AaJ B2.o B3.o);refine (AvY base y B d ks mr k w3 (by exact H.o.step WX.o) (by exact HM.o.step WX.o) HK.o HOS.o HPP.o CA cc cl (by exact HC.o.step WX.o) bc j (by exact HJ.o.step WX.o) bt now hn RA rc r (by exact HR.o.step WX.o) hrc br u (by exact HU2.o)).mono ?_;rintro e w8 ⟨B8,c8,rfl,ho,hb⟩;have BX:=η (AaJ B3.o hb);have O8:=η (ho.base_le WX.o.size);clear ho hb
     go_wp2_with (first
      | (refine AaV AbY rfl (.tmp 10) (.tmp 35) rfl rv rfl (u) B8 c8 (ocV (u) B8 c8) rfl (by exact rfl) _ (by exact V2.o.1.step BX.o) (by exact AdJ) ?_;intro wf hc1 ho1 hs1;have HF:=η (And.intro hc1 ho1);clear hc1 ho1 hs1))
     exact bodyPost_ret (v:=ocV (u) B8 c8) (AbX AbY rfl _ _ rv (ocC (u) B8 c8) rfl HF.o.1 rfl) rfl ⟨B8,c8,rfl,(O8.o).offS HF.o.2 ((V2.o.1.step BX.o).nob (by decide)),(AaJ B2.o BX.o).trans (HF.o.2.below (fun j hj=>by rw [List.mem_singleton.1 hj];exact V2.o.2) (AaJ B2.o BX.o).size)⟩
   ·go_enter func70,ntmps70
    go_wp2_with (first
     | (refine AgV rfl _ (.tmp 2) rfl j rfl ?_;intro w1 qi hc1 hb1 hx1;have H1:=η (And.intro hc1 (And.intro hb1 hx1));clear hc1 hb1 hx1)
     | (refine atd 10 rfl ?_;refine AbJ AbY rfl rfl ?_;intro w2 rv hc1 hb1 hx1;have Q2:=η (H1.o.1.step hb1);have V2:=η (And.intro hc1 (Nat.le_trans H1.o.2.1.size hx1));have B2:=η (AaJ H1.o.2.1 hb1);skip;clear hc1 hb1 hx1 H1))
    refine (BaW mr y k w2 (by exact HM.o.step B2.o) a HA.o).mono ?_;rintro e w3 ⟨rfl,hb⟩;have B3:=η hb;have qj4:w3.cell? ⟨qi,4,none⟩=some (.slice j.T j.t.length j.e):=(show Ic _ w3 qi j from Q2.o.step B3.o).c4;clear hb;have qx:w3.cell? ⟨tg,to_,none⟩=some (.int .u8 (xb.toNat:Int)):=((AaJ B2.o B3.o).cell (p:=⟨tg,to_,none⟩) (World.block_lt_of_cell? w _ HX.o)).trans HX.o;rw [HT.o] at qj4;obtain ⟨⟨TT,E⟩,HO⟩:∃ z,Hid (AdQ k.s cl j.t now=z):=⟨_,η rfl⟩;rcases a with _ | _
    ·cases hsh:k.p.sh
     rotate_left
     ·have eu:u=fwd false:=by rw [←HU.o,if_neg (show ¬(false=true) by decide),if_pos (show (!false && k.p.sh)=true by rw [hsh];rfl)]
      have q1:w3.cell? ⟨mr,1,none⟩=some (.bool true):=by have z:=((HM.o.step B2.o).step B3.o).cell 1;rw [←hsh];exact z
      subst eu;clear hsh
      go_wp2_with (first
       | (refine AaV AbY rfl (.tmp 10) (.tmp 45) rfl rv rfl (fwd false) none 0 (.agg #[.int .i64 0,.bool false,.int .i64 0,.slice none 0 0,.int .i64 0]) rfl (by exact AyW _) _ (by exact V2.o.1.step B3.o) (by exact AdJ) ?_;intro wf hc1 ho1 hs1;have HF:=η (And.intro hc1 ho1);clear hc1 ho1 hs1))
      exact bodyPost_ret (v:=ocV (fwd false) none 0) (AbX AbY rfl _ _ rv (ocC (fwd false) none 0) rfl HF.o.1 rfl) rfl ⟨none,0,rfl,OwnB.nil_ _ _,(AaJ B2.o B3.o).trans (HF.o.2.below (fun j hj=>by rw [List.mem_singleton.1 hj];exact V2.o.2) (AaJ B2.o B3.o).size)⟩
     have q1:w3.cell? ⟨mr,1,none⟩=some (.bool false):=by have z:=((HM.o.step B2.o).step B3.o).cell 1;rw [←hsh];exact z
     have HUO:Hid ((if E=0 then fwd true else if (!false)=true∨E=13 then drp E else AcJ k.s k.p.life cl j.pl now r)=u):=η (by
      rw [←HU.o,if_neg (show ¬(false=true) by decide),if_neg (show ¬((!false && k.p.sh)=true) by rw [hsh];decide),HO.o])
     clear hsh;go_wp2_with fail;refine wp_region_held_drew (S:=fun w'=>w'.cell? ⟨mr,4,none⟩=some (.pointer (some ⟨y,0,none⟩))∧w'.cell? ⟨qi,4,none⟩=some (.slice (some ⟨tg,to_,none⟩) j.t.length j.e)) (by kernel_rfl) ⟨((HM.o.step B2.o).step (AaJ B3.o (Below.refl _ _).drew)).cell 4,by rw [←HT.o];exact (show Ic _ _ qi j from Q2.o.step (AaJ B3.o (Below.refl _ _).drew)).c4⟩ (fun hHeld=>?_);(try dsimp only at hHeld);have Ω:=η (fun (w:World) (hSw:w.cell? ⟨mr,4,none⟩=some (.pointer (some ⟨y,0,none⟩))∧w.cell? ⟨qi,4,none⟩=some (.slice (some ⟨tg,to_,none⟩) j.t.length j.e))=>an hSw.1 hSw.2);refine tkJ 0 rfl hHeld ?_;refine tkJ 1 rfl hHeld ?_;refine tkJ 2 rfl hHeld ?_;refine tkJ 3 rfl hHeld ?_;refine tkJ 4 rfl hHeld ?_;refine tkJ 5 rfl hHeld ?_;refine tkJ 6 rfl hHeld ?_;refine tkJ 7 rfl hHeld ?_;(try simp only [Act.put,rxT,sxT]);have B4:=η (AaJ B3.o (Below.refl w3.heap.size w3).drew);refine wpAnyH_ready (rs:=[8,12]) (by kernel_rfl) (by simp) ?_;refine AllReadyH.cons rfl (fun K hK=>?b8) (AllReadyH.cons rfl (fun K hK=>?b12) AllReadyH.nil)
     case b8 =>
      (try simp only [rxT]);go_simp;have WX:=η (AaJ B2.o B4.o);rw [←HT.o];refine (BaK base y B d ks _ (by exact H.o.step WX.o) HLN.o CA j.T cl.length cc j.t.length j.e cl j.t (by exact HC.o.step WX.o) (by exact HJ.o.t.step WX.o) HJ.o.ct.1 (by omega) (by omega) now (by rw [HK.o];exact HOS.o) TT E (by rw [HK.o];exact HO.o)).mono ?_;rintro e w5 ⟨f,rfl,_,_,hb⟩;rw [HT.o];have B5:=η (AaJ B4.o hb);have W5S:=η hb.size;clear hb WX;(try go_wp2_with fail);refine hK.o _ _ ⟨((HM.o.step B2.o).step B5.o).cell 4,by rw [←HT.o];exact (show Ic _ _ qi j from Q2.o.step B5.o).c4⟩ (fun hHeld=>?_);clear hK K;refine tkJ 9 rfl hHeld ?_;refine tkJ 10 rfl hHeld ?_;refine tkJ 11 rfl hHeld ?_;refine rdI 12 rfl (fun K hK=>?_);(try simp only [Act.put,rxT,sxT]);rw [if_pos (by rfl)];refine AdY AcW rfl ?_;intro w6 p hc1 hb1 hx1;have PF:=η hc1;have HX6:=η hx1;have B6:=η (AaJ B5.o hb1);clear hc1 hb1 hx1;refine hK.o _ _ ⟨((HM.o.step B2.o).step B6.o).cell 4,by rw [←HT.o];exact (show Ic _ _ qi j from Q2.o.step B6.o).c4⟩ (fun hHeld=>?_);clear hK K;(try simp only [Act.put,rxT,sxT]);have qs:=(show Fc 176 w6 p zeroF from PF.o).st AcW f;refine rdI 13 rfl (fun K hK=>?_);(try simp only [rxT]);go_simp;have SZ:Hid (w3.drew.heap.size≤w5.heap.size):=η (W5S.o)
      have B7:Hid (Below w2.heap.size w2 (w6.setCells p 0 f.cells)):=η (by
       have hos:Oth [p] w6 (w6.setCells p 0 f.cells):=AcK p _ _ _ _ (Oth.refl _ _)
       exact B6.o.trans (hos.below (fun i hi=>by rw [List.mem_singleton.1 hi];exact Nat.le_trans B4.o.size (Nat.le_trans SZ.o HX6.o)) B6.o.size))
      clear qs;generalize w6.setCells p 0 f.cells=w7 at B7 ⊢;refine hK.o _ _ ⟨((HM.o.step B2.o).step B7.o).cell 4,by rw [←HT.o];exact (show Ic _ _ qi j from Q2.o.step B7.o).c4⟩ (fun hHeld=>?_);clear hK K;refine tkJ 14 rfl hHeld ?_;(try simp only [Act.put,rxT,sxT]);refine wpAnyH_done (by kernel_rfl) ?_ _;by_cases hE:E=0
      ·have e1:(E == 0)=true:=by simpa using hE
       have eu:u=fwd true:=by rw [←HUO.o,if_pos hE]
       subst eu;clear hE
       go_wp2_with (first
        | (refine AaV AbY rfl (.tmp 10) (.tmp 60) rfl rv rfl (fwd true) none 0 (.agg #[.int .i64 0,.bool true,.int .i64 0,.slice none 0 0,.int .i64 0]) rfl (by exact AyW _) _ (by exact V2.o.1.step B7.o) (by exact AdJ) ?_;intro wf hc1 ho1 hs1;have HF:=η (And.intro hc1 ho1);clear hc1 ho1 hs1))
       exact bodyPost_ret (v:=ocV (fwd true) none 0) (AbX AbY rfl _ _ rv (ocC (fwd true) none 0) rfl HF.o.1 rfl) rfl ⟨none,0,rfl,OwnB.nil_ _ _,(AaJ B2.o B7.o).trans (HF.o.2.below (fun j hj=>by rw [List.mem_singleton.1 hj];exact V2.o.2) (AaJ B2.o B7.o).size)⟩
      have e1:(E == 0)=false:=by simpa using hE
      have eu:u=drp E:=by rw [←HUO.o,if_neg hE,if_pos (show (!false)=true∨E=13 from .inl rfl)]
      subst eu;clear hE;go_wp2_with fail;refine (AiW E w7).mono ?_;rintro e w9 ⟨rfl,hb⟩;have B8:=η (AaJ B7.o hb);clear hb
      go_wp2_with (first
       | (refine AaV AbY rfl (.tmp 10) (.tmp 68) rfl rv rfl (drp E) none 0 (ocV (drp E) none 0) rfl (by exact rfl) _ (by exact V2.o.1.step B8.o) (by exact AdJ) ?_;intro wf hc1 ho1 hs1;have HF:=η (And.intro hc1 ho1);clear hc1 ho1 hs1))
      exact bodyPost_ret (v:=ocV (drp E) none 0) (AbX AbY rfl _ _ rv (ocC (drp E) none 0) rfl HF.o.1 rfl) rfl ⟨none,0,rfl,OwnB.nil_ _ _,(AaJ B2.o B8.o).trans (HF.o.2.below (fun j hj=>by rw [List.mem_singleton.1 hj];exact V2.o.2) (AaJ B2.o B8.o).size)⟩
     case b12 =>
      (try simp only [rxT]);rw [if_pos (by rfl)];refine AdY AcW rfl ?_;intro w6 p hc1 hb1 hx1;have PF:=η hc1;have HX6:=η hx1;have B6:=η (AaJ B4.o hb1);clear hc1 hb1 hx1;refine hK.o _ _ ⟨((HM.o.step B2.o).step B6.o).cell 4,by rw [←HT.o];exact (show Ic _ _ qi j from Q2.o.step B6.o).c4⟩ (fun hHeld=>?_);clear hK K;refine rdI 8 rfl (fun K hK=>?_);(try simp only [Act.put,rxT,sxT]);go_simp;have WX:=η (AaJ B2.o B6.o);rw [←HT.o];refine (BaK base y B d ks _ (by exact H.o.step WX.o) HLN.o CA j.T cl.length cc j.t.length j.e cl j.t (by exact HC.o.step WX.o) (by exact HJ.o.t.step WX.o) HJ.o.ct.1 (by omega) (by omega) now (by rw [HK.o];exact HOS.o) TT E (by rw [HK.o];exact HO.o)).mono ?_;rintro e w5 ⟨f,rfl,_,_,hb⟩;rw [HT.o];have B5:=η (AaJ B6.o hb);have PF:=η (PF.o.step hb);clear hb WX;(try go_wp2_with fail);refine hK.o _ _ ⟨((HM.o.step B2.o).step B5.o).cell 4,by rw [←HT.o];exact (show Ic _ _ qi j from Q2.o.step B5.o).c4⟩ (fun hHeld=>?_);clear hK K;refine tkJ 9 rfl hHeld ?_;refine tkJ 10 rfl hHeld ?_;refine tkJ 11 rfl hHeld ?_;(try simp only [Act.put,rxT,sxT]);have qs:=(show Fc 176 w5 p zeroF from PF.o).st AcW f;refine rdI 13 rfl (fun K hK=>?_);(try simp only [rxT]);go_simp
      have B7:Hid (Below w2.heap.size w2 (w5.setCells p 0 f.cells)):=η (by
       have hos:Oth [p] w5 (w5.setCells p 0 f.cells):=AcK p _ _ _ _ (Oth.refl _ _)
       exact B5.o.trans (hos.below (fun i hi=>by rw [List.mem_singleton.1 hi];exact Nat.le_trans B4.o.size HX6.o) B5.o.size))
      clear qs;generalize w5.setCells p 0 f.cells=w7 at B7 ⊢;refine hK.o _ _ ⟨((HM.o.step B2.o).step B7.o).cell 4,by rw [←HT.o];exact (show Ic _ _ qi j from Q2.o.step B7.o).c4⟩ (fun hHeld=>?_);clear hK K;refine tkJ 14 rfl hHeld ?_;(try simp only [Act.put,rxT,sxT]);refine wpAnyH_done (by kernel_rfl) ?_ _;by_cases hE:E=0
      ·have e1:(E == 0)=true:=by simpa using hE
       have eu:u=fwd true:=by rw [←HUO.o,if_pos hE]
       subst eu;clear hE
       go_wp2_with (first
        | (refine AaV AbY rfl (.tmp 10) (.tmp 60) rfl rv rfl (fwd true) none 0 (.agg #[.int .i64 0,.bool true,.int .i64 0,.slice none 0 0,.int .i64 0]) rfl (by exact AyW _) _ (by exact V2.o.1.step B7.o) (by exact AdJ) ?_;intro wf hc1 ho1 hs1;have HF:=η (And.intro hc1 ho1);clear hc1 ho1 hs1))
       exact bodyPost_ret (v:=ocV (fwd true) none 0) (AbX AbY rfl _ _ rv (ocC (fwd true) none 0) rfl HF.o.1 rfl) rfl ⟨none,0,rfl,OwnB.nil_ _ _,(AaJ B2.o B7.o).trans (HF.o.2.below (fun j hj=>by rw [List.mem_singleton.1 hj];exact V2.o.2) (AaJ B2.o B7.o).size)⟩
      have e1:(E == 0)=false:=by simpa using hE
      have eu:u=drp E:=by rw [←HUO.o,if_neg hE,if_pos (show (!false)=true∨E=13 from .inl rfl)]
      subst eu;clear hE;go_wp2_with fail;refine (AiW E w7).mono ?_;rintro e w9 ⟨rfl,hb⟩;have B8:=η (AaJ B7.o hb);clear hb
      go_wp2_with (first
       | (refine AaV AbY rfl (.tmp 10) (.tmp 68) rfl rv rfl (drp E) none 0 (ocV (drp E) none 0) rfl (by exact rfl) _ (by exact V2.o.1.step B8.o) (by exact AdJ) ?_;intro wf hc1 ho1 hs1;have HF:=η (And.intro hc1 ho1);clear hc1 ho1 hs1))
      exact bodyPost_ret (v:=ocV (drp E) none 0) (AbX AbY rfl _ _ rv (ocC (drp E) none 0) rfl HF.o.1 rfl) rfl ⟨none,0,rfl,OwnB.nil_ _ _,(AaJ B2.o B8.o).trans (HF.o.2.below (fun j hj=>by rw [List.mem_singleton.1 hj];exact V2.o.2) (AaJ B2.o B8.o).size)⟩
    ·have HUO:Hid ((if E=0 then fwd true else if (!true)=true∨E=13 then drp E else AcJ k.s k.p.life cl j.pl now r)=u):=η (by
      rw [←HU.o,if_neg (show ¬(false=true) by decide),if_neg (show ¬((!true && k.p.sh)=true) by simp),HO.o])
     go_wp2_with fail;refine wp_region_held_drew (S:=fun w'=>w'.cell? ⟨mr,4,none⟩=some (.pointer (some ⟨y,0,none⟩))∧w'.cell? ⟨qi,4,none⟩=some (.slice (some ⟨tg,to_,none⟩) j.t.length j.e)) (by kernel_rfl) ⟨((HM.o.step B2.o).step (AaJ B3.o (Below.refl _ _).drew)).cell 4,by rw [←HT.o];exact (show Ic _ _ qi j from Q2.o.step (AaJ B3.o (Below.refl _ _).drew)).c4⟩ (fun hHeld=>?_);(try dsimp only at hHeld);have Ω:=η (fun (w:World) (hSw:w.cell? ⟨mr,4,none⟩=some (.pointer (some ⟨y,0,none⟩))∧w.cell? ⟨qi,4,none⟩=some (.slice (some ⟨tg,to_,none⟩) j.t.length j.e))=>an hSw.1 hSw.2);refine tkJ 0 rfl hHeld ?_;refine tkJ 1 rfl hHeld ?_;refine tkJ 2 rfl hHeld ?_;refine tkJ 3 rfl hHeld ?_;refine tkJ 4 rfl hHeld ?_;refine tkJ 5 rfl hHeld ?_;refine tkJ 6 rfl hHeld ?_;refine tkJ 7 rfl hHeld ?_;(try simp only [Act.put,rxT,sxT]);have B4:=η (AaJ B3.o (Below.refl w3.heap.size w3).drew);refine wpAnyH_ready (rs:=[8,12]) (by kernel_rfl) (by simp) ?_;refine AllReadyH.cons rfl (fun K hK=>?b8) (AllReadyH.cons rfl (fun K hK=>?b12) AllReadyH.nil)
     case b8 =>
      (try simp only [rxT]);go_simp;have WX:=η (AaJ B2.o B4.o);rw [←HT.o];refine (BaK base y B d ks _ (by exact H.o.step WX.o) HLN.o CA j.T cl.length cc j.t.length j.e cl j.t (by exact HC.o.step WX.o) (by exact HJ.o.t.step WX.o) HJ.o.ct.1 (by omega) (by omega) now (by rw [HK.o];exact HOS.o) TT E (by rw [HK.o];exact HO.o)).mono ?_;rintro e w5 ⟨f,rfl,_,_,hb⟩;rw [HT.o];have B5:=η (AaJ B4.o hb);have W5S:=η hb.size;clear hb WX;(try go_wp2_with fail);refine hK.o _ _ ⟨((HM.o.step B2.o).step B5.o).cell 4,by rw [←HT.o];exact (show Ic _ _ qi j from Q2.o.step B5.o).c4⟩ (fun hHeld=>?_);clear hK K;refine tkJ 9 rfl hHeld ?_;refine tkJ 10 rfl hHeld ?_;refine tkJ 11 rfl hHeld ?_;refine rdI 12 rfl (fun K hK=>?_);(try simp only [Act.put,rxT,sxT]);rw [if_pos (by rfl)];refine AdY AcW rfl ?_;intro w6 p hc1 hb1 hx1;have PF:=η hc1;have HX6:=η hx1;have B6:=η (AaJ B5.o hb1);clear hc1 hb1 hx1;refine hK.o _ _ ⟨((HM.o.step B2.o).step B6.o).cell 4,by rw [←HT.o];exact (show Ic _ _ qi j from Q2.o.step B6.o).c4⟩ (fun hHeld=>?_);clear hK K;(try simp only [Act.put,rxT,sxT]);have qs:=(show Fc 176 w6 p zeroF from PF.o).st AcW f;refine rdI 13 rfl (fun K hK=>?_);(try simp only [rxT]);go_simp;have SZ:Hid (w3.drew.heap.size≤w5.heap.size):=η (W5S.o)
      have B7:Hid (Below w2.heap.size w2 (w6.setCells p 0 f.cells)):=η (by
       have hos:Oth [p] w6 (w6.setCells p 0 f.cells):=AcK p _ _ _ _ (Oth.refl _ _)
       exact B6.o.trans (hos.below (fun i hi=>by rw [List.mem_singleton.1 hi];exact Nat.le_trans B4.o.size (Nat.le_trans SZ.o HX6.o)) B6.o.size))
      clear qs;generalize w6.setCells p 0 f.cells=w7 at B7 ⊢;refine hK.o _ _ ⟨((HM.o.step B2.o).step B7.o).cell 4,by rw [←HT.o];exact (show Ic _ _ qi j from Q2.o.step B7.o).c4⟩ (fun hHeld=>?_);clear hK K;refine tkJ 14 rfl hHeld ?_;(try simp only [Act.put,rxT,sxT]);refine wpAnyH_done (by kernel_rfl) ?_ _;by_cases hE:E=0
      ·have e1:(E == 0)=true:=by simpa using hE
       have eu:u=fwd true:=by rw [←HUO.o,if_pos hE]
       subst eu;clear hE
       go_wp2_with (first
        | (refine AaV AbY rfl (.tmp 10) (.tmp 60) rfl rv rfl (fwd true) none 0 (.agg #[.int .i64 0,.bool true,.int .i64 0,.slice none 0 0,.int .i64 0]) rfl (by exact AyW _) _ (by exact V2.o.1.step B7.o) (by exact AdJ) ?_;intro wf hc1 ho1 hs1;have HF:=η (And.intro hc1 ho1);clear hc1 ho1 hs1))
       exact bodyPost_ret (v:=ocV (fwd true) none 0) (AbX AbY rfl _ _ rv (ocC (fwd true) none 0) rfl HF.o.1 rfl) rfl ⟨none,0,rfl,OwnB.nil_ _ _,(AaJ B2.o B7.o).trans (HF.o.2.below (fun j hj=>by rw [List.mem_singleton.1 hj];exact V2.o.2) (AaJ B2.o B7.o).size)⟩
      have e1:(E == 0)=false:=by simpa using hE
      by_cases h13:E=13
      ·have e2:(E == 13)=true:=by simpa using h13
       have eu:u=drp E:=by rw [←HUO.o,if_neg hE,if_pos (show (!true)=true∨E=13 from .inr h13)]
       subst eu;clear hE h13;go_wp2_with fail;refine (AiW E w7).mono ?_;rintro e w9 ⟨rfl,hb⟩;have B8:=η (AaJ B7.o hb);clear hb
       go_wp2_with (first
        | (refine AaV AbY rfl (.tmp 10) (.tmp 68) rfl rv rfl (drp E) none 0 (ocV (drp E) none 0) rfl (by exact rfl) _ (by exact V2.o.1.step B8.o) (by exact AdJ) ?_;intro wf hc1 ho1 hs1;have HF:=η (And.intro hc1 ho1);clear hc1 ho1 hs1))
       exact bodyPost_ret (v:=ocV (drp E) none 0) (AbX AbY rfl _ _ rv (ocC (drp E) none 0) rfl HF.o.1 rfl) rfl ⟨none,0,rfl,OwnB.nil_ _ _,(AaJ B2.o B8.o).trans (HF.o.2.below (fun j hj=>by rw [List.mem_singleton.1 hj];exact V2.o.2) (AaJ B2.o B8.o).size)⟩
      have e2:(E == 13)=false:=by simpa using h13
      have HU2:Hid (AcJ k.s k.p.life cl j.pl now r=u):=η (by rw [←HUO.o,if_neg hE,if_neg (show ¬((!true)=true∨E=13) by rintro (g | g);exact absurd g (by decide);exact h13 g)]);clear hE h13
      go_wp2_with (first
       | (refine atd 71 rfl ?_;refine AgJ BuJ rfl (.tmp 7) rfl qi rfl j (by exact Q2.o.step B7.o) ?_))
      have WX:=η (AaJ B2.o B7.o);refine (AvY base y B d ks mr k w7 (by exact H.o.step WX.o) (by exact HM.o.step WX.o) HK.o HOS.o HPP.o CA cc cl (by exact HC.o.step WX.o) bc j (by exact HJ.o.step WX.o) bt now hn RA rc r (by exact HR.o.step WX.o) hrc br u (by exact HU2.o)).mono ?_;rintro e w8 ⟨B8,c8,rfl,ho,hb⟩;have BX:=η (AaJ B7.o hb);have O8:=η (ho.base_le WX.o.size);clear ho hb
      go_wp2_with (first
       | (refine AaV AbY rfl (.tmp 10) (.tmp 74) rfl rv rfl (u) B8 c8 (ocV (u) B8 c8) rfl (by exact rfl) _ (by exact V2.o.1.step BX.o) (by exact AdJ) ?_;intro wf hc1 ho1 hs1;have HF:=η (And.intro hc1 ho1);clear hc1 ho1 hs1))
      exact bodyPost_ret (v:=ocV (u) B8 c8) (AbX AbY rfl _ _ rv (ocC (u) B8 c8) rfl HF.o.1 rfl) rfl ⟨B8,c8,rfl,(O8.o).offS HF.o.2 ((V2.o.1.step BX.o).nob (by decide)),(AaJ B2.o BX.o).trans (HF.o.2.below (fun j hj=>by rw [List.mem_singleton.1 hj];exact V2.o.2) (AaJ B2.o BX.o).size)⟩
     case b12 =>
      (try simp only [rxT]);rw [if_pos (by rfl)];refine AdY AcW rfl ?_;intro w6 p hc1 hb1 hx1;have PF:=η hc1;have HX6:=η hx1;have B6:=η (AaJ B4.o hb1);clear hc1 hb1 hx1;refine hK.o _ _ ⟨((HM.o.step B2.o).step B6.o).cell 4,by rw [←HT.o];exact (show Ic _ _ qi j from Q2.o.step B6.o).c4⟩ (fun hHeld=>?_);clear hK K;refine rdI 8 rfl (fun K hK=>?_);(try simp only [Act.put,rxT,sxT]);go_simp;have WX:=η (AaJ B2.o B6.o);rw [←HT.o];refine (BaK base y B d ks _ (by exact H.o.step WX.o) HLN.o CA j.T cl.length cc j.t.length j.e cl j.t (by exact HC.o.step WX.o) (by exact HJ.o.t.step WX.o) HJ.o.ct.1 (by omega) (by omega) now (by rw [HK.o];exact HOS.o) TT E (by rw [HK.o];exact HO.o)).mono ?_;rintro e w5 ⟨f,rfl,_,_,hb⟩;rw [HT.o];have B5:=η (AaJ B6.o hb);have PF:=η (PF.o.step hb);clear hb WX;(try go_wp2_with fail);refine hK.o _ _ ⟨((HM.o.step B2.o).step B5.o).cell 4,by rw [←HT.o];exact (show Ic _ _ qi j from Q2.o.step B5.o).c4⟩ (fun hHeld=>?_);clear hK K;refine tkJ 9 rfl hHeld ?_;refine tkJ 10 rfl hHeld ?_;refine tkJ 11 rfl hHeld ?_;(try simp only [Act.put,rxT,sxT]);have qs:=(show Fc 176 w5 p zeroF from PF.o).st AcW f;refine rdI 13 rfl (fun K hK=>?_);(try simp only [rxT]);go_simp
      have B7:Hid (Below w2.heap.size w2 (w5.setCells p 0 f.cells)):=η (by
       have hos:Oth [p] w5 (w5.setCells p 0 f.cells):=AcK p _ _ _ _ (Oth.refl _ _)
       exact B5.o.trans (hos.below (fun i hi=>by rw [List.mem_singleton.1 hi];exact Nat.le_trans B4.o.size HX6.o) B5.o.size))
      clear qs;generalize w5.setCells p 0 f.cells=w7 at B7 ⊢;refine hK.o _ _ ⟨((HM.o.step B2.o).step B7.o).cell 4,by rw [←HT.o];exact (show Ic _ _ qi j from Q2.o.step B7.o).c4⟩ (fun hHeld=>?_);clear hK K;refine tkJ 14 rfl hHeld ?_;(try simp only [Act.put,rxT,sxT]);refine wpAnyH_done (by kernel_rfl) ?_ _;by_cases hE:E=0
      ·have e1:(E == 0)=true:=by simpa using hE
       have eu:u=fwd true:=by rw [←HUO.o,if_pos hE]
       subst eu;clear hE
       go_wp2_with (first
        | (refine AaV AbY rfl (.tmp 10) (.tmp 60) rfl rv rfl (fwd true) none 0 (.agg #[.int .i64 0,.bool true,.int .i64 0,.slice none 0 0,.int .i64 0]) rfl (by exact AyW _) _ (by exact V2.o.1.step B7.o) (by exact AdJ) ?_;intro wf hc1 ho1 hs1;have HF:=η (And.intro hc1 ho1);clear hc1 ho1 hs1))
       exact bodyPost_ret (v:=ocV (fwd true) none 0) (AbX AbY rfl _ _ rv (ocC (fwd true) none 0) rfl HF.o.1 rfl) rfl ⟨none,0,rfl,OwnB.nil_ _ _,(AaJ B2.o B7.o).trans (HF.o.2.below (fun j hj=>by rw [List.mem_singleton.1 hj];exact V2.o.2) (AaJ B2.o B7.o).size)⟩
      have e1:(E == 0)=false:=by simpa using hE
      by_cases h13:E=13
      ·have e2:(E == 13)=true:=by simpa using h13
       have eu:u=drp E:=by rw [←HUO.o,if_neg hE,if_pos (show (!true)=true∨E=13 from .inr h13)]
       subst eu;clear hE h13;go_wp2_with fail;refine (AiW E w7).mono ?_;rintro e w9 ⟨rfl,hb⟩;have B8:=η (AaJ B7.o hb);clear hb
       go_wp2_with (first
        | (refine AaV AbY rfl (.tmp 10) (.tmp 68) rfl rv rfl (drp E) none 0 (ocV (drp E) none 0) rfl (by exact rfl) _ (by exact V2.o.1.step B8.o) (by exact AdJ) ?_;intro wf hc1 ho1 hs1;have HF:=η (And.intro hc1 ho1);clear hc1 ho1 hs1))
       exact bodyPost_ret (v:=ocV (drp E) none 0) (AbX AbY rfl _ _ rv (ocC (drp E) none 0) rfl HF.o.1 rfl) rfl ⟨none,0,rfl,OwnB.nil_ _ _,(AaJ B2.o B8.o).trans (HF.o.2.below (fun j hj=>by rw [List.mem_singleton.1 hj];exact V2.o.2) (AaJ B2.o B8.o).size)⟩
      have e2:(E == 13)=false:=by simpa using h13
      have HU2:Hid (AcJ k.s k.p.life cl j.pl now r=u):=η (by rw [←HUO.o,if_neg hE,if_neg (show ¬((!true)=true∨E=13) by rintro (g | g);exact absurd g (by decide);exact h13 g)]);clear hE h13
      go_wp2_with (first
       | (refine atd 71 rfl ?_;refine AgJ BuJ rfl (.tmp 7) rfl qi rfl j (by exact Q2.o.step B7.o) ?_))
      have WX:=η (AaJ B2.o B7.o);refine (AvY base y B d ks mr k w7 (by exact H.o.step WX.o) (by exact HM.o.step WX.o) HK.o HOS.o HPP.o CA cc cl (by exact HC.o.step WX.o) bc j (by exact HJ.o.step WX.o) bt now hn RA rc r (by exact HR.o.step WX.o) hrc br u (by exact HU2.o)).mono ?_;rintro e w8 ⟨B8,c8,rfl,ho,hb⟩;have BX:=η (AaJ B7.o hb);have O8:=η (ho.base_le WX.o.size);clear ho hb
      go_wp2_with (first
       | (refine AaV AbY rfl (.tmp 10) (.tmp 74) rfl rv rfl (u) B8 c8 (ocV (u) B8 c8) rfl (by exact rfl) _ (by exact V2.o.1.step BX.o) (by exact AdJ) ?_;intro wf hc1 ho1 hs1;have HF:=η (And.intro hc1 ho1);clear hc1 ho1 hs1))
      exact bodyPost_ret (v:=ocV (u) B8 c8) (AbX AbY rfl _ _ rv (ocC (u) B8 c8) rfl HF.o.1 rfl) rfl ⟨B8,c8,rfl,(O8.o).offS HF.o.2 ((V2.o.1.step BX.o).nob (by decide)),(AaJ B2.o BX.o).trans (HF.o.2.below (fun j hj=>by rw [List.mem_singleton.1 hj];exact V2.o.2) (AaJ B2.o BX.o).size)⟩
 rcases Nat.eq_zero_or_pos j.t.length with h0 | h0
 ·have ht:j.t=[]:=List.eq_nil_of_length_eq_zero h0
  exact main true (by rw [ht];exact decide_eq_true (.inl rfl)) (.inl ⟨rfl,h0⟩)
 ·obtain ⟨tg,to_,xb,hT,hcx,hfx,_,_⟩:=AuY HJ.o.t h0
  refine main _ rfl (.inr ⟨h0,tg,to_,xb,hT,hcx,?_⟩);unfold BbW;rw [hfx];refine decide_eq_decide.2 ⟨fun z=>.inr z,fun z=>?_⟩;rcases z with z | z
  ·rw [z] at h0;exact absurd h0 (Nat.lt_irrefl 0)
  ·exact z
