import Derived.Test.YthppjgdnibfefaaGreatMiA
import Derived.Test.YthppjgdnibfefaaGreatMiShow
set_option linter.all false
set_option maxRecDepth 100000
set_option maxHeartbeats 32000000
namespace Go.Proofs.YthppjgdnibfefaaGreat
open Tryz
open Go.RowKit
attribute [local go_sem ↓] BnZ BsX BsW DkX
def iP (A B:YA) (T:YA) (e:Nat) (t:YB):In:=⟨⟨0,0,A,2,[7,8],B,1,[9]⟩,T,e,t,none,0,[]⟩
def iQ (A:YA):In:=⟨⟨0,0,A,2,[7,8],none,0,[]⟩,none,0,[],none,0,[]⟩
theorem set_iQ (A:YA):zeroI.cells.set 2 (.slice A 2 2)=(iQ A).cells:=rfl
theorem set_iP (A B:YA):(iQ A).cells.set 3 (.slice B 1 1)=(iP A B none 0 []).cells:=rfl
theorem set_iT (A B T:YA) (e:Nat) (t:YB):(iP A B none 0 []).cells.set 4 (.slice T t.length e)=(iP A B T e t).cells:=rfl
theorem zI_lit:Value.agg #[.int .u8 0,.int .u32 0,.slice none 0 0,.slice none 0 0,.slice none 0 0,.slice none 0 0]=zeroI.val:=rfl
theorem EwJ (i:In) (j:Nat) (h:j<6):j<i.cells.length:=h
theorem vlit20:(#[.int .u8 1,.int .u8 2,.int .u8 3,.int .u8 4,.int .u8 5,.int .u8 6,.int .u8 7,.int .u8 8,.int .u8 9,.int .u8 10,.int .u8 11,.int .u8 12,.int .u8 13,.int .u8 14,.int .u8 15,.int .u8 16,.int .u8 17,.int .u8 18,.int .u8 19,.int .u8 20]:Array Value)=(bvs R20m).toArray:=rfl
theorem EhX:(#[.int .u8 7,.int .u8 8]:Array Value)=(bvs [7,8]).toArray:=rfl
theorem vlit9:(#[.int .u8 9]:Array Value)=(bvs [9]).toArray:=rfl
theorem CfW:(#[.int .u8 5]:Array Value)=(bvs [5]).toArray:=rfl
theorem vlit6:(#[.int .u8 6]:Array Value)=(bvs [6]).toArray:=rfl
theorem n2 {n:Nat} (h:n≤20:=by decide):n≤maxLen:=by unfold maxLen;omega
theorem vlen20:R20m.length=20:=rfl
theorem vlen78:([7,8]:YB).length=2:=rfl
theorem vlen9:([9]:YB).length=1:=rfl
theorem vlen5:([5]:YB).length=1:=rfl
theorem vlen6:([6]:YB).length=1:=rfl
theorem n20:(20:Nat)≤maxLen:=by unfold maxLen;omega
theorem DaZ {es:Ens} {w:World} {A B T:YA} {e:Nat} {t:YB} (ha:Ra es w A 2 2 [7,8]) (hb:Ra es w B 1 1 [9]) (ht:Ra es w T t.length e t):(iP A B T e t).aw es w:=⟨ha,hb,ht,Ra.nil es w,by show (0:Nat)≤4294967295;omega⟩
theorem EpJ {s:Rg} {life now:Nat} {c r BL:YB} {p:IPl} (h:AcJ s life c p now r=mdo BL):BL.length≤20000:=by
 have hb:BL=(AcJ s life c p now r).b:=by rw [h];rfl
 rw [hb]
 unfold AcJ
 split
 ·exact Nat.zero_le _
 ·split
  ·exact Nat.zero_le _
  ·dsimp only
   split
   ·exact Nat.zero_le _
   ·split
    ·exact Nat.zero_le _
    ·show (AiX _ _ _ _).1.length≤20000
     unfold AiX;split
     ·exact Nat.zero_le _
     ·split
      ·exact Nat.zero_le _
      ·rename_i h1 h2
       have h1:=not_or.1 h1;have h2:=not_or.1 h2;have h3:=not_or.1 h1.2;rw [List.length_append,AuV,AqX];omega
def k1m:Ms:=newM P0m
def k2m:Ms:=cntM (AbK k1m) (drp 17)
def k3m:Ms:={ k2m with s:=S4m }
def k4m (L:YB):Ms:=cntM (AbK k3m) (mdo L)
def k5m (L:YB):Ms:=cntM (AbK (k4m L)) (drp 21)
def k6m (L:YB):Ms:=cntM (AbK (k5m L)) (fwd true)
def k7m (L:YB):Ms:=cntM (AbK (k6m L)) (drp 13)
theorem k8_all (L:YB) (U:Oc) (h:U.k=1):∃ k,k=cntM (AbK (k7m L)) U∧k.n=6∧k.l=0∧k.f=1∧k.m=2∧k.d=3∧k.p=P0m :=
 ⟨_,rfl,by simp [k7m,k6m,k5m,k4m,k3m,k2m,k1m,cntM,AbK,newM],by simp [k7m,k6m,k5m,k4m,k3m,k2m,k1m,cntM,AbK,newM],by simp [k7m,k6m,k5m,k4m,k3m,k2m,k1m,cntM,AbK,newM,drp,fwd,mdo,h],by simp [k7m,k6m,k5m,k4m,k3m,k2m,k1m,cntM,AbK,newM,drp,fwd,mdo,h],by simp [k7m,k6m,k5m,k4m,k3m,k2m,k1m,cntM,AbK,newM,drp,fwd,mdo,h],by simp [k7m,k6m,k5m,k4m,k3m,k2m,k1m,cntM,AbK,newM]⟩
theorem act_tick {k:Ms} (h:k.p=P0m):AbQ (EfV (AuK k))=true:=by
 unfold AbQ
 rw [show (EfV (AuK k)).p=P0m from h]
 rfl
theorem DkQ (a b c d:Value) (W:World):(Instr.field 24 (.agg #[a,b,c,d]) 3).run prog W=.ok d W:=by kernel_rfl
theorem set_no (k:Ms):setM k ⟨3,false,1,0⟩=(k,11):=rfl
theorem few_k1:k1m.few 100:=(EyK P0m).more (by decide)
theorem few_k2:k2m.few 102:=AkJ _ (AhX few_k1)
theorem CdZ:k3m.few 102:=few_s S4m few_k2
theorem BbQ (w:World):Calls prog 9 #[] w fun e w'=>e=.returned (.bool true)∧Below w.heap.size w w':=by
 go_enter func9,ntmps9
 go_wp2_with fail
 refine (AyX P0m w).mono ?_
 rintro e w1 ⟨hb,hc⟩
 rcases hc with ⟨hc,_⟩ | ⟨_,mi,x,rfl,hmy⟩
 ·exact absurd hc (by decide)
 have K1:=η (AZ.of_my hmy)
 clear hb hmy
 go_wp2_with fail
 refine (AyX zPn w1).mono ?_
 rintro e w2 ⟨hb,hc⟩
 rcases hc with ⟨_,rfl⟩ | ⟨hc,_⟩
 rotate_left
 ·exact absurd hc (by decide)
 have K2:=η (K1.o.step hb)
 clear hb
 go_wp2_with fail
 refine (AhK mi x (newM P0m) w2 (by exact K2.o.my.mb)).mono ?_
 rintro e w3 ⟨rfl,rfl⟩
 go_wp2_with fail
 refine (AfW mi x (newM P0m) w2 (by exact K2.o.my.mb) true (by decide)).mono ?_
 rintro e w3 ⟨rfl,hb⟩
 have K3:=η (K2.o.step hb)
 clear hb
 go_wp2_with (first
  | (refine atd 6 rfl ?_;refine AfZ AoW rfl rfl ?_;intro w4 p hc1 hb1 hx1;have K4:=η ((K3.o.lit R20m _ 20 (by exact vlit20) (by exact vlen20) (by exact n20)).new hb1 hc1.blk hx1);clear hc1 hb1 hx1)
  | (refine AmZ AoW rfl (.tmp 6) (.tmp 55) rfl p rfl zeroI zeroI (.agg #[.int .u8 0,.int .u32 0,.slice none 0 0,.slice none 0 0,.slice none 0 0,.slice none 0 0]) rfl (by exact zI_lit) (by exact (K4.o.rb (46,p,zeroI.cells) (by simp)).1) ?_;intro w5 hc1 ho1 hs1;have K5:=η (K4.o.set (T:=46) (g:=p) (cs:=zeroI.cells) (recs':=[(46,p,zeroI.cells)]) (by simp) ho1 hc1 (by decide) (by decide) (by simp));clear hc1 ho1 hs1)
  | (refine AhJ (ty:=41) (by kernel_rfl) rfl (.tmp 58) (.tmp 56) rfl p 2 rfl (.slice (some ⟨w5.heap.size,0,none⟩) 2 2) rfl rfl _ (by exact (((K5.o.lit [7,8] _ 2 (by exact EhX) (by exact vlen78) (by exact n2)).rb (46,p,zeroI.cells) (by simp)).1)) (by exact EwJ zeroI 2 (by decide)) ?_;rw [set_iQ];intro w6 hc1 ho1 hs1;have K6:=η ((K5.o.lit [7,8] _ 2 (by exact EhX) (by exact vlen78) (by exact n2)).set (T:=46) (g:=p) (cs:=zeroI.cells) (recs':=[(46,p,(iQ (some ⟨w5.heap.size,0,none⟩)).cells)]) (by simp) ho1 hc1 (by decide) (by decide) (by simp));clear hc1 ho1 hs1)
  | (refine AhJ (ty:=41) (by kernel_rfl) rfl (.tmp 61) (.tmp 59) rfl p 3 rfl (.slice (some ⟨w6.heap.size,0,none⟩) 1 1) rfl rfl _ (by exact (((K6.o.lit [9] _ 1 (by exact vlit9) (by exact vlen9) (by exact n2)).rb (46,p,(iQ (some ⟨w5.heap.size,0,none⟩)).cells) (by simp)).1)) (by exact EwJ (iQ (some ⟨w5.heap.size,0,none⟩)) 3 (by decide)) ?_;rw [set_iP];intro w7 hc1 ho1 hs1;have K7:=η ((K6.o.lit [9] _ 1 (by exact vlit9) (by exact vlen9) (by exact n2)).set (T:=46) (g:=p) (cs:=(iQ (some ⟨w5.heap.size,0,none⟩)).cells) (recs':=[(46,p,(iP (some ⟨w5.heap.size,0,none⟩) (some ⟨w6.heap.size,0,none⟩) none 0 []).cells)]) (by simp) ho1 hc1 (by decide) (by decide) (by simp));clear hc1 ho1 hs1)
  | (refine atd 64 rfl ?_;refine AgJ AoW rfl (.tmp 6) rfl p rfl (iP (some ⟨w5.heap.size,0,none⟩) (some ⟨w6.heap.size,0,none⟩) none 0 []) (by exact Ic.of (((K7.o.lit [5] _ 1 (by exact CfW) (by exact vlen5) (by exact n2)).rb (46,p,(iP (some ⟨w5.heap.size,0,none⟩) (some ⟨w6.heap.size,0,none⟩) none 0 []).cells) (by simp)).1)) ?_))
 obtain ⟨g1,HG1⟩:∃ g1,Hid (g1=w3.heap.size):=⟨_,η rfl⟩
 obtain ⟨g2,HG2⟩:∃ g2,Hid (g2=w5.heap.size):=⟨_,η rfl⟩
 obtain ⟨g3,HG3⟩:∃ g3,Hid (g3=w6.heap.size):=⟨_,η rfl⟩
 rw [←HG1.o,←HG2.o,←HG3.o] at K7
 rw [←HG1.o,←HG2.o,←HG3.o]
 have K8:=η ((K7.o.lit [5] _ 1 CfW rfl (Nat.le_trans (by decide) n20)).sub (rows':=[(some ⟨w7.heap.size,0,none⟩,1,1,[5]),(some ⟨g3,0,none⟩,1,1,[9]),(some ⟨g2,0,none⟩,2,2,[7,8]),(some ⟨g1,0,none⟩,20,20,R20m)]) (by simp) (fun r hr=>hr))
 refine (AgK w x none 0 [] 1 0 mi k1m _ _ _ K8.o 100 few_k1 (by decide) (by decide) (by decide) (some ⟨w7.heap.size,0,none⟩) 1 [5] (K8.o.my.row (some ⟨w7.heap.size,0,none⟩,1,1,[5]) (by simp)) (by decide) (iP (some ⟨g2,0,none⟩) (some ⟨g3,0,none⟩) none 0 []) (DaZ (K8.o.my.row (some ⟨g2,0,none⟩,2,2,[7,8]) (by simp)) (K8.o.my.row (some ⟨g3,0,none⟩,1,1,[9]) (by simp)) (Ra.nil _ _)) (by show (0:Nat)≤1000;decide) 100 (by decide) (some ⟨g1,0,none⟩) 20 R20m (K8.o.my.row (some ⟨g1,0,none⟩,20,20,R20m) (by simp)) (by decide) (drp 17) (al_a rfl rfl) 100 rfl).mono ?_
 rintro e w9 ⟨B9,c9,rfl,h9⟩
 have K9:Hid (AZ w x none 0 [] 3 1 mi k2m _ _ w9):=η h9
 clear h9
 go_wp2_with (first
  | (refine atd 7 rfl ?_;refine AbJ AbW rfl rfl ?_;intro w10 pa hc1 hb1 hx1;have HN7:=η (And.intro hc1 (And.intro hb1 hx1));clear hc1 hb1 hx1)
  | (refine AaV AbW rfl (.tmp 7) (.tmp 66) rfl pa rfl (drp 17) B9 c9 (ocV (drp 17) B9 c9) rfl (by exact rfl) _ (by exact HN7.o.1) (by exact AdJ) ?_;intro w11 hc1 ho1 hs1;have K10:=η (K9.o.new (AeJ HN7.o.2.1 HN7.o.2.2 ho1) hc1 HN7.o.2.2);clear hc1 ho1 hs1 HN7))
 have HOK:Hid (okR S4m):=η ok4m
 apply fin2 (α:=World) (β:=Nat) (F:=fun w7 L=>Hid (∃ A' c' es',AZ w x A' c' es' 3 1 mi k3m [(some ⟨g3,0,none⟩,1,1,[9]),(some ⟨g2,0,none⟩,2,2,[7,8]),(some ⟨g1,0,none⟩,20,20,R20m)] [(73,pa,ocC (drp 17) B9 c9),(46,p,(iP (some ⟨g2,0,none⟩) (some ⟨g3,0,none⟩) none 0 []).cells)] w7))
 ·intro FIN
  have K11:=η (K10.o.step (Below.refl _ _).drew);refine wp_region_held_drew (S:=fun w'=>True) (by kernel_rfl) trivial (fun hHeld=>?_);(try dsimp only at hHeld);refine tkJ 0 rfl hHeld ?_;(try simp only [Act.put,rxT,sxT]);refine wpAnyH_ready (rs:=[1,2]) (by kernel_rfl) (by simp) ?_;refine AllReadyH.cons rfl (fun K hK=>?b1) (AllReadyH.cons rfl (fun K hK=>?b2) AllReadyH.nil)
  case b1 =>
   (try simp only [rxT]);go_simp;refine (AhK mi x k2m _ (by exact K11.o.my.mb)).mono ?_;rintro e wz ⟨rfl,hw⟩;subst hw;(try go_wp2_with fail);refine hK.o _ _ trivial (fun hHeld=>?_);clear hK K;refine rdI 2 rfl (fun K hK=>?_);(try simp only [Act.put,rxT,sxT]);rw [if_pos (by rfl)];obtain ⟨L,HLL⟩:∃ L,L=w11.drew.heap.size:=⟨_,rfl⟩;refine wp_mk _ _ rfl w11.drew.heap.size .i64 .i64 16 16 16 rfl rfl rfl rfl (by decide) (Nat.le_refl _) ?_;intro w13 ho hb;have K13:=η (K11.o.step hb);have H13:Hid (RB w13 w13.heap.size (some ⟨L,0,none⟩) 16 zr16):=η (by rw [HLL];exact ho.rb);rw [←HLL];clear ho hb HLL;refine hK.o _ _ trivial (fun hHeld=>?_);clear hK K;refine rdI 3 rfl (fun K hK=>?_);(try simp only [Act.put,rxT,sxT]);go_simp;refine (BjZ _ x none 0 [] 3 1 4 (some ⟨L,0,none⟩) 16 16 zr16 _ (by exact K13.o.my.rn) (by decide) (by exact H13.o) (by decide) (by decide) (by exact K13.o.my.bel.size)).mono ?_;rw [show rgE ([]:Ens)=[] from rfl,inst4m];rintro e w14 ⟨rfl,hr⟩;obtain ⟨A',c',es',h14⟩:=K13.o.inst0 hr HOK.o;have K14:=η (show ∃ A' c' es',AZ w x A' c' es' 3 1 mi k3m [(some ⟨g3,0,none⟩,1,1,[9]),(some ⟨g2,0,none⟩,2,2,[7,8]),(some ⟨g1,0,none⟩,20,20,R20m)] _ w14 from ⟨A',c',es',h14.sub (by simp) (fun r hr=>hr)⟩);clear hr h14;(try go_wp2_with fail);refine hK.o _ _ trivial (fun hHeld=>?_);clear hK K;(try simp only [Act.put,rxT,sxT]);refine wpAnyH_done (by kernel_rfl) ?_ _;exact FIN w14 L K14
  case b2 =>
   (try simp only [rxT]);rw [if_pos (by rfl)];obtain ⟨L,HLL⟩:∃ L,L=w11.drew.heap.size:=⟨_,rfl⟩;refine wp_mk _ _ rfl w11.drew.heap.size .i64 .i64 16 16 16 rfl rfl rfl rfl (by decide) (Nat.le_refl _) ?_;intro w13 ho hb;have K13:=η (K11.o.step hb);have H13:Hid (RB w13 w13.heap.size (some ⟨L,0,none⟩) 16 zr16):=η (by rw [HLL];exact ho.rb);rw [←HLL];clear ho hb HLL;refine hK.o _ _ trivial (fun hHeld=>?_);clear hK K;refine rdI 1 rfl (fun K hK=>?_);(try simp only [Act.put,rxT,sxT]);go_simp;refine (AhK mi x k2m _ (by exact K13.o.my.mb)).mono ?_;rintro e wz ⟨rfl,hw⟩;subst hw;(try go_wp2_with fail);refine hK.o _ _ trivial (fun hHeld=>?_);clear hK K;refine rdI 3 rfl (fun K hK=>?_);(try simp only [Act.put,rxT,sxT]);go_simp;refine (BjZ _ x none 0 [] 3 1 4 (some ⟨L,0,none⟩) 16 16 zr16 _ (by exact K13.o.my.rn) (by decide) (by exact H13.o) (by decide) (by decide) (by exact K13.o.my.bel.size)).mono ?_;rw [show rgE ([]:Ens)=[] from rfl,inst4m];rintro e w14 ⟨rfl,hr⟩;obtain ⟨A',c',es',h14⟩:=K13.o.inst0 hr HOK.o;have K14:=η (show ∃ A' c' es',AZ w x A' c' es' 3 1 mi k3m [(some ⟨g3,0,none⟩,1,1,[9]),(some ⟨g2,0,none⟩,2,2,[7,8]),(some ⟨g1,0,none⟩,20,20,R20m)] _ w14 from ⟨A',c',es',h14.sub (by simp) (fun r hr=>hr)⟩);clear hr h14;(try go_wp2_with fail);refine hK.o _ _ trivial (fun hHeld=>?_);clear hK K;(try simp only [Act.put,rxT,sxT]);refine wpAnyH_done (by kernel_rfl) ?_ _;exact FIN w14 L K14
 intro w14 L K14x
 obtain ⟨A,c,es,h14⟩:=K14x.o
 have K14:=η h14
 clear K14x h14
 try dsimp only
 go_wp2_with (first
  | (refine atd 73 rfl ?_;refine AgJ AoW rfl (.tmp 6) rfl p rfl (iP (some ⟨g2,0,none⟩) (some ⟨g3,0,none⟩) none 0 []) (by exact Ic.of (((K14.o.lit [5] _ 1 (by exact CfW) (by exact vlen5) (by exact n2)).rb (46,p,(iP (some ⟨g2,0,none⟩) (some ⟨g3,0,none⟩) none 0 []).cells) (by simp)).1)) ?_))
 obtain ⟨t,st,hl,hf,_,hm,hsp,hck,hot,ho6⟩:=made4m
 obtain ⟨BL,HBL⟩:∃ BL,AdW [9] (AfK R20m) t++st=BL:=⟨_,rfl⟩
 rw [HBL] at hm hsp hck
 have HT:=η (And.intro hl (And.intro hf (And.intro hm (And.intro hsp (And.intro hck (And.intro hot ho6))))))
 clear HBL hl hf hm hsp hck hot ho6
 have K15:=η (K14.o.lit [5] _ 1 CfW rfl n2)
 refine (AgK w x A c es 3 1 mi k3m _ _ _ K15.o 102 CdZ (by decide) (by decide) (by decide) (some ⟨w14.heap.size,0,none⟩) 1 [5] (K15.o.my.row (some ⟨w14.heap.size,0,none⟩,1,1,[5]) (by simp)) (by decide) (iP (some ⟨g2,0,none⟩) (some ⟨g3,0,none⟩) none 0 []) (DaZ (K15.o.my.row (some ⟨g2,0,none⟩,2,2,[7,8]) (by simp)) (K15.o.my.row (some ⟨g3,0,none⟩,1,1,[9]) (by simp)) (Ra.nil _ _)) (by show (0:Nat)≤1000;decide) 100 (by decide) (some ⟨g1,0,none⟩) 20 R20m (K15.o.my.row (some ⟨g1,0,none⟩,20,20,R20m) (by simp)) (by decide) (mdo BL) (al_b rfl rfl HT.o.2.2.1) 100 rfl).mono ?_
 rintro e w16 ⟨B16,c16,rfl,h16⟩
 have K16:Hid (AZ w x A c es 5 2 mi (k4m BL) [(B16,BL.length,c16,BL),(some ⟨g3,0,none⟩,1,1,[9]),(some ⟨g2,0,none⟩,2,2,[7,8]),(some ⟨g1,0,none⟩,20,20,R20m)] [(73,pa,ocC (drp 17) B9 c9),(46,p,(iP (some ⟨g2,0,none⟩) (some ⟨g3,0,none⟩) none 0 []).cells)] w16):=η (AZ.sub h16 (by simp +contextual [mdo]) (fun r hr=>hr))
 clear h16
 go_wp2_with (first
  | (refine atd 8 rfl ?_;refine AbJ AbW rfl rfl ?_;intro w17 pb hc1 hb1 hx1;have HN8:=η (And.intro hc1 (And.intro hb1 hx1));clear hc1 hb1 hx1)
  | (refine AaV AbW rfl (.tmp 8) (.tmp 75) rfl pb rfl (mdo BL) B16 c16 (ocV (mdo BL) B16 c16) rfl (by exact rfl) _ (by exact HN8.o.1) (by exact AdJ) ?_;intro w18 hc1 ho1 hs1;have K17:=η (K16.o.new (AeJ HN8.o.2.1 HN8.o.2.2 ho1) hc1 HN8.o.2.2);clear hc1 ho1 hs1 HN8))
 have HQ19:Hid (∀ W:World,(Instr.slice 41 (.slice (some ⟨g1,0,none⟩) 20 20) none (some (.int .i64 19)) none).run prog W=.ok (.slice (cutA (some ⟨g1,0,none⟩) 20 0) 19 20) W):=η (BsZ (some ⟨g1,0,none⟩) 20 20 19 (by decide))
 apply fin5 (α:=World) (β:=Nat) (γ:=Nat) (δ:=Option Addr) (ε:=Nat) (F:=fun w7 L pv B d=>Hid (AZ w x A c es 7 3 mi (k5m BL) [(B16,BL.length,c16,BL),(some ⟨g3,0,none⟩,1,1,[9]),(some ⟨g2,0,none⟩,2,2,[7,8]),(some ⟨g1,0,none⟩,20,20,R20m)] [(73,pv,ocC (drp 21) B d),(73,pb,ocC (mdo BL) B16 c16),(73,pa,ocC (drp 17) B9 c9),(46,p,(iP (some ⟨g2,0,none⟩) (some ⟨g3,0,none⟩) none 0 []).cells)] w7))
 ·intro FIN
  have K18:=η (K17.o.step (Below.refl _ _).drew);refine wp_region_held_drew (S:=fun w'=>Blk 46 w' p (iP (some ⟨g2,0,none⟩) (some ⟨g3,0,none⟩) none 0 []).cells) (by kernel_rfl) (K18.o.rb (46,p,(iP (some ⟨g2,0,none⟩) (some ⟨g3,0,none⟩) none 0 []).cells) (by simp)).1 (fun hHeld=>?_);(try dsimp only at hHeld);generalize w18.drew=w19 at K18 hHeld ⊢;have Ω:=η (fun (w:World) (hSw:Blk 46 w p (iP (some ⟨g2,0,none⟩) (some ⟨g3,0,none⟩) none 0 []).cells)=>an ((Ic.of hSw).ld AoW) (HQ19.o w));refine tkJ 0 rfl hHeld ?_;refine tkJ 2 rfl hHeld ?_;refine tkJ 3 rfl hHeld ?_;refine tkJ 4 rfl hHeld ?_;(try simp only [Act.put,rxT,sxT]);refine wpAnyH_ready (rs:=[1,6]) (by kernel_rfl) (by simp) ?_;refine AllReadyH.cons rfl (fun K hK=>?c1_0) (AllReadyH.cons rfl (fun K hK=>?c6_0) AllReadyH.nil)
  case c1_0 =>
   (try simp only [rxT]);go_simp;obtain ⟨L,HL⟩:∃ L,L=(w19).heap.size:=⟨_,rfl⟩;have K18_1:=η (K18.o.lit [5] _ 1 CfW rfl n2);rw [←HL] at K18_1 ⊢;generalize ((w19).alloc (.cells #[.int .u8 5] 5))=w19_1 at K18_1 ⊢;clear HL;refine hK.o _ _ (K18_1.o.rb (46,p,(iP (some ⟨g2,0,none⟩) (some ⟨g3,0,none⟩) none 0 []).cells) (by simp)).1 (fun hHeld=>?_);clear hK K;(try simp only [Act.put,rxT,sxT]);refine wpAnyH_ready (rs:=[5,6]) (by kernel_rfl) (by simp) ?_;refine AllReadyH.cons rfl (fun K hK=>?c5_1) (AllReadyH.cons rfl (fun K hK=>?c6_1) AllReadyH.nil)
   case c5_1 =>
    (try simp only [rxT]);go_simp;refine (AgK w x A c es 5 2 mi (k4m BL) _ _ _ K18_1.o 200 ((AkJ _ (AhX CdZ)).more (by decide)) (by decide) (by decide) (by decide) (some ⟨L,0,none⟩) 1 [5] (K18_1.o.my.row (some ⟨L,0,none⟩,1,1,[5]) (by simp)) (by decide) (iP (some ⟨g2,0,none⟩) (some ⟨g3,0,none⟩) none 0 []) (DaZ (K18_1.o.my.row (some ⟨g2,0,none⟩,2,2,[7,8]) (by simp)) (K18_1.o.my.row (some ⟨g3,0,none⟩,1,1,[9]) (by simp)) (Ra.nil _ _)) (by show (0:Nat)≤1000;decide) 100 (by decide) (cutA (some ⟨g1,0,none⟩) 20 0) 20 (R20m.take 19) (by have z:=(K18_1.o.my.row (some ⟨g1,0,none⟩,20,20,R20m) (by simp)).part (i:=0) (j:=19) (d:=20) (Nat.zero_le _) (show 19≤20 by decide) ⟨(show 19 - 0≤20 by decide),n2⟩;exact z) (by decide) (drp 21) (al_c rfl rfl) 100 rfl).mono ?_;rintro e w19_2 ⟨B,d,rfl,hz⟩;have K18_2:=η (show AZ w x A c es 7 3 mi (k5m BL) _ _ w19_2 from hz);clear hz;(try go_wp2_with fail);refine hK.o _ _ (K18_2.o.rb (46,p,(iP (some ⟨g2,0,none⟩) (some ⟨g3,0,none⟩) none 0 []).cells) (by simp)).1 (fun hHeld=>?_);clear hK K;refine rdI 6 rfl (fun K hK=>?_);(try simp only [Act.put,rxT,sxT]);rw [if_pos (by rfl)];refine AdY AbW rfl ?_;intro w19_2a pv hc1 hb1 hx1;have K18_2a:=η (K18_2.o.new hb1 hc1 hx1);have HPV:=η hx1;clear hc1 hb1 hx1;refine hK.o _ _ (K18_2a.o.rb (46,p,(iP (some ⟨g2,0,none⟩) (some ⟨g3,0,none⟩) none 0 []).cells) (by simp)).1 (fun hHeld=>?_);clear hK K;refine rdI 7 rfl (fun K hK=>?_);(try simp only [Act.put,rxT,sxT]);rw [if_pos (by rfl)];refine AiV AbW _ _ rfl pv rfl (drp 21) B d rfl zOc (by exact (K18_2a.o.rb (73,pv,zOc) (by simp)).1) AdJ ?_;intro w19_2as hc1 ho1;have K18_2as:=η (K18_2.o.setNew K18_2a.o HPV.o ho1 hc1 (by decide) (by decide));clear hc1 ho1;refine hK.o _ _ (K18_2as.o.rb (46,p,(iP (some ⟨g2,0,none⟩) (some ⟨g3,0,none⟩) none 0 []).cells) (by simp)).1 (fun hHeld=>?_);clear hK K;(try simp only [Act.put,rxT,sxT]);refine wpAnyH_done (by kernel_rfl) ?_ _;exact FIN w19_2as L pv B d (η (K18_2as.o.sub (by simp +contextual) (fun r hr=>hr)))
   case c6_1 =>
    (try simp only [rxT]);rw [if_pos (by rfl)];refine AdY AbW rfl ?_;intro w19_1a pv hc1 hb1 hx1;have K18_1a:=η (K18_1.o.new hb1 hc1 hx1);have HPV:=η hx1;clear hc1 hb1 hx1;refine hK.o _ _ (K18_1a.o.rb (46,p,(iP (some ⟨g2,0,none⟩) (some ⟨g3,0,none⟩) none 0 []).cells) (by simp)).1 (fun hHeld=>?_);clear hK K;refine rdI 5 rfl (fun K hK=>?_);(try simp only [Act.put,rxT,sxT]);go_simp;refine (AgK w x A c es 5 2 mi (k4m BL) _ _ _ K18_1a.o 200 ((AkJ _ (AhX CdZ)).more (by decide)) (by decide) (by decide) (by decide) (some ⟨L,0,none⟩) 1 [5] (K18_1a.o.my.row (some ⟨L,0,none⟩,1,1,[5]) (by simp)) (by decide) (iP (some ⟨g2,0,none⟩) (some ⟨g3,0,none⟩) none 0 []) (DaZ (K18_1a.o.my.row (some ⟨g2,0,none⟩,2,2,[7,8]) (by simp)) (K18_1a.o.my.row (some ⟨g3,0,none⟩,1,1,[9]) (by simp)) (Ra.nil _ _)) (by show (0:Nat)≤1000;decide) 100 (by decide) (cutA (some ⟨g1,0,none⟩) 20 0) 20 (R20m.take 19) (by have z:=(K18_1a.o.my.row (some ⟨g1,0,none⟩,20,20,R20m) (by simp)).part (i:=0) (j:=19) (d:=20) (Nat.zero_le _) (show 19≤20 by decide) ⟨(show 19 - 0≤20 by decide),n2⟩;exact z) (by decide) (drp 21) (al_c rfl rfl) 100 rfl).mono ?_;rintro e w19_2a ⟨B,d,rfl,hz⟩;have K18_2a:=η (show AZ w x A c es 7 3 mi (k5m BL) _ _ w19_2a from hz);clear hz;(try go_wp2_with fail);refine hK.o _ _ (K18_2a.o.rb (46,p,(iP (some ⟨g2,0,none⟩) (some ⟨g3,0,none⟩) none 0 []).cells) (by simp)).1 (fun hHeld=>?_);clear hK K;refine rdI 7 rfl (fun K hK=>?_);(try simp only [Act.put,rxT,sxT]);rw [if_pos (by rfl)];refine AiV AbW _ _ rfl pv rfl (drp 21) B d rfl zOc (by exact (K18_2a.o.rb (73,pv,zOc) (by simp)).1) AdJ ?_;intro w19_2as hc1 ho1;have K18_2as:=η (K18_1.o.setNew K18_2a.o HPV.o ho1 hc1 (by decide) (by decide));clear hc1 ho1;refine hK.o _ _ (K18_2as.o.rb (46,p,(iP (some ⟨g2,0,none⟩) (some ⟨g3,0,none⟩) none 0 []).cells) (by simp)).1 (fun hHeld=>?_);clear hK K;(try simp only [Act.put,rxT,sxT]);refine wpAnyH_done (by kernel_rfl) ?_ _;exact FIN w19_2as L pv B d (η (K18_2as.o.sub (by simp +contextual) (fun r hr=>hr)))
  case c6_0 =>
   (try simp only [rxT]);rw [if_pos (by rfl)];refine AdY AbW rfl ?_;intro w19_0a pv hc1 hb1 hx1;have K18_0a:=η (K18.o.new hb1 hc1 hx1);have HPV:=η hx1;clear hc1 hb1 hx1;refine hK.o _ _ (K18_0a.o.rb (46,p,(iP (some ⟨g2,0,none⟩) (some ⟨g3,0,none⟩) none 0 []).cells) (by simp)).1 (fun hHeld=>?_);clear hK K;refine rdI 1 rfl (fun K hK=>?_);(try simp only [Act.put,rxT,sxT]);go_simp;obtain ⟨L,HL⟩:∃ L,L=(w19_0a).heap.size:=⟨_,rfl⟩;have K18_1a:=η (K18_0a.o.lit [5] _ 1 CfW rfl n2);rw [←HL] at K18_1a ⊢;generalize ((w19_0a).alloc (.cells #[.int .u8 5] 5))=w19_1a at K18_1a ⊢;clear HL;refine hK.o _ _ (K18_1a.o.rb (46,p,(iP (some ⟨g2,0,none⟩) (some ⟨g3,0,none⟩) none 0 []).cells) (by simp)).1 (fun hHeld=>?_);clear hK K;refine rdI 5 rfl (fun K hK=>?_);(try simp only [Act.put,rxT,sxT]);go_simp;refine (AgK w x A c es 5 2 mi (k4m BL) _ _ _ K18_1a.o 200 ((AkJ _ (AhX CdZ)).more (by decide)) (by decide) (by decide) (by decide) (some ⟨L,0,none⟩) 1 [5] (K18_1a.o.my.row (some ⟨L,0,none⟩,1,1,[5]) (by simp)) (by decide) (iP (some ⟨g2,0,none⟩) (some ⟨g3,0,none⟩) none 0 []) (DaZ (K18_1a.o.my.row (some ⟨g2,0,none⟩,2,2,[7,8]) (by simp)) (K18_1a.o.my.row (some ⟨g3,0,none⟩,1,1,[9]) (by simp)) (Ra.nil _ _)) (by show (0:Nat)≤1000;decide) 100 (by decide) (cutA (some ⟨g1,0,none⟩) 20 0) 20 (R20m.take 19) (by have z:=(K18_1a.o.my.row (some ⟨g1,0,none⟩,20,20,R20m) (by simp)).part (i:=0) (j:=19) (d:=20) (Nat.zero_le _) (show 19≤20 by decide) ⟨(show 19 - 0≤20 by decide),n2⟩;exact z) (by decide) (drp 21) (al_c rfl rfl) 100 rfl).mono ?_;rintro e w19_2a ⟨B,d,rfl,hz⟩;have K18_2a:=η (show AZ w x A c es 7 3 mi (k5m BL) _ _ w19_2a from hz);clear hz;(try go_wp2_with fail);refine hK.o _ _ (K18_2a.o.rb (46,p,(iP (some ⟨g2,0,none⟩) (some ⟨g3,0,none⟩) none 0 []).cells) (by simp)).1 (fun hHeld=>?_);clear hK K;refine rdI 7 rfl (fun K hK=>?_);(try simp only [Act.put,rxT,sxT]);rw [if_pos (by rfl)];refine AiV AbW _ _ rfl pv rfl (drp 21) B d rfl zOc (by exact (K18_2a.o.rb (73,pv,zOc) (by simp)).1) AdJ ?_;intro w19_2as hc1 ho1;have K18_2as:=η (K18.o.setNew K18_2a.o HPV.o ho1 hc1 (by decide) (by decide));clear hc1 ho1;refine hK.o _ _ (K18_2as.o.rb (46,p,(iP (some ⟨g2,0,none⟩) (some ⟨g3,0,none⟩) none 0 []).cells) (by simp)).1 (fun hHeld=>?_);clear hK K;(try simp only [Act.put,rxT,sxT]);refine wpAnyH_done (by kernel_rfl) ?_ _;exact FIN w19_2as L pv B d (η (K18_2as.o.sub (by simp +contextual) (fun r hr=>hr)))
 intro w20 L20 pc B20 c20 K20
 have z3:=oc3_ (show Blk 73 w20 pb (ocC (mdo BL) B16 c16) from (K20.o.rb (73,pb,ocC (mdo BL) B16 c16) (by simp)).1)
 have HBn:Hid (BL.length≤1000000):=η (by
  have e:=HT.o.2.2.2.1
  have z:=K20.o.my.row (B16,BL.length,c16,BL) (by simp)
  exact Nat.le_trans (EpJ HT.o.2.2.1) (by decide))
 go_wp2_with fail
 refine (ApV B16 BL.length c16 BL w20 (by exact (K20.o.my.row (B16,BL.length,c16,BL) (by simp)).rb) (by exact (K20.o.my.row (B16,BL.length,c16,BL) (by simp)).cap) HBn.o).mono ?_
 rw [HT.o.2.2.2.1]
 rintro e w21 ⟨i21,rfl,hpl,hown,hb⟩
 obtain ⟨rT,rE,hit⟩:∃ T E,i21.T=T∧i21.e=E:=⟨_,_,rfl,rfl⟩
 have htt:i21.t=t:=congrArg (fun z:IPl=>z.2.1) hpl
 have HTT:=η htt
 have K21:=η (K20.o.own hb hown.t)
 have HI21:=η (And.intro hpl hown)
 clear hb hpl hown htt z3 hit
 go_wp2_with (first
  | (refine atd 10 rfl ?_;refine AfZ AmW rfl rfl ?_;intro w22 pr hc1 hb1 hx1;have HNr:=η (And.intro hc1.blk (And.intro hb1 hx1));clear hc1 hb1 hx1)
  | (refine AmZ AmW rfl (.tmp 10) (.tmp 86) rfl pr rfl i21 zeroI i21.val rfl (by exact rfl) (by exact HNr.o.1) ?_;intro w23 hc1 ho1 hs1;have K23:=η (K21.o.new (AeJ HNr.o.2.1 HNr.o.2.2 ho1) hc1 HNr.o.2.2);have q4:=(Ic.of hc1).c4;clear hc1 ho1 hs1 HNr)
  | (refine AhJ (ty:=41) (by kernel_rfl) rfl (.tmp 90) (.tmp 89) rfl p 4 rfl (.slice i21.T i21.t.length i21.e) rfl rfl _ (by exact (K23.o.rb (46,p,(iP (some ⟨g2,0,none⟩) (some ⟨g3,0,none⟩) none 0 []).cells) (by simp)).1) (by exact EwJ (iP (some ⟨g2,0,none⟩) (some ⟨g3,0,none⟩) none 0 []) 4 (by decide)) ?_;rw [set_iT];intro w24 hc1 ho1 hs1;have K24:=η (show Oth [p] w23 w24∧Blk 46 w24 p (iP (some ⟨g2,0,none⟩) (some ⟨g3,0,none⟩) i21.T i21.e i21.t).cells from And.intro ho1 hc1);have ne1:pc≠p:=(show Blk 73 w23 pc (ocC (drp 21) B20 c20) from (K23.o.rb (73,pc,ocC (drp 21) B20 c20) (by simp)).1).far (show Blk 46 w23 p (iP (some ⟨g2,0,none⟩) (some ⟨g3,0,none⟩) none 0 []).cells from (K23.o.rb (46,p,(iP (some ⟨g2,0,none⟩) (some ⟨g3,0,none⟩) none 0 []).cells) (by simp)).1) (by decide);have ne2:pb≠p:=(show Blk 73 w23 pb (ocC (mdo BL) B16 c16) from (K23.o.rb (73,pb,ocC (mdo BL) B16 c16) (by simp)).1).far (show Blk 46 w23 p (iP (some ⟨g2,0,none⟩) (some ⟨g3,0,none⟩) none 0 []).cells from (K23.o.rb (46,p,(iP (some ⟨g2,0,none⟩) (some ⟨g3,0,none⟩) none 0 []).cells) (by simp)).1) (by decide);have ne3:pa≠p:=(show Blk 73 w23 pa (ocC (drp 17) B9 c9) from (K23.o.rb (73,pa,ocC (drp 17) B9 c9) (by simp)).1).far (show Blk 46 w23 p (iP (some ⟨g2,0,none⟩) (some ⟨g3,0,none⟩) none 0 []).cells from (K23.o.rb (46,p,(iP (some ⟨g2,0,none⟩) (some ⟨g3,0,none⟩) none 0 []).cells) (by simp)).1) (by decide);have K25:Hid (AZ w x A c es 7 3 mi (k5m BL) [(i21.T,i21.t.length,i21.e,i21.t),(B16,BL.length,c16,BL),(some ⟨g3,0,none⟩,1,1,[9]),(some ⟨g2,0,none⟩,2,2,[7,8]),(some ⟨g1,0,none⟩,20,20,R20m)] [(73,pc,ocC (drp 21) B20 c20),(73,pb,ocC (mdo BL) B16 c16),(73,pa,ocC (drp 17) B9 c9),(46,p,(iP (some ⟨g2,0,none⟩) (some ⟨g3,0,none⟩) i21.T i21.e i21.t).cells)] w24):=η ((K23.o.set (T:=46) (g:=p) (cs:=(iP (some ⟨g2,0,none⟩) (some ⟨g3,0,none⟩) none 0 []).cells) (cs':=(iP (some ⟨g2,0,none⟩) (some ⟨g3,0,none⟩) i21.T i21.e i21.t).cells) (recs':=[(73,pc,ocC (drp 21) B20 c20),(73,pb,ocC (mdo BL) B16 c16),(73,pa,ocC (drp 17) B9 c9),(46,p,(iP (some ⟨g2,0,none⟩) (some ⟨g3,0,none⟩) i21.T i21.e i21.t).cells)]) (by simp) ho1 hc1 (by decide) (by decide) (by simp [ne1,ne2,ne3])).sub (by simp +contextual) (fun r hr=>hr));clear ne1 ne2 ne3;clear hc1 ho1 hs1 q4)
  | (refine atd 93 rfl ?_;refine AgJ AoW rfl (.tmp 6) rfl p rfl (iP (some ⟨g2,0,none⟩) (some ⟨g3,0,none⟩) i21.T i21.e i21.t) (by exact Ic.of (((K25.o.lit [5] _ 1 (by exact CfW) (by exact vlen5) (by exact n2)).rb (46,p,(iP (some ⟨g2,0,none⟩) (some ⟨g3,0,none⟩) i21.T i21.e i21.t).cells) (by simp)).1)) ?_))
 have HIT:Hid (i21.t=t):=HTT
 have HT50:Hid (i21.t.length≤1000):=η (by rw [HIT.o,HT.o.1];decide)
 have HPL:Hid ((iP (some ⟨g2,0,none⟩) (some ⟨g3,0,none⟩) i21.T i21.e i21.t).pl=(H0m,t,[])):=η (by show ((0,0,[7,8],[9]),i21.t,[])=_;rw [HIT.o];rfl)
 have K26:=η (K25.o.lit [5] _ 1 CfW rfl n2)
 refine (AgK w x A c es 7 3 mi (k5m BL) _ _ _ K26.o 200 ((AkJ _ (AhX (AkJ _ (AhX CdZ)))).more (by decide)) (by decide) (by decide) (by decide) (some ⟨w24.heap.size,0,none⟩) 1 [5] (K26.o.my.row (some ⟨w24.heap.size,0,none⟩,1,1,[5]) (by simp)) (by decide) (iP (some ⟨g2,0,none⟩) (some ⟨g3,0,none⟩) i21.T i21.e i21.t) (DaZ (K26.o.my.row (some ⟨g2,0,none⟩,2,2,[7,8]) (by simp)) (K26.o.my.row (some ⟨g3,0,none⟩,1,1,[9]) (by simp)) (K26.o.my.row (i21.T,i21.t.length,i21.e,i21.t) (by simp))) HT50.o 110 (by decide) none 0 [] (Ra.nil _ _) (by decide) (fwd true) (by rw [HPL.o];exact al_d rfl rfl HT.o.1 HT.o.2.1 HT.o.2.2.2.2.2.1) 110 rfl).mono ?_
 rintro e w27 ⟨B27,c27,rfl,hz⟩
 have K27:Hid (AZ w x A c es (7+2) (3+1) mi (k6m BL) [(i21.T,i21.t.length,i21.e,i21.t),(B16,BL.length,c16,BL),(some ⟨g3,0,none⟩,1,1,[9]),(some ⟨g2,0,none⟩,2,2,[7,8]),(some ⟨g1,0,none⟩,20,20,R20m)] [(73,pc,ocC (drp 21) B20 c20),(73,pb,ocC (mdo BL) B16 c16),(73,pa,ocC (drp 17) B9 c9),(46,p,(iP (some ⟨g2,0,none⟩) (some ⟨g3,0,none⟩) i21.T i21.e i21.t).cells)] w27):=η (AZ.sub hz (by simp +contextual) (fun r hr=>hr))
 clear hz
 go_wp2_with (first
  | (refine atd 12 rfl ?_;refine AbJ AbW rfl rfl ?_;intro w28 pd hc1 hb1 hx1;have HN12:=η (And.intro hc1 (And.intro hb1 hx1));clear hc1 hb1 hx1)
  | (refine AaV AbW rfl (.tmp 12) (.tmp 94) rfl pd rfl (fwd true) B27 c27 (ocV (fwd true) B27 c27) rfl (by exact rfl) _ (by exact HN12.o.1) (by exact AdJ) ?_;intro w29 hc1 ho1 hs1;have K28:=η (K27.o.new (AeJ HN12.o.2.1 HN12.o.2.2 ho1) hc1 HN12.o.2.2);clear hc1 ho1 hs1 HN12)
  | (refine atd 97 rfl ?_;refine AgJ AoW rfl (.tmp 6) rfl p rfl (iP (some ⟨g2,0,none⟩) (some ⟨g3,0,none⟩) i21.T i21.e i21.t) (by exact Ic.of (((K28.o.lit [6] _ 1 (by exact vlit6) (by exact vlen6) (by exact n2)).rb (46,p,(iP (some ⟨g2,0,none⟩) (some ⟨g3,0,none⟩) i21.T i21.e i21.t).cells) (by simp)).1)) ?_))
 have K29:=η (K28.o.lit [6] _ 1 vlit6 rfl n2)
 refine (AgK w x A c es 9 4 mi (k6m BL) _ _ _ K29.o 200 ((AkJ _ (AhX (AkJ _ (AhX (AkJ _ (AhX CdZ)))))).more (by decide)) (by decide) (by decide) (by decide) (some ⟨w29.heap.size,0,none⟩) 1 [6] (K29.o.my.row (some ⟨w29.heap.size,0,none⟩,1,1,[6]) (by simp)) (by decide) (iP (some ⟨g2,0,none⟩) (some ⟨g3,0,none⟩) i21.T i21.e i21.t) (DaZ (K29.o.my.row (some ⟨g2,0,none⟩,2,2,[7,8]) (by simp)) (K29.o.my.row (some ⟨g3,0,none⟩,1,1,[9]) (by simp)) (K29.o.my.row (i21.T,i21.t.length,i21.e,i21.t) (by simp))) HT50.o 110 (by decide) none 0 [] (Ra.nil _ _) (by decide) (drp 13) (by rw [HPL.o];exact al_h rfl rfl HT.o.1 HT.o.2.1 HT.o.2.2.2.2.2.2) 110 rfl).mono ?_
 rintro e w30 ⟨B30,c30,rfl,hz⟩
 have K30:Hid (AZ w x A c es (9+2) (4+1) mi (k7m BL) [(i21.T,i21.t.length,i21.e,i21.t),(B16,BL.length,c16,BL),(some ⟨g3,0,none⟩,1,1,[9]),(some ⟨g2,0,none⟩,2,2,[7,8]),(some ⟨g1,0,none⟩,20,20,R20m)] [(73,pd,ocC (fwd true) B27 c27),(73,pc,ocC (drp 21) B20 c20),(73,pb,ocC (mdo BL) B16 c16),(73,pa,ocC (drp 17) B9 c9),(46,p,(iP (some ⟨g2,0,none⟩) (some ⟨g3,0,none⟩) i21.T i21.e i21.t).cells)] w30):=η (AZ.sub hz (by simp +contextual) (fun r hr=>hr))
 clear hz
 go_wp2_with (first
  | (refine atd 13 rfl ?_;refine AbJ AbW rfl rfl ?_;intro w31 ph hc1 hb1 hx1;have HN13:=η (And.intro hc1 (And.intro hb1 hx1));clear hc1 hb1 hx1)
  | (refine AaV AbW rfl (.tmp 13) (.tmp 98) rfl ph rfl (drp 13) B30 c30 (ocV (drp 13) B30 c30) rfl (by exact rfl) _ (by exact HN13.o.1) (by exact AdJ) ?_;intro w32 hc1 ho1 hs1;have K31:=η (K30.o.new (AeJ HN13.o.2.1 HN13.o.2.2 ho1) hc1 HN13.o.2.2);clear hc1 ho1 hs1 HN13)
  | (refine atd 101 rfl ?_;refine AgJ AoW rfl (.tmp 6) rfl p rfl (iP (some ⟨g2,0,none⟩) (some ⟨g3,0,none⟩) i21.T i21.e i21.t) (by exact Ic.of (((K31.o.lit [5] _ 1 (by exact CfW) (by exact vlen5) (by exact n2)).rb (46,p,(iP (some ⟨g2,0,none⟩) (some ⟨g3,0,none⟩) i21.T i21.e i21.t).cells) (by simp)).1)) ?_))
 obtain ⟨U,HU⟩:∃ U,outM (AbK (k7m BL)) [5] (H0m,t,[]) 111 R20m=U:=⟨_,rfl⟩
 have HU1:Hid (U.k=1):=η (by rw [←HU];exact al_i rfl rfl HT.o.1 HT.o.2.1 HT.o.2.2.2.2.2.1)
 have HUE:=η HU
 clear HU
 have K32:=η (K31.o.lit [5] _ 1 CfW rfl n2)
 refine (AgK w x A c es 11 5 mi (k7m BL) _ _ _ K32.o 200 ((AkJ _ (AhX (AkJ _ (AhX (AkJ _ (AhX (AkJ _ (AhX CdZ)))))))).more (by decide)) (by decide) (by decide) (by decide) (some ⟨w32.heap.size,0,none⟩) 1 [5] (K32.o.my.row (some ⟨w32.heap.size,0,none⟩,1,1,[5]) (by simp)) (by decide) (iP (some ⟨g2,0,none⟩) (some ⟨g3,0,none⟩) i21.T i21.e i21.t) (DaZ (K32.o.my.row (some ⟨g2,0,none⟩,2,2,[7,8]) (by simp)) (K32.o.my.row (some ⟨g3,0,none⟩,1,1,[9]) (by simp)) (K32.o.my.row (i21.T,i21.t.length,i21.e,i21.t) (by simp))) HT50.o 111 (by decide) (some ⟨g1,0,none⟩) 20 R20m (K32.o.my.row (some ⟨g1,0,none⟩,20,20,R20m) (by simp)) (by decide) (U) (by rw [HPL.o];exact HUE.o) 111 rfl).mono ?_
 rintro e w33 ⟨B33,c33,rfl,hz⟩
 have K33:Hid (AZ w x A c es (11+2) (5+1) mi (cntM (AbK (k7m BL)) U) [(i21.T,i21.t.length,i21.e,i21.t),(B16,BL.length,c16,BL),(some ⟨g3,0,none⟩,1,1,[9]),(some ⟨g2,0,none⟩,2,2,[7,8]),(some ⟨g1,0,none⟩,20,20,R20m)] [(73,ph,ocC (drp 13) B30 c30),(73,pd,ocC (fwd true) B27 c27),(73,pc,ocC (drp 21) B20 c20),(73,pb,ocC (mdo BL) B16 c16),(73,pa,ocC (drp 17) B9 c9),(46,p,(iP (some ⟨g2,0,none⟩) (some ⟨g3,0,none⟩) i21.T i21.e i21.t).cells)] w33):=η (AZ.sub hz (fun r hr=>.tail _ (.tail _ hr)) (fun r hr=>hr))
 clear hz
 go_wp2_with (first
  | (refine atd 14 rfl ?_;refine AbJ AbW rfl rfl ?_;intro w34 pi hc1 hb1 hx1;have HN14:=η (And.intro hc1 (And.intro hb1 hx1));clear hc1 hb1 hx1)
  | (refine AaV AbW rfl (.tmp 14) (.tmp 103) rfl pi rfl (U) B33 c33 (ocV (U) B33 c33) rfl (by exact rfl) _ (by exact HN14.o.1) (by exact AdJ) ?_;intro w35 hc1 ho1 hs1;have K34:=η (K33.o.new (AeJ HN14.o.2.1 HN14.o.2.2 ho1) hc1 HN14.o.2.2);clear hc1 ho1 hs1 HN14))
 obtain ⟨k8,h8,q8⟩:=k8_all BL U HU1.o
 have H8:=η q8
 rw [←h8] at K34
 clear h8 q8
 refine (AtX mi x k8 w35 (by exact K34.o.my.mb)).mono ?_
 rw [H8.o.1,H8.o.2.1]
 rintro e w36 ⟨rfl,hb⟩
 have K36:=η (K34.o.step hb)
 clear hb
 go_wp2_with fail
 refine (ChX mi x k8 w36 (by exact K36.o.my.mb)).mono ?_
 rintro e w37 ⟨rfl,hb,ho⟩
 have K37:=η (K36.o.mint ho hb rfl (show AcX k8.p=true by rw [H8.o.2.2.2.2.2];rfl))
 clear hb ho
 go_wp2_with fail
 refine (DlX _ x A c es _ _ mi (AuK k8) _ w37 (by exact K37.o.my)).mono ?_
 rintro e w38 ⟨m2,y2,B38,d38,fs,rfl,hb,hy⟩
 have K38:=η (K37.o.step hb)
 have KC:=η (show Blk 71 w38 m2 (AgW (EfV (AuK k8)) y2) from hy.mb)
 have NM:Hid (m2≠mi):=η (fun e=>Nat.lt_irrefl mi (Nat.lt_of_lt_of_le (show Blk 71 w37 mi (AgW (AuK k8) x) from K37.o.my.mb).lt (e ▸ hy.lo)))
 clear hb hy
 go_wp2_with fail
 refine (BdQ mi x (AuK k8) ⟨3,false,1,0⟩ w38 (by exact K38.o.my.mb)).mono ?_
 rw [set_no]
 rintro e w39 ⟨rfl,hb,ho⟩
 have K39:=η (K38.o.mint ho hb rfl (show AcX k8.p=true by rw [H8.o.2.2.2.2.2];rfl))
 have KD:=η (KC.o.oth ho (by simpa using NM.o))
 clear hb ho
 go_wp2_with fail
 refine (AwY mi x (AuK k8) w39 (by exact K39.o.my.mb)).mono ?_
 rw [show (AuK k8).f=1 from H8.o.2.2.1,show (AuK k8).m=2 from H8.o.2.2.2.1,show (AuK k8).d=3 from H8.o.2.2.2.2.1]
 rintro e w40 ⟨rfl,hw⟩
 subst hw
 go_wp2_with fail
 refine (AfW m2 y2 (EfV (AuK k8)) w39 (by exact KD.o) true (act_tick H8.o.2.2.2.2.2)).mono ?_
 rintro e w41 ⟨rfl,hb⟩
 have K41:=η (K39.o.step hb)
 clear hb
 have zpa0:=oc0_ (show Blk 73 w41 pa (ocC (drp 17) B9 c9) from (K41.o.rb (73,pa,ocC (drp 17) B9 c9) (by simp)).1)
 have zpa2:=oc2_ (show Blk 73 w41 pa (ocC (drp 17) B9 c9) from (K41.o.rb (73,pa,ocC (drp 17) B9 c9) (by simp)).1)
 have zpb0:=oc0_ (show Blk 73 w41 pb (ocC (mdo BL) B16 c16) from (K41.o.rb (73,pb,ocC (mdo BL) B16 c16) (by simp)).1)
 have zpb3:=oc3_ (show Blk 73 w41 pb (ocC (mdo BL) B16 c16) from (K41.o.rb (73,pb,ocC (mdo BL) B16 c16) (by simp)).1)
 have zpb4:=oc4_ (show Blk 73 w41 pb (ocC (mdo BL) B16 c16) from (K41.o.rb (73,pb,ocC (mdo BL) B16 c16) (by simp)).1)
 have zpc0:=oc0_ (show Blk 73 w41 pc (ocC (drp 21) B20 c20) from (K41.o.rb (73,pc,ocC (drp 21) B20 c20) (by simp)).1)
 have zpc2:=oc2_ (show Blk 73 w41 pc (ocC (drp 21) B20 c20) from (K41.o.rb (73,pc,ocC (drp 21) B20 c20) (by simp)).1)
 dsimp only [drp,fwd,mdo] at zpa0 zpa2 zpb0 zpb3 zpb4 zpc0 zpc2
 go_wp2_with fail
 have K42:=η (K41.o.lit [7,8] _ 2 EhX rfl n2)
 refine (BpV B16 (some ⟨w41.heap.size,0,none⟩) BL.length c16 2 2 BL [7,8] _ (by exact (K42.o.my.row (B16,BL.length,c16,BL) (by simp)).rb) (by exact (K42.o.my.row (B16,BL.length,c16,BL) (by simp)).cap) HBn.o (by exact (K42.o.my.row (some ⟨w41.heap.size,0,none⟩,2,2,[7,8]) (by simp)).rb) (by exact (K42.o.my.row (some ⟨w41.heap.size,0,none⟩,2,2,[7,8]) (by simp)).cap)).mono ?_
 rw [HT.o.2.2.2.2.1]
 rintro e w43 ⟨rfl,hb⟩
 have K43:=η (K42.o.step hb)
 clear hb zpa0 zpa2 zpb0 zpb3 zpb4 zpc0 zpc2
 have zpd0:=oc0_ (show Blk 73 w43 pd (ocC (fwd true) B27 c27) from (K43.o.rb (73,pd,ocC (fwd true) B27 c27) (by simp)).1)
 have zpd1:=oc1_ (show Blk 73 w43 pd (ocC (fwd true) B27 c27) from (K43.o.rb (73,pd,ocC (fwd true) B27 c27) (by simp)).1)
 have zph0:=oc0_ (show Blk 73 w43 ph (ocC (drp 13) B30 c30) from (K43.o.rb (73,ph,ocC (drp 13) B30 c30) (by simp)).1)
 have zph2:=oc2_ (show Blk 73 w43 ph (ocC (drp 13) B30 c30) from (K43.o.rb (73,ph,ocC (drp 13) B30 c30) (by simp)).1)
 have zpi0:=oc0_ (show Blk 73 w43 pi (ocC U B33 c33) from (K43.o.rb (73,pi,ocC U B33 c33) (by simp)).1)
 rw [HU1.o] at zpi0
 dsimp only [drp,fwd,mdo] at zpd0 zpd1 zph0 zph2
 go_wp2_with fail
 refine (BgW mi x (AuK k8) w43 (by exact K43.o.my.mb)).mono ?_
 rw [show (AuK k8).p=P0m from H8.o.2.2.2.2.2]
 rintro e w44 ⟨he,hb⟩
 have he:e=.returned (.agg #[.int .i64 2,.bool false,.int .i64 1,.int .u64 10]):=he
 subst he
 have KZ:=η (K43.o.bel.trans (hb.mono K43.o.bel.size))
 clear hb
 have q9:=fun W:World=>DkQ (.int .i64 2) (.bool false) (.int .i64 1) (.int .u64 10) W
 go_wp2_with fail
 go_ret
 exact ⟨rfl,KZ.o⟩
