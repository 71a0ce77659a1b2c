import Derived.Test.YthppjgdnibfefaaGreatAesSqB
import Derived.Deep.RegionHeld3
import Derived.Laws.Tables
set_option linter.all false
set_option maxRecDepth 100000
set_option maxHeartbeats 32000000
namespace Go.Proofs.YthppjgdnibfefaaGreat
open Tryz
open Go.RowKit
theorem EiQ (a0 a1 a2 a3:UInt8) (r:Nat):AvQ tableL [a0,a1,a2,a3] r=[subB a1 ^^^ powN 2 r,subB a2,subB a3,subB a0]:=by
 unfold AvQ ArK
 simp only [List.getD_cons_zero,List.getD_cons_succ,List.map_cons,List.map_nil,CuW,List.set_cons_zero]
theorem CtJ (lo b:Nat) (t:YB) (d:Bool) (b0 b1 b2 b3 x0 x1 x2 x3:UInt8) (w:World) (ht:5≤t.length) (h:Tab w lo b t d) (hx:List.map subB [b0,b1,b2,b3]=[x0,x1,x2,x3]) :
  Calls prog 210 #[.agg #[.int .u8 (b0.toNat:Int),.int .u8 (b1.toNat:Int),.int .u8 (b2.toNat:Int),.int .u8 (b3.toNat:Int)],.func (.func 197) #[.pointer (some ⟨b,0,none⟩)] #[]] w
   (UseAt (.agg #[.int .u8 (x0.toNat:Int),.int .u8 (x1.toNat:Int),.int .u8 (x2.toNat:Int),.int .u8 (x3.toNat:Int)]) lo b t d w):=by
 have:=weachS lo b t [b0,b1,b2,b3] d w rfl ht h
 rw [hx] at this
 exact this
structure T7 (b lo:Nat) (t:YB) (d:Bool) (W0 W:World) (g:Nat) (l:YB):Prop where
 ar:Ar W g 0 l
 but:But b W0 W
 tab:Tab W lo b t true
 bel:d=true→Below W0.heap.size W0 W
 new:W0.heap.size≤g
 none4:¬∃ x:UInt8,W.cell? ⟨g,4,none⟩=some (bv x)
section
variable {b lo g:Nat} {t l:YB} {d:Bool} {W0 W:World}
theorem T7.ne (h:T7 b lo t d W0 W g l) (hb:b<W0.heap.size):g≠b:=by have:=h.new;omega
theorem T7.store (h:T7 b lo t d W0 W g l) (hb:b<W0.heap.size) (ht:5≤t.length) (m:YB) (hm:m.length=l.length) (hl:l.length=4):T7 b lo t d W0 (W.setCells g 0 (bvs m)) g m where
 ar:=h.ar.whole m hm
 but:=by
  refine ⟨?_,?_,?_,?_,fun k hk hkb=>?_⟩
  all_goals have:=AaQ (Below.refl g W) (Nat.le_refl g) 0 (bvs m)
  ·exact this.os.trans h.but.os
  ·exact this.tape.trans h.but.tape
  ·exact this.output.trans h.but.output
  ·exact Nat.le_trans h.but.size this.size
  ·exact (AcY g k (by have:=h.new;omega) _ _ _).trans (h.but.block k hk hkb)
 tab:=h.tab.apart ht h.none4 (h.ne hb) (fun q hq=>AcY g q hq _ _ _)
 bel:=fun hd=>AaQ (h.bel hd) h.new _ _
 new:=h.new
 none4:=by
  rw [World.cell?_setCells_out g (bvs m) 0 W ⟨g,4,none⟩ (fun _ _=>by rw [AaY];right;show 0+m.length≤4;omega)];exact h.none4
theorem T7.set (h:T7 b lo t d W0 W g l) (hb:b<W0.heap.size) (ht:5≤t.length) (k:Nat) (hk:k<l.length) (hl:l.length=4) (x:UInt8):T7 b lo t d W0 (W.setCell ⟨g,k,none⟩ (bv x)) g (l.set k x) where
 ar:=by have:=h.ar.set hk x;rw [Nat.zero_add] at this;exact this
 but:=h.but.setCell (.inr h.new) _
 tab:=h.tab.apart ht h.none4 (h.ne hb) (fun q hq=>Below.heap_setCell W _ _ q hq)
 bel:=fun hd=>(h.bel hd).setCell h.new _
 new:=h.new
 none4:=by
  rw [World.cell?_setCell_other _ _ _ _ (by intro e;injection e with _ e3;omega)];exact h.none4
theorem T7.below {W':World} (h:T7 b lo t d W0 W g l) (hb:Below W.heap.size W W') (hl:l.length=4):T7 b lo t d W0 W' g l where
 ar:=h.ar.below hb (h.ar.lt (by omega))
 but:=h.but.trans (But.of_below hb)
 tab:=h.tab.below hb
 bel:=fun hd=>(h.bel hd).trans (hb.mono h.but.size)
 new:=h.new
 none4:=by rw [hb.cell (p:=⟨g,4,none⟩) (h.ar.lt (by omega))];exact h.none4
theorem T7.fresh (hB:But b W0 W) (hT:Tab W lo b t true) (hP:d=true→Below W0.heap.size W0 W) (hl:l.length=4) (T:TypeId):T7 b lo t d W0 (W.alloc (.cells (bvs l).toArray T)) W.heap.size l where
 ar:=Ar.new W l T
 but:=hB.alloc _
 tab:=hT.below (AaK W _)
 bel:=fun hd=>(hP hd).alloc hB.size _
 new:=hB.size
 none4:=by rw [World.cell?_alloc_at _ _ _ _ rfl];simp [bvs,hl]
theorem T7.after (hA:Ar W W0.heap.size 0 l) (hB:But b W0 W) (hT:Tab W lo b t true) (hP:d=true→Below W0.heap.size W0 W) (h4:¬∃ x:UInt8,W.cell? ⟨W0.heap.size,4,none⟩=some (bv x)):T7 b lo t d W0 W W0.heap.size l:=⟨hA,hB,hT,hP,Nat.le_refl _,h4⟩
end
theorem DxK {W w1:World} {b:Nat} (hb:b<W.heap.size) (T:TypeId) (h:But b (W.alloc (.cells #[.int .u8 0,.int .u8 0,.int .u8 0,.int .u8 0] T)).drew w1):Ar w1 W.heap.size 0 [0,0,0,0]∧¬∃ x:UInt8,w1.cell? ⟨W.heap.size,4,none⟩=some (bv x):=by
 have ha:Ar (W.alloc (.cells #[.int .u8 0,.int .u8 0,.int .u8 0,.int .u8 0] T)).drew W.heap.size 0 [0,0,0,0]:=(Ar.new W [0,0,0,0] T).drew
 refine ⟨ha.block (h.block _ (by simp) (by omega)),?_⟩
 rw [h.cell (p:=⟨W.heap.size,4,none⟩) (by simp) (by show W.heap.size≠b;omega),World.cell?_drew,World.cell?_alloc_at _ _ _ _ rfl]
 simp
theorem turn_any (cb lo b:Nat) (t l:YB) (d:Bool) (n:Nat) (w:World) (hl:l.length=4) (ht:5≤t.length) (hn:1≤n∧n≤10) (hcb:cb≠b) (hc:w.cell? ⟨cb,0,none⟩=some (.pointer (some ⟨b,0,none⟩))) (h:Tab w lo b t d) :
  Calls prog 192 #[.pointer (some ⟨cb,0,none⟩),AV l,.int .i64 (n:Int)] w (UseAt (AV (AvQ tableL l (n - 1))) lo b t d w):=by
 obtain ⟨a0,a1,a2,a3,rfl⟩:=BeQ l hl
 rw [EiQ]
 obtain ⟨s0,HS0⟩:∃ s,Hid (s=subB a1):=⟨_,η rfl⟩
 obtain ⟨s1,HS1⟩:∃ s,Hid (s=subB a2):=⟨_,η rfl⟩
 obtain ⟨s2,HS2⟩:∃ s,Hid (s=subB a3):=⟨_,η rfl⟩
 obtain ⟨s3,HS3⟩:∃ s,Hid (s=subB a0):=⟨_,η rfl⟩
 obtain ⟨r,HR⟩:∃ r:Nat,Hid (r=n - 1):=⟨_,η rfl⟩
 obtain ⟨z,HZ⟩:∃ z,Hid (z=powN 2 r):=⟨_,η rfl⟩
 obtain ⟨y,HY⟩:∃ y,Hid (y=s0 ^^^ z):=⟨_,η rfl⟩
 rw [←HS0.o,←HS1.o,←HS2.o,←HS3.o,←HR.o,←HZ.o,←HY.o]
 have HM:Hid (List.map subB [a1,a2,a3,a0]=[s0,s1,s2,s3]):=η (by rw [HS0.o,HS1.o,HS2.o,HS3.o];rfl)
 obtain ⟨R,HRR⟩:∃ R,Hid (R=AV [y,s1,s2,s3]):=⟨_,η rfl⟩
 rw [←HRR.o]
 have hcw:=World.block_lt_of_cell? w _ hc
 have hbw:=h.lt
 have HT5:=η ht
 obtain ⟨G,HG⟩:∃ G,Hid (G=w.heap.size):=⟨_,η rfl⟩
 obtain ⟨W0,HW0⟩:∃ W0,Hid (W0=(w.alloc (.cells #[.int .u8 (a0.toNat:Int),.int .u8 (a1.toNat:Int),.int .u8 (a2.toNat:Int),.int .u8 (a3.toNat:Int)] 236)).alloc (.cells #[.int .u8 0,.int .u8 0,.int .u8 0,.int .u8 0] 236)):=⟨_,η rfl⟩
 have hbel:Below w.heap.size w W0:=by rw [HW0.o];exact (AaK w _).alloc (by simp) _
 have HBEL:=η hbel
 have HTB:Hid (Tab W0 lo b t d):=η (h.below hbel)
 have ha0:Ar W0 G 0 [a0,a1,a2,a3]:=by
  rw [HW0.o,HG.o];exact (Ar.new w [a0,a1,a2,a3] _).alloc (by simp) _
 have HA1:Hid (Ar W0 (G+1) 0 [0,0,0,0]):=η (by
  rw [HW0.o,HG.o];exact Ar.new1 _ _ (by simp) [0,0,0,0] _)
 have HNO1:Hid (¬∃ x:UInt8,W0.cell? ⟨G+1,4,none⟩=some (bv x)):=η (by
  rw [HW0.o,HG.o,World.cell?_alloc_at _ _ _ _ (by simp)]
  simp)
 have HSZ:Hid (W0.heap.size=G+2):=η (by rw [HW0.o,HG.o];simp)
 have cc:W0.cell? ⟨cb,0,none⟩=some (.pointer (some ⟨b,0,none⟩)):=(hbel.cell (p:=⟨cb,0,none⟩) hcw).trans hc
 obtain ⟨c0,c1,c2,c3⟩:=ha0.four0
 have HGB:Hid (b<G∧cb<G):=η (by rw [HG.o];exact ⟨hbw,hcw⟩)
 have HCB:=η hcb
 have KEEP:Hid (∀ W:World,But b W0 W→W.cell? ⟨cb,0,none⟩=some (.pointer (some ⟨b,0,none⟩))∧W.cell? ⟨G,0,none⟩=some (.int .u8 (a0.toNat:Int))∧W.cell? ⟨G,1,none⟩=some (.int .u8 (a1.toNat:Int))∧W.cell? ⟨G,2,none⟩=some (.int .u8 (a2.toNat:Int))∧W.cell? ⟨G,3,none⟩=some (.int .u8 (a3.toNat:Int))):=η (fun W hW=>by
  have hg:=HGB.o
  have hs:=HSZ.o
  have q:∀ j,W.cell? ⟨G,j,none⟩=W0.cell? ⟨G,j,none⟩:=fun j=>hW.cell (p:=⟨G,j,none⟩) (by show G<_;omega) (by show G≠b;omega)
  exact ⟨(hW.cell (p:=⟨cb,0,none⟩) (by show cb<_;omega) HCB.o).trans cc,(q 0).trans c0,(q 1).trans c1,(q 2).trans c2,(q 3).trans c3⟩)
 clear hl ht hcb hc h hcw hbw hbel ha0
 unfold UseAt
 show Calls _ _ #[_,.agg #[.int .u8 (a0.toNat:Int),.int .u8 (a1.toNat:Int),.int .u8 (a2.toNat:Int),.int .u8 (a3.toNat:Int)],_] _ _
 go_enter func192,ntmps192
 go_wp2_with fail
 rw [←HW0.o,←HG.o]
 have HBW0:Hid (b<W0.heap.size):=η (by have:=HGB.o;have:=HSZ.o;omega)
 have n0:W0.heap.size≠cb:=World.new_ne W0 ⟨cb,0,none⟩ cc
 have n1:W0.heap.size≠G:=World.new_ne W0 ⟨G,0,none⟩ c0
 go_region_held3 (fun w'=>w'.cell? ⟨cb,0,none⟩=some (.pointer (some ⟨b,0,none⟩))∧w'.cell? ⟨G,0,none⟩=some (.int .u8 (a0.toNat:Int))∧w'.cell? ⟨G,1,none⟩=some (.int .u8 (a1.toNat:Int))∧w'.cell? ⟨G,2,none⟩=some (.int .u8 (a2.toNat:Int))∧w'.cell? ⟨G,3,none⟩=some (.int .u8 (a3.toNat:Int))) (go_keep) (first
  | (go_at_call 210;refine (CtJ lo b t d a1 a2 a3 a0 s0 s1 s2 s3 _ (by exact HT5.o) (by exact HTB.o) (by exact HM.o)).mono ?_;rintro e w1 ⟨rfl,hb1,ht1,hp1⟩;have HB1:Hid (But b W0 w1):=η ((But.refl b W0).drew.trans hb1);have HT1:=η ht1;have HP1:Hid (d=true→Below W0.heap.size W0 w1):=η (fun hd=>(Below.refl _ W0).drew.trans (hp1 hd));clear hb1 ht1 hp1;obtain ⟨k0,k1,k2,k3,k4⟩:=KEEP.o w1 HB1.o)
  | (go_at_call 210;refine (CtJ lo b t d a1 a2 a3 a0 s0 s1 s2 s3 _ (by exact HT5.o) (by exact HTB.o.below (AaK W0 _).drew) (by exact HM.o)).mono ?_;rintro e w1 ⟨rfl,hb1,ht1,hp1⟩;have HZ1:Hid (Ar w1 W0.heap.size 0 [0,0,0,0]∧¬∃ x:UInt8,w1.cell? ⟨W0.heap.size,4,none⟩=some (bv x)):=η (DxK HBW0.o _ hb1);have HB1:Hid (But b W0 w1):=η (((But.refl b W0).alloc _).drew.trans hb1);have HT1:=η ht1;have HP1:Hid (d=true→Below W0.heap.size W0 w1):=η (fun hd=>(AaK W0 _).drew.trans ((hp1 hd).mono (by simp)));clear hb1 ht1 hp1;obtain ⟨k0,k1,k2,k3,k4⟩:=KEEP.o w1 HB1.o;obtain ⟨u0,u1,u2,u3⟩:=HZ1.o.1.four0;obtain ⟨f0,f1,f2,f3⟩:=HZ1.o.1.fours0 rfl))
 all_goals
  obtain ⟨WX,g7,HWX,Hg7,HF⟩:∃ WX g7,Hid (WX=w1.alloc (.cells #[.int .u8 (s0.toNat:Int),.int .u8 (s1.toNat:Int),.int .u8 (s2.toNat:Int),.int .u8 (s3.toNat:Int)] 236))∧Hid (g7=w1.heap.size)∧Hid (T7 b lo t d W0 WX g7 [s0,s1,s2,s3]):=⟨_,_,η rfl,η rfl,η (T7.fresh (l:=[s0,s1,s2,s3]) HB1.o HT1.o HP1.o rfl 236)⟩
  first
   | (rw [←HWX.o,←Hg7.o];clear HWX Hg7)
   | (clear HWX Hg7 HF
      obtain ⟨WX,g7,HWX,Hg7,HF⟩:∃ WX g7,Hid (WX=(((w1.setCell ⟨W0.heap.size,0,none⟩ (.int .u8 (s0.toNat:Int))).setCell ⟨W0.heap.size,1,none⟩ (.int .u8 (s1.toNat:Int))).setCell ⟨W0.heap.size,2,none⟩ (.int .u8 (s2.toNat:Int))).setCell ⟨W0.heap.size,3,none⟩ (.int .u8 (s3.toNat:Int)))∧Hid (g7=W0.heap.size)∧Hid (T7 b lo t d W0 WX g7 [s0,s1,s2,s3]) :=
      ⟨_,_,η rfl,η rfl,η ((T7.after HZ1.o.1 HB1.o HT1.o HP1.o HZ1.o.2).store HBW0.o HT5.o [s0,s1,s2,s3] rfl rfl)⟩
      rw [←HWX.o,←Hg7.o]
      clear HWX Hg7 HZ1 u0 u1 u2 u3 f0 f1 f2 f3)
  clear HB1 HT1 HP1 k0 k1 k2 k3 k4
 all_goals
  have HWZ:Hid (IntKind.u64.wrap (IntKind.i64.wrap ((n:Int) - 1))=(r:Int)):=η (by
   rw [IntWalk.i64_in _ (by omega),IntKind.wrap_u64,HR.o]
   omega)
  have cg:=HF.o.ar.four0.1
  have fg:=(HF.o.ar.fours0 rfl).1
  have hgw:=HF.o.ar.lt (by simp)
  have hxi:=AeZ s0
  have hzi:=AeZ z
  go_wp2_with fail
  go_region_with (first
   | (go_at_call 212;rw [HWZ.o];refine (pow_lit 2 (r:Int) (z.toNat:Int) 2 r rfl rfl (by have:=HR.o;omega) (by rw [HZ.o]) _).mono ?_;rintro e w3 ⟨rfl,rfl⟩)
   | (go_at_call 211;refine (sum_lit (y.toNat:Int) _ 2 2 _ [s0,z] _ (by exact RB.lit _ [s0,z] _ 2 _ rfl rfl rfl) (by omega) (by rw [HY.o];simp [sumL])).mono ?_;rintro e w3 ⟨rfl,rfl⟩))
 all_goals
  obtain ⟨WY,HWY,HFY⟩:∃ WY,Hid (WY=((WX.setCell ⟨g7,0,none⟩ (.int .u8 (y.toNat:Int))).alloc (.cells #[.int .u8 (s0.toNat:Int),.int .u8 (z.toNat:Int)] 5)).drew)∧Hid (T7 b lo t d W0 WY g7 [y,s1,s2,s3]) :=
   ⟨_,η rfl,η ((HF.o.set HBW0.o HT5.o 0 (by simp) rfl y).below ((AaK _ _).drew) rfl)⟩
  rw [←HWY.o]
  have hG1:G+1<W0.heap.size:=by rw [HSZ.o];omega
  have HRS:Hid (T7 b lo t d w WY (G+1) [0,0,0,0]):=Lib.hid
   ⟨HA1.o.block (HFY.o.but.block (G+1) hG1 (by have:=HGB.o;omega)),(But.of_below HBEL.o).trans HFY.o.but,HFY.o.tab,fun hd=>HBEL.o.trans ((HFY.o.bel hd).mono HBEL.o.size),by rw [HG.o];omega,by
    rw [HFY.o.but.cell (p:=⟨G+1,4,none⟩) hG1 (by have:=HGB.o;show G+1≠b;omega)];exact HNO1.o⟩
  obtain ⟨m0,m1,m2,m3⟩:=HFY.o.ar.four0
  obtain ⟨u0,u1,u2,u3⟩:=HRS.o.ar.four0
  obtain ⟨f0,f1,f2,f3⟩:=HRS.o.ar.fours0 rfl
  clear cg fg hgw hxi hzi
  go_wp2_with fail
  have HE:=HRS.o.store (by have:=HGB.o;have:=HG.o;omega) HT5.o [y,s1,s2,s3] rfl rfl
  exact bodyPost_ret (v:=R) (by rw [HRR.o];exact ApZ rfl _ _ (G+1) 4 _ [y,s1,s2,s3] rfl HE.ar BcV AqZ) rfl ⟨rfl,HE.but,HE.tab,HE.bel⟩
theorem CsK (a b:YB):xorL a b=xorL b a:=by
 unfold xorL
 rw [List.zipWith_comm]
 congr 1
 funext x y
 exact UInt8.xor_comm _ _
def wsW (key t:YB) (j:Nat):List UInt8:=(AcV key t 40).getD j []
theorem BiV (key t:YB) (hk:key.length=16) (j:Nat) (hj:j<44):(wsW key t j).length=4:=BkX key t hk j hj
theorem BcQ (key t:YB):∀ (m k j:Nat),j<k+4→(AcV key t (k+m)).getD j []=(AcV key t k).getD j []
 | 0,k,j,h=>rfl
 | m+1,k,j,h=>by
  rw [show k+(m+1)=(k+m)+1 by omega,AqK,List.getD_eq_getElem?_getD,List.getElem?_append_left (by rw [ApJ];omega),←List.getD_eq_getElem?_getD];exact BcQ key t m k j h
theorem wsW_next (key t:YB) (k:Nat) (hk:k<40):wsW key t (k+4)=xorL (wsW key t k) (BzJ t (wsW key t (k+3)) (k+4)):=by
 have h1:=BcQ key t (39 - k) (k+1) (k+4) (by omega)
 have h2:=BcQ key t (40 - k) k k (by omega)
 have h3:=BcQ key t (40 - k) k (k+3) (by omega)
 rw [show k+1+(39 - k)=40 by omega] at h1
 rw [show k+(40 - k)=40 by omega] at h2 h3
 unfold wsW
 rw [h1,h2,h3,AqK,List.getD_eq_getElem?_getD,List.getElem?_append_right (by rw [ApJ];omega),ApJ]
 simp
def ArX (key t:YB) (n i:Nat):List UInt8:=if i=0 then AvQ t (wsW key t (4*n - 1)) (n - 1) else wsW key t (4*n+i - 1)
theorem EdV (key t:YB) (n i:Nat) (hn:1≤n∧n≤10) (hi:i<4):xorL (ArX key t n i) (wsW key t (4*(n - 1)+i))=wsW key t (4*n+i)∧ArX key t n (i+1)=wsW key t (4*n+i):=by
 refine ⟨?_,?_⟩
 ·have h:=wsW_next key t (4*(n - 1)+i) (by omega)
  rw [show 4*(n - 1)+i+4=4*n+i by omega,show 4*(n - 1)+i+3=4*n+i - 1 by omega] at h
  have e:ArX key t n i=BzJ t (wsW key t (4*n+i - 1)) (4*n+i):=by
   unfold ArX BzJ;by_cases h0:i=0
   ·rw [if_pos h0,if_pos (by omega),h0,show (4*n+0) / 4 - 1=n - 1 by omega,show 4*n+0 - 1=4*n - 1 by omega]
   ·rw [if_neg h0,if_neg (by omega)]
  rw [h,e,CsK]
 ·unfold ArX
  rw [if_neg (by omega),show 4*n+(i+1) - 1=4*n+i by omega]
def DcX (key t:YB):Nat→List UInt8 | 0=>[] | m+1=>DcX key t m++wsW key t m
def AeW (key t:YB) (m:Nat):List UInt8:=DcX key t m++List.replicate (176 - 4*m) 0
theorem BeW (key t:YB) (hk:key.length=16):∀ m,m≤44→(DcX key t m).length=4*m
 | 0,_=>rfl
 | m+1,h=>by rw [DcX,List.length_append,BeW key t hk m (by omega),BiV key t hk m (by omega)];omega
theorem CcQ (key t:YB) (hk:key.length=16) (m:Nat) (hm:m≤44):(AeW key t m).length=176:=by
 unfold AeW
 rw [List.length_append,BeW key t hk m hm,List.length_replicate];omega
theorem DjY (key t:YB) (hk:key.length=16) (m:Nat) (hm:m<44):layL (AeW key t m) (4*m) (wsW key t m)=AeW key t (m+1):=by
 have hl:=BeW key t hk m (by omega)
 unfold layL AeW
 rw [BiV key t hk m hm,List.take_left' hl,List.drop_append,hl,List.drop_eq_nil_of_le (by omega),List.nil_append,List.drop_replicate,DcX,List.append_assoc]
 congr 3;omega
theorem DcW (key t:YB) (hk:key.length=16) (j:Nat):∀ m,m≤44→j<m→cutL (DcX key t m) (4*j) 4=wsW key t j
 | 0,_,h=>by omega
 | m+1,hm,h=>by
  have hl:=BeW key t hk m (by omega);unfold cutL;rw [DcX];by_cases e:j=m
  ·subst e
   rw [List.drop_left' hl,List.take_of_length_le (by rw [BiV key t hk j (by omega)];omega)]
  ·have ih:=DcW key t hk j m (by omega) (by omega)
   unfold cutL at ih;rw [List.drop_append_of_le_length (by omega),List.take_append_of_le_length (by rw [List.length_drop];omega),ih]
theorem BuV (key t:YB) (hk:key.length=16) (j m:Nat) (hm:m≤44) (hj:j<m):cutL (AeW key t m) (4*j) 4=wsW key t j:=by
 have hl:=BeW key t hk m hm
 have ih:=DcW key t hk j m hm hj
 unfold cutL AeW at *
 rw [List.drop_append_of_le_length (by omega),List.take_append_of_le_length (by rw [List.length_drop];omega),ih]
theorem AtZ (l:YB) (i a b:Nat) (h:i+a≤l.length):cutL l i (a+b)=cutL l i a++cutL l (i+a) b:=by
 unfold cutL
 rw [List.take_add,List.drop_drop]
theorem BaX (key t:YB) (hk:key.length=16) (i m:Nat) (hm:m≤44) (hi:4*i+4≤m):cutL (AeW key t m) (16*i) 16=keyF key t i:=by
 have hl:=CcQ key t hk m hm
 have e:∀ j,j<m→cutL (AeW key t m) (4*j) 4=wsW key t j:=fun j hj=>BuV key t hk j m hm hj
 rw [show 16=4+(4+(4+4)) from rfl,AtZ _ _ 4 _ (by omega),AtZ _ _ 4 _ (by omega),AtZ _ _ 4 _ (by omega),
  show (4+(4+(4+4)))*i=4*(4*i) by omega,show 4*(4*i)+4=4*(4*i+1) by omega,show 4*(4*i+1)+4=4*(4*i+2) by omega,show 4*(4*i+2)+4=4*(4*i+3) by omega,
  e _ (by omega),e _ (by omega),e _ (by omega),e _ (by omega)]
 unfold keyF wsW
 simp only [List.append_assoc]
theorem DtY (key t:YB) (hk:key.length=16) (i j:Nat) (hi:i<11) (hj:j<4):cutL (keyF key t i) (4*j) 4=wsW key t (4*i+j):=by
 have h:=BaX key t hk i 44 (by omega) (by omega)
 have hl:=CcQ key t hk 44 (by omega)
 rw [←h]
 have h2:=BuV key t hk (4*i+j) 44 (by omega) (by omega)
 rw [←h2]
 unfold cutL
 rw [List.drop_take,List.take_take,List.drop_drop,show min 4 (16 - 4*j)=4 by omega,show 16*i+4*j=4*(4*i+j) by omega]
def EdW (key t:YB):List UInt8:=AeW key t 44
theorem CpQ (key t:YB) (hk:key.length=16):layL (List.replicate 176 0) 0 key=AeW key t 4:=by
 have w:∀ j,j<4→wsW key t j=cutL key (4*j) 4:=fun j hj=>by
  have h:=BcQ key t 40 0 j (by omega);unfold wsW;rw [show 0+40=40 from rfl] at h;rw [h];simp only [AcV,AkX,cutL,List.getD_eq_getElem?_getD];simp only [List.getElem?_map,List.getElem?_range hj,Option.map_some,Option.getD_some];rw [List.drop_take,show 4*j+4 - 4*j=4 by omega]
 unfold layL AeW
 simp only [DcX,List.nil_append,w 0 (by omega),w 1 (by omega),w 2 (by omega),w 3 (by omega)]
 have hs:cutL key 0 16=key:=by unfold cutL;rw [List.drop_zero,List.take_of_length_le (by omega)]
 have h4:cutL key (4*0) 4++cutL key (4*1) 4++cutL key (4*2) 4++cutL key (4*3) 4=key:=by
  rw [show (16:Nat)=4+(4+(4+4)) from rfl,AtZ _ _ 4 _ (by omega),AtZ _ _ 4 _ (by omega),AtZ _ _ 4 _ (by omega)] at hs;simpa [List.append_assoc] using hs
 rw [h4,List.take_zero,List.nil_append,hk,List.drop_replicate]
open Go.RowKit
theorem Tab.apartJ {w w':World} {lo b:Nat} {l:YB} {d:Bool} (h:Tab w lo b l d) (hl:5≤l.length) {g:Nat} (j:Nat) (hj:j<5) (hg:¬∃ x:UInt8,w.cell? ⟨g,j,none⟩=some (bv x)) (hb:g≠b) (ho:∀ k,k<w.heap.size→k≠g→w'.heap[k]?=w.heap[k]?):Tab w' lo b l d:=by
 obtain ⟨f,hlo,hc,⟨A,n,c,e0,hn,⟨hll,hby⟩,htm⟩,h1,h2,h4,hd⟩:=h
 have keep:∀ q m F,0<m→q≠g→Cells w q m F→Cells w' q m F:=fun q m F hm hq hcl k hk=>⟨(World.cell?_of_block (ho q (hcl.lt hm) hq)).trans (hcl k hk).1,(World.frozen?_of_block (ho q (hcl.lt hm) hq)).trans (hcl k hk).2⟩
 refine ⟨f,hlo,keep b 773 f (by omega) (fun e=>hb e.symm) hc,⟨A,n,c,e0,hn,⟨hll,fun hn0=>?_⟩,fun y hy=>?_⟩,h1,h2,h4,hd⟩
 ·obtain ⟨q,q1,q2,q3,q4⟩:=hby hn0
  refine ⟨q,q1,q2,q3,keep q n _ hn0 (fun e=>hg ⟨l.getD j 0,?_⟩) q4⟩;have:=q4.cell (show j<n by omega);rw [e] at this;exact this
 ·rcases htm y hy with h | ⟨p,p1,p2,p3,p4⟩
  ·exact .inl h
  ·refine .inr ⟨p,p1,p2,p3,keep p 256 _ (by omega) (fun e=>hg ⟨mulB (UInt8.ofNat y) (UInt8.ofNat j),?_⟩) p4⟩
   have:=p4.cell (show j<256 by omega);rw [e] at this;rw [this];unfold BdV;rw [if_pos (by omega)]
structure Cf (cb b:Nat) (v:Value) (W:World) (l:YB):Prop where
 ptr:W.cell? ⟨cb,0,none⟩=some (.pointer (some ⟨b,0,none⟩))
 ar:Ar W cb 1 l
 cnt:W.cell? ⟨cb,177,none⟩=some v
 free:W.frozen? ⟨cb,177,none⟩=false
 ne:cb≠b
 len:l.length=176
section
variable {cb b lo:Nat} {v:Value} {W W':World} {l:YB}
theorem Cf.lt (h:Cf cb b v W l):cb<W.heap.size:=World.block_lt_of_cell? W _ h.ptr
theorem Cf.block (h:Cf cb b v W l) (hb:W'.heap[cb]?=W.heap[cb]?):Cf cb b v W' l :=
 ⟨(World.cell?_of_block hb).trans h.ptr,h.ar.block hb,(World.cell?_of_block hb).trans h.cnt,(World.frozen?_of_block hb).trans h.free,h.ne,h.len⟩
theorem Cf.but (h:Cf cb b v W l) (hb:But b W W'):Cf cb b v W' l:=h.block (hb.block cb h.lt h.ne)
theorem Cf.below (h:Cf cb b v W l) (hb:Below W.heap.size W W'):Cf cb b v W' l:=h.block (hb.block cb h.lt)
theorem Cf.drew (h:Cf cb b v W l):Cf cb b v W.drew l:=h.block rfl
theorem Cf.lay (h:Cf cb b v W l) (i:Nat) (m:YB) (hm:i+m.length≤176):Cf cb b v (W.setCells cb (1+i) (bvs m)) (layL l i m) where
 ptr:=by
  rw [World.cell?_setCells_out cb (bvs m) (1+i) W ⟨cb,0,none⟩ (fun _ _=>by left;show 0<1+i;omega)];exact h.ptr
 ar:=h.ar.lay i m (by rw [h.len];exact hm)
 cnt:=by
  rw [World.cell?_setCells_out cb (bvs m) (1+i) W ⟨cb,177,none⟩ (fun _ _=>by rw [AaY];right;show 1+i+m.length≤177;omega)];exact h.cnt
 free:=by rw [World.frozen?_setCells];exact h.free
 ne:=h.ne
 len:=by rw [DtW _ _ _ (by rw [h.len];exact hm)];exact h.len
theorem Cf.count (h:Cf cb b v W l) (u:Value):Cf cb b u (W.setCell ⟨cb,177,none⟩ u) l where
 ptr:=by rw [World.cell?_setCell_other _ _ _ _ (by simp)];exact h.ptr
 ar:=Ar.mk (fun j x hx=>by
   have hj:=(List.getElem?_eq_some_iff.1 hx).1
   have:=h.len
   rw [World.cell?_setCell_other _ _ _ _ (by intro e;injection e with _ e3;omega)];exact h.ar.cell hx) (fun j hj=>by simp [h.ar.free hj])
 cnt:=World.cell?_setCell_same W _ u h.cnt
 free:=by simp [h.free]
 ne:=h.ne
 len:=h.len
theorem Cf.nob (h:Cf cb b v W l):¬∃ x:UInt8,W.cell? ⟨cb,0,none⟩=some (bv x):=fun ⟨x,hx⟩=>by
 rw [h.ptr] at hx
 injection hx with hx
 unfold bv at hx
 injection hx
end
open Go.RowKit
noncomputable def Rd (w:World) (b o:Nat):Option (List Value) :=
 if ∀ j,j<16→(w.cell? ⟨b,o+j,none⟩).isSome=true then some ((List.range 16).map fun j=>(w.cell? ⟨b,o+j,none⟩).getD undef) else none
noncomputable def DtQ (w:World) (b o:Nat):Result Value:=(Instr.loadAt 238 (.pointer (some ⟨b,o,none⟩))).run prog w
theorem Rd_range {w:World} {b o:Nat} {cs:List Value} (h:Rd w b o=some cs):w.rangeAt b o cs∧cs.length=16:=by
 unfold Rd at h
 split at h
 ·rename_i hs
  injection h with h;subst h;refine ⟨fun j v hv=>?_,by simp⟩;have hj:j<16:=by have:=(List.getElem?_eq_some_iff.1 hv).1;simpa using this
  simp only [List.getElem?_map,List.getElem?_range hj,Option.map_some] at hv;injection hv with hv;obtain ⟨u,hu⟩:=Option.isSome_iff_exists.1 (hs j hj);rw [hu] at hv ⊢;simpa using hv
 ·cases h
theorem Rd_of {w:World} {b o:Nat} {l:YB} (h:Ar w b o l) (hl:l.length=16):Rd w b o=some (bvs l):=by
 have hc:∀ j,j<16→w.cell? ⟨b,o+j,none⟩=some (bv (l.getD j 0)):=fun j hj=>by
  have:l[j]?=some (l.getD j 0):=by simp [List.getD,hl,hj]
  exact h.cell this
 unfold Rd
 rw [if_pos (fun j hj=>by rw [hc j hj];rfl)]
 congr 1
 apply List.ext_getElem
 ·simp [AaY,hl]
 ·intro j h1 h2
  have hj:j<16:=by simpa using h1
  simp only [List.getElem_map,List.getElem_range];rw [hc j hj];simp [bvs,List.getD,hl,hj]
theorem ld_sq (w:World) (b o:Nat):(Instr.loadAt 238 (.pointer (some ⟨b,o,none⟩))).run prog w=(Rd w b o).elim (DtQ w b o) (fun cs=>.ok (.agg cs.toArray) w):=by
 rcases h:Rd w b o with _ | cs
 ·rw [Option.elim_none,DtQ]
 ·obtain ⟨h1,h2⟩:=Rd_range h
  rw [Option.elim_some];exact run_loadAt_mid (P:=prog) w b o _ cs _ h1 BbX rfl (by rw [h2];exact ArJ)
theorem st_sq (w:World) (b o:Nat) (l:YB) (ht:w.there b o 16) (hl:l.length=16):(Instr.storeAt 238 (.pointer (some ⟨b,o,none⟩)) (.agg (bvs l).toArray)).run prog w=.ok () (w.setCells b o (bvs l)):=by
 have:=run_storeAt_mid (P:=prog) w b o 238 (bvs l).toArray (by simpa [AaY,hl] using ht) (by simpa [AaY,hl] using ArJ) (CrY l)
 simpa using this
noncomputable def ldN (v:Value) (w:World):Result Next:=Sem.run prog (do let r ←Instr.loadAt 238 v;pure (Next.value r)) w
noncomputable def stN (v x:Value) (w:World):Result Next:=Sem.run prog (do Instr.storeAt 238 v x;pure Next.skip) w
theorem ex_ld (ev:Operand→Value) (x:Operand) (d:Option Tmp) (ty:TypeId) (ps:String) (af:Array Edge) (g:Option (Nat×Bool)) (w:World):(execOp ev ⟨d,.load 238 x,ty,ps,af,g⟩).run prog w=ldN (ev x) w:=rfl
theorem ex_st (ev:Operand→Value) (x y:Operand) (d:Option Tmp) (ty:TypeId) (ps:String) (af:Array Edge) (g:Option (Nat×Bool)) (w:World):(execOp ev ⟨d,.store 238 x y,ty,ps,af,g⟩).run prog w=stN (ev x) (ev y) w:=rfl
theorem ldN_ptr (w:World) (b o:Nat):ldN (.pointer (some ⟨b,o,none⟩)) w=(Rd w b o).elim (ldN (.pointer (some ⟨b,o,none⟩)) w) (fun cs=>.ok (.value (.agg cs.toArray)) w):=by
 rcases h:Rd w b o with _ | cs
 ·rw [Option.elim_none]
 ·rw [Option.elim_some]
  have:=ld_sq w b o;rw [h,Option.elim_some] at this;unfold ldN;simp only [Sem.run_bind,this,Result.andThen_ok,Sem.run_pure]
theorem stN_ptr (w:World) (b o:Nat) (l:YB) (ht:w.there b o 16) (hl:l.length=16):stN (.pointer (some ⟨b,o,none⟩)) (AV l) w=.ok .skip (w.setCells b o (bvs l)):=by
 unfold stN AV
 simp only [Sem.run_bind,st_sq w b o l ht hl,Result.andThen_ok,Sem.run_pure]
theorem BuQ (w:World) (b o:Nat) (l:YB) (h:Ar w b o l) (hl:l.length=16):ldN (.pointer (some ⟨b,o,none⟩)) w=.ok (.value (AV l)) w:=by
 rw [ldN_ptr,Rd_of h hl,Option.elim_some];rfl
theorem Ar.there16 {w:World} {b o:Nat} {l:YB} (h:Ar w b o l) (hl:l.length=16):w.there b o 16:=by have:=h.2;rw [AaY,hl] at this;exact this
noncomputable def ldW (v:Value) (w:World):Result Next:=Sem.run prog (do let r ←Instr.loadAt 236 v;pure (Next.value r)) w
noncomputable def stW (v x:Value) (w:World):Result Next:=Sem.run prog (do Instr.storeAt 236 v x;pure Next.skip) w
theorem ex_ldW (ev:Operand→Value) (x:Operand) (d:Option Tmp) (ty:TypeId) (ps:String) (af:Array Edge) (g:Option (Nat×Bool)) (w:World):(execOp ev ⟨d,.load 236 x,ty,ps,af,g⟩).run prog w=ldW (ev x) w:=rfl
theorem ex_stW (ev:Operand→Value) (x y:Operand) (d:Option Tmp) (ty:TypeId) (ps:String) (af:Array Edge) (g:Option (Nat×Bool)) (w:World):(execOp ev ⟨d,.store 236 x y,ty,ps,af,g⟩).run prog w=stW (ev x) (ev y) w:=rfl
theorem ldW_ar (w:World) (b o:Nat) (l:YB) (h:Ar w b o l) (hl:l.length=4):ldW (.pointer (some ⟨b,o,none⟩)) w=.ok (.value (AV l)) w:=by
 have:=run_loadAt_mid (P:=prog) w b o 236 (bvs l) _ h.1 BcV rfl (by rw [AaY,hl];exact AqZ)
 unfold ldW
 simp only [Sem.run_bind,this,Result.andThen_ok,Sem.run_pure]
 rfl
theorem stW_ptr (w:World) (b o:Nat) (l:YB) (ht:w.there b o 4) (hl:l.length=4):stW (.pointer (some ⟨b,o,none⟩)) (AV l) w=.ok .skip (w.setCells b o (bvs l)):=by
 have:=run_storeAt_mid (P:=prog) w b o 236 (bvs l).toArray (by simpa [AaY,hl] using ht) (by simpa [AaY,hl] using AqZ) (CrY l)
 unfold stW AV
 simp only [Sem.run_bind,this,Result.andThen_ok,Sem.run_pure]
theorem Ar.there4 {w:World} {b o:Nat} {l:YB} (h:Ar w b o l) (hl:l.length=4):w.there b o 4:=by have:=h.2;rw [AaY,hl] at this;exact this
attribute [go_sem ↓] ex_ld ex_st ex_ldW ex_stW
attribute [go_sem] stN_ptr stW_ptr
attribute [local irreducible] wsW AeW keyF ArX AvQ
open Go.RowKit
theorem EuZ (key t:YB) (n:Nat):(ArX key t n 0).length=4:=by unfold ArX;rw [if_pos rfl];exact BzV _ _ _
def Expanded (B cb lo b:Nat) (v:Value) (key:YB) (w:World) (e:Ending) (w':World):Prop :=
 e=.returned (.tuple #[])∧Below B w w'∧Tab w' lo b bys true∧Cf cb b v w' (EdW key tableL)
theorem EeW (B cb lo b:Nat) (v:Value) (key:YB) (d:Bool) (w:World) (hk:key.length=16) (hB:B≤cb∧B≤b) (h:Tab w lo b bys d) (hc:Cf cb b v w (List.replicate 176 0)) :
  Calls prog 168 #[.pointer (some ⟨cb,0,none⟩),AV key] w (Expanded B cb lo b v key w):=by
 have HK:=η hk
 have HB:=η hB
 obtain ⟨G,HG⟩:∃ G,Hid (G=w.heap.size):=⟨_,η rfl⟩
 obtain ⟨W0,HW0⟩:∃ W0,Hid (W0=w.alloc (.cells (bvs key).toArray 238)):=⟨_,η rfl⟩
 have hbel:Below w.heap.size w W0:=by rw [HW0.o];exact AaK w _
 have hBw:B≤w.heap.size:=by have:=hc.lt;omega
 have HBEL:Hid (Below B w W0):=η (hbel.mono hBw)
 have HT:=η (h.below hbel)
 have hcf:=hc.below hbel
 have HC:=η hcf
 have hcg:cb≠G:=by have:=hc.lt;have:=HG.o;omega
 have HAG:Hid (Ar W0.drew G 0 key):=η (by rw [HW0.o,HG.o];exact (Ar.new w key _).drew)
 have hr:ldN (.pointer (some ⟨G,0,none⟩)) W0.drew=.ok (.value (AV key)) W0.drew:=BuQ _ _ _ _ HAG.o hk
 have ht:W0.there cb 1 16:=fun j hj=>(hcf.ar.part 0 16 (by simp)).2 j (by rw [AaY,AoK _ _ _ (by simp)];exact hj)
 clear hB h hc hbel hcf
 go_enter func168,ntmps168
 go_wp2_with (first | (refine AkW rfl _ (.tmp 1) rfl key rfl ?_))
 rw [←HW0.o,←HG.o]
 go_region_held3 (fun w'=>ldN (.pointer (some ⟨G,0,none⟩)) w'=.ok (.value (AV key)) w') (first | assumption | (exact BuQ _ _ _ _ (HAG.o.setCells hcg _ _) hk)) (fail)
 obtain ⟨W1,HW1⟩:∃ W1,Hid (W1=W0.drew.setCells cb 1 (bvs key)):=⟨_,η rfl⟩
 rw [←HW1.o]
 have HC1:Hid (Cf cb b v W1 (AeW key tableL 4)):=η (by
  have:=HC.o.drew.lay 0 key (by omega)
  rw [CpQ key tableL hk] at this
  rw [HW1.o];exact this)
 have HB1:Hid (Below B w W1):=η (by rw [HW1.o];exact AaQ HBEL.o.drew HB.o.1 _ _)
 have HT1:Hid (Tab W1 lo b bys d):=η (by
  refine HT.o.apartJ (by decide) 0 (by omega) HC.o.nob HC.o.ne (fun q _ hq=>?_)
  rw [HW1.o]
  exact AcY cb q hq _ _ _)
 clear hr ht hcg HAG HT HC HBEL
 go_wp2_with fail
 go_loopw [4] (fun i wr=>∃ (p:Nat) (d':Bool),p≤10∧i=.int .i64 ((p:Int)+1)∧Hid (Tab wr lo b bys d')∧Hid (0<p→d'=true)∧Hid (Below B w wr)∧Hid (Cf cb b v wr (AeW key tableL (4*(p+1))))) (fun i _=>11 - (intOf i).toNat)
 case atStart=>exact ⟨0,d,by omega,rfl,HT1,η (fun h=>absurd h (by omega)),HB1,HC1⟩
 case round =>
  clear HC1 HB1 HT1;obtain ⟨p,d',hp,rfl,htb,hd',hb,hc⟩:=hrel;by_cases hlt:p<10
  ·have hdec:decide ((p:Int)+1≤10)=true:=decide_eq_true (by omega)
   obtain ⟨kp,HKP⟩:∃ kp,Hid (kp=keyF key tableL p):=⟨_,η rfl⟩;have HKL:Hid (kp.length=16):=η (by rw [HKP.o];exact AwW key tableL hk p (by omega))
   have HP:Hid (Ar wr cb (1+p*16) kp):=η (by
    have:=hc.o.ar.part (16*p) 16 (by rw [hc.o.len];omega)
    rw [BaX key tableL hk p (4*(p+1)) (by omega) (by omega),←HKP.o,Nat.mul_comm 16 p] at this
    exact this)
   have HZA:Hid (Ar (wr.alloc (.cells (bvs AaX).toArray 238)) wr.heap.size 0 AaX):=η (Ar.new _ _ _);have h1:IntKind.i64.wrap (p:Int)=(p:Int):=IntWalk.i64_in _ (by omega);have h2:(p:Int)<11:=by omega
   obtain ⟨W5,HW5⟩:∃ W5,Hid (W5=(wr.alloc (.cells (bvs AaX).toArray 238)).setCells wr.heap.size 0 (bvs kp)):=⟨_,η rfl⟩;obtain ⟨g5,Hg5⟩:∃ g5,Hid (g5=wr.heap.size):=⟨_,η rfl⟩;have hb5:Below wr.heap.size wr W5:=by rw [HW5.o];exact AaQ (AaK wr _) (Nat.le_refl _) _ _
   have HB5:=η hb5;have hA5:Ar ((wr.alloc (.cells (bvs AaX).toArray 238)).setCells wr.heap.size 0 (bvs kp)) wr.heap.size 0 kp:=HZA.o.whole kp (by rw [HKL.o];rfl);have HA5:Hid (Ar W5 g5 0 kp):=η (by rw [HW5.o,Hg5.o];exact hA5);obtain ⟨l3,HL3⟩:∃ l3,Hid (l3=wsW key tableL (4*(p+1) - 1)):=⟨_,η rfl⟩;have HL34:Hid (l3.length=4):=η (by rw [HL3.o];exact BiV key tableL hk _ (by omega))
   have HA3:Hid (Ar ((wr.alloc (.cells (bvs AaX).toArray 238)).setCells wr.heap.size 0 (bvs kp)) wr.heap.size 12 l3):=η (by
    have:=hA5.part 12 4 (by rw [HKL.o];omega)
    rw [HKP.o,show (12:Nat)=4*3 from rfl,DtY key tableL hk p 3 (by omega) (by omega),show 4*p+3=4*(p+1) - 1 by omega,←HL3.o,←HKP.o] at this
    exact this)
   clear hA5 hb5;obtain ⟨l0,HL0⟩:∃ l0,Hid (l0=ArX key tableL (p+1) 0):=⟨_,η rfl⟩;have HL04:Hid (l0.length=4):=η (by rw [HL0.o];exact EuZ _ _ _);have HTURN:Hid (AvQ tableL l3 (p+1 - 1)=l0):=η (by rw [HL3.o,HL0.o];unfold ArX;rw [if_pos rfl]);have HTB5:Hid (Tab ((wr.alloc (.cells (bvs AaX).toArray 238)).setCells wr.heap.size 0 (bvs kp)) lo b bys d'):=η (htb.o.below (by rw [←HW5.o];exact HB5.o));have HC5:Hid (Cf cb b v ((wr.alloc (.cells (bvs AaX).toArray 238)).setCells wr.heap.size 0 (bvs kp)) (AeW key tableL (4*(p+1)))):=η (hc.o.below (by rw [←HW5.o];exact HB5.o));go_wp2_with (first | (refine AgQ rfl _ (.tmp 23) rfl cb (1+p*16) 4 _ rfl kp (by exact HP.o) BbX (by rw [HKL.o];exact ArJ) ?_) | (refine AlV rfl _ (.tmp 5) (.tmp 24) rfl wr.heap.size 0 rfl kp AaX rfl (by exact HZA.o) (by rw [HKL.o];rfl) (by rw [HKL.o];exact ArJ) ?_) | (refine AgQ rfl _ (.tmp 26) rfl wr.heap.size 12 4 _ rfl l3 (by exact HA3.o) BcV (by rw [HL34.o];exact AqZ) ?_));refine (turn_any cb lo b bys l3 d' (p+1) _ HL34.o (by decide) (by omega) HC5.o.ne (by exact HC5.o.ptr) (by exact HTB5.o)).mono ?_;rw [HTURN.o,←Hg5.o];rintro e w1 ⟨rfl,hb1,ht1,_⟩;have hbu:But b W5 w1:=by rw [HW5.o,←Hg5.o];exact hb1
   have hc5:Cf cb b v W5 (AeW key tableL (4*(p+1))):=by rw [HW5.o];exact HC5.o
   have hbw:b<wr.heap.size:=htb.o.lt;have HC1:=η (hc5.but hbu);have HA51:Hid (Ar w1 g5 0 kp):=η (HA5.o.block (hbu.block g5 (HA5.o.lt (by rw [HKL.o];omega)) (by have:=Hg5.o;omega)));have HT1:=η ht1;have HB1:Hid (Below B w w1):=η ((hb.o.trans (HB5.o.mono (Nat.le_trans hBw hb.o.size))).trans (hbu.below HB.o.2 (Nat.lt_of_lt_of_le hbw HB5.o.size)));obtain ⟨g6,Hg6⟩:∃ g6,Hid (g6=w1.heap.size):=⟨_,η rfl⟩;have HZ6:Hid (Ar (w1.alloc (.cells (bvs [0,0,0,0]).toArray 236)) w1.heap.size 0 [0,0,0,0]):=η (Ar.new _ _ _);obtain ⟨W6,HW6⟩:∃ W6,Hid (W6=(w1.alloc (.cells (bvs [0,0,0,0]).toArray 236)).setCells w1.heap.size 0 (bvs l0)):=⟨_,η rfl⟩;have hb6:Below w1.heap.size w1 W6:=by rw [HW6.o];exact AaQ (AaK w1 _) (Nat.le_refl _) _ _
   have HB6:Hid (Below B w W6):=η (HB1.o.trans (hb6.mono (Nat.le_trans hBw HB1.o.size)));have HC6:=η (HC1.o.below hb6);have HT6:=η (HT1.o.below hb6);have HA6:Hid (Ar W6 g6 0 l0):=η (by rw [HW6.o,Hg6.o];exact HZ6.o.whole l0 (by rw [HL04.o];rfl));have HA56:Hid (Ar ((w1.alloc (.cells (bvs [0,0,0,0]).toArray 236)).setCells w1.heap.size 0 (bvs l0)) g5 0 kp):=η (HA51.o.below (by rw [←HW6.o];exact hb6) (HA51.o.lt (by rw [HKL.o];omega)))
   have HN6:Hid (¬∃ x:UInt8,W6.cell? ⟨g6,4,none⟩=some (bv x)):=η (by
    rw [HW6.o,Hg6.o,World.cell?_setCells_out _ (bvs l0) 0 _ ⟨w1.heap.size,4,none⟩ (fun _ _=>by rw [AaY,HL04.o];right;exact Nat.le_refl _),World.cell?_alloc_at _ _ _ _ rfl]
    simp [bvs])
   have HG6:Hid (g6≠cb∧g6≠b∧B≤g6):=η (by have h1:=HC1.o.lt;have h2:=HT1.o.lt;have h3:=Hg6.o;have h4:=HB.o;omega);clear hbu hc5 hb1 ht1 hb6 HC5 HTB5 HA3 HZA HP HA5 HA51 HC1 HT1 HB1 hc htb hb;go_wp2_with (first | (refine AlV rfl _ (.tmp 6) (.tmp 29) rfl w1.heap.size 0 rfl l0 [0,0,0,0] rfl (by exact HZ6.o) (by rw [HL04.o];rfl) (by rw [HL04.o];exact AqZ) ?_) | (refine AgQ rfl _ (.tmp 5) rfl g5 0 4 _ rfl kp (by exact HA56.o) BbX (by rw [HKL.o];exact ArJ) ?_));show Code.wp _ _ _ _ ((w1.alloc (.cells (bvs [0,0,0,0]).toArray 236)).setCells w1.heap.size 0 (bvs l0));rw [←HW6.o,←Hg6.o];clear HZ6 HA56
   go_loopw [31] (fun i ws=>∃ j:Nat,j≤4∧i=.int .i64 j∧Hid (Tab ws lo b bys true)∧Hid (Below B w ws)∧Hid (Cf cb b v ws (AeW key tableL (4*(p+1)+j)))∧Hid (Ar ws g6 0 (ArX key tableL (p+1) j))∧Hid (¬∃ x:UInt8,ws.cell? ⟨g6,4,none⟩=some (bv x))) (fun i _=>4 - (intOf i).toNat)
   case atStart=>exact ⟨0,by omega,rfl,HT6,HB6,HC6,η (by rw [←HL0.o];exact HA6.o),HN6⟩
   case round =>
    clear HT6 HB6 HC6 HA6 HN6;obtain ⟨j,hj,rfl,ht,hb,hc,ha,hn4⟩:=hrel;by_cases hlt2:j<4
    ·obtain ⟨m,HM⟩:∃ m,Hid (m=wsW key tableL (4*p+j)):=⟨_,η rfl⟩
     have HM4:Hid (m.length=4):=η (by rw [HM.o];exact BiV key tableL hk _ (by omega));obtain ⟨la,HLA⟩:∃ la,Hid (la=ArX key tableL (p+1) j):=⟨_,η rfl⟩;rw [←HLA.o] at ha;obtain ⟨hnx,hny⟩:=EdV key tableL (p+1) j (by omega) hlt2;rw [show p+1 - 1=p by omega,←HLA.o,←HM.o] at hnx;obtain ⟨nx,HNX⟩:∃ nx,Hid (nx=wsW key tableL (4*(p+1)+j)):=⟨_,η rfl⟩;rw [←HNX.o] at hnx hny;have HN4:Hid (nx.length=4):=η (by rw [HNX.o];exact BiV key tableL hk _ (by omega))
     have HL4:Hid (la.length=4):=η (by
      rw [HLA.o];unfold ArX;split
      ·exact BzV _ _ _
      ·exact BiV key tableL hk _ (by omega))
     have HADD:=η hnx;have HNY:=η hny
     have hidx:∀ W:World,(Instr.index 238 (AV kp) (.int .i64 (j:Int))).run prog W=.ok (AV m) W:=fun W=>by
      rw [HM.o,←DtY key tableL hk p j (by omega) hlt2,←HKP.o];exact sidx kp HKL.o j hlt2 W
     have HZ8:Hid (Ar (wr.alloc (.cells (bvs [0,0,0,0]).toArray 236)) wr.heap.size 0 [0,0,0,0]):=η (Ar.new _ _ _);have hb8:Below wr.heap.size wr ((wr.alloc (.cells (bvs [0,0,0,0]).toArray 236)).setCells wr.heap.size 0 (bvs m)):=AaQ (AaK wr _) (Nat.le_refl _) _ _;have hgw:g6<wr.heap.size:=ha.o.lt (by rw [HL4.o];omega);have HA8:Hid (Ar ((wr.alloc (.cells (bvs [0,0,0,0]).toArray 236)).setCells wr.heap.size 0 (bvs m)) g6 0 la):=η (ha.o.below hb8 hgw);have HM8:Hid (Ar ((wr.alloc (.cells (bvs [0,0,0,0]).toArray 236)).setCells wr.heap.size 0 (bvs m)) wr.heap.size 0 m):=η (HZ8.o.whole m (by rw [HM4.o];rfl));have HB8:=η hb8;clear hnx hny hb8;go_wp2_with (first | (refine AlV rfl _ (.tmp 8) (.tmp 34) rfl wr.heap.size 0 rfl m [0,0,0,0] rfl (by exact HZ8.o) (by rw [HM4.o];rfl) (by rw [HM4.o];exact AqZ) ?_) | (refine AgQ rfl _ (.tmp 6) rfl g6 0 4 _ rfl la (by exact HA8.o) BcV (by rw [HL4.o];exact AqZ) ?_) | (refine AgQ rfl _ (.tmp 8) rfl wr.heap.size 0 4 _ rfl m (by exact HM8.o) BcV (by rw [HM4.o];exact AqZ) ?_));refine (DnQ la m _ HL4.o HM4.o).mono ?_;rw [HADD.o];rintro e w2 ⟨rfl,hb2⟩;have hb2':Below wr.heap.size wr w2:=HB8.o.trans (hb2.mono HB8.o.size);have HA2:Hid (Ar w2 g6 0 la):=η (ha.o.below hb2' hgw);obtain ⟨W10,HW10⟩:∃ W10,Hid (W10=w2.setCells g6 0 (bvs nx)):=⟨_,η rfl⟩
     have HB10:Hid (Below B w W10):=η (by
      rw [HW10.o];exact AaQ (hb.o.trans (hb2'.mono (by have:=HG6.o;omega))) HG6.o.2.2 _ _)
     have hn2:¬∃ x:UInt8,w2.cell? ⟨g6,4,none⟩=some (bv x):=by rw [hb2'.cell (p:=⟨g6,4,none⟩) hgw];exact hn4.o
     have HT10:Hid (Tab W10 lo b bys true):=η (by
      rw [HW10.o];exact (ht.o.below hb2').apart (by decide) hn2 HG6.o.2.1 (fun q hq=>AcY g6 q hq _ _ _))
     have HC10:Hid (Cf cb b v W10 (AeW key tableL (4*(p+1)+j))):=η (by
      rw [HW10.o];exact (hc.o.below hb2').block (AcY g6 cb (fun e=>HG6.o.1 e.symm) _ _ _))
     have HN10:Hid (¬∃ x:UInt8,W10.cell? ⟨g6,4,none⟩=some (bv x)):=η (by
      rw [HW10.o,World.cell?_setCells_out _ (bvs nx) 0 _ ⟨g6,4,none⟩ (fun _ _=>by rw [AaY,HN4.o];right;exact Nat.le_refl _)];exact hn2)
     have HA10:Hid (Ar W10 g6 0 nx):=η (by rw [HW10.o];exact HA2.o.whole nx (by rw [HN4.o,HL4.o]));clear hb2 hb2' hn2 HA8 HM8 HZ8 HB8 ha hb ht hc hn4;go_wp2_with (first | (refine AlV rfl _ (.tmp 6) (.tmp 37) rfl g6 0 rfl nx la rfl (by exact HA2.o) (by rw [HN4.o,HL4.o]) (by rw [HN4.o];exact AqZ) ?_));rw [←HW10.o];have hld:ldW (.pointer (some ⟨g6,0,none⟩)) W10.drew=.ok (.value (AV nx)) W10.drew:=ldW_ar _ _ _ _ HA10.o.drew HN4.o;have hnl:=HN4.o;have hj4:(j:Int)<4:=by omega
     have hth:W10.there cb (1+(p+1)*16+j*4) 4:=by
      have:=(HC10.o.ar.part (16*(p+1)+4*j) 4 (by rw [HC10.o.len];omega)).there4 (AoK _ _ _ (by rw [HC10.o.len];omega));rw [show 1+(16*(p+1)+4*j)=1+(p+1)*16+j*4 by omega] at this;exact this
     have hq1:(0:Int)≤(p:Int)+1:=by omega
     have hq2:(p:Int)+1<11:=by omega
     go_region_held3 (fun w'=>ldW (.pointer (some ⟨g6,0,none⟩)) w'=.ok (.value (AV nx)) w') (first | assumption | (exact ldW_ar _ _ _ _ (HA10.o.drew.setCells (fun e=>HG6.o.1 e.symm) _ _) HN4.o)) (fail);go_wp2_with fail;go_roundw
     case rel =>
      have hlay:=HC10.o.drew.lay (16*(p+1)+4*j) nx (by rw [HN4.o];omega);rw [show 16*(p+1)+4*j=4*(4*(p+1)+j) by omega,HNX.o,DjY key tableL hk (4*(p+1)+j) (by omega),←HNX.o,show 1+4*(4*(p+1)+j)=1+(p+1)*16+j*4 by omega] at hlay;refine ⟨j+1,by omega,by go_num,η ?_,η (AaQ HB10.o.drew HB.o.1 _ _),η hlay,η ?_,η ?_⟩
      ·exact HT10.o.apartJ (by decide) 0 (by omega) HC10.o.nob HC10.o.ne (fun q _ hq=>AcY cb q hq _ _ _)
      ·rw [HNY.o];exact HA10.o.drew.setCells (fun e=>HG6.o.1 e.symm) _ _
      ·rw [World.cell?_setCells_out _ (bvs nx) _ _ ⟨g6,4,none⟩ (fun e _=>absurd e HG6.o.1)]
       exact HN10.o
     case measure=>simp [intOf];omega
    ·obtain rfl:j=4:=by omega
     have e4:((4:Nat):Int)=4:=rfl;rw [e4];clear e4;go_wp2_with fail;go_roundw
     case rel=>exact ⟨p+1,true,by omega,by go_num,ht,η (fun _=>rfl),hb,η hc.o⟩
     case measure=>simp [intOf];omega
  ·obtain rfl:p=10:=by omega
   have h:=hd'.o (by omega);subst h;go_wp2_with fail;go_end0;exact ⟨rfl,hb.o,htb.o,hc.o⟩
end Go.Proofs.YthppjgdnibfefaaGreat
namespace Go.Proofs.YthppjgdnibfefaaGreat
open Tryz
attribute [local irreducible] wsW AeW keyF ArX AvQ AiY BoJ
open Go.RowKit
theorem CiJ (b:YB):ArK tableL b=b.map subB:=by unfold ArK;exact List.map_congr_left (fun x _=>CuW x)
theorem Cf.key {cb b:Nat} {v:Value} {W:World} {key t:YB} (h:Cf cb b v W (EdW key t)) (hk:key.length=16) (i:Nat) (hi:i<11):Ar W cb (1+i*16) (keyF key t i):=by
 have:=h.ar.part (16*i) 16 (by rw [h.len];omega)
 unfold EdW at this
 rw [BaX key t hk i 44 (by omega) (by omega),Nat.mul_comm 16 i] at this
 exact this
theorem Cf.ldk {cb b:Nat} {v:Value} {W:World} {key t:YB} (h:Cf cb b v W (EdW key t)) (hk:key.length=16) (i:Nat) (hi:i<11):ldN (.pointer (some ⟨cb,1+i*16,none⟩)) W=.ok (.value (AV (keyF key t i))) W :=
 BuQ _ _ _ _ (h.key hk i hi) (AwW key t hk i hi)
theorem BoX (a b:YB) (ha:a.length=16) (hb:b.length=16):(xorL a b).length=16:=by rw [AsK _ _ (by rw [ha,hb]),ha]
theorem enc_any (cb lo b:Nat) (v:Value) (key s:YB) (w:World) (hk:key.length=16) (hs:s.length=16) (h:Tab w lo b bys true) (hc:Cf cb b v w (EdW key tableL)) :
  Calls prog 171 #[.pointer (some ⟨cb,0,none⟩),AV s] w (RetA (encL key tableL s) w):=by
 obtain ⟨R,HR⟩:∃ R,Hid (R=encL key tableL s):=⟨_,η rfl⟩
 rw [←HR.o]
 have HTB:=η h
 have HCF:=η hc
 have HS:=η hs
 obtain ⟨G,HG⟩:∃ G,Hid (G=w.heap.size):=⟨_,η rfl⟩
 have HGC:Hid (cb<G):=η (by rw [HG.o];exact hc.lt)
 obtain ⟨wr,HWR⟩:∃ wr,Hid (wr=W2 s AaX 238 w):=⟨_,η rfl⟩
 have hb:Hid (Below w.heap.size w wr):=η (by rw [HWR.o];exact BvK _ _ _ _)
 have ha:Hid (Ar wr G 0 s):=η (by rw [HWR.o,HG.o];exact w2_0 _ _ _ _)
 have hz:Hid (Ar wr (G+1) 0 AaX):=η (by rw [HWR.o,HG.o];exact w2_1 _ _ _ _)
 have hmf:∀ (fn:Fn) (first cap:Array Value) (w:World),(Instr.makeFunc fn first cap).run prog w=.ok (.func fn first cap) w:=fun _ _ _ _=>rfl
 clear h hc hs
 go_enter func171,ntmps171
 go_wp2_with (first | (refine AkW rfl _ (.tmp 1) rfl s rfl ?_))
 show Code.wp _ _ _ _ (W2 s AaX 238 w)
 rw [←HWR.o,←HG.o]
 obtain ⟨kn,HKNE⟩:∃ kn,Hid (kn=keyF key tableL 0):=⟨_,η rfl⟩
 have HKN:Hid (kn.length=16):=η (by rw [HKNE.o];exact AwW key tableL hk _ (by omega))
 obtain ⟨x0,HE0⟩:∃ x0,Hid (x0=s):=⟨_,η rfl⟩
 have HX0:Hid (x0.length=16):=η (by rw [HE0.o];exact HS.o)
 obtain ⟨x1,HE1⟩:∃ x1,Hid (x1=xorL x0 kn):=⟨_,η rfl⟩
 have HX1:Hid (x1.length=16):=η (by rw [HE1.o];exact BoX _ _ HX0.o HKN.o)
 have HA:Hid (Ar wr G 0 x0):=η (by rw [HE0.o];exact ha.o)
 have HK:Hid (∀ W:World,Below wr.heap.size wr W→TabC W cb b lo∧Tab W lo b bys true∧ldN (.pointer (some ⟨cb,1,none⟩)) W=.ok (.value (AV kn)) W∧W.there G 0 16):=η (fun W hW=>by
  have hc:=HCF.o.below (hb.o.trans (hW.mono hb.o.size))
  have ht:=HTB.o.below (hb.o.trans (hW.mono hb.o.size))
  exact ⟨⟨hc.ptr,ht⟩,ht,by rw [HKNE.o];exact hc.ldk hk 0 (by omega),(HA.o.below hW (HA.o.lt (by rw [HX0.o];omega))).there16 HX0.o⟩)
 have hlx:=HX1.o
 have hla:ldN (.pointer (some ⟨G,0,none⟩)) wr.drew=.ok (.value (AV x0)) wr.drew:=BuQ _ _ _ _ HA.o.drew HX0.o
 obtain ⟨⟨q0,_⟩,_,q1,q2⟩:=HK.o wr (Below.refl _ _)
 obtain ⟨⟨r0,_⟩,_,r1,r2⟩:=HK.o wr.drew (Below.refl _ _).drew
 refine wp_region_held_drew (S:=fun w'=>ldN (.pointer (some ⟨cb,1,none⟩)) w'=.ok (.value (AV kn)) w') (by kernel_rfl) r1 (fun hHeld=>?_)
 (try dsimp only at hHeld)
 refine tkJ 1 rfl hHeld ?_
 (try simp only [Act.put,sxT])
 refine tkJ 2 rfl hHeld ?_
 (try simp only [Act.put,sxT])
 refine tkJ 3 rfl hHeld ?_
 (try simp only [Act.put,sxT])
 refine tkJ 4 rfl hHeld ?_
 (try simp only [Act.put,sxT])
 refine tkJ 5 rfl hHeld ?_
 (try simp only [Act.put,sxT])
 refine rdI 0 rfl (fun K hK=>?_)
 (try simp only [rxT])
 go_simp
 refine hK.o _ _ hHeld (fun hHeld=>?_)
 clear hK K
 (try simp only [Act.put,sxT])
 refine rdI 6 rfl (fun K hK=>?_)
 (try simp only [rxT])
 go_simp
 refine (CnJ x0 kn _ HX0.o HKN.o).mono ?_;rw [←HE1.o];rintro e w1 ⟨rfl,hb⟩;have HB1:Hid (Below wr.heap.size wr w1):=η ((Below.refl wr.heap.size wr).drew.trans (show Below wr.heap.size wr.drew w1 from hb));clear hb;obtain ⟨⟨q0,_⟩,_,q1,q2⟩:=HK.o w1 HB1.o
 (try go_wp2_with fail)
 refine hK.o _ _ q1 (fun hHeld=>?_)
 clear hK K
 (try simp only [Act.put,sxT])
 refine rdI 7 rfl (fun K hK=>?_)
 (try simp only [rxT])
 go_simp
 refine hK.o _ _ (by rw [HKNE.o];exact (((HCF.o.below (hb.o.trans (HB1.o.mono hb.o.size))).block (AcY G cb (by have:=HGC.o;omega) _ _ _)).ldk hk 0 (by omega))) (fun _=>?_)
 clear hK K
 (try simp only [Act.put,sxT])
 refine wpAnyH_done (by kernel_rfl) ?_ _
 obtain ⟨WX,HWX⟩:∃ WX,Hid (WX=w1.setCells G 0 (bvs x1)):=⟨_,η rfl⟩
 rw [←HWX.o]
 have HBX:Hid (Below w.heap.size w WX):=η (by rw [HWX.o];exact AaQ (hb.o.trans (HB1.o.mono hb.o.size)) (by rw [HG.o];omega) _ _)
 have HAX:Hid (Ar WX G 0 x1):=η (by rw [HWX.o];exact (HA.o.below HB1.o (HA.o.lt (by rw [HX0.o];omega))).whole x1 (by rw [HX1.o,HX0.o]))
 have HZX:Hid (Ar WX (G+1) 0 AaX):=η (by rw [HWX.o];exact (hz.o.below HB1.o (hz.o.lt (by simp [AaX]))).setCells (by omega) _ _)
 have HAX0:Hid (Ar WX G 0 (AiY key tableL s 0)):=η (by
  have:AiY key tableL s 0=x1:=by rw [HE1.o,HE0.o,HKNE.o];unfold AiY;rfl
  rw [this];exact HAX.o)
 clear HA HK ha hz hb hla q0 q1 q2 r0 r1 r2 hlx HAX
 clear HX1 HE1 HX0 HE0 HKN HKNE
 go_wp2_with fail
 go_loopw [5] (fun i wr=>∃ p:Nat,p≤9∧i=.int .i64 ((p:Int)+1)∧Hid (Below w.heap.size w wr)∧Hid (Ar wr G 0 (AiY key tableL s p))∧Hid (Ar wr (G+1) 0 AaX)) (fun i _=>10 - (intOf i).toNat)
 case atStart=>exact ⟨0,by omega,rfl,HBX,HAX0,HZX⟩
 case round =>
  clear HBX HAX0 HZX;obtain ⟨p,hp,rfl,hb,ha,hz⟩:=hrel;by_cases hlt:p<9
  ·have hq1:(0:Int)≤(p:Int)+1:=by omega
   have hq2:(p:Int)+1<11:=by omega
   have hq3:(p:Int)+1<10:=by omega
   go_wp2_with fail;obtain ⟨kn,HKNE⟩:∃ kn,Hid (kn=keyF key tableL (p+1)):=⟨_,η rfl⟩;have HKN:Hid (kn.length=16):=η (by rw [HKNE.o];exact AwW key tableL hk _ (by omega));obtain ⟨x0,HE0⟩:∃ x0,Hid (x0=AiY key tableL s p):=⟨_,η rfl⟩;have HX0:Hid (x0.length=16):=η (by rw [HE0.o];exact CeQ key tableL s hk HS.o p (by omega));obtain ⟨x1,HE1⟩:∃ x1,Hid (x1=x0.map subB):=⟨_,η rfl⟩;have HX1:Hid (x1.length=16):=η (by rw [HE1.o];exact (by rw [List.length_map];exact HX0.o));obtain ⟨x2,HE2⟩:∃ x2,Hid (x2=BbY x1 1):=⟨_,η rfl⟩;have HX2:Hid (x2.length=16):=η (by rw [HE2.o];exact CaZ _ _);obtain ⟨x3,HE3⟩:∃ x3,Hid (x3=AkV x2 [2,3,1,1]):=⟨_,η rfl⟩;have HX3:Hid (x3.length=16):=η (by rw [HE3.o];exact CeZ _ _);obtain ⟨x4,HE4⟩:∃ x4,Hid (x4=xorL x3 kn):=⟨_,η rfl⟩;have HX4:Hid (x4.length=16):=η (by rw [HE4.o];exact BoX _ _ HX3.o HKN.o);have HA:Hid (Ar wr G 0 x0):=η (by rw [HE0.o];exact ha.o)
   have HK:Hid (∀ W:World,Below wr.heap.size wr W→TabC W cb b lo∧Tab W lo b bys true∧ldN (.pointer (some ⟨cb,1+(p+1)*16,none⟩)) W=.ok (.value (AV kn)) W∧W.there G 0 16):=η (fun W hW=>by
    have hc:=HCF.o.below (hb.o.trans (hW.mono hb.o.size))
    have ht:=HTB.o.below (hb.o.trans (hW.mono hb.o.size))
    exact ⟨⟨hc.ptr,ht⟩,ht,by rw [HKNE.o];exact hc.ldk hk (p+1) (by omega),(HA.o.below hW (HA.o.lt (by rw [HX0.o];omega))).there16 HX0.o⟩)
   have hlx:=HX4.o;have hla:ldN (.pointer (some ⟨G,0,none⟩)) wr.drew=.ok (.value (AV x0)) wr.drew:=BuQ _ _ _ _ HA.o.drew HX0.o;obtain ⟨⟨q0,_⟩,_,q1,q2⟩:=HK.o wr (Below.refl _ _);obtain ⟨⟨r0,_⟩,_,r1,r2⟩:=HK.o wr.drew (Below.refl _ _).drew;refine wp_region_held_drew (S:=fun w'=>w'.cell? ⟨cb,0,none⟩=some (.pointer (some ⟨b,0,none⟩))∧ldN (.pointer (some ⟨cb,1+(p+1)*16,none⟩)) w'=.ok (.value (AV kn)) w') (by kernel_rfl) ⟨r0,r1⟩ (fun hHeld=>?_);(try dsimp only at hHeld);refine tkJ 1 rfl hHeld ?_;(try simp only [Act.put,sxT]);refine tkJ 2 rfl hHeld ?_;(try simp only [Act.put,sxT]);refine tkJ 3 rfl hHeld ?_;(try simp only [Act.put,sxT]);refine tkJ 4 rfl hHeld ?_;(try simp only [Act.put,sxT]);refine tkJ 5 rfl hHeld ?_;(try simp only [Act.put,sxT]);refine tkJ 8 rfl hHeld ?_;(try simp only [Act.put,sxT]);refine tkJ 9 rfl hHeld ?_;(try simp only [Act.put,sxT]);refine tkJ 11 rfl hHeld ?_;(try simp only [Act.put,sxT]);refine tkJ 12 rfl hHeld ?_;(try simp only [Act.put,sxT]);refine tkJ 13 rfl hHeld ?_;(try simp only [Act.put,sxT]);refine tkJ 14 rfl hHeld ?_;(try simp only [Act.put,sxT]);refine tkJ 15 rfl hHeld ?_;(try simp only [Act.put,sxT]);refine tkJ 16 rfl hHeld ?_;(try simp only [Act.put,sxT]);refine rdI 0 rfl (fun K hK=>?_);(try simp only [rxT]);go_simp;refine hK.o _ _ hHeld (fun hHeld=>?_);clear hK K;(try simp only [Act.put,sxT]);refine rdI 6 rfl (fun K hK=>?_);(try simp only [rxT]);go_simp;refine (DdK lo b bys (by decide) x0 _ HX0.o (by exact (HK.o _ ((Below.refl wr.heap.size wr).drew)).2.1)).mono ?_;rw [←HE1.o];rintro e w1 ⟨rfl,hb⟩;have HB1:Hid (Below wr.heap.size wr w1):=η ((Below.refl wr.heap.size wr).drew.trans (show Below wr.heap.size wr.drew w1 from hb));clear hb;obtain ⟨⟨q0,_⟩,_,q1,q2⟩:=HK.o w1 HB1.o;(try go_wp2_with fail);refine hK.o _ _ ⟨q0,q1⟩ (fun hHeld=>?_);clear hK K;(try simp only [Act.put,sxT]);refine rdI 7 rfl (fun K hK=>?_);(try simp only [rxT]);go_simp;refine (CvZ x1 _ HX1.o).mono ?_;rw [←HE2.o];rintro e w2 ⟨rfl,hb⟩;have HB2:Hid (Below wr.heap.size wr w2):=η (HB1.o.trans (hb.mono HB1.o.size));clear hb;obtain ⟨⟨q0,_⟩,_,q1,q2⟩:=HK.o w2 HB2.o;(try go_wp2_with fail);refine hK.o _ _ ⟨q0,q1⟩ (fun hHeld=>?_);clear hK K;(try simp only [Act.put,sxT]);refine rdI 10 rfl (fun K hK=>?_);(try simp only [rxT]);go_simp;refine (DlQ cb b lo x2 _ HX2.o (by exact (HK.o _ HB2.o).1)).mono ?_;rw [←HE3.o];rintro e w3 ⟨rfl,hb⟩;have HB3:Hid (Below wr.heap.size wr w3):=η (HB2.o.trans (hb.mono HB2.o.size));clear hb;obtain ⟨⟨q0,_⟩,_,q1,q2⟩:=HK.o w3 HB3.o;(try go_wp2_with fail);refine hK.o _ _ ⟨q0,q1⟩ (fun hHeld=>?_);clear hK K;(try simp only [Act.put,sxT]);refine rdI 17 rfl (fun K hK=>?_);(try simp only [rxT]);go_simp;refine (CnJ x3 kn _ HX3.o HKN.o).mono ?_;rw [←HE4.o];rintro e w4 ⟨rfl,hb⟩;have HB4:Hid (Below wr.heap.size wr w4):=η (HB3.o.trans (hb.mono HB3.o.size));clear hb;obtain ⟨⟨q0,_⟩,_,q1,q2⟩:=HK.o w4 HB4.o;(try go_wp2_with fail);refine hK.o _ _ ⟨q0,q1⟩ (fun hHeld=>?_);clear hK K;(try simp only [Act.put,sxT]);refine rdI 18 rfl (fun K hK=>?_);(try simp only [rxT])
   go_simp;refine hK.o _ _ ⟨((HCF.o.below (hb.o.trans (HB4.o.mono hb.o.size))).block (AcY G cb (by have:=HGC.o;omega) _ _ _)).ptr,by rw [HKNE.o];exact (((HCF.o.below (hb.o.trans (HB4.o.mono hb.o.size))).block (AcY G cb (by have:=HGC.o;omega) _ _ _)).ldk hk (p+1) (by omega))⟩ (fun _=>?_);clear hK K;(try simp only [Act.put,sxT]);refine wpAnyH_done (by kernel_rfl) ?_ _;obtain ⟨WX,HWX⟩:∃ WX,Hid (WX=w4.setCells G 0 (bvs x4)):=⟨_,η rfl⟩;rw [←HWX.o];have HBX:Hid (Below w.heap.size w WX):=η (by rw [HWX.o];exact AaQ (hb.o.trans (HB4.o.mono hb.o.size)) (by rw [HG.o];omega) _ _);have HAX:Hid (Ar WX G 0 x4):=η (by rw [HWX.o];exact (HA.o.below HB4.o (HA.o.lt (by rw [HX0.o];omega))).whole x4 (by rw [HX4.o,HX0.o]));have HZX:Hid (Ar WX (G+1) 0 AaX):=η (by rw [HWX.o];exact (hz.o.below HB4.o (hz.o.lt (by simp [AaX]))).setCells (by omega) _ _);go_wp2_with fail;go_roundw
   case rel =>
    have he:AiY key tableL s (p+1)=x4:=by
     rw [HE4.o,HE3.o,HE2.o,HE1.o,HE0.o,HKNE.o,←CiJ];rw [AiY,if_pos (by omega)]
    exact ⟨p+1,by omega,by go_num,HBX,η (by rw [he];exact HAX.o),HZX⟩
   case measure=>simp [intOf];omega
  ·obtain rfl:p=9:=by omega
   go_wp2_with fail;obtain ⟨kn,HKNE⟩:∃ kn,Hid (kn=keyF key tableL 10):=⟨_,η rfl⟩;have HKN:Hid (kn.length=16):=η (by rw [HKNE.o];exact AwW key tableL hk _ (by omega));obtain ⟨x0,HE0⟩:∃ x0,Hid (x0=AiY key tableL s 9):=⟨_,η rfl⟩;have HX0:Hid (x0.length=16):=η (by rw [HE0.o];exact CeQ key tableL s hk HS.o 9 (by omega));obtain ⟨x1,HE1⟩:∃ x1,Hid (x1=x0.map subB):=⟨_,η rfl⟩;have HX1:Hid (x1.length=16):=η (by rw [HE1.o];exact (by rw [List.length_map];exact HX0.o));obtain ⟨x2,HE2⟩:∃ x2,Hid (x2=BbY x1 1):=⟨_,η rfl⟩;have HX2:Hid (x2.length=16):=η (by rw [HE2.o];exact CaZ _ _);obtain ⟨x3,HE3⟩:∃ x3,Hid (x3=xorL x2 kn):=⟨_,η rfl⟩;have HX3:Hid (x3.length=16):=η (by rw [HE3.o];exact BoX _ _ HX2.o HKN.o);have HA:Hid (Ar wr G 0 x0):=η (by rw [HE0.o];exact ha.o)
   have HK:Hid (∀ W:World,Below wr.heap.size wr W→TabC W cb b lo∧Tab W lo b bys true∧ldN (.pointer (some ⟨cb,161,none⟩)) W=.ok (.value (AV kn)) W∧W.there (G+1) 0 16):=η (fun W hW=>by
    have hc:=HCF.o.below (hb.o.trans (hW.mono hb.o.size))
    have ht:=HTB.o.below (hb.o.trans (hW.mono hb.o.size))
    exact ⟨⟨hc.ptr,ht⟩,ht,by rw [HKNE.o];exact hc.ldk hk 10 (by omega),(hz.o.below hW (hz.o.lt (by simp [AaX]))).there16 rfl⟩)
   have hlx:=HX3.o;have hla:ldN (.pointer (some ⟨G,0,none⟩)) wr.drew=.ok (.value (AV x0)) wr.drew:=BuQ _ _ _ _ HA.o.drew HX0.o;obtain ⟨⟨q0,_⟩,_,q1,q2⟩:=HK.o wr (Below.refl _ _);obtain ⟨⟨r0,_⟩,_,r1,r2⟩:=HK.o wr.drew (Below.refl _ _).drew;have HLD:Hid (∀ W:World,Below wr.heap.size wr W→ldN (.pointer (some ⟨G,0,none⟩)) W=.ok (.value (AV x0)) W):=η (fun W hW=>BuQ _ _ _ _ (HA.o.below hW (HA.o.lt (by rw [HX0.o];omega))) HX0.o);go_region_held3 (fun w'=>ldN (.pointer (some ⟨G,0,none⟩)) w'=.ok (.value (AV x0)) w'∧w'.cell? ⟨cb,0,none⟩=some (.pointer (some ⟨b,0,none⟩))∧ldN (.pointer (some ⟨cb,161,none⟩)) w'=.ok (.value (AV kn)) w') (first | (exact ⟨by assumption,by assumption,by assumption⟩) | (exact ⟨BuQ _ _ _ _ (((HA.o.below HB3.o (HA.o.lt (by rw [HX0.o];omega)))).setCells (by omega) _ _) HX0.o,((HCF.o.below (hb.o.trans (HB3.o.mono hb.o.size))).block (AcY (G+1) cb (by have:=HGC.o;omega) _ _ _)).ptr,by rw [HKNE.o];exact (((HCF.o.below (hb.o.trans (HB3.o.mono hb.o.size))).block (AcY (G+1) cb (by have:=HGC.o;omega) _ _ _)).ldk hk 10 (by omega))⟩)) (first | (go_at_call 196;refine (DdK lo b bys (by decide) x0 _ HX0.o (by exact (HK.o _ ((Below.refl wr.heap.size wr).drew)).2.1)).mono ?_;rw [←HE1.o];rintro e w1 ⟨rfl,hb⟩;have HB1:Hid (Below wr.heap.size wr w1):=η ((Below.refl wr.heap.size wr).drew.trans (show Below wr.heap.size wr.drew w1 from hb));clear hb;have ql:=HLD.o _ HB1.o;obtain ⟨⟨q0,_⟩,_,q1,q2⟩:=HK.o w1 HB1.o) | (go_at_call 198;refine (CvZ x1 _ HX1.o).mono ?_;rw [←HE2.o];rintro e w2 ⟨rfl,hb⟩;have HB2:Hid (Below wr.heap.size wr w2):=η (HB1.o.trans (hb.mono HB1.o.size));clear hb;have ql:=HLD.o _ HB2.o;obtain ⟨⟨q0,_⟩,_,q1,q2⟩:=HK.o w2 HB2.o) | (go_at_call 195;refine (CnJ x2 kn _ HX2.o HKN.o).mono ?_;rw [←HE3.o];rintro e w3 ⟨rfl,hb⟩;have HB3:Hid (Below wr.heap.size wr w3):=η (HB2.o.trans (hb.mono HB2.o.size));clear hb;have ql:=HLD.o _ HB3.o;obtain ⟨⟨q0,_⟩,_,q1,q2⟩:=HK.o w3 HB3.o));obtain ⟨WX,HWX⟩:∃ WX,Hid (WX=w3.setCells (G+1) 0 (bvs x3)):=⟨_,η rfl⟩;rw [←HWX.o];have HBX:Hid (Below w.heap.size w WX):=η (by rw [HWX.o];exact AaQ (hb.o.trans (HB3.o.mono hb.o.size)) (by rw [HG.o];omega) _ _);go_wp2_with fail
   have he:R=x3:=by
    rw [HR.o,HE3.o,HE2.o,HE1.o,HE0.o,HKNE.o,←CiJ];unfold encL;rw [AiY,if_neg (by omega)]
   have HZF:Ar WX (G+1) 0 x3:=by rw [HWX.o];exact (hz.o.below HB3.o (hz.o.lt (by simp [AaX]))).whole x3 (by rw [HX3.o];rfl)
   rw [he];exact bodyPost_ret (v:=AV x3) (ApZ rfl _ _ (G+1) 4 _ x3 rfl HZF BbX (by rw [HX3.o];exact ArJ)) rfl ⟨rfl,HBX.o⟩
end Go.Proofs.YthppjgdnibfefaaGreat
namespace Go.Proofs.YthppjgdnibfefaaGreat
open Tryz
attribute [local irreducible] wsW AeW keyF ArX AvQ AiY BoJ
open Go.RowKit
end Go.Proofs.YthppjgdnibfefaaGreat
namespace Go.Proofs.YthppjgdnibfefaaGreat
open Tryz
attribute [local irreducible] wsW AeW keyF ArX AvQ AiY BoJ
open Go.RowKit
structure Ob (cb b lo:Nat) (key:YB) (n:Nat) (w:World):Prop where
 cf:Cf cb b (.int .i64 (n:Int)) w (EdW key tableL)
 tab:Tab w lo b bys true
 len:key.length=16
 few:n≤1000000000
theorem Ob.below {cb b lo n:Nat} {key:YB} {w w':World} (h:Ob cb b lo key n w) (hb:Below w.heap.size w w'):Ob cb b lo key n w':=⟨h.cf.below hb,h.tab.below hb,h.len,h.few⟩
theorem Ob.lt {cb b lo n:Nat} {key:YB} {w:World} (h:Ob cb b lo key n w):cb<w.heap.size:=h.cf.lt
theorem Ob.more {cb b lo n:Nat} {key:YB} {w:World} (h:Ob cb b lo key n w) (hn:n+1≤1000000000):Ob cb b lo key (n+1) (w.setCell ⟨cb,177,none⟩ (.int .i64 ((n:Int)+1))) :=
 ⟨h.cf.count _,h.tab.apartJ (by decide) 0 (by omega) h.cf.nob h.cf.ne (fun q _ hq=>Below.heap_setCell w _ _ q hq),h.len,hn⟩
def Away (A:YA) (c:Nat):Prop:=∀ g o,A=some ⟨g,o,none⟩→g≠c
def RetC (l key:YB) (cb b lo n:Nat) (w:World) (e:Ending) (w':World):Prop :=
 ∃ A c,e=.returned (.tuple #[.slice A 16 c,.int .i64 0])∧OwnB w' w.heap.size A 16 c l∧But cb w w'∧Ob cb b lo key (n+1) w'
theorem DmV (n:Nat) (hn:n≤1000000000) (W:World):(Op.intArith .add .i64 (n:Int) 1).run prog W=.ok (.int .i64 ((n:Int)+1)) W:=by
 have h:=IntWalk.i64_in ((n:Int)+1) (by omega)
 simp [go_sem,h]
theorem RB.count {w:World} {B n cb:Nat} {A:YA} {l:YB} (h:RB w B A n l) (ha:Away A cb) (k:Nat) (v:Value):RB (w.setCell ⟨cb,k,none⟩ v) B A n l :=
 ⟨h.1,fun hn=>by
  obtain ⟨g,o,e,hg,hc⟩:=h.2 hn
  refine ⟨g,o,e,hg,fun i hi=>?_⟩
  rw [World.cell?_setCell_other _ _ _ _ (fun e2=>ha g o e (by injection e2 with e3 _;exact e3.symm))]
  exact hc i hi⟩
theorem run_enc (cb b lo n c0:Nat) (key l:YB) (A:YA) (w:World) (h:Ob cb b lo key n w) (hn:n+1≤1000000000) (hb:RB w w.heap.size A 16 l) (hc0:16≤c0) (ha:Away A cb) :
  Calls prog 170 #[.pointer (some ⟨cb,0,none⟩),.slice A 16 c0,.func (.func 171) #[.pointer (some ⟨cb,0,none⟩)] #[]] w (RetC (encL key tableL l) key cb b lo n w):=by
 have HO:=η h
 have HN:=η hn
 have HB:=η hb
 have HA:=η ha
 have HC:=η hc0
 have hl:=hb.len
 obtain ⟨R,HR⟩:∃ R,Hid (R=encL key tableL l):=⟨_,η rfl⟩
 have HL16:Hid (R.length=16):=η (by rw [HR.o];exact BhV key tableL l h.len hl)
 rw [←HR.o]
 have HL:=η hl
 clear h hn hb ha hc0 hl
 go_enter func170,ntmps170
 go_wp2_with fail
 refine (AzZ ⟨cb,177,none⟩ (n:Int) 1 ((n:Int)+1) _ (by exact HO.o.cf.cnt) (by exact HO.o.cf.free) (DmV n HO.o.few _)).mono ?_
 rintro e w1 ⟨rfl,rfl⟩
 have HO1:=η (HO.o.more HN.o)
 obtain ⟨w1,HW1⟩:∃ w1,Hid (w1=w.setCell ⟨cb,177,none⟩ (.int .i64 ((n:Int)+1))):=⟨_,η rfl⟩
 rw [←HW1.o] at HO1 ⊢
 have hs1:w1.heap.size=w.heap.size:=by rw [HW1.o];simp
 have HB1:Hid (RB w1 w1.heap.size A 16 l):=η (by rw [hs1,HW1.o];exact HB.o.count HA.o 177 _)
 have HBU:Hid (But cb w w1):=η (by rw [HW1.o];exact (But.refl cb w).self 177 _)
 have HS1:=η hs1
 clear hs1
 go_wp2_with fail
 refine (DvJ A c0 l _ (by exact HB1.o) HC.o).mono ?_
 rintro e w2 ⟨rfl,hb2⟩
 have HB2:=η hb2
 clear hb2
 go_wp2_with fail
 refine (enc_any cb lo b _ key l _ HO1.o.len HL.o (by exact (HO1.o.below HB2.o).tab) (by exact (HO1.o.below HB2.o).cf)).mono ?_
 rw [←HR.o]
 rintro e w3 ⟨rfl,hb3⟩
 have HB3:Hid (Below w1.heap.size w1 w3):=η (HB2.o.trans (hb3.mono HB2.o.size))
 clear hb3
 go_wp2_with fail
 refine (DzZ R _ HL16.o).mono ?_
 rintro e w4 ⟨A4,c4,rfl,ho4,hb4⟩
 have HB4:Hid (Below w1.heap.size w1 w4):=η (HB3.o.trans (hb4.mono HB3.o.size))
 have HO4:Hid (OwnB w4 w.heap.size A4 16 c4 R):=η (ho4.base_le (by rw [←HS1.o];exact HB3.o.size))
 clear ho4 hb4
 go_wp2_with fail
 go_ret2
 exact ⟨A4,c4,rfl,HO4.o,HBU.o.trans (But.of_below HB4.o),HO1.o.below HB4.o⟩
theorem BkJ (cb b lo n c0:Nat) (key l:YB) (A:YA) (w:World) (h:Ob cb b lo key n w) (hn:n+1≤1000000000) (hb:RB w w.heap.size A 16 l) (hc0:16≤c0) (ha:Away A cb) :
  Calls prog 139 #[.pointer (some ⟨cb,0,none⟩),.slice A 16 c0] w (RetC (encL key tableL l) key cb b lo n w):=by
 have HR:=η (run_enc cb b lo n c0 key l A w h hn hb hc0 ha)
 have hmf:∀ (fn:Fn) (first cap:Array Value) (w:World),(Instr.makeFunc fn first cap).run prog w=.ok (.func fn first cap) w:=fun _ _ _ _=>rfl
 clear h hn hb hc0 ha
 go_enter func139,ntmps139
 go_wp2_with fail
 refine HR.o.mono ?_
 rintro e w1 ⟨A1,c1,rfl,ho,hbu,hob⟩
 have HO:=η ho
 have HBU:=η hbu
 have HOB:=η hob
 clear ho hbu hob
 go_wp2_with fail
 go_ret2
 exact ⟨A1,c1,rfl,HO.o,HBU.o,HOB.o⟩
end Go.Proofs.YthppjgdnibfefaaGreat
namespace Go.Proofs.YthppjgdnibfefaaGreat
open Tryz
attribute [local irreducible] wsW AeW keyF ArX AvQ AiY BoJ
open Go.RowKit
def BbK (v:Value):Array Value:=#[v]++(Array.replicate 176 (.int .u8 0)++#[.int .i64 0])
theorem FaJ (p:Nat):prog.built 241 [(0,.pointer (some ⟨p,0,none⟩))]=some (BbK (.pointer (some ⟨p,0,none⟩))):=by kernel_rfl
theorem DxW {w:World} {ops:Array Oper} {rest:List Oper} {o:Oper} {a:Act} {Q:Exit→Act→World→Prop} (hgd:o.guard=none) (x:Operand) (hop:o.op=.build 241 #[(0,x)])
  (p:Nat) (hx:a.eval x=.pointer (some ⟨p,0,none⟩)) (h:wpList prog ops Q rest (a.put o.dst (.agg (BbK (.pointer (some ⟨p,0,none⟩))))) w):wpList prog ops Q (o::rest) a w:=by
 refine wpList_plain hgd fun K hK=>?_
 unfold Oper.wp execOp
 simp only [hop,List.map_toArray,List.map_cons,List.map_nil,hx,Sem.run_bind,run_build w _ #[(0,.pointer (some ⟨p,0,none⟩))] _ (FaJ p),Result.andThen_ok]
 exact hK _ _ h
theorem FaK (v:Value) (j:Nat) (hj:j<178):(BbK v)[j]?=some (if j=0 then v else if j<177 then .int .u8 0 else .int .i64 0):=by
 unfold BbK
 by_cases h0:j=0
 ·rw [if_pos h0,h0,Array.getElem?_append_left (by show 0<1;omega)];rfl
 ·rw [if_neg h0,Array.getElem?_append_right (by show 1≤j;omega)]
  have hs:(#[v]:Array Value).size=1:=rfl;have hr:(Array.replicate 176 (Value.int .u8 0)).size=176:=Array.size_replicate;by_cases h1:j<177
  ·rw [if_pos h1,Array.getElem?_append_left (by omega),Array.getElem?_replicate,if_pos (by omega)]
  ·rw [if_neg h1,Array.getElem?_append_right (by omega)]
   rw [show j - (#[v]:Array Value).size - (Array.replicate 176 (Value.int .u8 0)).size=0 by rw [hs,hr];omega];rfl
theorem cip_cf (w:World) (p:Nat) (hp:p<w.heap.size):Cf w.heap.size p (.int .i64 0) (w.alloc (.cells (BbK (.pointer (some ⟨p,0,none⟩))) 241)) (List.replicate 176 0) where
 ptr:=by rw [World.cell?_alloc_at _ _ _ _ rfl,FaK _ 0 (by omega)];rfl
 ar:=Ar.mk (fun j x hx=>by
   have hj:j<176:=by have:=(List.getElem?_eq_some_iff.1 hx).1;rw [List.length_replicate] at this;exact this
   have hx0:x=0:=by
    rw [List.getElem?_replicate,if_pos hj] at hx
    injection hx with hx;exact hx.symm
   rw [World.cell?_alloc_at _ _ _ _ rfl,FaK _ _ (by omega),if_neg (by omega),if_pos (by omega),hx0];rfl) (fun j hj=>World.frozen?_alloc_at _ _ _ _ rfl)
 cnt:=by rw [World.cell?_alloc_at _ _ _ _ rfl,FaK _ 177 (by omega)];rfl
 free:=World.frozen?_alloc_at _ _ _ _ rfl
 ne:=by omega
 len:=List.length_replicate
def RetN (key:YB) (w:World) (e:Ending) (w':World):Prop :=
 ∃ cb b lo,e=.returned (.tuple #[.pointer (some ⟨cb,0,none⟩),.int .i64 0])∧Below w.heap.size w w'∧w.heap.size≤cb∧(w.heap.size≤b∧w.heap.size≤lo)∧Ob cb b lo key 0 w'
theorem DwY (c0:Nat) (A:YA) (key:YB) (w:World) (h:RB w w.heap.size A 16 key) (hc0:16≤c0) :
  Calls prog 138 #[.slice A 16 c0] w (RetN key w):=by
 have HB:=η h
 have HC:=η hc0
 have HK:=η h.len
 clear h hc0
 go_enter func138,ntmps138
 go_wp2_with fail
 refine (new_any _ 7 7 _ [1,2,3,9,11,13,14] _ (by exact RB.lit w [1,2,3,9,11,13,14] _ 7 _ rfl rfl rfl) (by simp) (by omega)).mono ?_
 rintro e w1 ⟨b,rfl,hb1,ht1⟩
 have hlo:w.heap.size≤b:=by
  obtain ⟨f,h1,_⟩:=ht1;simp at h1;omega
 have HLO:=η hlo
 have HB1:Hid (Below w.heap.size w w1):=η ((AaK w _).trans (hb1.mono (by simp)))
 obtain ⟨lo,HLOE⟩:∃ lo,Hid (lo=(w.alloc (.cells #[.int .u8 1,.int .u8 2,.int .u8 3,.int .u8 9,.int .u8 11,.int .u8 13,.int .u8 14] 5)).heap.size):=⟨_,η rfl⟩
 have HT1:Hid (Tab w1 lo b bys false):=η (by rw [HLOE.o];exact ht1)
 have HCF:=η (cip_cf w1 b HT1.o.lt)
 have HT2:Hid (Tab (w1.alloc (.cells (BbK (.pointer (some ⟨b,0,none⟩))) 241)) lo b bys false):=η (HT1.o.below (AaK w1 _))
 have HB2:Hid (Below w.heap.size w (w1.alloc (.cells (BbK (.pointer (some ⟨b,0,none⟩))) 241))):=η (HB1.o.alloc HB1.o.size _)
 clear hlo hb1 ht1
 go_wp2_with (refine DxW rfl (.tmp 9) rfl b rfl ?_)
 refine (DvJ A c0 key _ (by exact (HB.o.below HB2.o).more HB2.o.size) HC.o).mono ?_
 rintro e w2 ⟨rfl,hb3⟩
 have HB3:=η hb3
 clear hb3
 go_wp2_with fail
 refine (EeW w.heap.size w1.heap.size lo b (.int .i64 0) key false _ HK.o ⟨HB1.o.size,HLO.o⟩ (by exact HT2.o.below HB3.o) (by exact HCF.o.below HB3.o)).mono ?_
 rintro e w3 ⟨rfl,hb4,ht4,hc4⟩
 have HB4:=η hb4
 have HT4:=η ht4
 have HC4:=η hc4
 clear hb4 ht4 hc4
 go_wp2_with fail
 go_ret2
 exact ⟨_,b,lo,rfl,(HB2.o.trans (HB3.o.mono HB2.o.size)).trans HB4.o,HB1.o.size,⟨HLO.o,by rw [HLOE.o];simp⟩,⟨HC4.o,HT4.o,HK.o,by omega⟩⟩
