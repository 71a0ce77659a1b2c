import Derived.Test.YthppjgdnibfefaaGreatRefCountAll
import Derived.Test.YthppjgdnibfefaaGreatRefGhash
set_option linter.all false
set_option maxRecDepth 100000
set_option maxHeartbeats 32000000
namespace Go.Proofs.YthppjgdnibfefaaGreat
open Tryz
open Go.RowKit
def fstL (n:YB):List UInt8:=n++[0,0,0,1]
def hkL (k:YB):List UInt8:=encL k tableL (List.replicate 16 0)
def tagL (k n t a:YB):List UInt8:=xorL (bB (sumG (nB (hkL k)) a t)) (encL k tableL (fstL n))
def trnL (k n t:YB):List UInt8:=xorL (ApQ k (aftL (fstL n) 1) t.length) t
def tagR (k n t a:YB):List UInt8×Int:=if n.length=12 then (tagL k n t a,0) else ([],11)
def ApW (k n t a:YB):List UInt8×Int:=if n.length=12 then (trnL k n t++tagL k n (trnL k n t) a,0) else ([],11)
def AmK (k n s a:YB):List UInt8×Int :=
 if n.length=12 then (if s.length<16 then ([],12) else if tagL k n (s.take (s.length - 16)) a=s.drop (s.length - 16) then (trnL k n (s.take (s.length - 16)),0) else ([],13)) else ([],11)
theorem BhQ (n:YB) (h:n.length=12):(fstL n).length=16:=by
 unfold fstL
 rw [List.length_append,h]
 rfl
theorem EwW (k:YB) (h:k.length=16):(hkL k).length=16:=BhV k tableL _ h (by simp)
theorem AsX (k n t a:YB) (h:k.length=16) (hn:n.length=12):(tagL k n t a).length=16:=by
 unfold tagL
 rw [AsK _ _ (by rw [CkZ,BhV k tableL _ h (BhQ n hn)]),CkZ]
theorem AnZ (k n t:YB) (h:k.length=16) (hn:n.length=12):(trnL k n t).length=t.length:=by
 have hs:=CaJ k (aftL (fstL n) 1) t.length h (CrZ _ 1 (BhQ n hn))
 unfold trnL
 rw [AsK _ _ hs.symm,hs]
theorem CgX:∀ s t:List UInt8,s.length=t.length→xorL s (xorL s t)=t
 | [],[],_=>by unfold xorL;rfl
 | x::s,y::t,h=>by
  have:=CgX s t (by simpa using h);unfold xorL at this ⊢;rw [List.zipWith_cons_cons,List.zipWith_cons_cons,this,←UInt8.xor_assoc,UInt8.xor_self,UInt8.zero_xor]
theorem trn_trn (k n t:YB) (h:k.length=16) (hn:n.length=12):trnL k n (trnL k n t)=t:=by
 have hl:=AnZ k n t h hn
 have hs:=CaJ k (aftL (fstL n) 1) t.length h (CrZ _ 1 (BhQ n hn))
 show xorL (ApQ k (aftL (fstL n) 1) (trnL k n t).length) (trnL k n t)=t
 rw [hl]
 exact CgX _ _ hs
theorem ErX (k n t a:YB) (h:k.length=16) (hn:n.length=12):AmK k n (ApW k n t a).1 a=(t,0):=by
 have hl:=AnZ k n t h hn
 have hg:=AsX k n (trnL k n t) a h hn
 have hs:(trnL k n t++tagL k n (trnL k n t) a).length=t.length+16:=by rw [List.length_append,hl,hg]
 unfold AmK ApW
 rw [if_pos hn,if_pos hn,if_neg (by show ¬(trnL k n t++tagL k n (trnL k n t) a).length<16;omega)]
 show (if tagL k n ((trnL k n t++tagL k n (trnL k n t) a).take ((trnL k n t++tagL k n (trnL k n t) a).length - 16)) a=(trnL k n t++tagL k n (trnL k n t) a).drop ((trnL k n t++tagL k n (trnL k n t) a).length - 16) then (trnL k n ((trnL k n t++tagL k n (trnL k n t) a).take ((trnL k n t++tagL k n (trnL k n t) a).length - 16)),(0:Int)) else ([],13))=(t,0)
 rw [hs,Nat.add_sub_cancel,List.take_left' hl,List.drop_left' hl,if_pos rfl,trn_trn k n t h hn]
def RetQ (r:List UInt8×Int) (w:World) (e:Ending) (w':World):Prop:=AhW r.1.length r.1 r.2 w e w'
theorem RetQ.bad {w:World} (x:Int):RetQ ([],x) w (.returned (.tuple #[.slice none 0 0,.int .i64 x])) w:=⟨none,0,rfl,OwnB.nil_ _ _,Below.refl _ _⟩
attribute [local irreducible] aftL encL tableL AoQ blkL ApQ putL numL xorL AlZ fstL hkL tagL trnL bB sumG nB
theorem BuK (K A:YA) (ck c0:Nat) (key b:YB) (w:World) (hk:RB w w.heap.size K 16 key) (hck:16≤ck) (hb:RB w w.heap.size A 16 b) :
  Calls prog 103 #[.slice K 16 ck,.slice A 16 c0] w (RetB 16 (encL key tableL b) w):=by
 have HK:=η hk
 have HC:=η hck
 have HB:=η hb
 clear hk hck hb
 go_enter func103,ntmps103
 go_wp2_with fail
 refine (CuV _).mono ?_
 rintro e w1 ⟨AT,cT,rfl,ho1,hb1⟩
 have HO1:=η ho1
 have HB1:=η hb1
 clear ho1 hb1
 go_wp2_with fail
 refine (DnK A K AT c0 ck cT key tableL b _ (by exact HK.o.step HB1.o) HC.o (by exact HB.o.step HB1.o) (by exact HO1.o.rb)).mono ?_
 rintro e w2 ⟨A2,c2,rfl,ho2,hb2⟩
 have HO2:=η ho2
 have HB2:=η hb2
 clear ho2 hb2
 go_wp2_with fail
 go_ret
 exact ⟨A2,c2,rfl,HO2.o.base_le HB1.o.size,HB1.o.trans (HB2.o.mono HB1.o.size)⟩
theorem OwnB.other {w:World} {base n c g:Nat} {l:YB} (h:OwnB w base (some ⟨g,0,none⟩) n c l) {b:Nat} (hne:b≠g) (k:Nat) (v:Value):OwnB (w.setCell ⟨b,k,none⟩ v) base (some ⟨g,0,none⟩) n c l:=by
 refine ⟨h.1,?_⟩
 rcases h.2 with h0 | ⟨g2,cap,cur,hv,hb,hh,r⟩
 ·exact .inl h0
 ·refine .inr ⟨g2,cap,cur,hv,hb,?_,r⟩
  injection hv with hA;injection hA with hA;injection hA with hA;rw [Below.heap_setCell w ⟨b,k,none⟩ v g2 (by show g2≠b;omega)];exact hh
theorem fst_app (n:YB):([]++n)++[0,0,0,1]=fstL n:=by unfold fstL;rw [List.nil_append]
theorem BpW (A:YA) (c0:Nat) (n:YB) (w:World) (h:RB w w.heap.size A 12 n) :
  Calls prog 67 #[.slice A 12 c0] w (RetB 16 (fstL n) w):=by
 have H:=η h
 have HF:=η (fst_app n)
 clear h
 go_enter func67,ntmps67
 go_wp2_with (first
  | (at_builtin;refine AcQ rfl (.tmp 3) (.tmp 4) rfl w.heap.size _ _ _ [] rfl (OwnB.lit w _ [] #[] 0 rfl rfl (by unfold maxLen;omega) (Nat.le_refl _)) w.heap.size A 12 c0 n rfl (H.o.alloc (Nat.le_refl _) _) (by omega) (by simp) ?_;intro A1 c1 w1 ho1 _ hb1;have HO1:=η ho1;have HB1:=η ((AaK w (.cells #[] 5)).trans hb1);clear ho1 hb1)
  | (at_builtin;refine AcQ rfl (.tmp 5) (.tmp 6) rfl w.heap.size A1 12 c1 ([]++n) rfl (by exact HO1.o.alloc _) _ (some ⟨w1.heap.size,0,none⟩) 4 4 [0,0,0,1] rfl (by exact RB.lit w1 [0,0,0,1] _ 4 _ rfl rfl rfl) (by omega) (by have:=HB1.o.size;simp;omega) ?_;intro A2 c2 w2 ho2 _ hb2;rw [HF.o] at ho2;have HO2:=η ho2;have HB2:=η ((HB1.o.alloc HB1.o.size _).trans hb2);clear ho2 hb2))
 go_ret
 exact ⟨A2,c2,rfl,HO2.o,HB2.o⟩
theorem CwK (A0 A1 A2 A3:YA) (c0 c1 n2 c2 n3 c3:Nat) (w:World) (h2:n2≤65535) (h3:n3≤65535) :
  Calls prog 102 #[.slice A0 16 c0,.slice A1 12 c1,.slice A2 n2 c2,.slice A3 n3 c3] w fun e w'=>e=.returned (.bool false)∧w=w':=by
 have g2:decide (65535<(n2:Int))=false:=decide_eq_false (by omega)
 have g3:decide (65535<(n3:Int))=false:=decide_eq_false (by omega)
 go_enter func102,ntmps102
 go_wp2_with fail
 go_ret
 exact ⟨rfl,rfl⟩
theorem EaK (A0 A1 A2 A3:YA) (c0 n1 c1 n2 c2 n3 c3:Nat) (w:World) (h1:n1≠12) :
  Calls prog 102 #[.slice A0 16 c0,.slice A1 n1 c1,.slice A2 n2 c2,.slice A3 n3 c3] w fun e w'=>e=.returned (.bool true)∧w=w':=by
 have g1:((n1:Int) == 12)=false:=by rw [beq_eq_false_iff_ne];omega
 have g2:((n1:Int) != 12)=true:=by simp [bne,g1]
 go_enter func102,ntmps102
 go_wp2_with fail
 go_ret
 exact ⟨rfl,rfl⟩
theorem DoJ (k n t a:YB):xorL (bB (sumG (nB (hkL k)) a t)) (encL k tableL (fstL n))=tagL k n t a:=by unfold tagL;rfl
theorem hk_eq (k:YB):encL k tableL (List.replicate 16 0)=hkL k:=by unfold hkL;rfl
theorem DpQ (A0 A1 A2 A3:YA) (c0 c1 n2 c2 n3 c3:Nat) (k n t a:YB) (w:World) (h0:RB w w.heap.size A0 16 k) (m0:16≤c0) (h1:RB w w.heap.size A1 12 n) (h2:RB w w.heap.size A2 n2 t) (h3:RB w w.heap.size A3 n3 a) (hn2:n2≤65535) (hn3:n3≤65535) :
  Calls prog 64 #[.slice A0 16 c0,.slice A1 12 c1,.slice A2 n2 c2,.slice A3 n3 c3] w (AhW 16 (tagL k n t a) 0 w):=by
 have H0:=η h0
 have H1:=η h1
 have H2:=η h2
 have H3:=η h3
 have HM0:=η m0
 have HW:=η (CwK A0 A1 A2 A3 c0 c1 n2 c2 n3 c3 w hn2 hn3)
 obtain ⟨s,HS⟩:∃ s,Hid (s=bB (sumG (nB (hkL k)) a t)∧s.length=16):=⟨_,η ⟨rfl,CkZ _⟩⟩
 obtain ⟨x,HX⟩:∃ x,Hid (x=encL k tableL (fstL n)∧x.length=16):=⟨_,η ⟨rfl,BhV k tableL _ h0.len (BhQ n h1.len)⟩⟩
 have HT:Hid (xorL s x=tagL k n t a):=η (by rw [HS.o.1,HX.o.1];exact DoJ k n t a)
 have HHK:=η (hk_eq k)
 clear h0 h1 h2 h3 m0
 go_enter func64,ntmps64
 go_wp2_with fail
 refine HW.o.mono ?_
 rintro e w1 ⟨rfl,rfl⟩
 clear HW
 go_wp2_with (first
  | (at_make;refine AjY rfl _ _ rfl w.heap.size .i64 .i64 _ _ 16 rfl rfl rfl rfl (by omega) (Nat.le_refl _) ?_;intro w1 hown1 hs1 hb1;have HO1:=η hown1;have HB1:=η hb1;clear hown1 hb1 hs1))
 refine (BuK A0 _ c0 16 k (List.replicate 16 0) _ (by exact H0.o.step HB1.o) HM0.o (by exact HO1.o.rb)).mono ?_
 rw [HHK.o]
 rintro e w2 ⟨A5,c5,rfl,ho5,hb5⟩
 have HR5:=η ho5.rb
 have HB2:=η (AaJ HB1.o hb5)
 clear ho5 hb5 HO1 HB1
 go_wp2_with fail
 refine (rsum_any A5 A3 A2 c5 n3 c3 n2 c2 (hkL k) a t _ (by exact HR5.o) (by exact H3.o.step HB2.o) (by exact H2.o.step HB2.o) (by omega) (by omega)).mono ?_
 rw [←HS.o.1]
 rintro e w3 ⟨A6,c6,rfl,ho6,hb6⟩
 obtain ⟨g6,rfl,hg6,_⟩:=OwnB.form ho6 (by omega)
 have HO6:=η (ho6.base_le HB2.o.size)
 have hwg:w.heap.size≤g6:=Nat.le_trans HB2.o.size hg6
 have HB3:=η (AaJ HB2.o hb6)
 clear ho6 hb6 HR5 hg6
 go_wp2_with fail
 refine (BpW A1 c1 n _ (by exact H1.o.step HB3.o)).mono ?_
 rintro e w4 ⟨A7,c7,rfl,ho7,hb7⟩
 have HR7:=η ho7.rb
 have HB4:=η (AaJ HB3.o hb7)
 have HO64:=η (HO6.o.below hb7)
 clear ho7 hb7 HO6
 go_wp2_with fail
 refine (BuK A0 A7 c0 c7 k (fstL n) _ (by exact H0.o.step HB4.o) HM0.o (by exact HR7.o)).mono ?_
 rw [←HX.o.1]
 rintro e w5 ⟨A8,c8,rfl,ho8,hb8⟩
 obtain ⟨g8,rfl,hg8,_⟩:=OwnB.form ho8 (by omega)
 have HO8:=η ho8
 have HB5:=η (AaJ HB4.o hb8)
 have HO65:Hid (OwnB w5 w.heap.size (some ⟨g6,0,none⟩) 16 c6 (AlZ 0 s x)):=η (by rw [BzK];exact HO64.o.below hb8)
 have hne:g6≠g8:=by
  have:=(World.ownsRow.lt HO64.o g6 rfl).2;omega
 clear ho8 hb8 HR7 HO64 hg8
 go_wp2_with fail
 go_loopw [13] (fun i wr=>∃ j:Nat,j≤16∧i=.int .i64 j∧Hid (OwnB wr w.heap.size (some ⟨g6,0,none⟩) 16 c6 (AlZ j s x))∧Hid (OwnB wr w4.heap.size (some ⟨g8,0,none⟩) 16 c8 x)∧Hid (Below w.heap.size w wr)) (fun i _=>16 - (intOf i).toNat)
 case atStart=>exact ⟨0,by omega,rfl,HO65,HO8,HB5⟩
 case round =>
  obtain ⟨j,hj,rfl,ho,hx,hb⟩:=hrel;clear HO65 HO8 HB5;by_cases hlt:j<16
  ·obtain ⟨y,hy⟩:∃ y,x[j]?=some y:=⟨_,List.getElem?_eq_getElem (by have:=HX.o.2;omega)⟩
   obtain ⟨z,hz⟩:∃ z,s[j]?=some z:=⟨_,List.getElem?_eq_getElem (by have:=HS.o.2;omega)⟩;have hc0:=ho.o.cellAt (ChV 16 j s x z HS.o.2 HX.o.2 hz);have hc1:=hx.o.cellAt hy;have hf0:=ho.o.freeAt j;have HN:=η (BzQ 16 j s x z y HS.o.2 HX.o.2 hz hy);unfold bv at hc0;clear hy hz;go_wp2_with fail;go_region
   all_goals
    go_wp2
    go_roundw
    case rel=>exact ⟨j+1,by omega,by go_num,η (by rw [←HN.o];exact ho.o.drew.stored j _ _ (by rw [AlQ];rfl)),η (OwnB.other hx.o.drew hne j _),η (hb.o.drew.setCell (p:=⟨g6,j,none⟩) hwg _)⟩
    case measure=>simp [intOf];omega
  ·obtain rfl:j=16:=by omega
   have h:=ho.o;rw [ChW 16 s x HS.o.2 HX.o.2,HT.o] at h;go_wp2_with fail;go_ret2;exact ⟨_,_,rfl,h,hb.o⟩
theorem EiX (k n t:YB) (m:Nat) (h:t.length=m):xorL (ApQ k (aftL (fstL n) 1) m) t=trnL k n t:=by subst h;unfold trnL;rfl
theorem CwY (A0 A1 A2 A3:YA) (c0 c1 n2 c2 n3 c3:Nat) (k n t a:YB) (w:World) (h0:RB w w.heap.size A0 16 k) (m0:16≤c0) (h1:RB w w.heap.size A1 12 n) (h2:RB w w.heap.size A2 n2 t) (h3:RB w w.heap.size A3 n3 a) (hn2:n2≤65535) (hn3:n3≤65535) :
  Calls prog 174 #[.slice A0 16 c0,.slice A1 12 c1,.slice A2 n2 c2,.slice A3 n3 c3] w (AhW (n2+16) (trnL k n t++tagL k n (trnL k n t) a) 0 w):=by
 have HTRN:=η (EiX k n t n2 h2.len)
 have H0:=η h0
 have H1:=η h1
 have H2:=η h2
 have H3:=η h3
 have HM0:=η m0
 have HW:=η (CwK A0 A1 A2 A3 c0 c1 n2 c2 n3 c3 w hn2 hn3)
 obtain ⟨u,HU⟩:∃ u,Hid (u=trnL k n t):=⟨_,η rfl⟩
 rw [←HU.o] at HTRN ⊢
 clear h0 h1 h2 h3 m0
 go_enter func174,ntmps174
 go_wp2_with fail
 refine HW.o.mono ?_
 rintro e w1 ⟨rfl,rfl⟩
 clear HW
 go_wp2_with fail
 refine (BpW A1 c1 n _ (by exact H1.o)).mono ?_
 rintro e w1 ⟨A5,c5,rfl,ho5,hb5⟩
 have HR5:=η ho5.rb
 have HB1:=η hb5
 clear ho5 hb5
 go_wp2_with fail
 refine (BpZ A5 c5 (fstL n) 1 _ (by exact HR5.o) (by omega)).mono ?_
 rintro e w2 ⟨A6,c6,rfl,ho6,hb6⟩
 have HR6:=η ho6.rb
 have HB2:=η (AaJ HB1.o hb6)
 clear ho6 hb6 HR5 HB1
 go_wp2_with fail
 refine (CwQ A0 A6 A2 c0 c6 n2 c2 k (aftL (fstL n) 1) t _ (by exact H0.o.step HB2.o) HM0.o (by exact HR6.o) (by exact H2.o.step HB2.o) (by omega)).mono ?_
 rw [HTRN.o]
 rintro e w3 ⟨A7,c7,rfl,ho7,hb7⟩
 have HO7:=η ho7
 have HS7:=η HB2.o.size
 have HB3:=η (AaJ HB2.o hb7)
 clear ho7 hb7 HR6 HB2
 go_wp2_with fail
 refine (DpQ A0 A1 A7 A3 c0 c1 n2 c7 n3 c3 k n u a _ (by exact H0.o.step HB3.o) HM0.o (by exact H1.o.step HB3.o) (by exact HO7.o.rb) (by exact H3.o.step HB3.o) (by omega) (by omega)).mono ?_
 rintro e w4 ⟨A8,c8,rfl,ho8,hb8⟩
 have HO8:=η ho8
 have HB4:=η (AaJ HB3.o hb8)
 have HO74:=η ((HO7.o.below hb8).base_le HS7.o)
 clear ho8 hb8 HO7 HB3
 go_wp2_with (at_builtin;refine AcQ rfl (.tmp 36) (.tmp 37) rfl w.heap.size A7 n2 c7 u rfl (by exact HO74.o) w4.heap.size A8 16 c8 (tagL k n u a) rfl (by exact HO8.o.rb) (by omega) (by exact HB4.o.size) ?_;intro A9 c9 w9 ho9 _ hb9;have HO9:=η ho9;have HB9:=η (HB4.o.trans hb9);clear ho9 hb9)
 go_ret2
 exact ⟨A9,c9,rfl,HO9.o,HB9.o⟩
theorem EnY (A0 A1 A2 A3:YA) (c0 n1 c1 n2 c2 n3 c3:Nat) (w:World) (h1:n1≠12) :
  Calls prog 174 #[.slice A0 16 c0,.slice A1 n1 c1,.slice A2 n2 c2,.slice A3 n3 c3] w fun e w'=>e=.returned (.tuple #[.slice none 0 0,.int .i64 11])∧w=w':=by
 have HW:=η (EaK A0 A1 A2 A3 c0 n1 c1 n2 c2 n3 c3 w h1)
 go_enter func174,ntmps174
 go_wp2_with fail
 refine HW.o.mono ?_
 rintro e w1 ⟨rfl,rfl⟩
 go_wp2_with fail
 go_ret2
 exact ⟨rfl,rfl⟩
theorem rseal_r (A0 A1 A2 A3:YA) (c0 n1 c1 n2 c2 n3 c3:Nat) (k n t a:YB) (w:World) (h0:RB w w.heap.size A0 16 k) (m0:16≤c0) (h1:RB w w.heap.size A1 n1 n) (h2:RB w w.heap.size A2 n2 t) (h3:RB w w.heap.size A3 n3 a) (hn2:n2≤65535) (hn3:n3≤65535) :
  Calls prog 174 #[.slice A0 16 c0,.slice A1 n1 c1,.slice A2 n2 c2,.slice A3 n3 c3] w (RetQ (ApW k n t a) w):=by
 by_cases h:n1=12
 ·subst h
  refine (CwY A0 A1 A2 A3 c0 c1 n2 c2 n3 c3 k n t a w h0 m0 h1 h2 h3 hn2 hn3).mono fun e w' hr=>?_;unfold RetQ ApW;rw [if_pos h1.len];show AhW (trnL k n t++tagL k n (trnL k n t) a).length (trnL k n t++tagL k n (trnL k n t) a) 0 w e w';rw [List.length_append,AsX k n _ a h0.len h1.len,AnZ k n t h0.len h1.len,h2.len];exact hr
 ·refine (EnY A0 A1 A2 A3 c0 n1 c1 n2 c2 n3 c3 w h).mono fun e w' hr=>?_
  obtain ⟨rfl,rfl⟩:=hr;unfold ApW;rw [if_neg (by rw [h1.len];exact h)];exact RetQ.bad 11
theorem EoV (A0 A1 A2 A3:YA) (c0 n1 c1 n2 c2 n3 c3:Nat) (w:World) (hn2:n2≤65551) (hn3:n3≤65535) (h:n1≠12∨n2<16) :
  Calls prog 34 #[.slice A0 16 c0,.slice A1 n1 c1,.slice A2 n2 c2,.slice A3 n3 c3] w fun e w'=>e=.returned (.tuple #[.slice none 0 0,.int .i64 (if n1=12 then 12 else 11)])∧w=w':=by
 by_cases h1:n1=12
 ·subst h1
  have g2:decide (65551<(n2:Int))=false:=decide_eq_false (by omega);have g3:decide (65535<(n3:Int))=false:=decide_eq_false (by omega);have g4:decide ((n2:Int) - 16<0)=true:=decide_eq_true (by omega);rw [if_pos rfl];go_enter func34,ntmps34;go_wp2_with fail;go_ret2;exact ⟨rfl,rfl⟩
 ·have g1:((n1:Int) == 12)=false:=by rw [beq_eq_false_iff_ne];omega
  have g1':((n1:Int) != 12)=true:=by simp [bne,g1]
  rw [if_neg h1];go_enter func34,ntmps34;go_wp2_with fail;go_ret2;exact ⟨rfl,rfl⟩
theorem ext16 (g h:YB) (hg:g.length=16) (hh:h.length=16) (he:∀ i,i<16→g[i]?=h[i]?):g=h:=by
 apply List.ext_getElem?
 intro i
 by_cases hi:i<16
 ·exact he i hi
 ·rw [List.getElem?_eq_none (by omega),List.getElem?_eq_none (by omega)]
theorem EoW (A0 A1 A2 A3:YA) (c0 c1 m N c2 n3 c3:Nat) (k n s a:YB) (w:World) (h0:RB w w.heap.size A0 16 k) (m0:16≤c0) (h1:RB w w.heap.size A1 12 n) (hN:N=m+16) (h2:RB w w.heap.size A2 N s) (m2:N≤c2) (h3:RB w w.heap.size A3 n3 a) (hn2:m≤65535) (hn3:n3≤65535) :
  Calls prog 34 #[.slice A0 16 c0,.slice A1 12 c1,.slice A2 N c2,.slice A3 n3 c3] w (RetQ (if tagL k n (s.take m) a=s.drop m then (trnL k n (s.take m),0) else ([],13)) w):=by
 have e2:=h2.len
 have H0:=η h0
 have H1:=η h1
 have H2:=η h2
 have H3:=η h3
 have HM0:=η m0
 have htk:(s.take m).length=m:=by rw [List.length_take];omega
 have HTRN:=η (EiX k n (s.take m) m htk)
 obtain ⟨g,HG⟩:∃ g,Hid (g=tagL k n (s.take m) a∧g.length=16):=⟨_,η ⟨rfl,AsX k n _ a h0.len h1.len⟩⟩
 have HDL:Hid ((s.drop m).length=16):=η (by rw [List.length_drop];omega)
 obtain ⟨R,HR⟩:∃ R,Hid (R=(if tagL k n (s.take m) a=s.drop m then (trnL k n (s.take m),(0:Int)) else ([],13))):=⟨_,η rfl⟩
 rw [←HR.o]
 have HYES:Hid (g=s.drop m→R=(trnL k n (s.take m),0)):=η (fun h=>by rw [HR.o,if_pos (by rw [←HG.o.1];exact h)])
 have HNO:Hid (g≠s.drop m→R=([],13)):=η (fun h=>by rw [HR.o,if_neg (by rw [←HG.o.1];exact h)])
 have HTL:Hid ((trnL k n (s.take m)).length=m):=η (by rw [AnZ k n _ h0.len h1.len,htk])
 have hcut:∀ W:World,(Instr.slice 41 (.slice A2 N c2) none (some (.int .i64 (m:Int))) none).run prog W=.ok (.slice (cutA A2 c2 0) m c2) W:=BsZ A2 N c2 m (by omega)
 have HCUT:Hid (∀ v,Below w.heap.size w v→RB v v.heap.size (cutA A2 c2 0) m (s.take m)):=η (fun v hv=>(H2.o.step hv).part (i:=0) (j:=m) (c:=c2) (by omega) (by omega) m2)
 have g2:decide (65551<(N:Int))=false:=decide_eq_false (by omega)
 have g3:decide (65535<(n3:Int))=false:=decide_eq_false (by omega)
 have g4:decide ((m:Int)<0)=false:=decide_eq_false (by omega)
 have r1:(N:Int) - 16=(m:Int):=by omega
 have HNN:Hid (N=m+16∧s.length=N):=η ⟨hN,e2⟩
 clear h0 h1 h2 h3 m0 htk hN e2 m2
 go_enter func34,ntmps34
 go_wp2_with fail
 refine (DpQ A0 A1 (cutA A2 c2 0) A3 c0 c1 m c2 n3 c3 k n (s.take m) a _ (by exact H0.o) HM0.o (by exact H1.o) (by exact HCUT.o _ (Below.refl _ _)) (by exact H3.o) (by omega) (by omega)).mono ?_
 rw [←HG.o.1]
 rintro e w1 ⟨A4,c4,rfl,ho4,hb4⟩
 obtain ⟨g4',rfl,_,_⟩:=OwnB.form ho4 (by omega)
 have HO4:=η ho4
 have HB4:=η hb4
 clear ho4 hb4
 go_wp2_with fail
 go_loopw [13] (fun i wr=>∃ j:Nat,j≤16∧i=.int .i64 j∧Hid (OwnB wr w.heap.size (some ⟨g4',0,none⟩) 16 c4 g)∧Hid (∀ i,i<j→g[i]?=(s.drop m)[i]?)∧Hid (Below w.heap.size w wr)) (fun i _=>16 - (intOf i).toNat)
 case atStart=>exact ⟨0,by omega,rfl,HO4,η (fun i h=>by omega),HB4⟩
 case round =>
  obtain ⟨j,hj,rfl,ho,he,hb⟩:=hrel;clear HO4 HB4;by_cases hlt:j<16
  ·obtain ⟨x,hx⟩:∃ x,g[j]?=some x:=⟨_,List.getElem?_eq_getElem (by have:=HG.o.2;omega)⟩
   have hc4:=ho.o.cellAt hx;obtain ⟨p,HP⟩:∃ p,Hid (p=m+j):=⟨_,η rfl⟩;have hpN:p<N:=by have:=HNN.o.1;have:=HP.o;omega
   obtain ⟨g5,o5,rfl,hg5,y,hy,hc5⟩:=(H2.o.step hb.o).at_ (k:=p) hpN;have hyd:(s.drop m)[j]?=some y:=by rw [List.getElem?_drop,←HP.o];exact hy
   have hmj:(m:Int)+(j:Int)=(p:Int):=by have:=HP.o;omega
   by_cases hxy:x=y
   ·have hd:((x.toNat:Int) != (y.toNat:Int))=false:=by rw [hxy];simp
    have HE:Hid (∀ i,i<j+1→g[i]?=(s.drop m)[i]?):=η (fun i hi=>by
     by_cases hij:i=j
     ·rw [hij,hx,hyd,hxy]
     ·exact he.o i (by omega))
    clear hx hy hyd;go_wp2_with fail;go_region
    all_goals
     go_wp2
     go_roundw
     case rel=>exact ⟨j+1,by omega,by go_num,η ho.o.drew,HE,η hb.o.drew⟩
     case measure=>simp [intOf];omega
   ·have hd:((x.toNat:Int) != (y.toNat:Int))=true:=by
     rw [bne_iff_ne];intro h;exact hxy (UInt8.toNat_inj.1 (by omega))
    have hR:R=([],13):=HNO.o (fun h=>hxy (by rw [h,hyd] at hx;exact (Option.some.inj hx).symm));clear hx hy hyd;go_wp2_with fail;go_region
    all_goals
     go_wp2
     go_ret2
     rw [hR]
     exact ⟨none,0,rfl,OwnB.nil_ _ _,hb.o.drew⟩
  ·obtain rfl:j=16:=by omega
   have hR:=HYES.o (ext16 g _ HG.o.2 HDL.o he.o);have HK1:Hid (RB wr wr.heap.size A1 12 n):=η (H1.o.step hb.o);have HBD:=η hb.o.drew;go_wp2_with fail;refine wp_region_held_drew (S:=fun w'=>True) (by kernel_rfl) trivial (fun hHeld=>?_);(try dsimp only at hHeld);refine tkJ 0 rfl hHeld ?_;refine tkJ 1 rfl hHeld ?_;refine tkJ 4 rfl hHeld ?_;refine tkJ 5 rfl hHeld ?_;refine tkJ 6 rfl hHeld ?_;refine rdI 2 rfl (fun K hK=>?_);(try simp only [Act.put,rxT,sxT]);go_simp;refine (BpW A1 c1 n _ (by exact HK1.o)).mono ?_;rintro e v1 ⟨A5,c5,rfl,ho5,hb5⟩;have HR5:=η ho5.rb;have HB1:=η (AaJ HBD.o hb5);clear ho5 hb5;(try go_wp2_with fail);refine hK.o _ _ trivial (fun hHeld=>?_);clear hK K;refine rdI 3 rfl (fun K hK=>?_);(try simp only [Act.put,rxT,sxT]);go_simp;refine (BpZ A5 c5 (fstL n) 1 _ (by exact HR5.o) (by omega)).mono ?_;rintro e v2 ⟨A6,c6,rfl,ho6,hb6⟩;have HR6:=η ho6.rb;have HB2:=η (AaJ HB1.o hb6);clear ho6 hb6 HR5 HB1;(try go_wp2_with fail);refine hK.o _ _ trivial (fun hHeld=>?_);clear hK K;refine rdI 7 rfl (fun K hK=>?_);(try simp only [Act.put,rxT,sxT]);go_simp;refine (CwQ A0 A6 (cutA A2 c2 0) c0 c6 m c2 k (aftL (fstL n) 1) (s.take m) _ (by exact H0.o.step HB2.o) HM0.o (by exact HR6.o) (by exact HCUT.o _ HB2.o) (by omega)).mono ?_;rw [HTRN.o];rintro e v3 ⟨A7,c7,rfl,ho7,hb7⟩;have HO7:=η (ho7.base_le HB2.o.size);have HB3:=η (AaJ HB2.o hb7);clear ho7 hb7 HR6 HB2;(try go_wp2_with fail);refine hK.o _ _ trivial (fun hHeld=>?_);clear hK K;refine tkJ 8 rfl hHeld ?_;refine tkJ 9 rfl hHeld ?_;refine tkJ 10 rfl hHeld ?_;refine rdI 11 rfl (fun K hK=>?_);(try simp only [Act.put,rxT,sxT]);go_simp;refine hK.o _ _ trivial (fun _=>?_);clear hK K;(try simp only [Act.put,rxT,sxT]);refine wpAnyH_done (by kernel_rfl) ?_ _;go_wp2_with fail;go_ret2;rw [hR];exact ⟨A7,c7,by rw [HTL.o];rfl,by show OwnB _ _ _ (trnL k n (s.take m)).length _ _;rw [HTL.o];exact HO7.o,HB3.o⟩
theorem EoQ (A0 A1 A2 A3:YA) (c0 n1 c1 n2 c2 n3 c3:Nat) (k n s a:YB) (w:World) (h0:RB w w.heap.size A0 16 k) (m0:16≤c0) (h1:RB w w.heap.size A1 n1 n) (h2:RB w w.heap.size A2 n2 s) (m2:n2≤c2) (h3:RB w w.heap.size A3 n3 a) (hn2:n2≤65551) (hn3:n3≤65535) :
  Calls prog 34 #[.slice A0 16 c0,.slice A1 n1 c1,.slice A2 n2 c2,.slice A3 n3 c3] w (RetQ (AmK k n s a) w):=by
 by_cases h:n1≠12∨n2<16
 ·refine (EoV A0 A1 A2 A3 c0 n1 c1 n2 c2 n3 c3 w hn2 hn3 h).mono fun e w' hr=>?_
  obtain ⟨rfl,rfl⟩:=hr;unfold AmK;by_cases h12:n1=12
  ·rw [if_pos h12,if_pos (by rw [h1.len];exact h12),if_pos (by rw [h2.len];omega)]
   exact RetQ.bad 12
  ·rw [if_neg h12,if_neg (by rw [h1.len];exact h12)]
   exact RetQ.bad 11
 ·obtain rfl:n1=12:=by omega
  obtain ⟨m,rfl⟩:∃ m,n2=m+16:=⟨n2 - 16,by omega⟩;unfold AmK;rw [if_pos h1.len,if_neg (by rw [h2.len];omega),h2.len,Nat.add_sub_cancel];exact EoW A0 A1 A2 A3 c0 c1 m (m+16) c2 n3 c3 k n s a w h0 m0 h1 rfl h2 m2 h3 (by omega) hn3
