import Derived.Test.YthppjgdnibfefaaGreatIniAll
import Derived.Lib.Strings
import Derived.Lib.Bytealg
import Derived.Test.YthppjgdnibfefaaGreatGcmShow
set_option linter.all false
set_option maxRecDepth 100000
set_option maxHeartbeats 32000000
namespace Go.Proofs.YthppjgdnibfefaaGreat
open Tryz
open Go.RowKit
def schk (p:Pl):Int:=if p.2.1≠1∨typ p.1≠3 then 14 else if 20<p.2.2.1.length∨20<p.2.2.2.length then 15 else 0
def sprs (l:YB):IPl×Int :=
 if (prs l).2.2≠0 then (BkW,(prs l).2.2) else if schk (prs l).1≠0 then (BkW,schk (prs l).1)
 else if (prs l).2.1.length<17 then (BkW,12) else (((prs l).1,(prs l).2.1.take ((prs l).2.1.length - 16),(prs l).2.1.drop ((prs l).2.1.length - 16)),0)
theorem typ_lt (f:UInt8):typ f<4:=Nat.mod_lt _ (by decide)
theorem DzY (p:Pl):(schk p=14∧(p.2.1≠1∨typ p.1≠3))∨(schk p=15∧p.2.1=1∧typ p.1=3∧(20<p.2.2.1.length∨20<p.2.2.2.length))∨(schk p=0∧p.2.1=1∧typ p.1=3∧p.2.2.1.length≤20∧p.2.2.2.length≤20):=by
 unfold schk
 by_cases h:p.2.1≠1∨typ p.1≠3
 ·exact .inl ⟨if_pos h,h⟩
 ·rw [if_neg h]
  by_cases h2:20<p.2.2.1.length∨20<p.2.2.2.length
  ·exact .inr (.inl ⟨if_pos h2,by omega,by omega,h2⟩)
  ·exact .inr (.inr ⟨if_neg h2,by omega,by omega,by omega,by omega⟩)
theorem AmW:RT 81 zeroI.cells:=⟨AsJ (by kernel_rfl),by kernel_rfl⟩
theorem DvV (ev:Operand→Value) (x:Operand) (d:Option Tmp) (ty:TypeId) (ps:String) (af:Array Edge) (g:Option (Nat×Bool)) (w:World):(execOp ev ⟨d,.load 81 x,ty,ps,af,g⟩).run prog w=ldHd 81 (ev x) w:=rfl
theorem DvQ (ev:Operand→Value) (x y:Operand) (d:Option Tmp) (ty:TypeId) (ps:String) (af:Array Edge) (g:Option (Nat×Bool)) (w:World):(execOp ev ⟨d,.store 81 x y,ty,ps,af,g⟩).run prog w=stHd 81 (ev x) (ev y) w:=rfl
open Go.RowKit
def stKey:List UInt8:=[0xbe,0x0c,0x69,0x0b,0x9f,0x66,0x57,0x5a,0x1d,0x76,0x6b,0x54,0xe3,0x68,0xc8,0x4e]
def stNon:List UInt8:=[0x46,0x15,0x99,0xd3,0x5d,0x63,0x2b,0xf2,0x23,0x98,0x25,0xbb]
def BdY (id ahead:YB):List UInt8:=UInt8.ofNat id.length::id++ahead
def stL (id ahead:YB):List UInt8:=tagL stKey stNon [] (BdY id ahead)
def AkK (id ahead:YB):List UInt8×Int:=if 20<id.length then ([],15) else if 65000<ahead.length then ([],11) else (stL id ahead,0)
def AdW (to frm tok:YB):List UInt8:=rawP (255,1,to,frm)++tok
def AiX (to frm id tok:YB):List UInt8×Int :=
 if 20<to.length∨20<frm.length∨20<id.length then ([],15) else if tok.length<1∨4096<tok.length then ([],11) else (AdW to frm tok++stL id (AdW to frm tok),0)
def BjQ (b id:YB):Int :=
 if (sprs b).2≠0 then (sprs b).2 else if (AkK id (b.take (b.length - 16))).2≠0 then (AkK id (b.take (b.length - 16))).2
 else if (AkK id (b.take (b.length - 16))).1=(sprs b).1.2.2 then 0 else 13
theorem CaV:stKey.length=16:=rfl
theorem CaQ:stNon.length=12:=rfl
theorem AuV (id ahead:YB):(stL id ahead).length=16:=AsX _ _ _ _ CaV CaQ
theorem CpX {to frm:YB} (h1:to.length≤20) (h2:frm.length≤20):Pgood (255,1,to,frm):=⟨show ¬((255:UInt8).toNat<128) by decide,by simp,by simp only;omega,by simp only;omega⟩
theorem schk_255 {to frm:YB} (h1:to.length≤20) (h2:frm.length≤20):schk (255,1,to,frm)=0:=by
 unfold schk
 rw [if_neg (show ¬((1:Nat)≠1∨typ 255≠3) by decide),if_neg (by simp only;omega)]
theorem CvJ (to frm tok s:YB) (h1:to.length≤20) (h2:frm.length≤20) (h3:1≤tok.length) (h4:s.length=16):sprs (AdW to frm tok++s)=(((255,1,to,frm),tok,s),0):=by
 unfold sprs AdW
 rw [List.append_assoc,prs_raw _ (CpX h1 h2)]
 simp only [ne_eq,not_true_eq_false,if_false]
 rw [schk_255 h1 h2]
 simp only [not_true_eq_false,if_false]
 rw [if_neg (by rw [List.length_append];omega)]
 have e:(tok++s).length - 16=tok.length:=by rw [List.length_append];omega
 rw [e]
 simp
theorem AqX (to frm tok:YB):(AdW to frm tok).length=7+to.length+frm.length+tok.length:=by
 unfold AdW
 rw [List.length_append,DiQ]
theorem DoX {to frm id tok:YB} (h1:to.length≤20) (h2:frm.length≤20) (h3:id.length≤20) (h4:1≤tok.length) (h5:tok.length≤4096):AiX to frm id tok=(AdW to frm tok++stL id (AdW to frm tok),0):=by
 unfold AiX
 rw [if_neg (by omega),if_neg (by omega)]
theorem DgX (to frm tok s id:YB) (h1:to.length≤20) (h2:frm.length≤20) (h3:1≤tok.length) (h4:s.length=16) (h5:id.length≤20) (h6:tok.length≤4096):BjQ (AdW to frm tok++s) id=if stL id (AdW to frm tok)=s then 0 else 13:=by
 have hp:=CvJ to frm tok s h1 h2 h3 h4
 have hl:=AqX to frm tok
 have e:(AdW to frm tok++s).take ((AdW to frm tok++s).length - 16)=AdW to frm tok:=by
  rw [List.length_append,h4,Nat.add_sub_cancel,List.take_append_of_le_length (Nat.le_refl _),List.take_of_length_le (Nat.le_refl _)]
 have hs:AkK id (AdW to frm tok)=(stL id (AdW to frm tok),0):=by
  unfold AkK;rw [if_neg (by omega),if_neg (by omega)]
 unfold BjQ
 rw [hp,e,hs]
 simp only [ne_eq,not_true_eq_false,if_false]
open Go.RowKit
attribute [local go_sem ↓] AvK AvJ ArZ ArY DvV DvQ
attribute [local irreducible] prs schk typ
end Go.Proofs.YthppjgdnibfefaaGreat
namespace Go.Proofs.YthppjgdnibfefaaGreat
open Tryz
open Go.RowKit
def valL (c:UInt8):Int:=if 48≤c.toNat∧c.toNat≤57 then (c.toNat:Int) - 48 else if 97≤c.toNat∧c.toNat≤102 then (c.toNat:Int) - 87 else -1
theorem BfX (c:UInt8):-1≤valL c∧valL c≤15:=by unfold valL;split <;> (try split) <;> omega
theorem DyJ (c:UInt8):Lib.indexByte [48,49,50,51,52,53,54,55,56,57,97,98,99,100,101,102] c=valL c:=by
 have h:∀ n:Fin 256,Lib.indexByte [48,49,50,51,52,53,54,55,56,57,97,98,99,100,101,102] (UInt8.ofNat n.val)=valL (UInt8.ofNat n.val):=by decide +kernel
 have:=h ⟨c.toNat,c.toNat_lt⟩
 simpa using this
def AmQ:YB→Option (YB)
 | []=>some []
 | [_]=>none
 | a::b::r=>if valL a<0∨valL b<0 then none else (AmQ r).map fun d=>UInt8.ofNat (16*valL a+valL b).toNat::d
theorem AxX (a b:UInt8) (r:YB):AmQ (a::b::r)=if valL a<0∨valL b<0 then none else (AmQ r).map fun d=>UInt8.ofNat (16*valL a+valL b).toNat::d:=by rw [AmQ]
theorem BpJ:∀ (k:Nat) (p r d:YB),p.length=2*k→AmQ p=some d→AmQ (p++r)=(AmQ r).map (d++·)
 | 0,p,r,d,hp,h=>by
  have:p=[]:=List.eq_nil_of_length_eq_zero (by omega);subst this;simp only [AmQ,Option.some.injEq] at h;subst h
  simp
 | k+1,p,r,d,hp,h=>by
  match p,hp with
  | a::b::p',hp =>
   rw [AxX] at h;rw [List.cons_append,List.cons_append,AxX];by_cases hc:valL a<0∨valL b<0
   ·rw [if_pos hc] at h;cases h
   ·rw [if_neg hc] at h ⊢
    obtain ⟨d',hd',rfl⟩:=Option.map_eq_some_iff.1 h;rw [BpJ k p' r d' (by simp at hp;omega) hd',Option.map_map];rfl
theorem BoZ:∀ (k:Nat) (p:YB),p.length=2*k+1→AmQ p=none
 | 0,p,hp=>by
  match p,hp with
  | [a],_=>rfl
 | k+1,p,hp=>by
  match p,hp with
  | a::b::p',hp =>
   rw [AxX,BoZ k p' (by simp at hp;omega)];simp
theorem ByY {k:Nat} {l d:YB} {x y:UInt8} (h:AmQ (l.take (2*k))=some d) (hx:l[2*k]?=some x) (hy:l[2*k+1]?=some y) (h1:0≤valL x) (h2:0≤valL y) :
  AmQ (l.take (2*(k+1)))=some (d++[UInt8.ofNat (16*valL x+valL y).toNat]):=by
 have hl:2*k<l.length:=(List.getElem?_eq_some_iff.1 hx).1
 rw [show 2*(k+1)=2*k+1+1 from by omega,AgY hy,AgY hx,List.append_assoc,BpJ k _ _ d (by rw [List.length_take];omega) h]
 simp only [List.cons_append,List.nil_append]
 rw [AxX,if_neg (by omega)]
 rfl
theorem ChQ {k:Nat} {l d:YB} {x y:UInt8} (h:AmQ (l.take (2*k))=some d) (hx:l[2*k]?=some x) (hy:l[2*k+1]?=some y) (hb:valL x<0∨valL y<0):AmQ l=none:=by
 have hl:2*k+1<l.length:=(List.getElem?_eq_some_iff.1 hy).1
 have e:l=l.take (2*k)++x::y::l.drop (2*k+1+1):=by
  have e1:l.drop (2*k)=x::l.drop (2*k+1):=by
   rw [List.drop_eq_getElem_cons (by omega)];rw [List.getElem?_eq_getElem (by omega)] at hx;rw [Option.some.inj hx]
  have e2:l.drop (2*k+1)=y::l.drop (2*k+1+1):=by
   rw [List.drop_eq_getElem_cons hl];rw [List.getElem?_eq_getElem hl] at hy;rw [Option.some.inj hy]
  rw [←e2,←e1,List.take_append_drop]
 rw [e,BpJ k _ _ d (by rw [List.length_take];omega) h,AxX,if_pos hb]
 rfl
theorem BdJ {s:ByteArray} {l:YB} (hl:s.data.toList=l) {i:Nat} {x:UInt8} (hx:l[i]?=some x) (k:IntKind) (z:Int) (hz:z=(i:Int)) :
  ∀ W:World,(Instr.index 9 (.string s) (.int k z)).run prog W=.ok (.int .u8 (x.toNat:Int)) W:=by
 intro W
 subst hl
 subst hz
 have hi:i<s.size:=by have:=(List.getElem?_eq_some_iff.1 hx).1;simpa using this
 have hx':s[i]=x:=by
  have:=(List.getElem?_eq_some_iff.1 hx).2;rw [←this];rfl
 simp [Instr.index,go_sem,hi,hx']
theorem idx_lite (x:UInt8) (v:Int) (hv:valL x=v) (w:World) :
  Calls prog 189 #[.string ⟨#[48,49,50,51,52,53,54,55,56,57,97,98,99,100,101,102]⟩,.int .u8 (x.toNat:Int)] w fun e w'=>e=.returned (.int .i64 v)∧w=w':=by
 have H:=η hv
 clear hv
 go_enter func189,ntmps189
 go_wp2
 rw [run_callFunc_extern func209 (by kernel_rfl) (by kernel_rfl) (by kernel_rfl) (e:=Extern.BytealgIndexByte.indexByte) (by kernel_rfl),Lib.run_indexByteString]
 simp only [Result.andThen]
 rw [Oper.upon_value]
 go_wp2
 go_ret
 refine ⟨?_,rfl⟩
 rw [←H.o,←DyJ]
 simp
theorem DjZ (x:UInt8) (v:Int) (hv:valL x=v) (w:World) :
  Calls prog 157 #[.string ⟨#[48,49,50,51,52,53,54,55,56,57,97,98,99,100,101,102]⟩,.int .u8 (x.toNat:Int)] w fun e w'=>e=.returned (.int .i64 v)∧w=w':=by
 have H:=η hv
 clear hv
 go_enter func157,ntmps157
 go_wp2_with (go_at_call 189;refine (idx_lite x v H.o _).mono ?_;rintro e w' ⟨rfl,rfl⟩)
 go_ret
 exact ⟨rfl,rfl⟩
theorem nib_or (p q:Nat) (hp:p<16) (hq:q<16):bits .or .i64 ((p:Int)*16) (q:Int)=((16*p+q:Nat):Int):=by
 have h:∀ a b:Fin 16,bits .or .i64 ((a.val:Int)*16) (b.val:Int)=((16*a.val+b.val:Nat):Int):=by decide +kernel
 exact h ⟨p,hp⟩ ⟨q,hq⟩
theorem DsX {p q:Nat} {x y:UInt8} (hx:valL x=p) (hy:valL y=q) (hp:p<16) (hq:q<16):(((UInt8.ofNat (16*valL x+valL y).toNat).toNat:Nat):Int)=((16*p+q:Nat):Int):=by
 rw [hx,hy,show ((16:Int)*(p:Int)+(q:Int)).toNat=16*p+q from by omega]
 simp
 omega
def BoQ (l:YB) (w:World) (e:Ending) (w':World):Prop :=
 (∃ d,AmQ l=some d∧AhW (l.length / 2) d 0 w e w')∨(AmQ l=none∧e=.returned (.tuple #[.slice none 0 0,.int .i64 10])∧Below w.heap.size w w')
theorem CtX (s:ByteArray) (l:YB) (w:World) (hl:s.data.toList=l) (hm:s.size≤70368744177664) :
  Calls prog 129 #[.string s] w (BoQ l w):=by
 have hsz:s.size=l.length:=by rw [←hl];simp
 rcases Nat.mod_two_eq_zero_or_one s.size with hpar | hpar
 ·obtain ⟨m,hlen⟩:∃ m,Hid (s.size=2*m):=⟨s.size / 2,η (by omega)⟩
  have hev:((s.size:Int) % 2 != 0)=false:=by simp;omega
  clear hpar;have HL:=η hl;have HS:=η hsz;clear hl hsz;go_enter func129,ntmps129
  go_wp2_with (first
   | (at_make;refine CgY rfl _ _ rfl w.heap.size .i64 .i64 _ (s.size / 2) rfl rfl (by omega) (by omega) (Nat.le_refl _) ?_;intro w1 hown1 hb1))
  go_loopw [4,5,6,7] (fun v i _ _ wr=>∃ (k c1:Nat) (A1:YA) (d:YB),2*k≤s.size∧i=.int .i64 (2*(k:Int))∧v=.slice A1 k c1∧Hid (AmQ (l.take (2*k))=some d)∧OwnB wr w.heap.size A1 k c1 d∧Below w.heap.size w wr) (fun _ i _ _ _=>s.size - (intOf i).toNat)
  case atStart=>exact ⟨0,_,_,[],Nat.zero_le _,rfl,rfl,η rfl,hown1,hb1⟩
  case round =>
   obtain ⟨k,c1,A1,d,hk,rfl,rfl,hd,hown,hbel⟩:=hrel;have hwr:=hbel.size;by_cases hlt:2*k<s.size
   ·have hlt2:2*k+1<s.size:=by have:=hlen.o;omega
    obtain ⟨x,hx⟩:∃ x,l[2*k]?=some x:=⟨_,List.getElem?_eq_getElem (by rw [←HS.o];exact hlt)⟩;obtain ⟨y,hy⟩:∃ y,l[2*k+1]?=some y:=⟨_,List.getElem?_eq_getElem (by rw [←HS.o];exact hlt2)⟩;have hi1:=BdJ HL.o hx .i64 (2*(k:Int)) (by omega);have hi2:=BdJ HL.o hy .i64 (2*(k:Int)+1) (by omega);have HX:=η hx;have HY:=η hy;clear hx hy;by_cases hbad:valL x<0∨valL y<0
    ·go_wp2_with (first
      | (go_at_call 157;refine (DjZ _ _ rfl _).mono ?_;rintro e w' ⟨rfl,rfl⟩))
     all_goals
      go_ret2
      exact .inr ⟨ChQ hd.o HX.o HY.o hbad,rfl,hbel⟩
    ·obtain ⟨p,hp,hp16⟩:∃ p:Nat,Hid (valL x=p)∧p<16:=⟨(valL x).toNat,η (by omega),by have:=BfX x;omega⟩
     obtain ⟨q,hq,hq16⟩:∃ q:Nat,Hid (valL y=q)∧q<16:=⟨(valL y).toNat,η (by omega),by have:=BfX y;omega⟩;go_wp2_with fail;refine (DjZ _ _ hp.o _).mono ?_;rintro e w' ⟨rfl,rfl⟩;go_wp2_with fail;refine (DjZ _ _ hq.o _).mono ?_;rintro e w' ⟨rfl,rfl⟩;have hor:=nib_or p q hp16 hq16
     go_wp2_with (first
      | (at_builtin;refine AcQ rfl (.tmp 37) (.tmp 43) rfl w.heap.size _ _ _ _ rfl (hown.alloc _) (wr.heap.size+1) (some ⟨wr.heap.size,0,none⟩) 1 1 [UInt8.ofNat (16*valL x+valL y).toNat] rfl (RB.new wr _ _ _ (by simp only [bvs,bv,List.map_cons,List.map_nil];rw [DsX hp.o hq.o hp16 hq16];rfl)) (by omega) (by simp;omega) ?_;intro A2 c2 w2 hown2 _ hb2))
     go_roundw
     case rel=>exact ⟨k+1,c2,A2,_,by omega,by go_num,rfl,η (ByY hd.o HX.o HY.o (by rw [hp.o];omega) (by rw [hq.o];omega)),hown2,(hbel.alloc hwr _).trans hb2⟩
     case measure=>simp [intOf];omega
   ·go_wp2
    go_ret2;have h1:=hlen.o;have h2:=HS.o;obtain rfl:k=m:=by omega
    have hd':=hd.o;rw [List.take_of_length_le (by omega)] at hd'
    have hfin:BoQ l w (.returned (.tuple #[.slice A1 k c1,.int .i64 0])) wr:=by
     refine .inl ⟨d,hd',?_⟩;rw [show l.length / 2=k from by omega];exact ⟨A1,c1,rfl,hown,hbel⟩
    exact hfin
 ·have hod:((s.size:Int) % 2 != 0)=true:=by simp;omega
  go_enter func129,ntmps129;go_wp2;go_ret2;exact .inr ⟨BoZ (s.size / 2) l (by omega),rfl,Below.refl _ _⟩
theorem valL_at (x:UInt8) (k:Nat) (hk:k<16) (h:[48,49,50,51,52,53,54,55,56,57,97,98,99,100,101,102][k]?=some x):valL x=k:=by
 have H:∀ k:Fin 16,∀ n:Fin 256,([48,49,50,51,52,53,54,55,56,57,97,98,99,100,101,102]:YB)[k.val]?=some (UInt8.ofNat n.val)→valL (UInt8.ofNat n.val)=(k.val:Int):=by decide +kernel
 have e:UInt8.ofNat x.toNat=x:=by simp
 have:=H ⟨k,hk⟩ ⟨x.toNat,x.toNat_lt⟩
 rw [e] at this
 exact this h
def CrQ (k:Nat):UInt8:=([48,49,50,51,52,53,54,55,56,57,97,98,99,100,101,102]:YB).getD k 0
theorem EhY (x:UInt8) (h:∀ k,k<16→CrQ k≠x):valL x = -1:=by
 have H:∀ n:Fin 256,valL (UInt8.ofNat n.val)≠-1→∃ k:Fin 16,CrQ k.val=UInt8.ofNat n.val:=by decide +kernel
 have e:UInt8.ofNat x.toNat=x:=by simp
 have:=H ⟨x.toNat,x.toNat_lt⟩
 rw [e] at this
 rcases Classical.em (valL x = -1) with h0 | h0
 ·exact h0
 ·obtain ⟨k,hk⟩:=this h0
  exact absurd hk (h k.val k.isLt)
theorem CeX (x:UInt8) (v:Int) (hv:valL x=v) (w:World) :
  Calls prog 216 #[.int .u8 (x.toNat:Int)] w fun e w'=>e=.returned (.int .i64 v)∧w=w':=by
 have H:=η hv
 clear hv
 go_enter func216,ntmps216
 go_wp2
 go_loop [3] (fun i=>∃ k:Nat,k≤16∧i=.int .i64 k∧Hid (∀ j,j<k→CrQ j≠x)) (fun i=>16 - (intOf i).toNat)
 case atStart=>exact ⟨0,by omega,rfl,η (fun j hj=>absurd hj (by omega))⟩
 case round =>
  obtain ⟨k,hk,rfl,hno⟩:=hrel;by_cases hlt:k<16
  ·have hi:=BdJ (s:=⟨#[48,49,50,51,52,53,54,55,56,57,97,98,99,100,101,102]⟩) rfl (i:=k) (x:=CrQ k) (by rw [List.getElem?_eq_getElem (by simpa using hlt)];simp [CrQ,hlt]) .i64 (k:Int) rfl
   by_cases he:CrQ k=x
   ·have hb:(((CrQ k).toNat:Int) == (x.toNat:Int))=true:=by rw [he];simp
    have hval:valL x=k:=valL_at x k hlt (by rw [←he];rw [List.getElem?_eq_getElem (by simpa using hlt)];simp [CrQ,hlt]);have HV:=η hval;have HE:=η he;clear hval he;go_wp2;go_ret;exact ⟨BaV (by rw [←H.o,HV.o]),rfl⟩
   ·have hb:(((CrQ k).toNat:Int) == (x.toNat:Int))=false:=by
     rw [beq_eq_false_iff_ne];intro e;exact he (UInt8.toNat_inj.1 (by omega))
    go_wp2;go_round
    case rel=>exact ⟨k+1,by omega,by go_num,η (fun j hj=>by
     rcases Nat.lt_or_ge j k with h | h
     ·exact hno.o j h
     ·obtain rfl:j=k:=by omega
      exact he)⟩
    case measure=>simp [intOf];omega
  ·go_wp2
   go_ret;have hk16:k=16:=by omega
   exact ⟨BaV (by rw [←H.o,EhY x (fun j hj=>hno.o j (by omega))]),rfl⟩
theorem CiW (s:ByteArray) (l:YB) (w:World) (hl:s.data.toList=l) (hm:s.size≤70368744177664) :
  Calls prog 202 #[.string s] w (BoQ l w):=by
 have hsz:s.size=l.length:=by rw [←hl];simp
 rcases Nat.mod_two_eq_zero_or_one s.size with hpar | hpar
 ·obtain ⟨m,hlen⟩:∃ m,Hid (s.size=2*m):=⟨s.size / 2,η (by omega)⟩
  have hev:((s.size:Int) % 2 == 1)=false:=by simp;omega
  clear hpar;have HL:=η hl;have HS:=η hsz;clear hl hsz;go_enter func202,ntmps202;go_wp2
  go_loopw [4,5,6,7] (fun v i _ _ wr=>∃ (k c1:Nat) (A1:YA) (d:YB),2*k≤s.size∧i=.int .i64 (2*(k:Int))∧v=.slice A1 k c1∧Hid (AmQ (l.take (2*k))=some d)∧OwnB wr w.heap.size A1 k c1 d∧Below w.heap.size w wr) (fun _ i _ _ _=>s.size - (intOf i).toNat)
  case atStart=>exact ⟨0,_,_,[],Nat.zero_le _,rfl,rfl,η rfl,OwnB.lit w _ [] #[] 0 rfl rfl (by unfold maxLen;omega) (Nat.le_refl _),(Below.refl _ _).alloc (Nat.le_refl _) _⟩
  case round =>
   obtain ⟨k,c1,A1,d,hk,rfl,rfl,hd,hown,hbel⟩:=hrel;have hwr:=hbel.size;by_cases hlt:2*k<s.size
   ·have hlt2:2*k+1<s.size:=by have:=hlen.o;omega
    obtain ⟨x,hx⟩:∃ x,l[2*k]?=some x:=⟨_,List.getElem?_eq_getElem (by rw [←HS.o];exact hlt)⟩;obtain ⟨y,hy⟩:∃ y,l[2*k+1]?=some y:=⟨_,List.getElem?_eq_getElem (by rw [←HS.o];exact hlt2)⟩;have hi1:=BdJ HL.o hx .i64 (2*(k:Int)) (by omega);have hi2:=BdJ HL.o hy .i64 (2*(k:Int)+1) (by omega);have HX:=η hx;have HY:=η hy;clear hx hy;by_cases hbad:valL x<0∨valL y<0
    ·go_wp2_with (first
      | (go_at_call 216;refine (CeX _ _ rfl _).mono ?_;rintro e w' ⟨rfl,rfl⟩))
     all_goals
      go_ret2
      exact .inr ⟨ChQ hd.o HX.o HY.o hbad,rfl,hbel⟩
    ·obtain ⟨p,hp,hp16⟩:∃ p:Nat,Hid (valL x=p)∧p<16:=⟨(valL x).toNat,η (by omega),by have:=BfX x;omega⟩
     obtain ⟨q,hq,hq16⟩:∃ q:Nat,Hid (valL y=q)∧q<16:=⟨(valL y).toNat,η (by omega),by have:=BfX y;omega⟩;go_wp2_with fail;refine (CeX _ _ hp.o _).mono ?_;rintro e w' ⟨rfl,rfl⟩;go_wp2_with fail;refine (CeX _ _ hq.o _).mono ?_;rintro e w' ⟨rfl,rfl⟩
     go_wp2_with (first
      | (at_builtin;refine AcQ rfl (.tmp 34) (.tmp 40) rfl w.heap.size _ _ _ _ rfl (hown.alloc _) (wr.heap.size+1) (some ⟨wr.heap.size,0,none⟩) 1 1 [UInt8.ofNat (16*valL x+valL y).toNat] rfl (RB.new wr _ _ _ (by simp only [bvs,bv,List.map_cons,List.map_nil];rw [DsX hp.o hq.o hp16 hq16];rfl)) (by omega) (by simp;omega) ?_;intro A2 c2 w2 hown2 _ hb2))
     go_roundw
     case rel=>exact ⟨k+1,c2,A2,_,by omega,by go_num,rfl,η (ByY hd.o HX.o HY.o (by rw [hp.o];omega) (by rw [hq.o];omega)),hown2,(hbel.alloc hwr _).trans hb2⟩
     case measure=>simp [intOf];omega
   ·go_wp2
    go_ret2;have h1:=hlen.o;have h2:=HS.o;obtain rfl:k=m:=by omega
    have hd':=hd.o;rw [List.take_of_length_le (by omega)] at hd'
    have hfin:BoQ l w (.returned (.tuple #[.slice A1 k c1,.int .i64 0])) wr:=by
     refine .inl ⟨d,hd',?_⟩;rw [show l.length / 2=k from by omega];exact ⟨A1,c1,rfl,hown,hbel⟩
    exact hfin
 ·have hod:((s.size:Int) % 2 == 1)=true:=by simp;omega
  go_enter func202,ntmps202;go_wp2;go_ret2;exact .inr ⟨BoZ (s.size / 2) l (by omega),rfl,Below.refl _ _⟩
open Go.RowKit
attribute [local go_sem ↓] AvK AvJ ArZ ArY DvV DvQ
theorem rk_key (w:World):Calls prog 202 #[.string ⟨#[98,101,48,99,54,57,48,98,57,102,54,54,53,55,53,97,49,100,55,54,54,98,53,52,101,51,54,56,99,56,52,101]⟩] w (AhW 16 stKey 0 w):=by
 refine (CiW ⟨#[98,101,48,99,54,57,48,98,57,102,54,54,53,55,53,97,49,100,55,54,54,98,53,52,101,51,54,56,99,56,52,101]⟩ [98,101,48,99,54,57,48,98,57,102,54,54,53,55,53,97,49,100,55,54,54,98,53,52,101,51,54,56,99,56,52,101] w rfl (by decide)).mono ?_
 intro e w' k
 have e1:AmQ [98,101,48,99,54,57,48,98,57,102,54,54,53,55,53,97,49,100,55,54,54,98,53,52,101,51,54,56,99,56,52,101]=some stKey:=by decide +kernel
 rcases k with ⟨d,hd,hr⟩ | ⟨hn,_⟩
 ·rw [e1] at hd
  injection hd with hd;subst hd;exact hr
 ·rw [e1] at hn
  cases hn
theorem rk_non (w:World):Calls prog 202 #[.string ⟨#[52,54,49,53,57,57,100,51,53,100,54,51,50,98,102,50,50,51,57,56,50,53,98,98]⟩] w (AhW 12 stNon 0 w):=by
 refine (CiW ⟨#[52,54,49,53,57,57,100,51,53,100,54,51,50,98,102,50,50,51,57,56,50,53,98,98]⟩ [52,54,49,53,57,57,100,51,53,100,54,51,50,98,102,50,50,51,57,56,50,53,98,98] w rfl (by decide)).mono ?_
 intro e w' k
 have e1:AmQ [52,54,49,53,57,57,100,51,53,100,54,51,50,98,102,50,50,51,57,56,50,53,98,98]=some stNon:=by decide +kernel
 rcases k with ⟨d,hd,hr⟩ | ⟨hn,_⟩
 ·rw [e1] at hd
  injection hd with hd;subst hd;exact hr
 ·rw [e1] at hn
  cases hn
theorem st_trn:trnL stKey stNon []=[]:=List.eq_nil_of_length_eq_zero (AnZ stKey stNon [] CaV CaQ)
theorem st_tag (id ahead:YB):trnL stKey stNon []++tagL stKey stNon (trnL stKey stNon []) (BdY id ahead)=stL id ahead:=by rw [st_trn,List.nil_append];rfl
theorem BaJ (id ahead:YB):(20<id.length∧AkK id ahead=([],15))∨(id.length≤20∧65000<ahead.length∧AkK id ahead=([],11))∨(id.length≤20∧ahead.length≤65000∧AkK id ahead=(stL id ahead,0)):=by
 unfold AkK
 by_cases h:20<id.length
 ·exact .inl ⟨h,if_pos h⟩
 ·rw [if_neg h]
  by_cases h2:65000<ahead.length
  ·exact .inr (.inl ⟨by omega,h2,if_pos h2⟩)
  ·exact .inr (.inr ⟨by omega,by omega,if_neg h2⟩)
theorem ElV {l:YB} (h:(sprs l).2=0):17≤l.length:=by
 unfold sprs at h
 by_cases h1:(prs l).2.2=0
 ·rw [if_neg (fun k=>k h1)] at h
  have e:=congrArg List.length (DrJ h1).2;rw [List.length_append] at e;by_cases h2:schk (prs l).1=0
  ·rw [if_neg (fun k=>k h2)] at h
   by_cases h3:(prs l).2.1.length<17
   ·rw [if_pos h3] at h;exact absurd h (by decide)
   ·omega
  ·rw [if_pos h2] at h;exact absurd h h2
 ·rw [if_pos h1] at h;exact absurd h h1
attribute [local irreducible] stL AkK BdY trnL tagL byt rawP sprs AdW
theorem EaV (A0 A1:YA) (n0 c0 n1 c1:Nat) (id ahead:YB) (w:World) (h0:RB w w.heap.size A0 n0 id) (h1:RB w w.heap.size A1 n1 ahead) :
  Calls prog 176 #[.slice A0 n0 c0,.slice A1 n1 c1] w (AhW (AkK id ahead).1.length (AkK id ahead).1 (AkK id ahead).2 w):=by
 have H0:=η h0
 have H1:=η h1
 have hl0:=h0.len
 have hl1:=h1.len
 clear h0 h1
 rcases BaJ id ahead with ⟨k0,e⟩ | ⟨k0,k1,e⟩ | ⟨k0,k1,e⟩
 ·rw [e]
  have d:decide (20<(n0:Int))=true:=decide_eq_true (by omega);clear hl0 hl1 k0 e;go_enter func176,ntmps176;go_wp2_with fail;go_ret2;exact ⟨none,0,rfl,OwnB.nil_ _ _,Below.refl _ _⟩
 ·rw [e]
  have d:decide (20<(n0:Int))=false:=decide_eq_false (by omega);have d1:decide (65000<(n1:Int))=true:=decide_eq_true (by omega);clear hl0 hl1 k0 k1 e;go_enter func176,ntmps176;go_wp2_with fail;go_ret2;exact ⟨none,0,rfl,OwnB.nil_ _ _,Below.refl _ _⟩
 ·rw [e]
  have d:decide (20<(n0:Int))=false:=decide_eq_false (by omega);have d1:decide (65000<(n1:Int))=false:=decide_eq_false (by omega);have b0:n0≤20:=by omega
  have b1:n1≤65000:=by omega
  have HT:=η (st_tag id ahead);have HN:Hid (BdY id ahead=[UInt8.ofNat n0]++id++ahead):=η (by rw [←hl0];unfold BdY;rfl);have HLN:=η (AuV id ahead);have hlit:=lit1 n0 (by omega);obtain ⟨S,HS⟩:∃ S,Hid (stL id ahead=S):=⟨_,η rfl⟩;rw [HS.o] at HT HLN ⊢;have HLIT:=η hlit;clear hl0 hl1 k0 k1 e hlit;go_enter func176,ntmps176;go_wp2_with fail;refine (rk_key _).mono ?_;rintro e w1 ⟨A2,c2,rfl,ho,hb⟩;have K1:=η (And.intro hb ho);clear ho hb;go_wp2_with fail;refine (rk_non _).mono ?_;rintro e w2 ⟨A3,c3,rfl,ho,hb⟩;have K2:=η (And.intro (AaJ K1.o.1 hb) (And.intro (K1.o.2.below hb) (ho.base_le K1.o.1.size)));clear ho hb K1;have hal:=AaK w2 (.cells #[.int .u8 (n0:Int)] 5);have K3:=η (And.intro hal (And.intro (AaJ K2.o.1 hal) (OwnB.lit w2 w2.heap.size [UInt8.ofNat n0] #[.int .u8 (n0:Int)] 1 HLIT.o rfl (by decide) (Nat.le_refl _))));clear hal
  go_wp2_with (first
   | (at_builtin;refine AcQ rfl (.tmp 28) (.tmp 29) rfl w2.heap.size (some ⟨w2.heap.size,0,none⟩) 1 1 [UInt8.ofNat n0] rfl (by exact K3.o.2.2) _ A0 n0 c0 id rfl (by exact H0.o.step K3.o.2.1) (by omega) K3.o.1.size ?_;intro A4 c4 w4 ho hg hb;have K4:=η (And.intro (K3.o.1.trans hb) ho);clear ho hg hb)
   | (at_builtin;refine AcQ rfl (.tmp 30) (.tmp 31) rfl w2.heap.size A4 (1+n0) c4 ([UInt8.ofNat n0]++id) rfl (by exact K4.o.2) _ A1 n1 c1 ahead rfl (by exact H1.o.step (AaJ K2.o.1 K4.o.1)) (by omega) K4.o.1.size ?_;intro A5 c5 w5 ho hg hb;have K5:=η (And.intro (K4.o.1.trans hb) ho);clear ho hg hb))
  have R5:Hid (RB w5 w5.heap.size A2 16 stKey∧RB w5 w5.heap.size A3 12 stNon∧RB w5 w5.heap.size A5 (1+n0+n1) (BdY id ahead)):=η ⟨K2.o.2.1.rb.step K5.o.1,K2.o.2.2.rb.step K5.o.1,by rw [HN.o];exact K5.o.2.rb⟩;refine (CwY A2 A3 none A5 c2 c3 0 0 (1+n0+n1) c5 stKey stNon [] (BdY id ahead) _ (by exact R5.o.1) K2.o.2.1.cap.1 (by exact R5.o.2.1) RB.nil_ (by exact R5.o.2.2) (by decide) (by omega)).mono ?_;rw [HT.o];rintro e w6 ⟨A6,c6,rfl,ho,hb⟩;have K6:=η (And.intro (ho.base_le (AaJ K2.o.1 K5.o.1).size) (AaJ (AaJ K2.o.1 K5.o.1) hb));clear ho hb;go_wp2_with fail;go_ret2;exact ⟨A6,c6,by rw [HLN.o];rfl,by rw [HLN.o];exact K6.o.1,K6.o.2⟩
theorem CiX (A0 A1 A2 A3:YA) (c0 c1 c2 c3:Nat) (l0 l1 l2 l3:YB) (w:World)
  (h0:RB w w.heap.size A0 l0.length l0) (h1:RB w w.heap.size A1 l1.length l1) (h2:RB w w.heap.size A2 l2.length l2) (h3:RB w w.heap.size A3 l3.length l3)
  (m0:l0.length≤c0∧c0≤maxLen) (m1:l1.length≤c1∧c1≤maxLen) :
  Calls prog 143 #[.slice A0 l0.length c0,.slice A1 l1.length c1,.slice A2 l2.length c2,.slice A3 l3.length c3] w (AhW (AiX l0 l1 l2 l3).1.length (AiX l0 l1 l2 l3).1 (AiX l0 l1 l2 l3).2 w):=by
 obtain ⟨X,HX⟩:∃ X,Hid (X=AiX l0 l1 l2 l3):=⟨_,η rfl⟩
 rw [←HX.o]
 unfold AiX at HX
 have HR:=η (And.intro h0 (And.intro h1 (And.intro h2 h3)))
 have HM:=η (And.intro m0 m1)
 clear h0 h1 h2 h3 m0 m1
 by_cases t0:20<l0.length
 ·have d0:decide (20<(l0.length:Int))=true:=decide_eq_true (by omega)
  have HE:Hid (X=([],15)):=η (by rw [HX.o,if_pos (.inl t0)]);go_enter func143,ntmps143;go_wp2_with fail;rw [HE.o];go_ret2;exact ⟨none,0,rfl,OwnB.nil_ _ _,Below.refl _ _⟩
 have d0:decide (20<(l0.length:Int))=false:=decide_eq_false (by omega)
 by_cases t1:20<l1.length
 ·have d1:decide (20<(l1.length:Int))=true:=decide_eq_true (by omega)
  have HE:Hid (X=([],15)):=η (by rw [HX.o,if_pos (.inr (.inl t1))]);go_enter func143,ntmps143;go_wp2_with fail;rw [HE.o];go_ret2;exact ⟨none,0,rfl,OwnB.nil_ _ _,Below.refl _ _⟩
 have d1:decide (20<(l1.length:Int))=false:=decide_eq_false (by omega)
 by_cases t2:20<l2.length
 ·have d2:decide (20<(l2.length:Int))=true:=decide_eq_true (by omega)
  have HE:Hid (X=([],15)):=η (by rw [HX.o,if_pos (.inr (.inr t2))]);go_enter func143,ntmps143;go_wp2_with fail;rw [HE.o];go_ret2;exact ⟨none,0,rfl,OwnB.nil_ _ _,Below.refl _ _⟩
 have d2:decide (20<(l2.length:Int))=false:=decide_eq_false (by omega)
 have hno:¬(20<l0.length∨20<l1.length∨20<l2.length):=by omega
 have HNO:=η hno
 by_cases t3:l3.length<1
 ·have d3:decide ((l3.length:Int)<1)=true:=decide_eq_true (by omega)
  have HE:Hid (X=([],11)):=η (by rw [HX.o,if_neg hno,if_pos (.inl t3)]);go_enter func143,ntmps143;go_wp2_with fail;rw [HE.o];go_ret2;exact ⟨none,0,rfl,OwnB.nil_ _ _,Below.refl _ _⟩
 have d3:decide ((l3.length:Int)<1)=false:=decide_eq_false (by omega)
 by_cases t4:4096<l3.length
 ·have d4:decide (4096<(l3.length:Int))=true:=decide_eq_true (by omega)
  have HE:Hid (X=([],11)):=η (by rw [HX.o,if_neg hno,if_pos (.inr t4)]);go_enter func143,ntmps143;go_wp2_with fail;rw [HE.o];go_ret2;exact ⟨none,0,rfl,OwnB.nil_ _ _,Below.refl _ _⟩
 have d4:decide (4096<(l3.length:Int))=false:=decide_eq_false (by omega)
 obtain ⟨H,HH⟩:∃ H:Hd,Hid (H=⟨255,1,A0,c0,l0,A1,c1,l1⟩):=⟨_,η rfl⟩
 have E9:Hid (H.val=.agg #[.int .u8 255,.int .u32 1,.slice A0 l0.length c0,.slice A1 l1.length c1]):=η (by rw [HH.o];rfl)
 have HOK:Hid (∀ w',Below w.heap.size w w'→H.ok w'):=η (fun w' hb=>by rw [HH.o];exact ⟨HR.o.1.step hb,HR.o.2.1.step hb,HM.o.1,HM.o.2,by simp⟩)
 obtain ⟨L,HL⟩:∃ L,Hid (L=AdW l0 l1 l3):=⟨_,η rfl⟩
 have hL:=AqX l0 l1 l3
 rw [←HL.o] at hL
 have HRAW:Hid (byt H.pl=(rawP (255,1,l0,l1),0)):=η (by rw [HH.o];exact DwV (CpX (to:=l0) (frm:=l1) (by omega) (by omega)))
 obtain ⟨R,HRR⟩:∃ R,Hid (R=rawP (255,1,l0,l1)):=⟨_,η rfl⟩
 have hR:R.length=7+l0.length+l1.length:=by rw [HRR.o,DiQ]
 have HRL:Hid (L=R++l3):=η (by rw [HL.o,HRR.o];unfold AdW;rfl)
 have HS:Hid (AkK l2 L=(stL l2 L,0)):=η (by rcases BaJ l2 L with k | k | k;exact absurd k.1 (by omega);exact absurd k.2.1 (by omega);exact k.2.2)
 obtain ⟨S,HSS⟩:∃ S,Hid (S=stL l2 L):=⟨_,η rfl⟩
 have HSL:Hid (S.length=16):=η (by rw [HSS.o];exact AuV _ _)
 have HE:Hid (X=(L++S,0)):=η (by rw [HX.o,if_neg hno,if_neg (by omega),HSS.o,HL.o])
 obtain ⟨m,hm⟩:∃ m,R.length=m:=⟨_,rfl⟩
 rw [hm] at hR
 have hb:m≤47:=by omega
 have HMR:=η hm
 rw [←HRR.o] at HRAW
 rw [←HSS.o] at HS
 have HLL:Hid (L.length=m+l3.length):=η (by rw [HRL.o,List.length_append,hm])
 clear hno t0 t1 t2 t3 hL hR hm
 go_enter func143,ntmps143
 go_wp2_with fail
 rw [show (Value.agg #[.int .u8 255,.int .u32 1,.slice A0 l0.length c0,.slice A1 l1.length c1])=H.val from E9.o.symm]
 refine (DhZ H _ (by exact HOK.o _ (Below.refl _ _)) (by rw [HH.o];simp only;have:=HNO.o;omega) (by rw [HH.o];simp only;have:=HNO.o;omega)).mono ?_
 rw [HRAW.o]
 rintro e w1 ⟨A5,c5,rfl,ho,hb1⟩
 simp only [HMR.o] at ho ⊢
 have K1:=η (And.intro hb1 ho)
 clear ho hb1
 go_wp2_with (first
  | (at_builtin;refine AcQ rfl (.tmp 42) (.tmp 43) rfl w.heap.size A5 m c5 R rfl (by exact K1.o.2) _ A3 l3.length c3 l3 rfl (by exact HR.o.2.2.2.step K1.o.1) (by omega) K1.o.1.size ?_;intro A6 c6 w2 ho hg hb2;have K2:=η (And.intro (K1.o.1.trans hb2) ho);clear ho hg hb2))
 rw [←HRL.o] at K2
 refine (EaV A2 A6 l2.length c2 (m+l3.length) c6 l2 L _ (by exact HR.o.2.2.1.step K2.o.1) (by exact K2.o.2.rb)).mono ?_
 rw [HS.o]
 rintro e w3 ⟨A7,c7,rfl,ho,hb3⟩
 simp only [HSL.o] at ho ⊢
 have K3:=η (And.intro (AaJ K2.o.1 hb3) (And.intro (K2.o.2.below hb3) ho))
 clear ho hb3
 go_wp2_with (first
  | (at_builtin;refine AcQ rfl (.tmp 51) (.tmp 52) rfl w.heap.size A6 (m+l3.length) c6 L rfl (by exact K3.o.2.1) _ A7 16 c7 S rfl (by exact K3.o.2.2.rb) (by omega) K3.o.1.size ?_;intro A8 c8 w4 ho hg hb4;have K4:=η (And.intro (K3.o.1.trans hb4) ho);clear ho hg hb4))
 rw [HE.o]
 have hfl:(L++S).length=m+l3.length+16:=by rw [List.length_append,HLL.o,HSL.o]
 have HFL:=η hfl
 clear hfl
 go_ret2
 exact ⟨A8,c8,by rw [HFL.o];rfl,by rw [HFL.o];exact K4.o.2,K4.o.1⟩
end Go.Proofs.YthppjgdnibfefaaGreat
namespace Go.Proofs.YthppjgdnibfefaaGreat
open Tryz
open Go.RowKit
theorem CiK (A:YA) (n c:Nat) (w:World) (v:Bool) (hv:decide (20<(n:Int))=v) :
  Calls prog 93 #[.slice A n c] w fun e w'=>e=.returned (.bool v)∧w=w':=by
 go_enter func93,ntmps93
 go_wp2_with fail
 go_ret
 exact ⟨by first | rfl | simp [hv],rfl⟩
theorem DgQ (A:YA) (n c:Nat) (ps:List (YB)) (w:World) (h:RR w w.heap.size A n ps) (hn:n≤1000) :
  Calls prog 125 #[.slice A n c,.func (.func 93) #[] #[]] w fun e w'=>∃ z:Int,e=.returned (.int .i64 z)∧w=w'∧decide (0≤z)=ps.any (fun p=>decide (20<p.length)):=by
 have H:=η h
 have HL:=η h.len
 clear h
 go_enter func125,ntmps125
 go_wp2_with fail
 go_loopw [8] (fun i wr=>∃ k:Nat,k≤n∧i=.int .i64 k∧w=wr∧Hid (∀ j p,j<k→ps[j]?=some p→p.length≤20)) (fun i _=>n - (intOf i).toNat)
 case atStart=>exact ⟨0,by omega,rfl,rfl,η (fun j p hj=>absurd hj (Nat.not_lt_zero _))⟩
 case round =>
  obtain ⟨k,hk,rfl,rfl,HA⟩:=hrel;by_cases hlt:k<n
  ·obtain ⟨b,o,rfl,hb,p,hp,Ai,ci,hc,hr⟩:=H.o.at_ hlt
   have HP:=η hp;by_cases h20:20<p.length
   ·have HC:=η (CiK Ai p.length ci w true (decide_eq_true (by omega)))
    have H20:=η h20;clear hp h20;go_wp2_with fail;refine HC.o.mono ?_;rintro e w1 ⟨rfl,rfl⟩;go_wp2_with fail;go_ret
    exact ⟨_,rfl,rfl,by
     rw [decide_eq_true (by omega:(0:Int)≤(k:Int))]
     exact (List.any_eq_true.2 ⟨p,List.mem_of_getElem? HP.o,decide_eq_true H20.o⟩).symm⟩
   ·have HC:=η (CiK Ai p.length ci w false (decide_eq_false (by omega)))
    have H20:=η h20;clear hp h20;go_wp2_with fail;refine HC.o.mono ?_;rintro e w1 ⟨rfl,rfl⟩;go_wp2_with fail;go_roundw
    case rel=>exact ⟨k+1,by omega,by go_num,trivial,η (fun j q hj hq=>by
     rcases Nat.lt_or_eq_of_le (Nat.le_of_lt_succ hj) with h1 | h1
     ·exact HA.o j q h1 hq
     ·subst h1
      rw [HP.o] at hq
      rw [←Option.some.inj hq]
      exact Nat.le_of_not_lt H20.o)⟩
    case measure=>simp [intOf];omega
  ·have hkn:k=n:=by omega
   subst hkn;go_wp2_with fail;go_ret
   exact ⟨_,rfl,rfl,by
    symm
    rw [show decide ((0:Int)≤-1)=false by decide,List.any_eq_false]
    intro p hp
    obtain ⟨j,hj,hpj⟩:=List.mem_iff_getElem.1 hp
    have:=HA.o j p (by rw [HL.o] at hj;exact hj) (by rw [←hpj];exact List.getElem?_eq_getElem hj)
    simp only [decide_eq_true_eq]
    omega⟩
theorem CfX (A:YA) (n c:Nat) (ps:List (YB)) (w:World) (h:RR w w.heap.size A n ps) (hn:n≤1000) (v:Bool) (hv:ps.any (fun p=>decide (20<p.length))=v) :
  Calls prog 92 #[.slice A n c,.func (.func 93) #[] #[]] w fun e w'=>e=.returned (.bool v)∧w=w':=by
 have HI:=η (DgQ A n c ps w h hn)
 have HV:=η hv
 clear h hv hn
 go_enter func92,ntmps92
 go_wp2_with fail
 refine HI.o.mono ?_
 rintro e w1 ⟨z,rfl,rfl,hz⟩
 rw [HV.o] at hz
 go_wp2_with fail
 go_ret
 exact ⟨rfl,rfl⟩
theorem BpQ (B:YA) (n c:Nat) (ps:List (YB)) (w:World) (h:RR w w.heap.size B n ps) (hn:n≤1000) (v:Bool) (hv:ps.any (fun p=>decide (20<p.length))=v) :
  Calls prog 58 #[.slice B n c] w fun e w'=>e=.returned (.bool v)∧w=w':=by
 have HC:=η (CfX B n c ps w h hn v hv)
 clear h hv hn
 go_enter func58,ntmps58
 go_wp2_with fail
 refine HC.o.mono ?_
 rintro e w1 ⟨rfl,rfl⟩
 go_wp2_with fail
 go_ret
 exact ⟨rfl,rfl⟩
theorem stl1 (w:World) (A:YA) (n c:Nat) (l:YB) (h:RB w w.heap.size A n l) (v:Bool) (hv:decide (20<l.length)=v) :
  Calls prog 58 #[.slice (some ⟨w.heap.size,0,none⟩) 1 1] (w.alloc (.cells #[.slice A n c] 41)) (fun e w'=>e=.returned (.bool v)∧Below w.heap.size w w'):=by
 have e1:=h.len
 have hrr:=RR.lit w [(A,c,l)] #[.slice A n c] 41 1 w.heap.size (by simp [e1]) rfl rfl (fun r hr=>by
  simp only [List.mem_cons,List.not_mem_nil,or_false] at hr
  subst hr
  rw [e1];exact h)
 refine (BpQ _ 1 1 [l] _ hrr (by omega) v (by simp only [List.any_cons,List.any_nil,Bool.or_false];exact hv)).mono ?_
 rintro e w' ⟨rfl,rfl⟩
 exact ⟨rfl,AaK w _⟩
theorem stl2 (w:World) (A1 A2:YA) (n1 n2 c1 c2:Nat) (l1 l2:YB) (h1:RB w w.heap.size A1 n1 l1) (h2:RB w w.heap.size A2 n2 l2) (v:Bool) (hv:(decide (20<l1.length) || decide (20<l2.length))=v) :
  Calls prog 58 #[.slice (some ⟨w.heap.size,0,none⟩) 2 2] (w.alloc (.cells #[.slice A1 n1 c1,.slice A2 n2 c2] 41)) (fun e w'=>e=.returned (.bool v)∧Below w.heap.size w w'):=by
 have e1:=h1.len
 have e2:=h2.len
 have hrr:=RR.lit w [(A1,c1,l1),(A2,c2,l2)] #[.slice A1 n1 c1,.slice A2 n2 c2] 41 2 w.heap.size (by simp [e1,e2]) rfl rfl (fun r hr=>by
  simp only [List.mem_cons,List.not_mem_nil,or_false] at hr
  rcases hr with rfl | rfl
  ·rw [e1];exact h1
  ·rw [e2];exact h2)
 refine (BpQ _ 2 2 [l1,l2] _ hrr (by omega) v (by simp only [List.any_cons,List.any_nil,Bool.or_false];exact hv)).mono ?_
 rintro e w' ⟨rfl,rfl⟩
 exact ⟨rfl,AaK w _⟩
theorem stl3 (w:World) (A1 A2 A3:YA) (n1 n2 n3 c1 c2 c3:Nat) (l1 l2 l3:YB) (h1:RB w w.heap.size A1 n1 l1) (h2:RB w w.heap.size A2 n2 l2) (h3:RB w w.heap.size A3 n3 l3) (v:Bool) (hv:(decide (20<l1.length) || (decide (20<l2.length) || decide (20<l3.length)))=v) :
  Calls prog 58 #[.slice (some ⟨w.heap.size,0,none⟩) 3 3] (w.alloc (.cells #[.slice A1 n1 c1,.slice A2 n2 c2,.slice A3 n3 c3] 41)) (fun e w'=>e=.returned (.bool v)∧Below w.heap.size w w'):=by
 have e1:=h1.len
 have e2:=h2.len
 have e3:=h3.len
 have hrr:=RR.lit w [(A1,c1,l1),(A2,c2,l2),(A3,c3,l3)] #[.slice A1 n1 c1,.slice A2 n2 c2,.slice A3 n3 c3] 41 3 w.heap.size (by simp [e1,e2,e3]) rfl rfl (fun r hr=>by
  simp only [List.mem_cons,List.not_mem_nil,or_false] at hr
  rcases hr with rfl | rfl | rfl
  ·rw [e1];exact h1
  ·rw [e2];exact h2
  ·rw [e3];exact h3)
 refine (BpQ _ 3 3 [l1,l2,l3] _ hrr (by omega) v (by simp only [List.any_cons,List.any_nil,Bool.or_false];exact hv)).mono ?_
 rintro e w' ⟨rfl,rfl⟩
 exact ⟨rfl,AaK w _⟩
open Go.RowKit
theorem uk_key (w:World):Calls prog 129 #[.string ⟨#[98,101,48,99,54,57,48,98,57,102,54,54,53,55,53,97,49,100,55,54,54,98,53,52,101,51,54,56,99,56,52,101]⟩] w (AhW 16 stKey 0 w):=by
 refine (CtX ⟨#[98,101,48,99,54,57,48,98,57,102,54,54,53,55,53,97,49,100,55,54,54,98,53,52,101,51,54,56,99,56,52,101]⟩ [98,101,48,99,54,57,48,98,57,102,54,54,53,55,53,97,49,100,55,54,54,98,53,52,101,51,54,56,99,56,52,101] w rfl (by decide)).mono ?_
 intro e w' k
 have e1:AmQ [98,101,48,99,54,57,48,98,57,102,54,54,53,55,53,97,49,100,55,54,54,98,53,52,101,51,54,56,99,56,52,101]=some stKey:=by decide +kernel
 rcases k with ⟨d,hd,hr⟩ | ⟨hn,_⟩
 ·rw [e1] at hd
  injection hd with hd;subst hd;exact hr
 ·rw [e1] at hn
  cases hn
theorem uk_non (w:World):Calls prog 129 #[.string ⟨#[52,54,49,53,57,57,100,51,53,100,54,51,50,98,102,50,50,51,57,56,50,53,98,98]⟩] w (AhW 12 stNon 0 w):=by
 refine (CtX ⟨#[52,54,49,53,57,57,100,51,53,100,54,51,50,98,102,50,50,51,57,56,50,53,98,98]⟩ [52,54,49,53,57,57,100,51,53,100,54,51,50,98,102,50,50,51,57,56,50,53,98,98] w rfl (by decide)).mono ?_
 intro e w' k
 have e1:AmQ [52,54,49,53,57,57,100,51,53,100,54,51,50,98,102,50,50,51,57,56,50,53,98,98]=some stNon:=by decide +kernel
 rcases k with ⟨d,hd,hr⟩ | ⟨hn,_⟩
 ·rw [e1] at hd
  injection hd with hd;subst hd;exact hr
 ·rw [e1] at hn
  cases hn
attribute [local irreducible] stL AkK BdY trnL tagL byt rawP sprs AdW putS BuZ AfJ
theorem ElQ (A:YA) (n c:Nat) (note:YB) (w:World) (h:RB w w.heap.size A n note) (hc:n≤c) (hn:n≤65535) :
  Calls prog 98 #[.slice A n c] w (AhW 16 (tagL stKey stNon [] note) 0 w):=by
 have H:=η h
 have HT:Hid (trnL stKey stNon []++tagL stKey stNon (trnL stKey stNon []) note=tagL stKey stNon [] note):=η (by rw [st_trn,List.nil_append])
 have HLN:=η (AsX stKey stNon [] note CaV CaQ)
 obtain ⟨S,HS⟩:∃ S,Hid (tagL stKey stNon [] note=S):=⟨_,η rfl⟩
 rw [HS.o] at HT HLN ⊢
 clear h
 go_enter func98,ntmps98
 go_wp2_with fail
 refine (uk_key _).mono ?_
 rintro e w1 ⟨A2,c2,rfl,ho,hb⟩
 have K1:=η (And.intro hb ho)
 clear ho hb
 go_wp2_with fail
 refine (uk_non _).mono ?_
 rintro e w2 ⟨A3,c3,rfl,ho,hb⟩
 have K2:=η (And.intro (AaJ K1.o.1 hb) (And.intro (K1.o.2.below hb) (ho.base_le K1.o.1.size)))
 clear ho hb K1
 go_wp2_with fail
 refine (gnew_any A2 c2 stKey _ (by exact K2.o.2.1.rb) K2.o.2.1.cap.1).mono ?_
 intro e w3 hx
 obtain ⟨p,rfl,hpk,kg⟩:=KG.start (Below.refl w2.heap.size w2) hx
 have K3:=η ((kg.arg (H.o.step K2.o.1)).arg K2.o.2.2.rb)
 have HPK:=η hpk
 clear hx kg hpk
 go_wp2_with fail
 refine (DbW p 1 0 A3 none A c3 0 0 n c stNon [] note _ (by exact K3.o.box) (by decide) (by exact (K3.o.row (A3,12,stNon) (by simp)).1) RB.nil_ (by exact (K3.o.row (A,n,note) (by simp)).1) hc (by exact (K3.o.row (A,n,note) (by simp)).2) (by decide) hn).mono ?_
 rw [HPK.o,HT.o]
 rintro e w7 ⟨A7,c7,rfl,ho,hoff,hbz⟩
 have K7:=η (K3.o.off hoff hbz)
 have K8:=η (And.intro (ho.base_le (Nat.le_trans K2.o.1.size K3.o.bel.size)) (AaJ K2.o.1 K7.o.bel))
 simp only [HLN.o] at K8 ⊢
 clear ho hoff hbz
 go_wp2_with fail
 go_ret2
 exact ⟨A7,c7,rfl,K8.o⟩
theorem CuZ (A0 A1:YA) (n0 c0 n1 c1:Nat) (id ahead:YB) (w:World) (h0:RB w w.heap.size A0 n0 id) (h1:RB w w.heap.size A1 n1 ahead) :
  Calls prog 60 #[.slice A0 n0 c0,.slice A1 n1 c1] w (AhW (AkK id ahead).1.length (AkK id ahead).1 (AkK id ahead).2 w):=by
 have H0:=η h0
 have H1:=η h1
 have hl0:=h0.len
 have hl1:=h1.len
 clear h0 h1
 rcases BaJ id ahead with ⟨k0,e⟩ | ⟨k0,k1,e⟩ | ⟨k0,k1,e⟩
 ·rw [e]
  have D:=η (show decide (20<id.length)=true from decide_eq_true k0);clear hl0 hl1 k0 e;go_enter func60,ntmps60;go_wp2_with fail;refine (stl1 w A0 n0 c0 id (by exact H0.o) true D.o).mono ?_;rintro e w1 ⟨rfl,hb⟩;have K1:=η hb;clear hb;go_wp2_with fail;go_ret2;exact ⟨none,0,rfl,OwnB.nil_ _ _,K1.o⟩
 ·rw [e]
  have D:=η (show decide (20<id.length)=false from decide_eq_false (by omega));have d1:decide (65000<(n1:Int))=true:=decide_eq_true (by omega);clear hl0 hl1 k0 k1 e;go_enter func60,ntmps60;go_wp2_with fail;refine (stl1 w A0 n0 c0 id (by exact H0.o) false D.o).mono ?_;rintro e w1 ⟨rfl,hb⟩;have K1:=η hb;clear hb;go_wp2_with fail;go_ret2;exact ⟨none,0,rfl,OwnB.nil_ _ _,K1.o⟩
 ·rw [e]
  have D:=η (show decide (20<id.length)=false from decide_eq_false (by omega));have d1:decide (65000<(n1:Int))=false:=decide_eq_false (by omega)
  have S1:Hid (putS (AfJ id).1 (AfJ id).2 (0,[])=(0,UInt8.ofNat id.length::id)):=η (by
   have e1:AfJ id=(UInt8.ofNat id.length::id,0):=by unfold AfJ;exact if_neg (by omega)
   rw [e1,AyQ,List.nil_append])
  obtain ⟨P,HP⟩:∃ P,Hid (P=UInt8.ofNat id.length::id):=⟨_,η rfl⟩;have S2:Hid (putS ahead 0 (0,P)=(0,BdY id ahead)):=η (by rw [AyQ,HP.o];unfold BdY;rfl);rw [←HP.o] at S1;have HPL:Hid (P.length=n0+1):=η (by rw [HP.o,List.length_cons,hl0]);have HNL:Hid ((BdY id ahead).length=n0+1+n1):=η (by unfold BdY;simp [hl0,hl1];omega);have S3:Hid (BuZ (0,BdY id ahead)=(BdY id ahead,0)):=η (CrK _);have HST:Hid (stL id ahead=tagL stKey stNon [] (BdY id ahead)):=η (by unfold stL;rfl);have HLN:=η (AuV id ahead);obtain ⟨N,HN⟩:∃ N,Hid (BdY id ahead=N):=⟨_,η rfl⟩;rw [HN.o] at S2 S3 HNL HST;obtain ⟨S,HS⟩:∃ S,Hid (stL id ahead=S):=⟨_,η rfl⟩;rw [HS.o] at HST HLN ⊢;have HL:=η (And.intro hl0 (And.intro hl1 (And.intro k0 k1)));have b0:n0≤20:=by omega
  have b1:n1≤65000:=by omega
  clear hl0 hl1 k0 k1 e;go_enter func60,ntmps60;go_wp2_with fail;refine (stl1 w A0 n0 c0 id (by exact H0.o) false D.o).mono ?_;rintro e w1 ⟨rfl,hb⟩;have K1:=η hb;clear hb;go_wp2_with fail;refine (BxZ _ w.heap.size (by exact K1.o.size)).mono ?_;rintro e w2 ⟨x,rfl,hx,hb,hw⟩;have K2:=η (And.intro (AaJ K1.o hb) (And.intro hw (Nat.le_trans K1.o.size hx)));clear hx hb hw;go_wp2_with fail;refine (AxW x w.heap.size none A0 n0 c0 id (0,[]) _ (by exact K2.o.2.1) (by exact H0.o.step K2.o.1) (fun _ g o _ hg=>by cases hg) (by omega) (by exact K2.o.1.size) (by simp)).mono ?_;rw [S1.o];rintro e w3 ⟨rfl,A3,_,ho,hw⟩;have K3:Hid (Below w.heap.size w w3∧WrR w3 x w.heap.size A3 (0,P)):=η ⟨K2.o.1.trans (ho.below (fun j hj=>by rcases List.mem_cons.1 hj with rfl | hj;exact K2.o.2.2;exact (K2.o.2.1.own j hj).2.1) K2.o.1.size),hw⟩;clear ho hw;go_wp2_with fail;refine (DfV x w.heap.size A3 A1 n1 c1 ahead (0,P) _ (by exact K3.o.2) (by exact H1.o.step K3.o.1) (by omega) (by exact K3.o.1.size) (by show P.length≤_;rw [HPL.o];omega)).mono ?_;rw [S2.o];rintro e w4 ⟨rfl,A4,_,ho,hw⟩;have K4:Hid (Below w.heap.size w w4∧WrR w4 x w.heap.size A4 (0,N)):=η ⟨K3.o.1.trans (ho.below (fun j hj=>by rcases List.mem_cons.1 hj with rfl | hj;exact K2.o.2.2;exact (K3.o.2.own j hj).2.1) K3.o.1.size),hw⟩;clear ho hw;go_wp2_with fail;refine (ByQ x w.heap.size A4 (0,N) _ (by exact K4.o.2) (by show N.length≤_;rw [HNL.o];omega)).mono ?_;rw [S3.o];rintro e w5 ⟨A5,c5,rfl,ho,hb⟩;simp only [HNL.o] at ho ⊢;have K5:=η (And.intro (AaJ K4.o.1 hb) ho);clear ho hb;go_wp2_with fail;refine (ElQ A5 (n0+1+n1) c5 N _ (by exact K5.o.2.rb) (by exact K5.o.2.cap.1) (by omega)).mono ?_;rw [←HST.o];rintro e w6 ⟨A6,c6,rfl,ho,hb⟩;have K6:=η (And.intro (ho.base_le K5.o.1.size) (AaJ K5.o.1 hb));clear ho hb;go_wp2_with fail;go_ret2;exact ⟨A6,c6,by rw [HLN.o];rfl,by rw [HLN.o];exact K6.o⟩
end Go.Proofs.YthppjgdnibfefaaGreat
namespace Go.Proofs.YthppjgdnibfefaaGreat
open Tryz
open Go.RowKit
attribute [local go_sem ↓] AvK AvJ ArZ ArY DvV DvQ
theorem bld_st1 (h:Hd) (W:World):(Instr.build 81 #[(0,h.val)]).run prog W=.ok (In.val ⟨h,none,0,[],none,0,[]⟩) W:=by
 unfold Hd.val Hd.cells
 go_simp <;> rfl
theorem BtX {w:World} {ops:Array Oper} {rest:List Oper} {o:Oper} {a:Act} {Q:Exit→Act→World→Prop} (hgd:o.guard=none) (x:Operand) (hop:o.op=.build 81 #[(0,x)]) (h:Hd) (hx:a.eval x=h.val)
  (i:In) (hi:i=inOf h) (hk:wpList prog ops Q rest (a.put o.dst i.val) w):wpList prog ops Q (o::rest) a w:=by
 subst hi
 refine wpList_plain hgd fun K hK=>?_
 have hr:=bld_st1 h w
 unfold Oper.wp execOp
 simp only [hop,List.map_toArray,List.map_cons,List.map_nil,hx,Sem.run_bind,hr,Result.andThen_ok]
 exact hK _ _ hk
structure SI (v:World) (q:Nat) (h:Hd) (A:YA) (n c:Nat) (l:YB) (w:World):Prop where
 bel:Below v.heap.size v w
 lq:v.heap.size≤q
 hq:Ic 81 w q zeroI
 own:h.own w v.heap.size
 r:OwnB w v.heap.size A n c l
structure SK (v:World) (q p:Nat) (i:In) (A:YA) (n c:Nat) (l:YB) (w:World):Prop where
 bel:Below v.heap.size v w
 lq:v.heap.size≤q
 lp:v.heap.size≤p
 qp:q≠p
 hq:Ic 81 w q zeroI
 hp:Ic 81 w p i
 own:i.own w v.heap.size
 r:OwnB w v.heap.size A n c l
section
variable {v w w' w2 w3:World} {q p x n c m d:Nat} {h:Hd} {i i':In} {A B:YA} {l l':YB}
theorem SI.step (k:SI v q h A n c l w) (hb:Below w.heap.size w w'):SI v q h A n c l w':=⟨AaJ k.bel hb,k.lq,k.hq.step hb,k.own.step hb,k.r.below hb⟩
theorem SI.var (k:SI v q h A n c l w) (hb:Below w.heap.size w w2) (hx:w.heap.size≤x) (ho:Oth [x] w2 w3):SI v q h A n c l w3:=k.step (hb.trans (ho.below (fun j hj=>by rw [List.mem_singleton.1 hj];exact hx) hb.size))
theorem SK.step (k:SK v q p i A n c l w) (hb:Below w.heap.size w w'):SK v q p i A n c l w':=⟨AaJ k.bel hb,k.lq,k.lp,k.qp,k.hq.step hb,k.hp.step hb,k.own.step hb,k.r.below hb⟩
theorem SK.put (k:SK v q p i A n c l w) (j:Nat) (u:Value) (hh:Ic 81 (w.setCell ⟨p,j,none⟩ u) p i') (ho:In.own (w.setCell ⟨p,j,none⟩ u) v.heap.size i'):SK v q p i' A n c l (w.setCell ⟨p,j,none⟩ u):=by
 have hO:Oth [p] w (w.setCell ⟨p,j,none⟩ u):=(Oth.refl [p] w).set (x:=p) (by simp) j u
 exact ⟨k.bel.trans (hO.below (fun j hj=>by rw [List.mem_singleton.1 hj];exact k.lp) k.bel.size),k.lq,k.lp,k.qp,k.hq.oth hO (by simpa using k.qp),hh,ho,k.r.offS hO (k.hp.blk.nob (by decide))⟩
theorem SK.offs (k:SK v q p i A n c l w) (j:Nat) (u:Value):Oth [p] w (w.setCell ⟨p,j,none⟩ u)∧NoB [p] w:=⟨(Oth.refl [p] w).set (x:=p) (by simp) j u,k.hp.blk.nob (by decide)⟩
theorem SK.put4 (k:SK v q p i A n c l w) (r:OwnB w v.heap.size B m d l'):SK v q p { i with T:=B,e:=d,t:=l' } A n c l (w.setCell ⟨p,4,none⟩ (.slice B m d)):=by
 have hl:=r.len
 subst hl
 have ⟨hO,hN⟩:=k.offs 4 (.slice B l'.length d)
 exact k.put 4 _ (k.hp.set4 B d l') ⟨k.own.h.off hO hN,r.offS hO hN,k.own.r.offS hO hN⟩
theorem SK.put5 (k:SK v q p i A n c l w) (r:OwnB w v.heap.size B m d l'):SK v q p { i with R:=B,g:=d,r:=l' } A n c l (w.setCell ⟨p,5,none⟩ (.slice B m d)):=by
 have hl:=r.len
 subst hl
 have ⟨hO,hN⟩:=k.offs 5 (.slice B l'.length d)
 exact k.put 5 _ (k.hp.set5 B d l') ⟨k.own.h.off hO hN,k.own.t.offS hO hN,r.offS hO hN⟩
end
attribute [local irreducible] prs schk typ
theorem ApV (A:YA) (n c:Nat) (l:YB) (w:World) (hr0:RB w w.heap.size A n l) (hc0:n≤c∧c≤maxLen) (hn:n≤1000000) :
  Calls prog 28 #[.slice A n c] w (RetIn (sprs l) w):=by
 have H0:=η hr0
 have HC0:=η hc0
 clear hr0 hc0
 obtain ⟨r,HR⟩:∃ r,Hid (r=prs l):=⟨_,η rfl⟩
 obtain ⟨X,HX⟩:∃ X,Hid (X=sprs l):=⟨_,η rfl⟩
 rw [←HX.o]
 unfold sprs at HX
 rw [←HR.o] at HX
 have HSC:=η (DzY r.1)
 go_enter func28,ntmps28
 go_wp2_with (first
  | (refine atd 2 rfl ?_;refine AfZ AmW rfl rfl ?_;intro w1 q hc1 hb1 hx1;have H1:=η (And.intro hc1 (And.intro hb1 hx1));clear hc1 hb1 hx1))
 refine (EqZ A n c l _ (by exact H0.o.step H1.o.2.1) hn).mono ?_
 rw [←HR.o]
 rintro e w2 ⟨h,A2,n2,c2,rfl,hp,ho,hr,hb⟩
 have HP:=η hp
 have K2:Hid (SI w q h A2 n2 c2 r.2.1 w2):=η ⟨AaJ H1.o.2.1 hb,H1.o.2.2,H1.o.1.step hb,ho.base_le H1.o.2.1.size,hr.base_le H1.o.2.1.size⟩
 clear hp ho hr hb H1
 by_cases he:r.2.2=0
 rotate_left
 ·have hb':(r.2.2 != 0)=true:=by simpa using he
  have HE:Hid (X=(BkW,r.2.2)):=η (by rw [HX.o,if_pos he])
  go_wp2_with (first
   | (refine atd 4 rfl ?_;refine AsV AhZ rfl rfl ?_;intro w3 y hc2 hb2 hx2;have H2:=η (And.intro hc2 (And.intro hb2 hx2));clear hc2 hb2 hx2)
   | (refine AtJ AhZ rfl (.tmp 4) (.tmp 12) rfl y rfl h zeroH rfl (by exact H2.o.1) ?_;intro w4 hc3 ho3 hs3;have K4:=η (K2.o.var H2.o.2.1 H2.o.2.2 ho3);clear hc3 ho3 hs3 H2 K2)
   | (refine AiZ AmW rfl (.tmp 2) (.tmp 17) rfl q rfl zeroI zeroI rfl (by exact K4.o.hq) ?_;intro w5 hc5 ho5 hs5;have H5:=η (And.intro hc5 ho5);clear hc5 ho5 hs5))
  rw [HE.o];exact bodyPost_ret (v:=.tuple #[zeroI.val,.int .i64 r.2.2]) (AeK AmW rfl _ _ q zeroI.cells _ rfl rfl H5.o.1 rfl) rfl ⟨zeroI,rfl,rfl,In.own.zero _ _,K4.o.bel.trans (H5.o.2.below (fun j hj=>by rw [List.mem_singleton.1 hj];exact K4.o.lq) K4.o.bel.size)⟩
 have hb':(r.2.2 != 0)=false:=by rw [he];rfl
 have hpp:h.f=r.1.1∧h.v=r.1.2.1∧h.a=r.1.2.2.1∧h.b=r.1.2.2.2:=by rw [←HP.o];exact ⟨rfl,rfl,rfl,rfl⟩
 have ht4:=typ_lt h.f
 obtain ⟨k,HK⟩:∃ k,Hid (k=schk r.1):=⟨_,η rfl⟩
 rw [←HK.o] at HX HSC
 rw [←hpp.1,←hpp.2.1,←hpp.2.2.1,←hpp.2.2.2] at HSC
 clear hpp
 have hlen:r.2.1.length≤n:=by
  have h1:=(DrJ (l:=l) (by rw [←HR.o];exact he)).2;rw [←HR.o] at h1;have h2:=congrArg List.length h1;rw [List.length_append,H0.o.len] at h2;omega
 have HLN:=η hlen
 clear hlen
 obtain ⟨i,HI⟩:∃ i,Hid (i=inOf h):=⟨_,η rfl⟩
 by_cases hv:h.v=1
 rotate_left
 ·have u1:((h.v:Int) == 1)=false:=by rw [beq_eq_false_iff_ne];omega
  have u1':((h.v:Int) != 1)=true:=by rw [bne,u1];rfl
  have hk:k=14:=by rcases HSC.o with h1 | h1 | h1;exact h1.1;exact absurd h1.2.1 hv;exact absurd h1.2.1 hv
  have HE:Hid (X=(BkW,14)):=η (by rw [HX.o,if_neg (fun k=>k he),if_pos (by rw [hk];decide),hk]);clear hv hk
  go_wp2_with (first
   | (refine atd 4 rfl ?_;refine AsV AhZ rfl rfl ?_;intro w3 y hc2 hb2 hx2;have H2:=η (And.intro hc2 (And.intro hb2 hx2));clear hc2 hb2 hx2)
   | (refine AtJ AhZ rfl (.tmp 4) (.tmp 12) rfl y rfl h zeroH rfl (by exact H2.o.1) ?_;intro w4 hc3 ho3 hs3;have K4:=η (K2.o.var H2.o.2.1 H2.o.2.2 ho3);have H3:=η hc3;clear hc3 ho3 hs3 H2 K2)
   | (refine ChJ AhZ rfl (.tmp 4) rfl y rfl h (by exact H3.o) ?_)
   | (refine BtX rfl (.tmp 19) rfl h rfl i HI.o ?_)
   | (refine atd 7 rfl ?_;refine AfZ AmW rfl rfl ?_;intro w5 p hc2 hb2 hx2;have H5:=η (And.intro hc2 (And.intro hb2 hx2));clear hc2 hb2 hx2)
   | (refine AiZ AmW rfl (.tmp 7) (.tmp 20) rfl p rfl i zeroI rfl (by exact H5.o.1) ?_;intro w6 hc3 ho3 hs3;have KV:=K4.o.var H5.o.2.1 H5.o.2.2 ho3;have K6:Hid (SK w q p i A2 n2 c2 r.2.1 w6):=η ⟨KV.bel,KV.lq,Nat.le_trans K4.o.bel.size H5.o.2.2,Nat.ne_of_lt (Nat.lt_of_lt_of_le K4.o.hq.blk.lt H5.o.2.2),KV.hq,hc3,by rw [HI.o];exact ⟨KV.own,OwnB.nil_ _ _,OwnB.nil_ _ _⟩,KV.r⟩;have a0:w6.cell? ⟨p,0,none⟩=some (.int .u8 (h.f.toNat:Int)):=(by have q:=K6.o.hp.c0;rw [HI.o] at q;exact q);have a1:w6.cell? ⟨p,1,none⟩=some (.int .u32 (h.v:Int)):=(by have q:=K6.o.hp.c1;rw [HI.o] at q;exact q);have a2:w6.cell? ⟨p,2,none⟩=some (.slice h.A h.a.length h.c):=(by have q:=K6.o.hp.c2;rw [HI.o] at q;exact q);have a3:w6.cell? ⟨p,3,none⟩=some (.slice h.B h.b.length h.d):=(by have q:=K6.o.hp.c3;rw [HI.o] at q;exact q);clear hc3 ho3 hs3 H5 K4 H3 KV)
   | (refine AiZ AmW rfl (.tmp 2) (.tmp 32) rfl q rfl zeroI zeroI rfl (by exact K6.o.hq) ?_;intro w8 hc5 ho5 hs5;have H5:=η (And.intro hc5 ho5);clear hc5 ho5 hs5))
  rw [HE.o];exact bodyPost_ret (v:=.tuple #[zeroI.val,.int .i64 14]) (AeK AmW rfl _ _ q zeroI.cells _ rfl rfl H5.o.1 rfl) rfl ⟨zeroI,rfl,rfl,In.own.zero _ _,K6.o.bel.trans (H5.o.2.below (fun j hj=>by rw [List.mem_singleton.1 hj];exact K6.o.lq) K6.o.bel.size)⟩
 have u1:((h.v:Int) == 1)=true:=by rw [beq_iff_eq];omega
 have u1':((h.v:Int) != 1)=false:=by rw [bne,u1];rfl
 go_wp2_with (first
  | (refine atd 4 rfl ?_;refine AsV AhZ rfl rfl ?_;intro w3 y hc2 hb2 hx2;have H2:=η (And.intro hc2 (And.intro hb2 hx2));clear hc2 hb2 hx2)
  | (refine AtJ AhZ rfl (.tmp 4) (.tmp 12) rfl y rfl h zeroH rfl (by exact H2.o.1) ?_;intro w4 hc3 ho3 hs3;have K4:=η (K2.o.var H2.o.2.1 H2.o.2.2 ho3);have H3:=η hc3;clear hc3 ho3 hs3 H2 K2)
  | (refine ChJ AhZ rfl (.tmp 4) rfl y rfl h (by exact H3.o) ?_)
  | (refine BtX rfl (.tmp 19) rfl h rfl i HI.o ?_)
  | (refine atd 7 rfl ?_;refine AfZ AmW rfl rfl ?_;intro w5 p hc2 hb2 hx2;have H5:=η (And.intro hc2 (And.intro hb2 hx2));clear hc2 hb2 hx2)
  | (refine AiZ AmW rfl (.tmp 7) (.tmp 20) rfl p rfl i zeroI rfl (by exact H5.o.1) ?_;intro w6 hc3 ho3 hs3;have KV:=K4.o.var H5.o.2.1 H5.o.2.2 ho3;have K6:Hid (SK w q p i A2 n2 c2 r.2.1 w6):=η ⟨KV.bel,KV.lq,Nat.le_trans K4.o.bel.size H5.o.2.2,Nat.ne_of_lt (Nat.lt_of_lt_of_le K4.o.hq.blk.lt H5.o.2.2),KV.hq,hc3,by rw [HI.o];exact ⟨KV.own,OwnB.nil_ _ _,OwnB.nil_ _ _⟩,KV.r⟩;have a0:w6.cell? ⟨p,0,none⟩=some (.int .u8 (h.f.toNat:Int)):=(by have q:=K6.o.hp.c0;rw [HI.o] at q;exact q);have a1:w6.cell? ⟨p,1,none⟩=some (.int .u32 (h.v:Int)):=(by have q:=K6.o.hp.c1;rw [HI.o] at q;exact q);have a2:w6.cell? ⟨p,2,none⟩=some (.slice h.A h.a.length h.c):=(by have q:=K6.o.hp.c2;rw [HI.o] at q;exact q);have a3:w6.cell? ⟨p,3,none⟩=some (.slice h.B h.b.length h.d):=(by have q:=K6.o.hp.c3;rw [HI.o] at q;exact q);clear hc3 ho3 hs3 H5 K4 H3 KV))
 refine (typ_any h.f _).mono ?_
 rintro e wt ⟨rfl,rfl⟩
 by_cases hty:typ h.f=3
 rotate_left
 ·have u2:((typ h.f:Int) == 3)=false:=by rw [beq_eq_false_iff_ne];omega
  have u2':((typ h.f:Int) != 3)=true:=by rw [bne,u2];rfl
  have hk:k=14:=by rcases HSC.o with h1 | h1 | h1;exact h1.1;exact absurd h1.2.2.1 hty;exact absurd h1.2.2.1 hty
  have HE:Hid (X=(BkW,14)):=η (by rw [HX.o,if_neg (fun k=>k he),if_pos (by rw [hk];decide),hk]);clear hv hk hty
  go_wp2_with (first
   | (refine AiZ AmW rfl (.tmp 2) (.tmp 32) rfl q rfl zeroI zeroI rfl (by exact K6.o.hq) ?_;intro w8 hc5 ho5 hs5;have H5:=η (And.intro hc5 ho5);clear hc5 ho5 hs5))
  rw [HE.o];exact bodyPost_ret (v:=.tuple #[zeroI.val,.int .i64 14]) (AeK AmW rfl _ _ q zeroI.cells _ rfl rfl H5.o.1 rfl) rfl ⟨zeroI,rfl,rfl,In.own.zero _ _,K6.o.bel.trans (H5.o.2.below (fun j hj=>by rw [List.mem_singleton.1 hj];exact K6.o.lq) K6.o.bel.size)⟩
 have u2:((typ h.f:Int) == 3)=true:=by rw [beq_iff_eq];omega
 have u2':((typ h.f:Int) != 3)=false:=by rw [bne,u2];rfl
 go_wp2_with fail
 obtain ⟨v,HV⟩:∃ v,Hid ((decide (20<h.a.length) || decide (20<h.b.length))=v):=⟨_,η rfl⟩
 refine (stl2 _ h.A h.B h.a.length h.b.length h.c h.d h.a h.b (by have q:=K6.o.own.h.a.rb;rw [HI.o] at q;exact q) (by have q:=K6.o.own.h.b.rb;rw [HI.o] at q;exact q) v HV.o).mono ?_
 rintro e w7 ⟨rfl,hb7⟩
 have K7:=η (K6.o.step hb7)
 clear hb7 a0 a1 a2 a3 K6
 by_cases hk:k=0
 rotate_left
 ·obtain ⟨hk15,hids⟩:k=15∧(20<h.a.length∨20<h.b.length):=by
   rcases HSC.o with h1 | h1 | h1
   ·rcases h1.2 with h2 | h2;exact absurd hv h2;exact absurd hty h2
   ·exact ⟨h1.1,h1.2.2.2⟩
   ·exact absurd h1.1 hk
  have HE:Hid (X=(BkW,15)):=η (by rw [HX.o,if_neg (fun k=>k he),if_pos hk,hk15]);have hvt:v=true:=by rw [←HV.o];simpa using hids
  subst hvt;clear hv hty hk hk15 hids
  go_wp2_with (first
   | (refine AiZ AmW rfl (.tmp 2) (.tmp 41) rfl q rfl zeroI zeroI rfl (by exact K7.o.hq) ?_;intro w8 hc5 ho5 hs5;have H5:=η (And.intro hc5 ho5);clear hc5 ho5 hs5))
  rw [HE.o];exact bodyPost_ret (v:=.tuple #[zeroI.val,.int .i64 15]) (AeK AmW rfl _ _ q zeroI.cells _ rfl rfl H5.o.1 rfl) rfl ⟨zeroI,rfl,rfl,In.own.zero _ _,K7.o.bel.trans (H5.o.2.below (fun j hj=>by rw [List.mem_singleton.1 hj];exact K7.o.lq) K7.o.bel.size)⟩
 obtain ⟨ha,hb⟩:h.a.length≤20∧h.b.length≤20:=by
  rcases HSC.o with h1 | h1 | h1
  ·exact absurd (hk.symm.trans h1.1) (by decide)
  ·exact absurd (hk.symm.trans h1.1) (by decide)
  ·exact h1.2.2.2
 have hvf:v=false:=by rw [←HV.o,decide_eq_false (by omega),decide_eq_false (by omega)];rfl
 subst hvf
 have HX2:Hid (X=if r.2.1.length<17 then (BkW,12) else ((r.1,r.2.1.take (r.2.1.length - 16),r.2.1.drop (r.2.1.length - 16)),0)):=η (by rw [HX.o,if_neg (fun k=>k he),if_neg (fun h=>h hk)])
 have HL2:=η K7.o.r.len
 rw [HL2.o] at HX2 HLN
 have hcc:=K7.o.r.cap
 clear hv hty hk ha hb he
 have hn2:n2≤1000000:=by have:=HLN.o;omega
 by_cases h17:n2<17
 ·have u5:decide ((n2:Int) - 16<1)=true:=decide_eq_true (by omega)
  have HE:Hid (X=(BkW,12)):=η (by rw [HX2.o,if_pos h17]);clear hcc
  go_wp2_with (first
   | (refine AiZ AmW rfl (.tmp 2) (.tmp 47) rfl q rfl zeroI zeroI rfl (by exact K7.o.hq) ?_;intro w8 hc5 ho5 hs5;have H5:=η (And.intro hc5 ho5);clear hc5 ho5 hs5))
  rw [HE.o];exact bodyPost_ret (v:=.tuple #[zeroI.val,.int .i64 12]) (AeK AmW rfl _ _ q zeroI.cells _ rfl rfl H5.o.1 rfl) rfl ⟨zeroI,rfl,rfl,In.own.zero _ _,K7.o.bel.trans (H5.o.2.below (fun j hj=>by rw [List.mem_singleton.1 hj];exact K7.o.lq) K7.o.bel.size)⟩
 obtain ⟨N,hN⟩:∃ N,n2=N+16:=⟨n2 - 16,by omega⟩
 have hsub:(n2:Int) - 16=(N:Int):=by omega
 have u5:decide ((N:Int)<1)=false:=decide_eq_false (by omega)
 have hcut2:=BsZ A2 n2 c2 N (by omega)
 have hcut3:=BvJ A2 n2 c2 N (by omega)
 have HE:Hid (X=((r.1,r.2.1.take N,r.2.1.drop N),0)):=η (by rw [HX2.o,if_neg h17,hN,Nat.add_sub_cancel])
 have HN:=η hN
 have hd:n2 - N=16:=by omega
 rw [hd] at hcut3
 have HCC:=η hcc
 clear hN h17 hcc hd
 have HB:Hid (∀ W:World,OwnB W w.heap.size A2 n2 c2 r.2.1→RB W W.heap.size (cutA A2 c2 0) N (r.2.1.take N)∧RB W W.heap.size (cutA A2 c2 N) 16 (r.2.1.drop N)):=η (fun W hW=>by
  have hN:=HN.o
  have hcc:=HCC.o
  have g2:=hW.rb.part (i:=0) (j:=N) (c:=c2) (Nat.zero_le _) (by omega) hcc.1
  have g3:=hW.rb.part (i:=N) (j:=n2) (c:=c2) (by omega) (Nat.le_refl _) hcc.1
  rw [List.take_of_length_le (by rw [HL2.o];omega),show n2 - N=16 by omega] at g3
  exact ⟨by simpa using g2,g3⟩)
 go_wp2_with fail
 refine (CvW _ (cutA A2 c2 0) N c2 (r.2.1.take N) (by exact (HB.o _ K7.o.r).1) (by have:=HN.o;omega)).mono ?_
 rintro e w8 ⟨A8,c8,rfl,ho,hb⟩
 have K8:=η (K7.o.step hb)
 have O8:=η (ho.base_le K7.o.bel.size)
 have c0:=K8.o.hp.c4
 have f0:=K8.o.hp.blk.free 4
 clear ho hb K7
 go_wp2_with fail
 have K9:=η (K8.o.put4 O8.o)
 clear c0 f0 K8 O8
 obtain ⟨w9,HW9⟩:∃ w9,Hid (w8.setCell ⟨p,4,none⟩ (.slice A8 N c8)=w9):=⟨_,η rfl⟩
 have hsz:w9.heap.size=w8.heap.size:=by rw [←HW9.o];simp
 have hj:=CvW w9 (cutA A2 c2 N) 16 (c2 - N) (r.2.1.drop N) (by rw [←HW9.o];exact (HB.o _ K9.o.r).2) (by decide)
 rw [hsz] at hj
 have HJN:=η hj
 rw [HW9.o] at K9 ⊢
 clear hj hsz
 refine HJN.o.mono ?_
 rintro e w10 ⟨A10,c10,rfl,ho,hb⟩
 have K10:=η (K9.o.step hb)
 have O10:=η (ho.base_le K9.o.bel.size)
 have c0:=K10.o.hp.c5
 have f0:=K10.o.hp.blk.free 5
 clear ho hb K9
 obtain ⟨j,HJ⟩:∃ j,Hid (SK w q p j A2 n2 c2 r.2.1 (w10.setCell ⟨p,5,none⟩ (.slice A10 16 c10))∧j.pl=(r.1,r.2.1.take N,r.2.1.drop N)):=⟨_,η ⟨K10.o.put5 O10.o,by rw [HI.o];show (h.pl,_,_)=_;rw [HP.o]⟩⟩
 go_wp2_with (first
  | (refine AgJ AmW rfl (.tmp 7) rfl p rfl j (by exact HJ.o.1.hp) ?_)
  | (refine AiZ AmW rfl (.tmp 2) (.tmp 60) rfl q rfl j zeroI rfl (by exact HJ.o.1.hq) ?_;intro w13 hc5 ho5 hs5;have H5:=η (And.intro hc5 ho5);clear hc5 ho5 hs5))
 rw [HE.o]
 exact bodyPost_ret (v:=.tuple #[j.val,.int .i64 0]) (AeK AmW rfl _ _ q j.cells _ rfl rfl H5.o.1 rfl) rfl ⟨j,rfl,HJ.o.2,HJ.o.1.own.off H5.o.2 (HJ.o.1.hq.blk.nob (by decide)),HJ.o.1.bel.trans (H5.o.2.below (fun j hj=>by rw [List.mem_singleton.1 hj];exact HJ.o.1.lq) HJ.o.1.bel.size)⟩
end Go.Proofs.YthppjgdnibfefaaGreat
namespace Go.Proofs.YthppjgdnibfefaaGreat
open Tryz
open Go.RowKit
attribute [local go_sem ↓] AvK AvJ ArZ ArY DvV DvQ
attribute [local irreducible] stL AkK BdY trnL tagL byt rawP sprs AdW prs schk typ
theorem BpV (A0 A1:YA) (n0 c0 n1 c1:Nat) (b id:YB) (w:World) (h0:RB w w.heap.size A0 n0 b) (m0:n0≤c0∧c0≤maxLen) (hn:n0≤1000000) (h1:RB w w.heap.size A1 n1 id) (m1:n1≤c1∧c1≤maxLen) :
  Calls prog 30 #[.slice A0 n0 c0,.slice A1 n1 c1] w fun e w'=>e=.returned (.int .i64 (BjQ b id))∧Below w.heap.size w w':=by
 have HL0:=η h0.len
 have HM:=η m0
 have K0:=η (((IW.start w).add h1 m1.1 m1.2).add h0 m0.1 m0.2)
 clear h0 h1 m0 m1
 obtain ⟨r,HR⟩:∃ r,Hid (r=sprs b):=⟨_,η rfl⟩
 obtain ⟨X,HX⟩:∃ X,Hid (X=BjQ b id):=⟨_,η rfl⟩
 rw [←HX.o]
 unfold BjQ at HX
 rw [←HR.o,HL0.o] at HX
 by_cases he:r.2=0
 rotate_left
 ·have hb':(r.2 != 0)=true:=by simpa using he
  have HE:Hid (X=r.2):=η (by rw [HX.o,if_pos he]);go_enter func30,ntmps30;go_wp2_with fail;refine (ApV A0 n0 c0 b _ (by exact (K0.o.row _ (.head _)).1) HM.o hn).mono ?_;rw [←HR.o];rintro e w1 ⟨i,rfl,hp,ho,hb⟩;have J1:=η ((K0.o.step hb).addi ho.ok);have HP:=η hp;clear hp ho hb K0
  go_wp2_with (first
   | (refine atd 5 rfl ?_;refine AfZ AmW rfl rfl ?_;intro w1a y hc2 hb2 hx2;have H2:=η (And.intro hc2 (And.intro hb2 hx2));clear hc2 hb2 hx2)
   | (refine AiZ AmW rfl (.tmp 5) (.tmp 11) rfl y rfl i zeroI rfl (by exact H2.o.1) ?_;intro w1b hc3 ho3 hs3;have K1:=η (J1.o.var H2.o.2.1 H2.o.2.2 hc3 ho3);clear hc3 ho3 hs3 H2 J1))
  rw [HE.o];go_ret;exact ⟨rfl,K1.o.bel⟩
 have hb':(r.2 != 0)=false:=by rw [he];rfl
 have h17:17≤n0:=by have:=ElV (l:=b) (by rw [←HR.o];exact he);rw [HL0.o] at this;exact this
 obtain ⟨N,hN⟩:∃ N,n0=N+16:=⟨n0 - 16,by omega⟩
 have HN:=η hN
 have hsub:(n0:Int) - 16=(N:Int):=by omega
 have hcut:=BsZ A0 n0 c0 N (by have:=HM.o.1;omega)
 rw [show n0 - 16=N by omega] at HX
 have HX2:Hid (X=if (AkK id (b.take N)).2≠0 then (AkK id (b.take N)).2 else if (AkK id (b.take N)).1=r.1.2.2 then 0 else 13):=η (by rw [HX.o,if_neg (fun k=>k he)])
 have HE0:=η he
 clear hN h17 he
 go_enter func30,ntmps30
 go_wp2_with fail
 refine (ApV A0 n0 c0 b _ (by exact (K0.o.row _ (.head _)).1) HM.o hn).mono ?_
 rw [←HR.o]
 rintro e w1 ⟨i,rfl,hp,ho,hb⟩
 have J1:=η ((K0.o.step hb).addi ho.ok)
 have HP:=η hp
 clear hp ho hb K0
 go_wp2_with (first
  | (refine atd 5 rfl ?_;refine AfZ AmW rfl rfl ?_;intro w1a y hc2 hb2 hx2;have H2:=η (And.intro hc2 (And.intro hb2 hx2));clear hc2 hb2 hx2)
  | (refine AiZ AmW rfl (.tmp 5) (.tmp 11) rfl y rfl i zeroI rfl (by exact H2.o.1) ?_;intro w1b hc3 ho3 hs3;have K1:=η (J1.o.var H2.o.2.1 H2.o.2.2 hc3 ho3);clear hc3 ho3 hs3 H2 J1))
 clear hcut hsub
 have hf:RB w1b w1b.heap.size (cutA A0 c0 0) N (b.take N):=by
  have h:=(K1.o.row (A0,n0,c0,b) (by simp)).1.part (i:=0) (j:=N) (c:=c0) (Nat.zero_le _) (by simp only;have:=HN.o;omega) HM.o.1;simpa using h
 have HF:=η hf
 clear hf
 refine (CuZ A1 (cutA A0 c0 0) n1 c1 N c0 id (b.take N) _ (by exact (K1.o.row (A1,n1,c1,id) (by simp)).1) (by exact HF.o)).mono ?_
 obtain ⟨s,HS⟩:∃ s,Hid (s=AkK id (b.take N)):=⟨_,η rfl⟩
 rw [←HS.o] at HX2 ⊢
 rintro e w3 ⟨A3,c3,rfl,ho,hb⟩
 have K3:=η (K1.o.own hb ho)
 clear ho hb K1 HF
 obtain ⟨S,code⟩:=s
 simp only at K3 HX2 ⊢
 by_cases hc:code=0
 rotate_left
 ·have hcb:(code != 0)=true:=by simpa using hc
  have HE:Hid (X=code):=η (by rw [HX2.o,if_pos hc]);go_wp2_with fail;rw [HE.o];go_ret;exact ⟨rfl,K3.o.bel⟩
 subst hc
 have HX3:Hid (X=if S=r.1.2.2 then 0 else 13):=η (by rw [HX2.o,if_neg (fun k=>k rfl)])
 obtain ⟨v,hv⟩:∃ v,(i.r == S)=v:=⟨_,rfl⟩
 have hir:i.r=r.1.2.2:=by have h:=congrArg (fun x=>x.2.2) HP.o;exact h
 have HE:Hid (X=if v=true then 0 else 13):=η (by rw [HX3.o,←hir,←hv];simp only [beq_iff_eq];(by_cases h:S=i.r);(rw [if_pos h,if_pos h.symm]);(rw [if_neg h,if_neg (Ne.symm h)]))
 have HV:=η hv
 have q5:=(K3.o.box (81,y,i) (by simp)).c5
 have ki:=(K3.o.ini i (by simp))
 have KI:=η ki
 clear ki hir
 clear hv
 go_wp2_with fail
 refine (DdJ i.R A3 i.r.length i.g S.length c3 _ _ i.r S _ (by exact KI.o.r) (by exact (K3.o.row _ (.head _)).1)).mono ?_
 rw [HV.o]
 rintro e w4 ⟨rfl,rfl⟩
 rcases v with _ | _
 ·go_wp2_with fail
  rw [HE.o];go_ret;exact ⟨rfl,K3.o.bel⟩
 ·go_wp2_with fail
  rw [HE.o];go_ret;exact ⟨rfl,K3.o.bel⟩
attribute [local irreducible] AiX
theorem ElW (l0 l1 l2 l3:YB):AiX l0 l1 l2 l3=if 20<l0.length∨20<l1.length∨20<l2.length then ([],15) else if l3.length<1∨4096<l3.length then ([],11) else (AdW l0 l1 l3++stL l2 (AdW l0 l1 l3),0):=by unfold AiX;rfl
theorem EdZ (A0 A1:YA) (c0 c1:Nat) (l0 l1:YB) (w:World) (h0:RB w w.heap.size A0 l0.length l0) (h1:RB w w.heap.size A1 l1.length l1) (m0:l0.length≤c0∧c0≤maxLen) (m1:l1.length≤c1∧c1≤maxLen) (b0:l0.length≤20) (b1:l1.length≤20) :
  Calls prog 182 #[.agg #[.int .u8 255,.int .u32 1,.slice A0 l0.length c0,.slice A1 l1.length c1]] w (AhW (rawP (255,1,l0,l1)).length (rawP (255,1,l0,l1)) 0 w):=by
 have hb:byt (Hd.pl ⟨255,1,A0,c0,l0,A1,c1,l1⟩)=(rawP (255,1,l0,l1),0):=DwV (CpX (to:=l0) (frm:=l1) b0 b1)
 have h:=EdY ⟨255,1,A0,c0,l0,A1,c1,l1⟩ w ⟨h0,h1,m0,m1,by simp⟩ (by simp only;omega) (by simp only;omega)
 rw [hb] at h
 exact h
theorem ElX (A0 A1 A2 A3:YA) (c0 c1 c2 c3:Nat) (l0 l1 l2 l3:YB) (w:World)
  (h0:RB w w.heap.size A0 l0.length l0) (h1:RB w w.heap.size A1 l1.length l1) (h2:RB w w.heap.size A2 l2.length l2) (h3:RB w w.heap.size A3 l3.length l3)
  (m0:l0.length≤c0∧c0≤maxLen) (m1:l1.length≤c1∧c1≤maxLen) :
  Calls prog 148 #[.slice A0 l0.length c0,.slice A1 l1.length c1,.slice A2 l2.length c2,.slice A3 l3.length c3] w (AhW (AiX l0 l1 l2 l3).1.length (AiX l0 l1 l2 l3).1 (AiX l0 l1 l2 l3).2 w):=by
 obtain ⟨X,HX⟩:∃ X,Hid (X=AiX l0 l1 l2 l3):=⟨_,η rfl⟩
 rw [←HX.o]
 rw [ElW] at HX
 have HR:=η (And.intro h0 (And.intro h1 (And.intro h2 h3)))
 have HM:=η (And.intro m0 m1)
 clear h0 h1 h2 h3 m0 m1
 by_cases hlong:20<l0.length∨20<l1.length∨20<l2.length
 ·have D:Hid ((decide (20<l0.length) || (decide (20<l1.length) || decide (20<l2.length)))=true):=η (by simpa using hlong)
  have HE:Hid (X=([],15)):=η (by rw [HX.o,if_pos hlong]);clear hlong;go_enter func148,ntmps148;go_wp2_with fail;refine (stl3 w A0 A1 A2 l0.length l1.length l2.length c0 c1 c2 l0 l1 l2 (by exact HR.o.1) (by exact HR.o.2.1) (by exact HR.o.2.2.1) true D.o).mono ?_;rintro e w1 ⟨rfl,hb⟩;have K0:=η hb;clear hb;go_wp2_with fail;rw [HE.o];go_ret2;exact ⟨none,0,rfl,OwnB.nil_ _ _,K0.o⟩
 have D:Hid ((decide (20<l0.length) || (decide (20<l1.length) || decide (20<l2.length)))=false):=η (by rw [decide_eq_false (by omega),decide_eq_false (by omega),decide_eq_false (by omega)];rfl)
 have HNO:=η hlong
 by_cases t3:l3.length<1
 ·have d3:((l3.length:Int) == 0)=true:=by rw [beq_iff_eq];omega
  have HE:Hid (X=([],11)):=η (by rw [HX.o,if_neg hlong,if_pos (.inl t3)]);clear hlong;go_enter func148,ntmps148;go_wp2_with fail;refine (stl3 w A0 A1 A2 l0.length l1.length l2.length c0 c1 c2 l0 l1 l2 (by exact HR.o.1) (by exact HR.o.2.1) (by exact HR.o.2.2.1) false D.o).mono ?_;rintro e w1 ⟨rfl,hb⟩;have K0:=η hb;clear hb;go_wp2_with fail;rw [HE.o];go_ret2;exact ⟨none,0,rfl,OwnB.nil_ _ _,K0.o⟩
 have d3:((l3.length:Int) == 0)=false:=by rw [beq_eq_false_iff_ne];omega
 by_cases t4:4096<l3.length
 ·have d4:decide (4096<(l3.length:Int))=true:=decide_eq_true (by omega)
  have HE:Hid (X=([],11)):=η (by rw [HX.o,if_neg hlong,if_pos (.inr t4)]);clear hlong;go_enter func148,ntmps148;go_wp2_with fail;refine (stl3 w A0 A1 A2 l0.length l1.length l2.length c0 c1 c2 l0 l1 l2 (by exact HR.o.1) (by exact HR.o.2.1) (by exact HR.o.2.2.1) false D.o).mono ?_;rintro e w1 ⟨rfl,hb⟩;have K0:=η hb;clear hb;go_wp2_with fail;rw [HE.o];go_ret2;exact ⟨none,0,rfl,OwnB.nil_ _ _,K0.o⟩
 have d4:decide (4096<(l3.length:Int))=false:=decide_eq_false (by omega)
 have HB:Hid (l0.length≤20∧l1.length≤20):=η ⟨by omega,by omega⟩
 obtain ⟨L,HL⟩:∃ L,Hid (L=AdW l0 l1 l3):=⟨_,η rfl⟩
 have hL:=AqX l0 l1 l3
 rw [←HL.o] at hL
 have HRAW:Hid (∀ W:World,Below w.heap.size w W→Calls prog 182 #[.agg #[.int .u8 255,.int .u32 1,.slice A0 l0.length c0,.slice A1 l1.length c1]] W (AhW (rawP (255,1,l0,l1)).length (rawP (255,1,l0,l1)) 0 W)):=η (fun W hb=>EdZ A0 A1 c0 c1 l0 l1 W (HR.o.1.step hb) (HR.o.2.1.step hb) HM.o.1 HM.o.2 HB.o.1 HB.o.2)
 obtain ⟨R,HRR⟩:∃ R,Hid (R=rawP (255,1,l0,l1)):=⟨_,η rfl⟩
 have hR:R.length=7+l0.length+l1.length:=by rw [HRR.o,DiQ]
 have HRL:Hid (L=R++l3):=η (by rw [HL.o,HRR.o];unfold AdW;rfl)
 have HS:Hid (AkK l2 L=(stL l2 L,0)):=η (by rcases BaJ l2 L with k | k | k;exact absurd k.1 (by omega);exact absurd k.2.1 (by omega);exact k.2.2)
 obtain ⟨S,HSS⟩:∃ S,Hid (S=stL l2 L):=⟨_,η rfl⟩
 have HSL:Hid (S.length=16):=η (by rw [HSS.o];exact AuV _ _)
 have HE:Hid (X=(L++S,0)):=η (by rw [HX.o,if_neg hlong,if_neg (by omega),HSS.o,HL.o])
 obtain ⟨m,hm⟩:∃ m,R.length=m:=⟨_,rfl⟩
 rw [hm] at hR
 have hb:m≤47:=by omega
 have HMR:=η hm
 rw [←HRR.o,hm] at HRAW
 rw [←HSS.o] at HS
 have HLL:Hid (L.length=m+l3.length):=η (by rw [HRL.o,List.length_append,hm])
 have hl3:l3.length≤4096:=by omega
 clear hlong t3 t4 hL hR hm
 go_enter func148,ntmps148
 go_wp2_with fail
 refine (stl3 w A0 A1 A2 l0.length l1.length l2.length c0 c1 c2 l0 l1 l2 (by exact HR.o.1) (by exact HR.o.2.1) (by exact HR.o.2.2.1) false D.o).mono ?_
 rintro e w1 ⟨rfl,hb⟩
 have K0:=η hb
 clear hb
 go_wp2_with fail
 refine (HRAW.o _ (by exact K0.o)).mono ?_
 rintro e w3 ⟨A5,c5,rfl,ho,hb1⟩
 have K1:=η (And.intro (AaJ K0.o hb1) (ho.base_le K0.o.size))
 clear ho hb1
 have hRR:=RR.lit w3 [(A5,c5,R),(A3,c3,l3)] #[.slice A5 m c5,.slice A3 l3.length c3] 41 2 w3.heap.size (by simp [HMR.o]) rfl rfl (fun r hr=>by
  simp only [List.mem_cons,List.not_mem_nil,or_false] at hr
  rcases hr with rfl | rfl
  ·simp only [HMR.o];exact K1.o.2.rb
  ·exact HR.o.2.2.2.step K1.o.1)
 have HRR2:=η hRR
 have BA:=η (AaJ K1.o.1 (AaK w3 (.cells #[.slice A5 m c5,.slice A3 l3.length c3] 41)))
 clear hRR
 go_wp2_with fail
 refine (AwX _ 2 2 _ _ (by exact HRR2.o) (by decide) (by simp [totL,HMR.o];omega)).mono ?_
 rintro e w4 ⟨A6,c6,rfl,ho,hb2⟩
 have hto:totL (List.map (fun r:Option Addr×Nat×List UInt8=>r.2.2) [(A5,c5,R),(A3,c3,l3)])=m+l3.length:=by simp [totL,HMR.o]
 have hfl:(List.map (fun r:Option Addr×Nat×List UInt8=>r.2.2) [(A5,c5,R),(A3,c3,l3)]).flatten=L:=by rw [HRL.o];simp
 rw [hto,hfl] at ho
 rw [hto]
 have K2:=η (And.intro (AaJ BA.o hb2) (ho.base_le BA.o.size))
 clear ho hb2 hto hfl HRR2
 go_wp2_with fail
 refine (CuZ A2 A6 l2.length c2 (m+l3.length) c6 l2 L _ (by exact HR.o.2.2.1.step K2.o.1) (by exact K2.o.2.rb)).mono ?_
 rw [HS.o]
 rintro e w5 ⟨A7,c7,rfl,ho,hb3⟩
 simp only [HSL.o] at ho ⊢
 have K3:=η (And.intro (AaJ K2.o.1 hb3) (And.intro (K2.o.2.below hb3) (ho.base_le K2.o.1.size)))
 clear ho hb3
 have hRR:=RR.lit w5 [(A6,c6,L),(A7,c7,S)] #[.slice A6 (m+l3.length) c6,.slice A7 16 c7] 41 2 w5.heap.size (by simp [HLL.o,HSL.o]) rfl rfl (fun r hr=>by
  simp only [List.mem_cons,List.not_mem_nil,or_false] at hr
  rcases hr with rfl | rfl
  ·simp only [HLL.o];exact K3.o.2.1.rb
  ·simp only [HSL.o];exact K3.o.2.2.rb)
 have HRR3:=η hRR
 have BB:=η (AaJ K3.o.1 (AaK w5 (.cells #[.slice A6 (m+l3.length) c6,.slice A7 16 c7] 41)))
 clear hRR
 go_wp2_with fail
 refine (AwX _ 2 2 _ _ (by exact HRR3.o) (by decide) (by simp [totL,HLL.o,HSL.o];omega)).mono ?_
 rintro e w6 ⟨A8,c8,rfl,ho,hb4⟩
 have hto:totL (List.map (fun r:Option Addr×Nat×List UInt8=>r.2.2) [(A6,c6,L),(A7,c7,S)])=(L++S).length:=by simp [totL]
 have hfl:(List.map (fun r:Option Addr×Nat×List UInt8=>r.2.2) [(A6,c6,L),(A7,c7,S)]).flatten=L++S:=by simp
 rw [hto,hfl] at ho
 rw [hto]
 obtain ⟨G,HG⟩:∃ G,Hid (L++S=G):=⟨_,η rfl⟩
 rw [HG.o] at ho ⊢
 have K4:=η (And.intro (ho.base_le BB.o.size) (AaJ BB.o hb4))
 clear ho hb4 hto hfl HRR3
 go_wp2_with fail
 rw [HE.o,HG.o]
 go_ret2
 exact ⟨A8,c8,rfl,K4.o⟩
