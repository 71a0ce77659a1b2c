import Derived.Test.YthppjgdnibfefaaGreatRefAesAll
import Derived.Test.YthppjgdnibfefaaGreatFieldUse
set_option linter.all false
set_option maxRecDepth 100000
set_option maxHeartbeats 32000000
namespace Go.Proofs.YthppjgdnibfefaaGreat
theorem list16 (l l':YB) (h:l.length=16) (h':l'.length=16) (e:∀ p,p<16→l.getD p 0=l'.getD p 0):l=l':=by
 apply List.ext_getElem (by omega)
 intro i h1 h2
 have:=e i (by omega)
 rw [List.getD_eq_getElem?_getD,List.getD_eq_getElem?_getD,List.getElem?_eq_getElem h1,List.getElem?_eq_getElem h2] at this
 exact this
theorem EfW (a b:YB) (p:Nat) (ha:a.length=16) (hb:b.length=16) (hp:p<16):(xorL a b).getD p 0=a.getD p 0 ^^^ b.getD p 0:=by
 simp [xorL,List.getD,List.getElem?_zipWith,List.getElem?_eq_getElem (show p<a.length by omega),List.getElem?_eq_getElem (show p<b.length by omega)]
theorem CdX (a b:YB) (ha:a.length=16) (hb:b.length=16):xorL (xorL a b) b=a:=by
 have h1:(xorL a b).length=16:=by rw [AqX _ _ (by omega),ha]
 refine list16 _ _ (by rw [AqX _ _ (by omega),h1]) ha fun p hp=>?_
 rw [EfW _ _ p h1 hb hp,EfW _ _ p ha hb hp,UInt8.xor_assoc,UInt8.xor_self,UInt8.xor_zero]
theorem BfK (key t b:YB) (hk:key.length=16) (hb:b.length=16):(encL key t b).length=16:=CbQ key t b hk hb 10 (by omega)
open Tryz
open Go.RowKit
theorem Tab.apart {w w':World} {lo b:Nat} {l:YB} {d:Bool} (h:Tab w lo b l d) (hl:5≤l.length) {g:Nat} (hg:¬∃ x:UInt8,w.cell? ⟨g,4,none⟩=some (bv x)) (hb:g≠b) (ho:∀ k,k≠g→w'.heap[k]?=w.heap[k]?):Tab w' lo b l d:=by
 obtain ⟨f,hlo,hc,⟨A,n,c,e0,hn,⟨hll,hby⟩,htm⟩,h1,h2,h4,hd⟩:=h
 have keep:∀ q m F,q≠g→Cells w q m F→Cells w' q m F:=fun q m F hq hcl j hj=>⟨(World.cell?_of_block (ho q hq)).trans (hcl j hj).1,(World.frozen?_of_block (ho q hq)).trans (hcl j hj).2⟩
 refine ⟨f,hlo,keep b 773 f (fun e=>hb e.symm) hc,⟨A,n,c,e0,hn,⟨hll,fun hn0=>?_⟩,fun y hy=>?_⟩,h1,h2,h4,hd⟩
 ·obtain ⟨q,q1,q2,q3,q4⟩:=hby hn0
  refine ⟨q,q1,q2,q3,keep q n _ (fun e=>hg ⟨l.getD 4 0,?_⟩) q4⟩;have:=q4.cell (show 4<n by omega);rw [e] at this;exact this
 ·rcases htm y hy with h | ⟨p,p1,p2,p3,p4⟩
  ·exact .inl h
  ·refine .inr ⟨p,p1,p2,p3,keep p 256 _ (fun e=>hg ⟨mulB (UInt8.ofNat y) (UInt8.ofNat 4),?_⟩) p4⟩
   have:=p4.cell (show 4<256 by omega);rw [e] at this;rw [this];unfold BbQ;rw [if_pos (by omega)]
theorem Tab.lt {w:World} {lo b:Nat} {l:YB} {d:Bool} (h:Tab w lo b l d):b<w.heap.size:=by
 obtain ⟨f,hlo,hc,_⟩:=h
 exact hc.lt (by omega)
theorem at_sub (lo b:Nat) (l:YB) (d:Bool) (x:UInt8) (w:World) (h:Tab w lo b l d) :
  Calls prog 197 #[.pointer (some ⟨b,0,none⟩),.int .u8 (x.toNat:Int)] w (UseAt (.int .u8 ((subB x).toNat:Int)) lo b l d w):=by
 have HO:=η (ErV lo b l d w h)
 have hmf:∀ (fn:Fn) (first cap:Array Value) (w:World),(Instr.makeFunc fn first cap).run prog w=.ok (.func fn first cap) w:=fun _ _ _ _=>rfl
 have hx:=AeJ x
 have hxl:=x.toNat_lt
 clear h
 go_enter func197,ntmps197
 go_wp2_with fail
 refine HO.o.mono ?_
 rintro e w1 ⟨rfl,hb,ht,hp⟩
 have HP:=η hp
 clear hp
 have HT:=η ht
 obtain ⟨f,hlo,hc,hr,h1,h2,h4,hd⟩:=ht
 have hcx:=hc.cell (show 5+x.toNat<773 by omega)
 rw [(hd rfl).1 x] at hcx
 unfold bv at hcx
 clear hc hd hr h1 h2 h4
 go_wp2_with fail
 go_ret
 exact ⟨rfl,hb,HT.o,HP.o⟩
theorem at_times (lo b:Nat) (l:YB) (d:Bool) (k:Nat) (y x:UInt8) (w:World) (h:Tab w lo b l d) (hk:l[k]?=some y) :
  Calls prog 224 #[.pointer (some ⟨b,0,none⟩),.int .i64 (k:Int),.int .u8 (x.toNat:Int)] w (UseAt (.tuple #[.int .u8 ((mulB y x).toNat:Int),.int .i64 0]) lo b l d w):=by
 have HO:=η (ErV lo b l d w h)
 have hmf:∀ (fn:Fn) (first cap:Array Value) (w:World),(Instr.makeFunc fn first cap).run prog w=.ok (.func fn first cap) w:=fun _ _ _ _=>rfl
 have hx:=AeJ x
 have hxl:=x.toNat_lt
 have hy:=AeJ y
 have hyl:=y.toNat_lt
 have hkl:=(List.getElem?_eq_some_iff.1 hk).1
 have HK:=η hk
 have hk47:k<140737488355328:=by
  obtain ⟨f,_,_,⟨A0,n0,c0,_,hn0,hby0,_⟩,_⟩:=h;have:=hby0.1;omega
 have hk0:decide ((k:Int)<0)=false:=decide_eq_false (by omega)
 clear h hk
 go_enter func224,ntmps224
 go_wp2_with fail
 refine HO.o.mono ?_
 rintro e w1 ⟨rfl,hb,ht,hp⟩
 have HP:=η hp
 clear hp
 obtain ⟨f,hlo,hc,hr,h1,h2,h4,hd⟩:=ht
 obtain ⟨A,n,c,e0,hn,hby,htm⟩:=hr
 have c0:=hc.cell (show 0<773 by omega)
 rw [e0] at c0
 have hkn:k<n:=by have:=hby.1;omega
 obtain ⟨g,rfl,hg1,hg2,hcl⟩:=hby.2 (by omega)
 have hck:=hcl.cell hkn
 rw [show l.getD k 0=y by simp [List.getD,HK.o]] at hck
 have hrow:=htm y.toNat hyl
 rw [show UInt8.ofNat y.toNat=y by simp] at hrow
 have hcy:=hc.cell (show 517+y.toNat<773 by omega)
 rcases hrow with hrow | ⟨p,hrow,hp1,hp2,hp3⟩
 ·exact absurd hrow ((hd rfl).2.2 y (List.mem_of_getElem? HK.o))
 rw [hrow] at hcy
 have hpx:=hp3.cell (show x.toNat<256 by omega)
 unfold BbQ at hpx
 rw [if_pos (by omega),show UInt8.ofNat x.toNat=x by simp] at hpx
 unfold bv at hck hpx
 have HT:Hid (Tab w1 lo b l true):=η ⟨f,hlo,hc,⟨_,n,c,e0,hn,hby,htm⟩,h1,h2,h4,hd⟩
 have hkd:decide ((n:Int)≤(k:Int))=false:=decide_eq_false (by omega)
 have hkd2:decide (n≤k)=false:=decide_eq_false (by omega)
 clear hc hby htm h1 h2 h4 hd e0 hcl hp3 hrow hkl
 go_wp2_with fail
 go_quiet (fail)
 go_wp2_with fail
 go_ret2
 exact ⟨rfl,hb.drewN _,HT.o,fun hd=>AeV (HP.o hd) _⟩
open Go.RowKit
theorem BaQ:prog.underlying 236=some (.array 4 5):=by kernel_rfl
theorem ApV:(prog.info? 236).map (·.size)=some 4:=by kernel_rfl
def RetA (l:YB) (w:World) (e:Ending) (w':World):Prop:=e=.returned (AV l)∧Below w.heap.size w w'
theorem BcK (l:YB) (h:l.length=4):∃ a b c d,l=[a,b,c,d]:=by
 match l,h with
 | [a,b,c,d],_=>exact ⟨a,b,c,d,rfl⟩
theorem AoQ {fn:Func} {p:Tmp} {ty:TypeId} (h:fn.results=#[.cell p ty]) (tmps:Array Value) (w:World) (b n:Nat) (e:TypeId) (l:YB) (ht:tmps.getD p undef=.pointer (some ⟨b,0,none⟩)) (hc:Ar w b 0 l)
  (hu:prog.underlying ty=some (.array n e)) (hi:(prog.info? ty).map (·.size)=some l.length):(results fn tmps).run prog w=.ok (AV l) w:=by
 have hl:=run_loadVar_mid (P:=prog) w b 0 ty (bvs l) (.array n e) hc.1 hu rfl (by rw [AaY];exact hi)
 rw [Array.getD_eq_getD_getElem?] at ht
 simp only [results,h]
 simp [ht,asAddr,hl,AV]
theorem widx0 (a b c d:Value) (W:World):(Instr.index 236 (.agg #[a,b,c,d]) (.int .i64 0)).run prog W=.ok a W:=by kernel_rfl
theorem widx1 (a b c d:Value) (W:World):(Instr.index 236 (.agg #[a,b,c,d]) (.int .i64 1)).run prog W=.ok b W:=by kernel_rfl
theorem widx2 (a b c d:Value) (W:World):(Instr.index 236 (.agg #[a,b,c,d]) (.int .i64 2)).run prog W=.ok c W:=by kernel_rfl
theorem widx3 (a b c d:Value) (W:World):(Instr.index 236 (.agg #[a,b,c,d]) (.int .i64 3)).run prog W=.ok d W:=by kernel_rfl
theorem EgQ (l:YB) (h:l.length=4) (k:Nat) (hk:k<4) (x:UInt8) (hx:l[k]?=some x) (W:World):(Instr.index 236 (AV l) (.int .i64 (k:Int))).run prog W=.ok (.int .u8 (x.toNat:Int)) W:=by
 obtain ⟨a,b,c,d,rfl⟩:=BcK l h
 rcases (show k=0∨k=1∨k=2∨k=3 by omega) with rfl | rfl | rfl | rfl <;> simp at hx <;> subst hx
 ·exact widx0 _ _ _ _ W
 ·exact widx1 _ _ _ _ W
 ·exact widx2 _ _ _ _ W
 ·exact widx3 _ _ _ _ W
theorem Ar.four {w:World} {g o:Nat} {a b c d:UInt8} (h:Ar w g o [a,b,c,d]):w.cell? ⟨g,o,none⟩=some (.int .u8 (a.toNat:Int))∧w.cell? ⟨g,o+1,none⟩=some (.int .u8 (b.toNat:Int))∧w.cell? ⟨g,o+2,none⟩=some (.int .u8 (c.toNat:Int))∧w.cell? ⟨g,o+3,none⟩=some (.int .u8 (d.toNat:Int)) :=
 ⟨h.cell (j:=0) rfl,h.cell (j:=1) rfl,h.cell (j:=2) rfl,h.cell (j:=3) rfl⟩
theorem Ar.fours {w:World} {g o:Nat} {l:YB} (h:Ar w g o l) (hl:l.length=4):w.frozen? ⟨g,o,none⟩=false∧w.frozen? ⟨g,o+1,none⟩=false∧w.frozen? ⟨g,o+2,none⟩=false∧w.frozen? ⟨g,o+3,none⟩=false :=
 ⟨h.free (j:=0) (by omega),h.free (j:=1) (by omega),h.free (j:=2) (by omega),h.free (j:=3) (by omega)⟩
theorem Ar.four0 {w:World} {g:Nat} {a b c d:UInt8} (h:Ar w g 0 [a,b,c,d]):w.cell? ⟨g,0,none⟩=some (.int .u8 (a.toNat:Int))∧w.cell? ⟨g,1,none⟩=some (.int .u8 (b.toNat:Int))∧w.cell? ⟨g,2,none⟩=some (.int .u8 (c.toNat:Int))∧w.cell? ⟨g,3,none⟩=some (.int .u8 (d.toNat:Int)):=h.four
theorem Ar.fours0 {w:World} {g:Nat} {l:YB} (h:Ar w g 0 l) (hl:l.length=4):w.frozen? ⟨g,0,none⟩=false∧w.frozen? ⟨g,1,none⟩=false∧w.frozen? ⟨g,2,none⟩=false∧w.frozen? ⟨g,3,none⟩=false:=h.fours hl
theorem DlV (l m:YB) (w:World) (hl:l.length=4) (hm:m.length=4) :
  Calls prog 193 #[AV l,AV m] w (RetA (xorL l m) w):=by
 obtain ⟨a0,a1,a2,a3,rfl⟩:=BcK l hl
 obtain ⟨b0,b1,b2,b3,rfl⟩:=BcK m hm
 have x0:=AkK a0 b0
 have x1:=AkK a1 b1
 have x2:=AkK a2 b2
 have x3:=AkK a3 b3
 unfold AV bvs bv
 simp only [List.map_cons,List.map_nil]
 go_enter func193,ntmps193
 go_wp2_with fail
 have i0:=widx0 (.int .u8 (b0.toNat:Int)) (.int .u8 (b1.toNat:Int)) (.int .u8 (b2.toNat:Int)) (.int .u8 (b3.toNat:Int))
 have i1:=widx1 (.int .u8 (b0.toNat:Int)) (.int .u8 (b1.toNat:Int)) (.int .u8 (b2.toNat:Int)) (.int .u8 (b3.toNat:Int))
 have i2:=widx2 (.int .u8 (b0.toNat:Int)) (.int .u8 (b1.toNat:Int)) (.int .u8 (b2.toNat:Int)) (.int .u8 (b3.toNat:Int))
 have i3:=widx3 (.int .u8 (b0.toNat:Int)) (.int .u8 (b1.toNat:Int)) (.int .u8 (b2.toNat:Int)) (.int .u8 (b3.toNat:Int))
 refine wp_loop_rounds 5 ?_
 rw [rounds_succ]
 go_wp2_with fail
 rw [rounds_succ]
 go_wp2_with fail
 rw [rounds_succ]
 go_wp2_with fail
 rw [rounds_succ]
 go_wp2_with fail
 rw [rounds_succ]
 go_wp2_with fail
 refine bodyPost_ret (v:=AV (xorL [a0,a1,a2,a3] [b0,b1,b2,b3])) (by simp [results,results193,go_sem,AV,bvs,bv,xorL]) rfl ⟨rfl,?_⟩
 exact (((Below.refl w.heap.size w).alloc (Nat.le_refl _) _).alloc (by simp) _).alloc (by simp;omega) _
open Go.RowKit
def BfY (f:UInt8→UInt8) (l:YB) (k:Nat):List UInt8:=(l.take k).map f++l.drop k
theorem BfQ (f:UInt8→UInt8) (l:YB) (k:Nat):(BfY f l k).length=l.length:=by simp [BfY];omega
theorem EdX (f:UInt8→UInt8) (l:YB) (k:Nat) (x:UInt8) (hx:l[k]?=some x):(BfY f l k).set k (f x)=BfY f l (k+1):=by
 have hk:=(List.getElem?_eq_some_iff.1 hx).1
 apply List.ext_getElem?
 intro j
 unfold BfY
 rw [List.getElem?_set,List.getElem?_append,List.getElem?_append]
 simp only [List.length_append,List.length_map,List.length_take,List.length_drop,List.getElem?_map,List.getElem?_take,List.getElem?_drop]
 by_cases e:k=j
 ·subst e
  rw [if_pos rfl,if_pos (by omega),if_pos (by omega),if_pos (by omega),hx];rfl
 ·rw [if_neg e]
  by_cases h:j<k
  ·rw [if_pos (by omega),if_pos h,if_pos (by omega),if_pos (by omega)]
  ·rw [if_neg (by omega),if_neg (by omega)]
   congr 1;omega
theorem getX (l:YB) (n k:Nat) (hl:l.length=n) (hk:k<n):∃ x,l[k]?=some x:=⟨l[k]'(by omega),List.getElem?_eq_getElem (by omega)⟩
theorem weachS (lo b:Nat) (t l:YB) (d:Bool) (w:World) (hl:l.length=4) (ht:5≤t.length) (h:Tab w lo b t d) :
  Calls prog 210 #[AV l,.func (.func 197) #[.pointer (some ⟨b,0,none⟩)] #[]] w (UseAt (AV (l.map subB)) lo b t d w):=by
 obtain ⟨a0,a1,a2,a3,rfl⟩:=BcK l hl
 obtain ⟨R,HR⟩:∃ R,Hid (R=AV ([a0,a1,a2,a3].map subB)):=⟨_,η rfl⟩
 obtain ⟨L,HL⟩:∃ L,Hid (L=[a0,a1,a2,a3]):=⟨_,η rfl⟩
 have HAT:=η (EgQ [a0,a1,a2,a3] hl)
 have HT:=η ht
 have hbw:=h.lt
 have HBW:=η hbw
 obtain ⟨G,HG⟩:∃ G,Hid (G=w.heap.size):=⟨_,η rfl⟩
 obtain ⟨W0,HW0⟩:∃ W0,Hid (W0=(w.alloc (.cells #[.int .u8 (a0.toNat:Int),.int .u8 (a1.toNat:Int),.int .u8 (a2.toNat:Int),.int .u8 (a3.toNat:Int)] 236)).alloc (.cells #[.int .u8 0,.int .u8 0,.int .u8 0,.int .u8 0] 236)):=⟨_,η rfl⟩
 have hbel:Below w.heap.size w W0:=by rw [HW0.o];exact (AaK w _).alloc (by simp) _
 have HBEL:=η hbel
 have HTB:Hid (Tab W0 lo b t d):=η (h.below hbel)
 have HA0:Hid (Ar W0 G 0 (BfY subB L 0)):=η (by
  rw [HW0.o,HG.o,HL.o];exact (Ar.new w [a0,a1,a2,a3] _).alloc (by simp) _)
 have HA1:Hid (Ar W0 (G+1) 0 [0,0,0,0]):=η (by
  rw [HW0.o,HG.o]
  have:=Ar.new (w.alloc (.cells #[.int .u8 (a0.toNat:Int),.int .u8 (a1.toNat:Int),.int .u8 (a2.toNat:Int),.int .u8 (a3.toNat:Int)] 236)) [0,0,0,0] 236
  simpa [bvs,bv] using this)
 have HNO:Hid (¬∃ x:UInt8,W0.cell? ⟨G,4,none⟩=some (bv x)):=η (by
  rw [HW0.o,HG.o,World.cell?_alloc_past _ _ _ (by simp),World.cell?_alloc_at _ _ _ _ rfl]
  simp)
 have HNO1:Hid (¬∃ x:UInt8,W0.cell? ⟨G+1,4,none⟩=some (bv x)):=η (by
  rw [HW0.o,HG.o,World.cell?_alloc_at _ _ _ _ (by simp)]
  simp)
 clear h hl ht hbw hbel
 rw [←HR.o]
 show Calls _ _ #[.agg #[.int .u8 (a0.toNat:Int),.int .u8 (a1.toNat:Int),.int .u8 (a2.toNat:Int),.int .u8 (a3.toNat:Int)],_] _ _
 go_enter func210,ntmps210
 go_wp2_with fail
 rw [←HW0.o,←HG.o]
 go_loopw [8] (fun i wr=>∃ (k:Nat) (d':Bool),k≤4∧i=.int .i64 k∧Hid (Tab wr lo b t d')∧Hid (But b w wr)∧Hid (d=true→d'=true∧Below w.heap.size w wr)∧Hid (0<k→d'=true)∧Hid (Ar wr G 0 (BfY subB L k))∧Hid (Ar wr (G+1) 0 [0,0,0,0])∧Hid (¬∃ x:UInt8,wr.cell? ⟨G,4,none⟩=some (bv x))∧Hid (¬∃ x:UInt8,wr.cell? ⟨G+1,4,none⟩=some (bv x))) (fun i _=>4 - (intOf i).toNat)
 case atStart=>exact ⟨0,d,by omega,rfl,HTB,η (But.of_below HBEL.o),η (fun hd=>⟨hd,HBEL.o⟩),η (fun h=>absurd h (by omega)),HA0,HA1,HNO,HNO1⟩
 case round =>
  obtain ⟨k,d',hk,rfl,htb,hbut,hbl,hk0,ha,hth,hno,hnp⟩:=hrel;clear HTB HBEL HA0 HA1 HNO HNO1;by_cases hlt:k<4
  ·obtain ⟨x,hx⟩:=getX [a0,a1,a2,a3] 4 k rfl hlt
   have hat:∀ W:World,(Instr.index 236 (.agg #[.int .u8 (a0.toNat:Int),.int .u8 (a1.toNat:Int),.int .u8 (a2.toNat:Int),.int .u8 (a3.toNat:Int)]) (.int .i64 (k:Int))).run prog W=.ok (.int .u8 (x.toNat:Int)) W:=HAT.o k hlt x hx;have HX:=η hx;have hGb:G≠b:=by have:=HBW.o;have:=HG.o;omega
   clear hx;go_wp2_with fail;refine (at_sub lo b t d' x _ (by exact htb.o)).mono ?_;rintro e w1 ⟨rfl,hb1,ht1,hp1⟩;have hGw:G<wr.heap.size:=ha.o.lt (by rw [BfQ,HL.o];exact Nat.succ_pos _);have ha1:Ar w1 G 0 (BfY subB L k):=ha.o.block (hb1.block G hGw hGb);obtain ⟨y,hy⟩:∃ y,(BfY subB L k)[k]?=some y:=getX _ 4 k (by rw [BfQ,HL.o];rfl) hlt;have hc:=ha1.cell hy;have hf:=ha1.free (j:=k) (by rw [BfQ,HL.o];exact hlt);rw [Nat.zero_add] at hc hf;have HA:=η ha1;have HB1:=η hb1;have HT1:=η ht1;have HP1:=η hp1;clear ha1 hb1 ht1 hp1 hy;unfold bv at hc;go_wp2_with fail;go_roundw
   case rel =>
    have hs:=HA.o.set (k:=k) (by rw [BfQ,HL.o];exact hlt) (subB x);rw [EdX subB L k x (by rw [HL.o];exact HX.o),Nat.zero_add] at hs;have hno1:¬∃ x:UInt8,w1.cell? ⟨G,4,none⟩=some (bv x):=by rw [HB1.o.cell (p:=⟨G,4,none⟩) hGw hGb];exact hno.o
    refine ⟨k+1,true,by omega,by go_num,η (HT1.o.apart HT.o hno1 hGb (fun q hq=>Below.heap_setCell w1 _ _ q hq)),η ((hbut.o.trans HB1.o).setCell (.inr (by rw [HG.o];exact Nat.le_refl _)) _),η (fun hd=>⟨rfl,?_⟩),η (fun _=>rfl),η hs,η ?_,η ?_,η ?_⟩
    ·have h1:=hbl.o hd
     exact (h1.2.trans ((HP1.o h1.1).mono h1.2.size)).setCell (by rw [HG.o];exact Nat.le_refl _) _
    ·have hne:G+1≠b:=by have:=HBW.o;have:=HG.o;omega
     exact (hth.o.block (HB1.o.block (G+1) (hth.o.lt (by simp)) hne)).setCell (by show G≠G+1;omega) _
    ·rw [World.cell?_setCell_other _ _ _ _ (by intro e;injection e with _ e3;omega)]
     exact hno1
    ·have hne:G+1≠b:=by have:=HBW.o;have:=HG.o;omega
     rw [World.cell?_setCell_other _ _ _ _ (by intro e;injection e with e3 _;omega),HB1.o.cell (p:=⟨G+1,4,none⟩) (hth.o.lt (by simp)) hne];exact hnp.o
   case measure=>simp [intOf];omega
  ·obtain rfl:k=4:=by omega
   have hal:=ha.o;rw [show BfY subB L 4=[subB a0,subB a1,subB a2,subB a3] by rw [HL.o];rfl] at hal;obtain ⟨c0,c1,c2,c3⟩:=hal.four0;obtain ⟨u0,u1,u2,u3⟩:=hth.o.four0;obtain ⟨s0,s1,s2,s3⟩:=hth.o.fours0 rfl;clear hal;go_wp2_with fail;have hfin:=hth.o.whole [subB a0,subB a1,subB a2,subB a3] rfl;have hne:G≠b:=by have:=HBW.o;have:=HG.o;omega
   have hne1:G+1≠b:=by have:=HBW.o;have:=HG.o;omega
   refine bodyPost_ret (v:=R) (by rw [HR.o];exact AoQ rfl _ _ (G+1) 4 _ [subB a0,subB a1,subB a2,subB a3] rfl hfin BaQ ApV) rfl ⟨rfl,?_,?_,?_⟩
   ·exact (((hbut.o.setCell (p:=⟨G+1,0,none⟩) (.inr (by rw [HG.o];exact Nat.le_succ _)) _).setCell (p:=⟨G+1,1,none⟩) (.inr (by rw [HG.o];exact Nat.le_succ _)) _).setCell (p:=⟨G+1,2,none⟩) (.inr (by rw [HG.o];exact Nat.le_succ _)) _).setCell (p:=⟨G+1,3,none⟩) (.inr (by rw [HG.o];exact Nat.le_succ _)) _
   ·have h:=htb.o
    rw [hk0.o (by omega)] at h;exact h.apart HT.o hnp.o hne1 (fun q hq=>AcK (G+1) q hq (bvs [subB a0,subB a1,subB a2,subB a3]) 0 wr)
   ·intro hd
    have h:=(hbl.o hd).2;exact AaQ h (b:=G+1) (by rw [HG.o];exact Nat.le_succ _) 0 (bvs [subB a0,subB a1,subB a2,subB a3])
open Go.RowKit
