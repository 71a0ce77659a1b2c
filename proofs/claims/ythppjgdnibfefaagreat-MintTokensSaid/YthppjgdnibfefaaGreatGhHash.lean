import Derived.Test.YthppjgdnibfefaaGreatGhE
import Derived.Deep.RegionHeld3
import Derived.Laws.StructEq
import Derived.Test.YthppjgdnibfefaaGreatClone
import Derived.Deep.RegionWith
import Derived.WalkKit
import Derived.Lib.Hide
import Derived.Laws.Tables
set_option linter.all false
set_option maxRecDepth 100000
set_option maxHeartbeats 32000000
namespace Go.Proofs.YthppjgdnibfefaaGreat
open Tryz
open Go.RowKit
theorem eq_ev (a b c d:Int) (w:World):(binOp .eql 247 (.agg #[.int .u64 a,.int .u64 b]) (.agg #[.int .u64 c,.int .u64 d])).run prog w=.ok (.bool (decide (a=c∧b=d))) w:=by
 go_simp
 by_cases h1:a=c <;> by_cases h2:b=d <;> simp [h1,h2]
theorem nq_ev (a b c d:Int) (w:World):(binOp .neq 247 (.agg #[.int .u64 a,.int .u64 b]) (.agg #[.int .u64 c,.int .u64 d])).run prog w=.ok (.bool (!decide (a=c∧b=d))) w:=by
 go_simp
 by_cases h1:a=c <;> by_cases h2:b=d <;> simp [h1,h2]
theorem DrQ (x y:Nat):(((x / 2 ^ 64:Nat):Int)=((y / 2 ^ 64:Nat):Int)∧((x % 2 ^ 64:Nat):Int)=((y % 2 ^ 64:Nat):Int)) ↔ x=y:=by omega
theorem eqp (x y:Nat) (w:World):(binOp .eql 247 (PE x) (PE y)).run prog w=.ok (.bool (decide (x=y))) w:=by
 unfold PE EV;rw [eq_ev];simp only [DrQ]
theorem nqp (x y:Nat) (w:World):(binOp .neq 247 (PE x) (PE y)).run prog w=.ok (.bool (!decide (x=y))) w:=by
 unfold PE EV;rw [nq_ev];simp only [DrQ]
theorem pe_0:PE 0=.agg #[.int .u64 0,.int .u64 0]:=rfl
theorem eqp_zero (x:Nat) (w:World):(binOp .eql 247 (PE x) (.agg #[.int .u64 0,.int .u64 0])).run prog w=.ok (.bool (decide (x=0))) w:=by rw [←pe_0];exact eqp x 0 w
theorem eg_pp (op:BinOp) (x y:Operand) (a b:Nat) (w:World):(eqGuard op 247 x y (PE a) (PE b)).run prog w=.ok () w:=run_eqGuard_agg w op _ x y _ _ (by kernel_rfl)
theorem eg_pa (op:BinOp) (x y:Operand) (a:Nat) (cs:Array Value) (w:World):(eqGuard op 247 x y (PE a) (.agg cs)).run prog w=.ok () w:=run_eqGuard_agg w op _ x y _ _ (by kernel_rfl)
@[go_sem]
theorem eg_bb (op:BinOp) (x y:Operand) (a b:List Bool) (w:World):(eqGuard op 211 x y (BV a) (BV b)).run prog w=.ok () w:=run_eqGuard_agg w op _ x y _ _ (by kernel_rfl)
theorem two_pe (w:World) (p q:Nat):(Instr.buildSlice 270 2 #[(0,PE p),(1,PE q)]).run prog w=.ok (.slice (some ⟨w.heap.size,0,none⟩) 2 2) (w.alloc (.cells (es (p / 2 ^ 64) (p % 2 ^ 64)++es (q / 2 ^ 64) (q % 2 ^ 64)).toArray 247)):=run_two w _ _ _ _
noncomputable def ldP (v:Value) (w:World):Result Next:=Sem.run prog (do let r ←Instr.loadAt 247 v;pure (Next.value r)) w
theorem ex_ldP (ev:Operand→Value) (x:Operand) (d:Option Tmp) (ty:TypeId) (ps:String) (af:Array Edge) (g:Option (Nat×Bool)) (w:World):(execOp ev ⟨d,.load 247 x,ty,ps,af,g⟩).run prog w=ldP (ev x) w:=rfl
theorem BjY {w:World} {g x:Nat} (h:Xw w g x):ldP (.pointer (some ⟨g,0,none⟩)) w=.ok (.value (PE x)) w:=by
 obtain ⟨d,hu,hd⟩:=AvZ
 have:=run_loadAt_mid (P:=prog) w g 0 247 (es (x / 2 ^ 64) (x % 2 ^ 64)) d h.1 hu hd AuQ
 unfold ldP
 simp only [Sem.run_bind,this,Result.andThen_ok,Sem.run_pure]
 rfl
noncomputable def bsP (u v:Value) (w:World):Result Next:=Sem.run prog (do let r ←Instr.buildSlice 270 2 #[(0,u),(1,v)];pure (Next.value r)) w
theorem ex_bsP (ev:Operand→Value) (x y:Operand) (d:Option Tmp) (ty:TypeId) (ps:String) (af:Array Edge) (g:Option (Nat×Bool)) (w:World):(execOp ev ⟨d,.buildSlice 270 2 #[(0,x),(1,y)],ty,ps,af,g⟩).run prog w=bsP (ev x) (ev y) w:=by
 unfold bsP execOp
 simp only [List.map_toArray,List.map_cons,List.map_nil]
theorem bsP_pe (p q:Nat) (w:World):bsP (PE p) (PE q) w=.ok (.value (.slice (some ⟨w.heap.size,0,none⟩) 2 2)) (w.alloc (.cells (es (p / 2 ^ 64) (p % 2 ^ 64)++es (q / 2 ^ 64) (q % 2 ^ 64)).toArray 247)):=by
 unfold bsP
 simp only [Sem.run_bind,two_pe,Result.andThen_ok,Sem.run_pure]
theorem ldP_m {w:World} {g o x:Nat} (h:w.rangeAt g o (es (x / 2 ^ 64) (x % 2 ^ 64))):ldP (.pointer (some ⟨g,o,none⟩)) w=.ok (.value (PE x)) w:=by
 obtain ⟨d,hu,hd⟩:=AvZ
 have:=run_loadAt_mid (P:=prog) w g o 247 (es (x / 2 ^ 64) (x % 2 ^ 64)) d h hu hd AuQ
 unfold ldP
 simp only [Sem.run_bind,this,Result.andThen_ok,Sem.run_pure]
 rfl
theorem CgZ {w:World} {ops:Array Oper} {rest:List Oper} {o:Oper} {a:Act} {Q:Exit→Act→World→Prop} (hgd:o.guard=none) (x:Operand) (hop:o.op=.load 247 x) (g p:Nat) (hx:a.eval x=.pointer (some ⟨g,p,none⟩)) (n:Nat) (hc:w.rangeAt g p (es (n / 2 ^ 64) (n % 2 ^ 64)))
  (hk:wpList prog ops Q rest (a.put o.dst (PE n)) w):wpList prog ops Q (o::rest) a w:=by
 obtain ⟨d,hu,hd⟩:=AvZ
 exact wpList_load_mid hgd _ x hop g p hx (es (n / 2 ^ 64) (n % 2 ^ 64)) d hc hu hd AuQ hk
noncomputable def stP (v x:Value) (w:World):Result Next:=Sem.run prog (do Instr.storeAt 247 v x;pure Next.skip) w
theorem ex_stP (ev:Operand→Value) (x y:Operand) (d:Option Tmp) (ty:TypeId) (ps:String) (af:Array Edge) (g:Option (Nat×Bool)) (w:World):(execOp ev ⟨d,.store 247 x y,ty,ps,af,g⟩).run prog w=stP (ev x) (ev y) w:=rfl
theorem ElK {w:World} {g o:Nat} (x:Nat) (h:w.there g o 2):stP (.pointer (some ⟨g,o,none⟩)) (PE x) w=.ok .skip (w.setCells g o (es (x / 2 ^ 64) (x % 2 ^ 64))):=by
 have:=run_storeAt_mid (P:=prog) w g o 247 (es (x / 2 ^ 64) (x % 2 ^ 64)).toArray h AuQ (EyW _ _)
 unfold stP PE EV
 have e:Value.agg (es (x / 2 ^ 64) (x % 2 ^ 64)).toArray=.agg #[.int .u64 ((x / 2 ^ 64:Nat):Int),.int .u64 ((x % 2 ^ 64:Nat):Int)]:=rfl
 simp only [Sem.run_bind]
 rw [←e,this]
 rfl
def C3 (w:World) (g1 g2 g3 a b c:Nat) (W:World):Prop:=Xw W g1 a∧Xw W g2 b∧Xw W g3 c∧Below w.heap.size w W
theorem Xw.keep {W W1:World} {g x:Nat} (h:Xw W g x) (hb:Below W.heap.size W W1):Xw W1 g x:=Ew.below h hb (Ew.lt h)
theorem EkY (x y:Nat) (w:World) (hx:x<2 ^ 128) (hy:y<2 ^ 128) :
  Calls prog 207 #[.slice (some ⟨w.heap.size,0,none⟩) 2 2] (w.alloc (.cells (es (x / 2 ^ 64) (x % 2 ^ 64)++es (y / 2 ^ 64) (y % 2 ^ 64)).toArray 247)) fun e w'=>e=.returned (PE (x ^^^ y))∧Below w.heap.size w w':=by
 have h1:=EcK x hx
 have h2:=EcK y hy
 have h:=sum_two _ _ _ _ h1.1 h1.2 h2.1 h2.2 w
 have e:PE (x ^^^ y)=EV (x / 2 ^ 64 ^^^ y / 2 ^ 64) (x % 2 ^ 64 ^^^ y % 2 ^ 64):=by
  rw [←EqY _ _ (Nat.xor_lt_two_pow h1.2 h2.2),←DuK _ _ _ _ h1.2 h2.2,BmZ,BmZ]
 rw [e];exact h
theorem EkX (x y:Nat) (w:World) (hx:x<2 ^ 128) (hy:y<2 ^ 128) :
  Calls prog 207 #[.slice (some ⟨w.heap.size,0,none⟩) 2 2] (w.alloc (.cells (es (x / 2 ^ 64) (x % 2 ^ 64)++es (y / 2 ^ 64) (y % 2 ^ 64)).toArray 247)).drew fun e w'=>e=.returned (PE (x ^^^ y))∧Below w.heap.size w w':=by
 refine (EkY x y w.drew hx hy).mono ?_
 rintro e w' ⟨rfl,hb⟩
 exact ⟨rfl,(Below.refl w.heap.size w).drew.trans hb⟩
attribute [go_sem ↓] ex_ldP ex_stP ex_bsP
attribute [go_sem] bsP_pe eg_pp eg_pa eqp nqp eqp_zero
open Go.RowKit
def u64v (n:Nat):Value:=.int .u64 (n:Int)
def TabOf (f:Nat→Value) (T:Nat→Nat→Nat):Prop:=∀ k v,k<32→v<16→f (6+k*32+v*2)=u64v (T k v / 2 ^ 64)∧f (6+k*32+v*2+1)=u64v (T k v % 2 ^ 64)
def updT (T:Nat→Nat→Nat) (k v x:Nat):Nat→Nat→Nat:=fun k' v'=>if k'=k∧v'=v then x else T k' v'
def updE (f:Nat→Value) (k v x:Nat):Nat→Value:=upd (upd f (6+k*32+v*2) (u64v (x / 2 ^ 64))) (6+k*32+v*2+1) (u64v (x % 2 ^ 64))
theorem CtK (T:Nat→Nat→Nat) (k v x:Nat):updT T k v x k v=x:=if_pos ⟨rfl,rfl⟩
theorem BfY (T:Nat→Nat→Nat) (k v x k' v':Nat) (h:k'≠k∨v'≠v):updT T k v x k' v'=T k' v':=if_neg (by rintro ⟨rfl,rfl⟩;simp at h)
theorem updE_low (f:Nat→Value) (k v x j:Nat) (hj:j<6):updE f k v x j=f j:=by
 unfold updE
 rw [AaW _ _ _ _ (by omega),AaW _ _ _ _ (by omega)]
theorem TabOf.set {f:Nat→Value} {T:Nat→Nat→Nat} (h:TabOf f T) (k v x:Nat) (hk:k<32) (hv:v<16):TabOf (updE f k v x) (updT T k v x):=by
 intro k' v' hk' hv'
 unfold updE
 by_cases e:k'=k∧v'=v
 ·obtain ⟨rfl,rfl⟩:=e
  rw [CtK,AjW,AaW _ _ _ _ (by omega),AjW];exact ⟨rfl,rfl⟩
 ·rw [BfY _ _ _ _ _ _ (by omega),AaW _ _ _ _ (by omega),AaW _ _ _ _ (by omega),AaW _ _ _ _ (by omega),AaW _ _ _ _ (by omega)]
  exact h k' v' hk' hv'
theorem TabOf.congr {f f':Nat→Value} {T:Nat→Nat→Nat} (h:TabOf f T) (e:∀ j,6≤j→f' j=f j):TabOf f' T:=fun k v hk hv=>by
 rw [e _ (by omega),e _ (by omega)];exact h k v hk hv
theorem TabOf.to {f:Nat→Value} {T T':Nat→Nat→Nat} (h:TabOf f T) (e:∀ k v,k<32→v<16→T k v=T' k v):TabOf f T':=fun k v hk hv=>by
 rw [←e k v hk hv];exact h k v hk hv
section
variable {w w':World} {b k v:Nat} {f:Nat→Value} {T:Nat→Nat→Nat}
theorem CuX (hc:Cells w b 1030 f) (ht:TabOf f T) (hk:k<32) (hv:v<16):w.rangeAt b (6+k*32+v*2) (es (T k v / 2 ^ 64) (T k v % 2 ^ 64)):=by
 obtain ⟨h1,h2⟩:=ht k v hk hv
 intro j u hu
 match j,hu with
 | 0,hu=>injection hu with hu;rw [←hu,Nat.add_zero,hc.cell (show 6+k*32+v*2<1030 by omega),h1];rfl
 | 1,hu=>injection hu with hu;rw [←hu,hc.cell (show 6+k*32+v*2+1<1030 by omega),h2];rfl
 | j+2,hu=>simp [es] at hu
theorem EjY (hc:Cells w b 1030 f) (hk:k<32) (hv:v<16):w.there b (6+k*32+v*2) 2:=by
 intro j hj
 rw [hc.cell (show 6+k*32+v*2+j<1030 by omega)]
 exact ⟨rfl,hc.free (by omega)⟩
theorem EjZ (hc:Cells w b 1030 f) (x:Nat) (hk:k<32) (hv:v<16):Cells (w.setCells b (6+k*32+v*2) (es (x / 2 ^ 64) (x % 2 ^ 64))) b 1030 (updE f k v x) :=
 (hc.set (show 6+k*32+v*2<1030 by omega) _).set (show 6+k*32+v*2+1<1030 by omega) _
theorem EvJ (h:Nat) (hc:Cells w b 1030 f) (h0:f 0=u64v (h / 2 ^ 64)) (h1:f 1=u64v (h % 2 ^ 64)):w.rangeAt b 0 (es (h / 2 ^ 64) (h % 2 ^ 64)):=by
 intro j u hu
 match j,hu with
 | 0,hu=>injection hu with hu;rw [←hu,hc.cell (show 0+0<1030 by omega),h0];rfl
 | 1,hu=>injection hu with hu;rw [←hu,hc.cell (show 0+1<1030 by omega),h1];rfl
 | j+2,hu=>simp [es] at hu
theorem But.setCells2 {w1:World} (h:But b w w1) {g:Nat} (hg:g=b∨w.heap.size≤g) (o x y:Nat):But b w (w1.setCells g o (es x y)):=(h.setCell (p:=⟨g,o,none⟩) hg _).setCell (p:=⟨g,o+1,none⟩) hg _
theorem Xw.but {g x:Nat} (h:Xw w g x) (hb:But b w w') (hg:g≠b):Xw w' g x:=Ew.block h (hb.block g (Ew.lt h) hg)
end
def Ho (w:World) (b h:Nat) (d:Bool):Prop :=
 h<2 ^ 128∧∃ f,Cells w b 1030 f∧f 0=u64v (h / 2 ^ 64)∧f 1=u64v (h % 2 ^ 64)∧f 2=.int .u32 (if d then 1 else 0)∧f 3=.int .i32 0∧f 5=.int .i64 (if d then 1 else 0)∧TabOf f (if d then gTab h else fun _ _=>0)
section
variable {w w':World} {b h B:Nat} {d:Bool}
theorem Ho.lt (o:Ho w b h d):b<w.heap.size:=by obtain ⟨_,f,hc,_⟩:=o;exact hc.lt (by omega)
theorem Ho.below (o:Ho w b h d) (hb:Below B w w') (hg:b<B):Ho w' b h d:=by
 obtain ⟨h0,f,hc,hr⟩:=o
 exact ⟨h0,f,hc.below hb hg,hr⟩
theorem Ho.keep (o:Ho w b h d) (hb:Below w.heap.size w w'):Ho w' b h d:=o.below hb o.lt
theorem Ho.alloc (o:Ho w b h d) (ob:Obj):Ho (w.alloc ob) b h d:=o.keep (AaK _ _)
theorem Ho.drew (o:Ho w b h d):Ho w.drew b h d:=o.keep (Below.refl _ _).drew
theorem Ho.setCells2 (o:Ho w b h d) {g:Nat} (hg:g≠b) (p x y:Nat):Ho (w.setCells g p (es x y)) b h d:=by
 obtain ⟨h0,f,hc,hr⟩:=o
 exact ⟨h0,f,(hc.other (a:=⟨g,p,none⟩) hg _).other (a:=⟨g,p+1,none⟩) hg _,hr⟩
end
def UseG (v:Value) (b h:Nat) (d:Bool) (w:World) (e:Ending) (w':World):Prop:=e=.returned v∧But b w w'∧Ho w' b h d
open Go.RowKit
def Done (h:Nat) (T:Nat→Nat→Nat) (k:Nat) (P:Nat→Prop):Prop :=
 (∀ k' v,k'<k→v<16→T k' v=gTab h k' v)∧(∀ k' v,k<k'→k'<32→v<16→T k' v=0)∧(∀ v,v<16→P v→T k v=gTab h k v)
theorem Done.set {h:Nat} {T:Nat→Nat→Nat} {k:Nat} {P:Nat→Prop} (d:Done h T k P) (v x:Nat) (hx:x=gTab h k v):Done h (updT T k v x) k (fun u=>P u∨u=v):=by
 refine ⟨fun k' v' h1 h2=>?_,fun k' v' h1 h2 h3=>?_,fun u h1 h2=>?_⟩
 ·rw [BfY _ _ _ _ _ _ (by omega)];exact d.1 k' v' h1 h2
 ·rw [BfY _ _ _ _ _ _ (by omega)];exact d.2.1 k' v' h1 h2 h3
 ·by_cases e:u=v
  ·subst e;rw [CtK,hx]
  ·rw [BfY _ _ _ _ _ _ (.inr e)]
   rcases h2 with h2 | h2
   ·exact d.2.2 u h1 h2
   ·exact absurd h2 e
theorem Done.mono {h:Nat} {T:Nat→Nat→Nat} {k:Nat} {P Q:Nat→Prop} (d:Done h T k P) (hq:∀ v,v<16→Q v→P v):Done h T k Q:=⟨d.1,d.2.1,fun v h1 h2=>d.2.2 v h1 (hq v h1 h2)⟩
theorem Done.next {h:Nat} {T:Nat→Nat→Nat} {k:Nat} (d:Done h T k (fun _=>True)) (hk:k+1≤32):Done h T (k+1) (fun v=>v=0∧k+1<32):=by
 refine ⟨fun k' v' h1 h2=>?_,fun k' v' h1 h2 h3=>d.2.1 k' v' (by omega) h2 h3,fun v h1 h2=>?_⟩
 ·by_cases e:k'=k
  ·subst e;exact d.2.2 v' h2 trivial
  ·exact d.1 k' v' (by omega) h2
 ·obtain ⟨rfl,h2⟩:=h2
  rw [d.2.1 (k+1) 0 (by omega) h2 h1,DcJ]
theorem Done.zero (h:Nat):Done h (fun _ _=>0) 0 (fun v=>v=0∧0<32) :=
 ⟨fun k' v' h1 _=>by omega,fun _ _ _ _ _=>rfl,fun v _ hv=>by obtain ⟨rfl,_⟩:=hv;exact (DcJ h 0).symm⟩
def pw2 (s:Nat):Nat:=2 ^ (3 - s)
def Pz (s:Nat) (v:Nat):Prop:=v=0∨∃ q,q<s∧v=pw2 q
def Pj (j:Nat) (v:Nat):Prop:=v=0∨v<j∨v=1∨v=2∨v=4∨v=8
def cnt (s:Nat):Nat:=8 / 2 ^ s
theorem cnt_pw (s:Nat) (hs:s<4):cnt s=pw2 s∧pw2 s<16∧0<cnt s∧cnt s / 2=cnt (s+1):=by
 rcases (show s=0∨s=1∨s=2∨s=3 by omega) with rfl | rfl | rfl | rfl <;> decide
theorem pz_pj (v:Nat) (h:Pj 0 v):Pz 4 v:=by
 rcases h with h | h | h | h | h | h
 ·exact .inl h
 ·omega
 ·exact .inr ⟨3,by omega,h⟩
 ·exact .inr ⟨2,by omega,h⟩
 ·exact .inr ⟨1,by omega,h⟩
 ·exact .inr ⟨0,by omega,h⟩
theorem row_bit (h k s:Nat) (hh:h<2 ^ 128) (hk:k<32) (hs:s<4):gTab h k (pw2 s)=AgX h (4*k+s):=gTab_bit h k s hh hk hs
theorem low_bits (j:Nat) (hj:j<16):∃ L X:Nat,bits .and .i64 (j:Int) (-(j:Int))=(L:Int)∧bits .xor .i64 (j:Int) (L:Int)=(X:Int)∧L<16∧X<16∧L ^^^ X=j∧Pj j L∧Pj j X:=by
 unfold Pj
 rcases (show j=0∨j=1∨j=2∨j=3∨j=4∨j=5∨j=6∨j=7∨j=8∨j=9∨j=10∨j=11∨j=12∨j=13∨j=14∨j=15 by omega) with rfl | rfl | rfl | rfl | rfl | rfl | rfl | rfl | rfl | rfl | rfl | rfl | rfl | rfl | rfl | rfl
 ·exact ⟨0,0,by kernel_rfl,by kernel_rfl,by decide⟩
 ·exact ⟨1,0,by kernel_rfl,by kernel_rfl,by decide⟩
 ·exact ⟨2,0,by kernel_rfl,by kernel_rfl,by decide⟩
 ·exact ⟨1,2,by kernel_rfl,by kernel_rfl,by decide⟩
 ·exact ⟨4,0,by kernel_rfl,by kernel_rfl,by decide⟩
 ·exact ⟨1,4,by kernel_rfl,by kernel_rfl,by decide⟩
 ·exact ⟨2,4,by kernel_rfl,by kernel_rfl,by decide⟩
 ·exact ⟨1,6,by kernel_rfl,by kernel_rfl,by decide⟩
 ·exact ⟨8,0,by kernel_rfl,by kernel_rfl,by decide⟩
 ·exact ⟨1,8,by kernel_rfl,by kernel_rfl,by decide⟩
 ·exact ⟨2,8,by kernel_rfl,by kernel_rfl,by decide⟩
 ·exact ⟨1,10,by kernel_rfl,by kernel_rfl,by decide⟩
 ·exact ⟨4,8,by kernel_rfl,by kernel_rfl,by decide⟩
 ·exact ⟨1,12,by kernel_rfl,by kernel_rfl,by decide⟩
 ·exact ⟨2,12,by kernel_rfl,by kernel_rfl,by decide⟩
 ·exact ⟨1,14,by kernel_rfl,by kernel_rfl,by decide⟩
def FcJ (R:World→Prop) (e:Ending) (w':World):Prop:=e=.returned (.tuple #[])∧R w'
def FcV (w:World) (b h:Nat) (f:Nat→Value) (w':World):Prop :=
 But b w w'∧∃ f',Cells w' b 1030 f'∧TabOf f' (gTab h)∧f' 0=f 0∧f' 1=f 1∧f' 2=f 2∧f' 3=f 3∧f' 5=.int .i64 1
def St (w wr:World) (b h G k p:Nat) (f:Nat→Value) (P:Nat→Prop):Prop :=
 ∃ f1 T,Cells wr b 1030 f1∧TabOf f1 T∧Done h T k P∧(∀ j,j<6→f1 j=f j)∧Xw wr G p∧But b w wr
theorem St.mono {w wr:World} {b h G k p:Nat} {f:Nat→Value} {P Q:Nat→Prop} (s:St w wr b h G k p f P) (hq:∀ v,v<16→Q v→P v):St w wr b h G k p f Q:=by
 obtain ⟨f1,T,a,b,c,d⟩:=s
 exact ⟨f1,T,a,b,c.mono hq,d⟩
theorem St.next {w wr:World} {b h G k p:Nat} {f:Nat→Value} (s:St w wr b h G k p f (fun _=>True)) (hk:k+1≤32):St w wr b h G (k+1) p f (fun v=>v=0∧k+1<32):=by
 obtain ⟨f1,T,a,b,c,d⟩:=s
 exact ⟨f1,T,a,b,c.next hk,d⟩
theorem St.keep {w wr w':World} {b h G k p:Nat} {f:Nat→Value} {P:Nat→Prop} (s:St w wr b h G k p f P) (hb:Below wr.heap.size wr w'):St w w' b h G k p f P:=by
 obtain ⟨f1,T,c,t,d,e,x,u⟩:=s
 exact ⟨f1,T,c.below hb (c.lt (by omega)),t,d,e,x.keep hb,u.trans (But.of_below hb)⟩
theorem St.store {w wr:World} {b h G k p:Nat} {f:Nat→Value} {P:Nat→Prop} (s:St w wr b h G k p f P) (hG:G≠b) (v x:Nat) (hk:k<32) (hv:v<16) (hx:x=gTab h k v):St w (wr.setCells b (6+k*32+v*2) (es (x / 2 ^ 64) (x % 2 ^ 64))) b h G k p f (fun u=>P u∨u=v):=by
 obtain ⟨f1,T,c,t,d,e,y,u⟩:=s
 exact ⟨_,_,EjZ c x hk hv,t.set k v x hk hv,d.set v x hx,fun j hj=>(updE_low _ _ _ _ _ hj).trans (e j hj),y.setCells (Ne.symm hG) _ _,u.setCells2 (.inl rfl) _ _ _⟩
theorem St.step {w wr:World} {b h G k p:Nat} {f:Nat→Value} {P:Nat→Prop} (s:St w wr b h G k p f P) (hG:G≠b) (hw:w.heap.size≤G) (q:Nat):St w (wr.setCells G 0 (es (q / 2 ^ 64) (q % 2 ^ 64))) b h G k q f P:=by
 obtain ⟨f1,T,c,t,d,e,y,u⟩:=s
 exact ⟨f1,T,(c.other (a:=⟨G,0,none⟩) hG _).other (a:=⟨G,0+1,none⟩) hG _,t,d,e,Ew.whole y _ _,u.setCells2 (.inr hw) _ _ _⟩
theorem St.ld {w wr:World} {b h G k p:Nat} {f:Nat→Value} {P:Nat→Prop} (s:St w wr b h G k p f P) (hk:k<32) (v:Nat) (hv:v<16) (hp:P v):ldP (.pointer (some ⟨b,6+k*32+v*2,none⟩)) wr=.ok (.value (PE (gTab h k v))) wr:=by
 obtain ⟨f1,T,c,t,d,e,y,u⟩:=s
 rw [←d.2.2 v hv hp]
 exact ldP_m (CuX c t hk hv)
theorem St.there {w wr:World} {b h G k p:Nat} {f:Nat→Value} {P:Nat→Prop} (s:St w wr b h G k p f P) (hk:k<32) (v:Nat) (hv:v<16):wr.there b (6+k*32+v*2) 2:=by
 obtain ⟨f1,T,c,t,d,e,y,u⟩:=s
 exact EjY c hk hv
theorem St.xw {w wr:World} {b h G k p:Nat} {f:Nat→Value} {P:Nat→Prop} (s:St w wr b h G k p f P):Xw wr G p:=by
 obtain ⟨f1,T,c,t,d,e,y,u⟩:=s
 exact y
attribute [local irreducible] PE gTab AgX AqV pw2 cnt Pz Pj St
theorem DdZ (b h:Nat) (f:Nat→Value) (w:World) (hh:h<2 ^ 128) (hc:Cells w b 1030 f) (h0:f 0=u64v (h / 2 ^ 64)) (h1:f 1=u64v (h % 2 ^ 64)) (hm:f 5=.int .i64 0) (ht:TabOf f (fun _ _=>0)) :
  Calls prog 217 #[.pointer (some ⟨b,0,none⟩)] w (FcJ (FcV w b h f)):=by
 have HH:=η hh
 have HM:=η hm
 obtain ⟨G,HG⟩:∃ G,Hid (G=w.heap.size):=⟨_,η rfl⟩
 have hbG:b<G:=by rw [HG.o];exact hc.lt (by omega)
 have hwG:w.heap.size≤G:=by rw [HG.o];exact Nat.le_refl _
 obtain ⟨W0,HW0⟩:∃ W0,Hid (W0=(w.alloc (.cells (es 0 0).toArray 247)).setCells w.heap.size 0 (es (h / 2 ^ 64) (h % 2 ^ 64))):=⟨_,η rfl⟩
 have HS0:Hid (St w W0 b h G 0 (AgX h (4*0)) f (fun v=>v=0∧0<32)):=η (by
  have hb:b≠w.heap.size:=by rw [←HG.o];omega
  rw [HW0.o,HG.o,show AgX h (4*0)=h by unfold AgX;rfl]
  unfold St
  exact ⟨f,_,((hc.alloc (by omega) _).other (a:=⟨w.heap.size,0,none⟩) (Ne.symm hb) _).other (a:=⟨w.heap.size,0+1,none⟩) (Ne.symm hb) _,ht,Done.zero h,fun _ _=>rfl,Ew.whole (Ew.new w 0 0 _ rfl) _ _,((But.refl b w).alloc _).setCells2 (.inr (Nat.le_refl _)) _ _ _⟩)
 have HK0:=η (EvJ h hc h0 h1)
 clear hc h0 h1 hm ht hh
 go_enter func217,ntmps217
 go_wp2_with (first | (refine CgZ rfl (.tmp 10) rfl b 0 rfl h (by exact HK0.o) ?_) | (refine AnW rfl (.tmp 2) (.tmp 11) rfl w.heap.size rfl h 0 rfl (by exact Ew.new w 0 0 _ rfl) ?_;show wpList _ _ _ _ _ ((w.alloc (.cells (es 0 0).toArray 247)).setCells w.heap.size 0 (es (h / 2 ^ 64) (h % 2 ^ 64)));rw [←HW0.o,←HG.o];clear HW0 HK0))
 go_loopw [12] (fun t wr=>∃ k:Nat,k≤32∧t=.int .i64 k∧Hid (St w wr b h G k (AgX h (4*k)) f (fun v=>v=0∧k<32))) (fun t _=>32 - (intOf t).toNat)
 case atStart=>exact ⟨0,by omega,rfl,HS0⟩
 case round =>
  obtain ⟨k,hk,rfl,hs⟩:=hrel;clear HS0;by_cases hlt:k<32
  ·have hkd:decide ((k:Int)<32)=true:=decide_eq_true (by omega)
   go_wp2;obtain ⟨wo,ewo⟩:∃ wo:World,wo=wr:=⟨_,rfl⟩;subst ewo
   go_loopw [5] (fun t wr=>∃ s:Nat,s≤4∧t=.int .i64 (cnt s:Nat)∧Hid (St w wr b h G k (AgX h (4*k+s)) f (Pz s))) (fun t _=>(intOf t).toNat)
   case atStart=>exact ⟨0,by omega,by unfold cnt;rfl,η (hs.o.mono (fun v _ hv=>by
    unfold Pz at hv
    rcases hv with hv | ⟨q,hq,_⟩
    ·exact ⟨hv,hlt⟩
    ·omega))⟩
   case round =>
    obtain ⟨s,hs4,rfl,hs2⟩:=hrel;clear hs;by_cases hlt2:s<4
    ·obtain ⟨k1,k2,k3,k4⟩:=cnt_pw s hlt2
     obtain ⟨p,HP⟩:∃ p,Hid (p=AgX h (4*k+s)∧p<2 ^ 128):=⟨_,η ⟨rfl,BxJ h HH.o _⟩⟩;obtain ⟨p',HP'⟩:∃ p',Hid (p'=AqV p):=⟨_,η rfl⟩;have HNX:Hid (∀ v,Calls prog 225 #[PE p] v (RetP p' v)):=η (fun v=>by rw [HP'.o];exact next_pe p v HP.o.2);have HPT:Hid (p=gTab h k (cnt s)):=η (by rw [k1,row_bit h k s HH.o hlt hlt2];exact HP.o.1);have HPS:Hid (p'=AgX h (4*k+(s+1))):=η (by rw [HP'.o,HP.o.1];exact (EeK h _).symm)
     have HPZ:Hid (∀ v,v<16→Pz (s+1) v→Pz s v∨v=cnt s):=η (fun v _ hv=>by
      unfold Pz at hv ⊢
      rcases hv with hv | ⟨q,hq,hv⟩
      ·exact .inl (.inl hv)
      ·by_cases e:q=s
       ·subst e;exact .inr (hv.trans k1.symm)
       ·exact .inl (.inr ⟨q,by omega,hv⟩))
     rw [←HP.o.1] at hs2;obtain ⟨c,HC⟩:∃ c,Hid (c=cnt s∧c / 2=cnt (s+1)):=⟨_,η ⟨rfl,k4⟩⟩;have hc16:c<16:=by rw [HC.o.1,k1];exact k2
     rw [←HC.o.1] at HPT HPZ k3 ⊢;clear k1 k2 k4;have hs3:=η (hs2.o.keep (Below.refl _ _).drew);have q1:=BjY hs3.o.xw;have q2:=ElK p (hs3.o.there hlt c hc16);have hs5:=η (hs3.o.store (by omega) c p hlt hc16 HPT.o);obtain ⟨w5,HW5⟩:∃ w5,Hid (w5=wr.drew.setCells b (6+k*32+c*2) (es (p / 2 ^ 64) (p % 2 ^ 64))):=⟨_,η rfl⟩;rw [←HW5.o] at hs5 q2;have hgt:decide ((c:Int)>0)=true:=decide_eq_true (by omega);have hdv:(c:Int).tdiv 2=((c / 2:Nat):Int):=by rw [Int.tdiv_eq_ediv_of_nonneg (by omega)];omega
     go_wp2_with fail;go_region
     all_goals (go_wp2_with (first | (refine AtQ rfl (.tmp 2) rfl G rfl p (by exact hs5.o.xw) ?_) | (go_at_call 225;refine (HNX.o _).mono ?_;rintro e w6 ⟨rfl,hb6⟩;have hs6:=η (hs5.o.keep hb6);clear hb6) | (refine AnW rfl (.tmp 2) (.tmp 30) rfl G rfl p' p rfl (by exact hs6.o.xw) ?_)))
     go_roundw
     case rel=>exact ⟨s+1,by omega,by rw [←HC.o.2,Int.natCast_ediv];rfl,η (by rw [←HPS.o];exact (hs6.o.step (by omega) hwG p').mono HPZ.o)⟩
     case measure=>simp [intOf];omega
    ·obtain rfl:s=4:=by omega
     have hc4:cnt 4=0:=by unfold cnt;rfl
     rw [hc4,show ((0:Nat):Int)=0 from rfl];have hs3:Hid (St w wr b h G k (AgX h (4*(k+1))) f (Pj 0)):=η (by rw [show 4*(k+1)=4*k+4 by omega];exact hs2.o.mono (fun v _ hv=>pz_pj v hv));obtain ⟨p,HP⟩:∃ p,Hid (p=AgX h (4*(k+1))):=⟨_,η rfl⟩;rw [←HP.o] at hs3;clear hs2 hc4 hlt2;go_wp2;obtain ⟨wo2,ewo2⟩:∃ wo2:World,wo2=wr:=⟨_,rfl⟩;subst ewo2
     go_loopw [31] (fun t wr=>∃ j:Nat,j≤16∧t=.int .i64 j∧Hid (St w wr b h G k p f (Pj j))) (fun t _=>16 - (intOf t).toNat)
     case atStart=>exact ⟨0,by omega,rfl,hs3⟩
     case round =>
      obtain ⟨j,hj,rfl,hs4⟩:=hrel;clear hs3;by_cases hlt3:j<16
      ·obtain ⟨L,X,l1,l2,l3,l4,l5,l6,l7⟩:=low_bits j hlt3
       have hng:IntKind.i64.wrap (-(j:Int)) = -(j:Int):=by rw [IntKind.wrap_i64];omega
       obtain ⟨tl,HTL⟩:∃ tl,Hid (tl=gTab h k L∧tl<2 ^ 128):=⟨_,η ⟨rfl,CqK h k L hlt l3⟩⟩;obtain ⟨tx,HTX⟩:∃ tx,Hid (tx=gTab h k X∧tx<2 ^ 128):=⟨_,η ⟨rfl,CqK h k X hlt l4⟩⟩;obtain ⟨t,HT⟩:∃ t,Hid (t=tl ^^^ tx):=⟨_,η rfl⟩;have HTJ:Hid (t=gTab h k j):=η (by rw [HT.o,HTL.o.1,HTX.o.1,←gTab_xor,l5]);have HSM:Hid (∀ v:World,Calls prog 207 #[.slice (some ⟨v.heap.size,0,none⟩) 2 2] (v.alloc (.cells (es (tl / 2 ^ 64) (tl % 2 ^ 64)++es (tx / 2 ^ 64) (tx % 2 ^ 64)).toArray 247)).drew fun e w'=>e=.returned (PE t)∧Below v.heap.size v w'):=η (fun v=>by rw [HT.o];exact EkX tl tx v HTL.o.2 HTX.o.2);have HLD:Hid (∀ P W,(∀ v,Pj j v→P v)→St w W b h G k p f P→ldP (.pointer (some ⟨b,6+k*32+L*2,none⟩)) W=.ok (.value (PE tl)) W∧ldP (.pointer (some ⟨b,6+k*32+X*2,none⟩)) W=.ok (.value (PE tx)) W):=η (fun P W hP hs=>by rw [HTL.o.1,HTX.o.1];exact ⟨hs.ld hlt L l3 (hP L l6),hs.ld hlt X l4 (hP X l7)⟩);have HPJ:Hid (∀ v,v<16→Pj (j+1) v→Pj j v∨v=j):=η (fun v _ hv=>by unfold Pj at hv ⊢;omega);have hs5:=η (hs4.o.keep (Below.refl _ _).drew);have hq5:=HLD.o _ _ (fun v hv=>hv) hs5.o;have hs6:=η (hs5.o.keep (AaK wr.drew (.cells (es (tl / 2 ^ 64) (tl % 2 ^ 64)++es (tx / 2 ^ 64) (tx % 2 ^ 64)).toArray 247)));have hLi:(L:Int)<16:=by omega
       have hXi:(X:Int)<16:=by omega
       have hji:(j:Int)<16:=by omega
       clear l5 l6 l7;go_wp2_with fail;refine wp_region_held_drew (S:=fun w'=>ldP (.pointer (some ⟨b,6+k*32+L*2,none⟩)) w'=.ok (.value (PE tl)) w'∧ldP (.pointer (some ⟨b,6+k*32+X*2,none⟩)) w'=.ok (.value (PE tx)) w') (by kernel_rfl) hq5 (fun hHeld=>?_);(try dsimp only at hHeld);have Ω:=η (fun (w:World) (hSw:ldP (.pointer (some ⟨b,6+k*32+L*2,none⟩)) w=.ok (.value (PE tl)) w∧ldP (.pointer (some ⟨b,6+k*32+X*2,none⟩)) w=.ok (.value (PE tx)) w)=>hSw);refine tkJ 0 rfl hHeld ?_;(try simp only [Act.put,sxT]);refine tkJ 1 rfl hHeld ?_;(try simp only [Act.put,sxT]);refine tkJ 2 rfl hHeld ?_;(try simp only [Act.put,sxT]);refine tkJ 3 rfl hHeld ?_;(try simp only [Act.put,sxT]);refine tkJ 4 rfl hHeld ?_;(try simp only [Act.put,sxT]);refine tkJ 5 rfl hHeld ?_;(try simp only [Act.put,sxT]);refine tkJ 6 rfl hHeld ?_;(try simp only [Act.put,sxT]);refine tkJ 7 rfl hHeld ?_;(try simp only [Act.put,sxT]);refine tkJ 8 rfl hHeld ?_;(try simp only [Act.put,sxT]);refine tkJ 9 rfl hHeld ?_;(try simp only [Act.put,sxT]);refine tkJ 10 rfl hHeld ?_;(try simp only [Act.put,sxT]);refine tkJ 11 rfl hHeld ?_;(try simp only [Act.put,sxT]);refine tkJ 12 rfl hHeld ?_;(try simp only [Act.put,sxT]);refine tkJ 13 rfl hHeld ?_;(try simp only [Act.put,sxT]);refine tkJ 16 rfl hHeld ?_;(try simp only [Act.put,sxT]);refine rdI 14 rfl (fun K hK=>?_);(try simp only [rxT]);go_simp;refine hK.o _ _ (HLD.o _ _ (fun v hv=>hv) hs6.o) (fun hHeld=>?_);clear hK K;(try simp only [Act.put,sxT]);refine rdI 15 rfl (fun K hK=>?_);(try simp only [rxT]);go_simp;refine (HSM.o _).mono ?_;rintro e w7 ⟨rfl,hb7⟩;have hs7:=η (hs4.o.keep hb7);clear hb7;have q4:=ElK t (hs7.o.there hlt j hlt3);have hs8:=η (hs7.o.store (by omega) j t hlt hlt3 HTJ.o);(try go_wp2_with fail);refine hK.o _ _ (HLD.o _ _ (fun v hv=>hv) hs7.o) (fun hHeld=>?_);clear hK K;(try simp only [Act.put,sxT]);refine tkJ 17 rfl hHeld ?_;(try simp only [Act.put,sxT]);refine rdI 18 rfl (fun K hK=>?_);(try simp only [rxT]);go_simp;refine hK.o _ _ (HLD.o _ _ (fun v hv=>.inl hv) hs8.o) (fun _=>?_);clear hK K;(try simp only [Act.put,sxT]);refine wpAnyH_done (by kernel_rfl) ?_ _;go_wp2_with fail;go_roundw
       case rel=>exact ⟨j+1,by omega,by go_num,η (hs8.o.mono HPJ.o)⟩
       case measure=>simp [intOf];omega
      ·obtain rfl:j=16:=by omega
       have e16:((16:Nat):Int)=16:=rfl;rw [e16];have hs5:Hid (St w wr b h G k p f (fun _=>True)):=η (hs4.o.mono (fun v hv _=>by unfold Pj;exact .inr (.inl hv)));clear hs4 e16;go_wp2;go_roundw
       case rel=>exact ⟨k+1,by omega,by go_num,η (by rw [←HP.o];exact hs5.o.next (by omega))⟩
       case measure=>simp [intOf];omega
  ·obtain rfl:k=32:=by omega
   have hst:=hs.o;unfold St at hst;obtain ⟨f1,T,c,t,d,e,y,u⟩:=hst;have hm4:=c.cell (show 5<1030 by omega);have hz4:=c.free (show 5<1030 by omega);rw [e 5 (by omega),HM.o] at hm4;have HC:=η c;have HT:=η t;have HD:=η d;have HE:=η e;have HBU:=η u;clear c t d e y u hs;have hadd:∀ W:World,(Op.intArith .add .i64 0 1).run prog W=.ok (.int .i64 1) W:=fun W=>by simp [go_sem];rfl
   go_wp2_with fail;refine (AzZ ⟨b,5,none⟩ 0 1 1 _ hm4 hz4 (hadd _)).mono ?_;rintro e w1 ⟨rfl,rfl⟩;go_wp2_with fail;go_end0;refine ⟨rfl,(HBU.o.self _ _),_,HC.o.set (show 5<1030 by omega) _,?_,(AaW _ _ _ _ (by omega)).trans (HE.o 0 (by omega)),(AaW _ _ _ _ (by omega)).trans (HE.o 1 (by omega)),(AaW _ _ _ _ (by omega)).trans (HE.o 2 (by omega)),(AaW _ _ _ _ (by omega)).trans (HE.o 3 (by omega)),AjW _ _ _⟩;exact (HT.o.congr (fun j hj=>AaW _ _ _ _ (by omega))).to (fun k v hk hv=>HD.o.1 k v hk hv)
end Go.Proofs.YthppjgdnibfefaaGreat
namespace Go.Proofs.YthppjgdnibfefaaGreat
open Tryz
open Go.RowKit
def ClJ (b o:Nat) (R:World→Prop):Prop:=∀ w',R w'→w'.cell? ⟨b,o,none⟩=some (.int .u32 0)∧w'.cell? ⟨b,o+1,none⟩=some (.int .i32 1)∧w'.frozen? ⟨b,o,none⟩=false∧w'.frozen? ⟨b,o+1,none⟩=false
def DxJ (b o:Nat) (R:World→Prop) (w':World):Prop:=∃ w1,R w1∧w'=(w1.drew.setCell ⟨b,o,none⟩ (.int .u32 1)).setCell ⟨b,o+1,none⟩ (.int .i32 0)
theorem EcY (b o:Nat) (v:Value) (R:World→Prop) (w:World)
  (h0:w.cell? ⟨b,o,none⟩=some (.int .u32 0)) (h1:w.cell? ⟨b,o+1,none⟩=some (.int .i32 0))
  (f0:w.frozen? ⟨b,o,none⟩=false) (f1:w.frozen? ⟨b,o+1,none⟩=false)
  (hcall:Calls prog 217 #[v] (w.setCell ⟨b,o+1,none⟩ (.int .i32 1)) (FcJ R)) (hkeep:ClJ b o R) :
  Calls prog 221 #[.pointer (some ⟨b,o,none⟩),.func (.func 217) #[v] #[]] w (FcJ (DxJ b o R)):=by
 -- 225
 have HC:=η hcall
 have HK:=η hkeep
 clear hcall hkeep
 have hnot:∀ (x:Bool) (w:World),(Op.unary .not (.bool x)).run prog w=.ok (.bool (!x)) w:=fun _ _=>rfl
 have hl:(w.setCell ⟨b,o+1,none⟩ (.int .i32 1)).cell? ⟨b,o,none⟩=some (.int .u32 0):=(World.cell?_setCell_other _ ⟨b,o+1,none⟩ ⟨b,o,none⟩ _ (by simp)).trans h0
 go_enter_defers func221,ntmps221
 go_wp2_with fail
 refine (EkQ ⟨b,o+1,none⟩ _ h1 f1).mono ?_
 rintro e w' ⟨rfl,rfl⟩
 go_wp2_with fail
 refine (BpK ⟨b,o,none⟩ 0 false _ hl rfl).mono ?_
 rintro e w' ⟨rfl,rfl⟩
 go_wp2_with fail
 refine HC.o.mono ?_
 rintro e w1 ⟨rfl,hR⟩
 obtain ⟨k0,k1,z0,z1⟩:=HK.o w1 hR
 go_wp2_with fail
 refine leaves_cons (f:=230) (args:=#[.pointer (some ⟨b,o,none⟩),.bool true]) (by simp) (by simp [go_sem]) ?_
 refine (AxZ ⟨b,o,none⟩ (.int .u32 0) .returning _ k0 z0).mono ?_
 rintro e u' w'' ⟨rfl,rfl,rfl⟩
 refine leaves_cons (f:=229) (args:=#[.pointer (some ⟨b,o+1,none⟩)]) (by simp [settle]) (by simp [go_sem]) ?_
 refine (AvW ⟨b,o+1,none⟩ _ _ ?_ (by simp [z1])).mono ?_
 ·refine (World.cell?_setCell_other _ ⟨b,o,none⟩ ⟨b,o+1,none⟩ _ (by simp)).trans ?_
  rw [World.cell?_drew];exact k1
 rintro e u' w'' ⟨rfl,rfl,rfl⟩
 simp only [Leaves,settle]
 exact ⟨_,results_none rfl _ _ _,rfl,w1,hR,rfl⟩
theorem DiZ (b o:Nat) (v:Value) (R:World→Prop) (w:World)
  (h0:w.cell? ⟨b,o,none⟩=some (.int .u32 0)) (h1:w.cell? ⟨b,o+1,none⟩=some (.int .i32 0))
  (f0:w.frozen? ⟨b,o,none⟩=false) (f1:w.frozen? ⟨b,o+1,none⟩=false)
  (hcall:Calls prog 217 #[v] (w.setCell ⟨b,o+1,none⟩ (.int .i32 1)) (FcJ R)) (hkeep:ClJ b o R) :
  Calls prog 213 #[.pointer (some ⟨b,o,none⟩),.func (.func 217) #[v] #[]] w (FcJ (DxJ b o R)):=by
 have HC:=η (EcY b o v R w h0 h1 f0 f1 hcall hkeep)
 clear hcall hkeep
 have hnot:∀ (x:Bool) (w:World),(Op.unary .not (.bool x)).run prog w=.ok (.bool (!x)) w:=fun _ _=>rfl
 go_enter func213,ntmps213
 go_wp2_with fail
 refine (BpK ⟨b,o,none⟩ 0 false _ h0 rfl).mono ?_
 rintro e w' ⟨rfl,rfl⟩
 go_wp2_with fail
 refine HC.o.mono ?_
 rintro e w1 ⟨rfl,hR⟩
 go_wp2_with fail
 go_end0
 exact ⟨rfl,hR⟩
theorem EcZ (a:Addr) (fv:Value) (w:World) (h0:w.cell? a=some (.int .u32 1)) :
  Calls prog 213 #[.pointer (some a),fv] w fun e w'=>e=.returned (.tuple #[])∧w=w':=by
 have hnot:∀ (x:Bool) (w:World),(Op.unary .not (.bool x)).run prog w=.ok (.bool (!x)) w:=fun _ _=>rfl
 go_enter func213,ntmps213
 go_wp2_with fail
 refine (BpK a 1 true _ h0 rfl).mono ?_
 rintro e w' ⟨rfl,rfl⟩
 go_wp2_with fail
 go_end0
 exact ⟨rfl,rfl⟩
open Go.RowKit
def BrZ (x y:Int):Array Value :=
 #[.int .u64 x,.int .u64 y,.int .u32 0,.int .i32 0,.int .u32 0,.int .i64 0]++Array.replicate 1024 (.int .u64 0)
def ghF (x y:Int):Nat→Value:=fun j=>if j<6 then (#[Value.int .u64 x,.int .u64 y,.int .u32 0,.int .i32 0,.int .u32 0,.int .i64 0]:Array Value).getD j undef else .int .u64 0
theorem gh_built (x y:Int):prog.built 262 [(0,.agg #[.int .u64 x,.int .u64 y])]=some (BrZ x y):=by kernel_rfl
theorem EeJ (x y:Int) (j:Nat) (hj:j<1030):(BrZ x y)[j]?=some (ghF x y j):=by
 unfold BrZ ghF
 by_cases h:j<6
 ·rw [if_pos h,Array.getElem?_append_left (by simp;omega)]
  rcases (show j=0∨j=1∨j=2∨j=3∨j=4∨j=5 by omega) with rfl | rfl | rfl | rfl | rfl | rfl <;> rfl
 ·rw [if_neg h,Array.getElem?_append_right (by simp;omega),Array.getElem?_replicate,if_pos (by simp;omega)]
theorem EhK {w:World} {ops:Array Oper} {rest:List Oper} {o:Oper} {a:Act} {Q:Exit→Act→World→Prop} (hgd:o.guard=none) (x:Operand) (hop:o.op=.build 262 #[(0,x)])
  (h:Nat) (hx:a.eval x=PE h) (hk:wpList prog ops Q rest (a.put o.dst (.agg (BrZ ((h / 2 ^ 64:Nat):Int) ((h % 2 ^ 64:Nat):Int)))) w):wpList prog ops Q (o::rest) a w:=by
 refine wpList_plain hgd fun K hK=>?_
 have hx2:a.eval x=.agg #[.int .u64 ((h / 2 ^ 64:Nat):Int),.int .u64 ((h % 2 ^ 64:Nat):Int)]:=hx
 unfold Oper.wp execOp
 simp only [hop,List.map_toArray,List.map_cons,List.map_nil,hx2,Sem.run_bind,run_build w _ #[(0,.agg #[.int .u64 ((h / 2 ^ 64:Nat):Int),.int .u64 ((h % 2 ^ 64:Nat):Int)])] _ (gh_built _ _),Result.andThen_ok]
 exact hK _ _ hk
open Go.RowKit
attribute [local irreducible] PE nB
theorem Ho.new (w:World) (h:Nat) (hh:h<2 ^ 128) (T:TypeId):Ho (w.alloc (.cells (BrZ ((h / 2 ^ 64:Nat):Int) ((h % 2 ^ 64:Nat):Int)) T)) w.heap.size h false:=by
 refine ⟨hh,ghF ((h / 2 ^ 64:Nat):Int) ((h % 2 ^ 64:Nat):Int),Cells.new w _ T 1030 (by simp [BrZ]) _ (EeJ _ _) _ rfl,rfl,rfl,rfl,rfl,rfl,fun k v hk hv=>?_⟩
 have e:∀ j,6≤j→ghF ((h / 2 ^ 64:Nat):Int) ((h % 2 ^ 64:Nat):Int) j=.int .u64 0:=fun j hj=>by unfold ghF;rw [if_neg (by omega)]
 rw [e _ (by omega),e _ (by omega)]
 simp [u64v]
def RetGh (h:Nat) (w:World) (e:Ending) (w':World):Prop :=
 ∃ b,e=.returned (.tuple #[.pointer (some ⟨b,0,none⟩),.int .i64 0])∧w.heap.size≤b∧Below w.heap.size w w'∧Ho w' b h false
theorem new_ok (A:YA) (c:Nat) (k:YB) (w:World) (hc:16≤c) (h16:k.length=16) (hr:RB w w.heap.size A 16 k) :
  Calls prog 140 #[.slice A 16 c] w (RetGh (nB k) w):=by
 obtain ⟨h,HH⟩:∃ h,Hid (h=nB k∧h<2 ^ 128):=⟨_,η ⟨rfl,EuJ k h16⟩⟩
 rw [←HH.o.1]
 have HOF:Hid (Calls prog 172 #[.slice A 16 c] w fun e w'=>e=.returned (.tuple #[PE h,.int .i64 0])∧Below w.heap.size w w'):=η (by rw [HH.o.1,nB_pe k h16];exact of_ok A c k w hc h16 hr)
 clear hr h16
 go_enter func140,ntmps140
 go_wp2_with fail
 refine HOF.o.mono ?_
 rintro e w1 ⟨rfl,hb⟩
 have HB:=η hb
 clear hb HOF
 obtain ⟨w2,HW2⟩:∃ w2,Hid (w2=(w1.alloc (.cells (es 0 0).toArray 247)).setCells w1.heap.size 0 (es (h / 2 ^ 64) (h % 2 ^ 64))):=⟨_,η rfl⟩
 have HB2:Hid (Below w.heap.size w w2):=η (by rw [HW2.o];exact AaQ (HB.o.alloc HB.o.size _) HB.o.size _ _)
 have HX2:Hid (Xw w2 w1.heap.size h):=η (by rw [HW2.o];exact Ew.whole (Ew.new w1 0 0 _ rfl) _ _)
 go_wp2_with (first | (refine AnW rfl (.tmp 4) (.tmp 9) rfl w1.heap.size rfl h 0 rfl (by exact Ew.new w1 0 0 _ rfl) ?_;show wpList _ _ _ _ _ ((w1.alloc (.cells (es 0 0).toArray 247)).setCells w1.heap.size 0 (es (h / 2 ^ 64) (h % 2 ^ 64)));rw [←HW2.o]) | (refine AtQ rfl (.tmp 4) rfl w1.heap.size rfl h (by exact HX2.o) ?_) | (refine EhK rfl (.tmp 14) rfl h rfl ?_))
 go_ret2
 exact ⟨_,rfl,HB2.o.size,HB2.o.alloc HB2.o.size _,Ho.new w2 h HH.o.2 _⟩
theorem once_gh (b h:Nat) (d:Bool) (w:World) (o:Ho w b h d) :
  Calls prog 213 #[.pointer (some ⟨b,2,none⟩),.func (.func 217) #[.pointer (some ⟨b,0,none⟩)] #[]] w (UseG (.tuple #[]) b h true w):=by
 obtain ⟨hh,f,hc,h0,h1,h2,h3,h5,ht⟩:=o
 have c2:=hc.cell (show 2<1030 by omega)
 have c3:=hc.cell (show 2+1<1030 by omega)
 rw [h2] at c2
 rw [h3] at c3
 rcases d with _ | _
 ·have hcomp:=DdZ b h (upd f 3 (.int .i32 1)) (w.setCell ⟨b,3,none⟩ (.int .i32 1)) hh (hc.set (show 3<1030 by omega) _) ((AaW _ _ _ _ (by omega)).trans h0) ((AaW _ _ _ _ (by omega)).trans h1) ((AaW _ _ _ _ (by omega)).trans h5) (ht.congr (fun j hj=>AaW _ _ _ _ (by omega)))
  refine (DiZ b 2 _ _ w c2 c3 (hc.free (by omega)) (hc.free (by omega)) hcomp ?_).mono ?_
  ·rintro w' ⟨hb,f',k1,k2,e0,e1,e2,e3,e5⟩
   have q1:=k1.cell (show 2<1030 by omega);have q2:=k1.cell (show 2+1<1030 by omega);rw [e2,AaW _ _ _ _ (by omega),h2] at q1;rw [e3,AjW] at q2;exact ⟨q1,q2,k1.free (by omega),k1.free (by omega)⟩
  ·rintro e w' ⟨rfl,w1,⟨hb,f',k1,k2,e0,e1,e2,e3,e5⟩,rfl⟩
   refine ⟨rfl,?_,hh,upd (upd f' 2 (.int .u32 1)) 3 (.int .i32 0),(k1.drew.set (show 2<1030 by omega) _).set (show 3<1030 by omega) _,?_,?_,?_,AjW _ _ _,?_,k2.congr (fun j hj=>by rw [AaW _ _ _ _ (by omega),AaW _ _ _ _ (by omega)])⟩
   ·exact ((((But.refl b w).self _ _).trans hb).drew.self _ _).self _ _
   ·rw [AaW _ _ _ _ (by omega),AaW _ _ _ _ (by omega),e0,AaW _ _ _ _ (by omega),h0]
   ·rw [AaW _ _ _ _ (by omega),AaW _ _ _ _ (by omega),e1,AaW _ _ _ _ (by omega),h1]
   ·rw [AaW _ _ _ _ (by omega),AjW];rfl
   ·rw [AaW _ _ _ _ (by omega),AaW _ _ _ _ (by omega),e5];rfl
 ·refine (EcZ _ _ w c2).mono ?_
  rintro e w' ⟨rfl,rfl⟩;exact ⟨rfl,But.refl _ _,hh,f,hc,h0,h1,h2,h3,h5,ht⟩
end Go.Proofs.YthppjgdnibfefaaGreat
namespace Go.Proofs.YthppjgdnibfefaaGreat
open Tryz
open Go.RowKit
def wrd (e i:Nat):Nat:=if i=0 then e / 2 ^ 64 else e % 2 ^ 64
def nSh (v j:Nat):Nat:=v*2 ^ (4*j) % 2 ^ 64
theorem nSh_zero (v:Nat) (hv:v<2 ^ 64):nSh v 0=v:=by unfold nSh;rw [Nat.mul_zero,Nat.pow_zero,Nat.mul_one];exact Nat.mod_eq_of_lt hv
theorem nSh_lt (v j:Nat):nSh v j<2 ^ 64:=Nat.mod_lt _ (by omega)
theorem nSh_next (v j:Nat):nSh v (j+1)=nSh v j*16 % 2 ^ 64:=by
 unfold nSh
 rw [show 4*(j+1)=4*j+4 by omega,Nat.pow_add,←Nat.mul_assoc]
 generalize v*2 ^ (4*j)=x
 omega
theorem nSh_nib (v j:Nat) (hj:j<16):nSh v j / 2 ^ 60=v / 2 ^ (60 - 4*j) % 16:=by
 obtain ⟨d,hd⟩:∃ d,60=4*j+d:=⟨60 - 4*j,by omega⟩
 unfold nSh
 have e1:(2:Nat) ^ 64=2 ^ d*16*2 ^ (4*j):=by rw [show (64:Nat)=d+4+4*j by omega,Nat.pow_add,Nat.pow_add]
 have e2:(2:Nat) ^ 60=2 ^ d*2 ^ (4*j):=by rw [hd,Nat.pow_add,Nat.mul_comm]
 rw [e1,e2,Nat.mul_mod_mul_right,Nat.mul_div_mul_right _ _ (Nat.pow_pos (by omega)),Nat.mod_mul_right_div_self,show 60 - 4*j=d by omega]
theorem wrd_lt (e i:Nat) (he:e<2 ^ 128):wrd e i<2 ^ 64:=by unfold wrd;split <;> omega
theorem wrd_nib (e i j:Nat) (hi:i<2) (hj:j<16):nSh (wrd e i) j / 2 ^ 60=nib e (16*i+j):=by
 rw [nSh_nib _ _ hj]
 unfold nib wrd
 rcases (show i=0∨i=1 by omega) with rfl | rfl
 ·rw [if_pos rfl,Nat.div_div_eq_div_mul,←Nat.pow_add,show 64+(60 - 4*j)=124 - 4*(16*0+j) by omega]
 ·rw [if_neg (by omega),show 124 - 4*(16*1+j)=60 - 4*j by omega]
  obtain ⟨d,hd⟩:∃ d,64=(60 - 4*j)+(4+d):=⟨4*j,by omega⟩;generalize 60 - 4*j=m at hd;have e1:(2:Nat) ^ 64=2 ^ m*(16*2 ^ d):=by rw [hd,Nat.pow_add,Nat.pow_add]
  rw [e1,Nat.mod_mul_right_div_self,Nat.mod_mul_right_mod]
theorem CzW (h e k:Nat):nSum h e (k+1)=nSum h e k ^^^ gTab h k (nib e k):=rfl
theorem EtZ (h e:Nat):∀ k,k≤32→nSum h e k<2 ^ 128
 | 0,_=>by unfold nSum;omega
 | k+1,hk=>by rw [CzW];exact Nat.xor_lt_two_pow (EtZ h e k (by omega)) (CqK h k _ (by omega) (nib_lt e k))
theorem Ho.ld {w:World} {b h:Nat} (o:Ho w b h true) (k v:Nat) (hk:k<32) (hv:v<16):ldP (.pointer (some ⟨b,6+k*32+v*2,none⟩)) w=.ok (.value (PE (gTab h k v))) w:=by
 obtain ⟨hh,f,hc,h0,h1,h2,h3,h5,ht⟩:=o
 exact ldP_m (CuX hc ht hk hv)
theorem ix_word (e i:Nat) (hi:i<2) (W:World):(Instr.index 298 (.agg #[.int .u64 ((e / 2 ^ 64:Nat):Int),.int .u64 ((e % 2 ^ 64:Nat):Int)]) (.int .i64 (i:Int))).run prog W=.ok (.int .u64 (wrd e i:Int)) W:=by
 rcases (show i=0∨i=1 by omega) with rfl | rfl
 ·exact EvW _ _ W
 ·exact EvV _ _ W
theorem res_pe {fn:Func} {p:Tmp} (hr:fn.results=#[.cell p 247]) (tmps:Array Value) (w:World) (b x:Nat) (ht:tmps.getD p undef=.pointer (some ⟨b,0,none⟩)) (hc:Xw w b x) :
  (results fn tmps).run prog w=.ok (PE x) w:=DpX hr tmps w b _ _ ht hc
attribute [local irreducible] PE gTab nSum nib wrd nSh Ho
theorem times_gh (b h e:Nat) (d:Bool) (w:World) (o:Ho w b h d) (he:e<2 ^ 128) :
  Calls prog 206 #[.pointer (some ⟨b,0,none⟩),PE e] w (UseG (PE (gMul e h)) b h true w):=by
 have HN:=η (nSum_all h e he)
 have HE:=η he
 have HO0:=η o
 have hbG:b<w.heap.size:=o.lt
 clear o he
 have hmf:∀ (fn:Fn) (first cap:Array Value) (w:World),(Instr.makeFunc fn first cap).run prog w=.ok (.func fn first cap) w:=fun _ _ _ _=>rfl
 go_enter func206,ntmps206
 go_wp2_with (refine ByK rfl _ (.tmp 1) rfl e rfl ?_)
 obtain ⟨W1,HW1⟩:∃ W1,Hid (W1=(w.alloc (.cells (es (e / 2 ^ 64) (e % 2 ^ 64)).toArray 247)).alloc (.cells #[.int .u64 0,.int .u64 0] 247)):=⟨_,η rfl⟩
 have HO1:Hid (Ho W1 b h d):=η (by rw [HW1.o];exact (HO0.o.alloc _).alloc _)
 have HX1:Hid (Xw W1 w.heap.size e):=η (by rw [HW1.o];exact Ew.alloc (Ew.new w _ _ _ rfl) _)
 have HR1:Hid (Xw W1 (w.heap.size+1) 0):=η (by rw [HW1.o];exact Ew.new _ 0 0 _ (by simp))
 have HB1:Hid (But b w W1):=η (by rw [HW1.o];exact ((But.refl b w).alloc _).alloc _)
 refine (once_gh b h d _ (by rw [←HW1.o];exact HO1.o)).mono ?_
 rw [←HW1.o]
 rintro e2 W2 ⟨rfl,hb2,ho2⟩
 have HO2:=η ho2
 have HX2:=η (HX1.o.but hb2 (by omega))
 have HR2:=η (HR1.o.but hb2 (by omega))
 have HB2:=η (HB1.o.trans hb2)
 have hs2:w.heap.size+1<W2.heap.size:=HR2.o.lt
 clear ho2 hb2 HO1 HX1 HR1 HB1 HW1 HO0
 have hsb:∀ x:Nat,x<W2.heap.size→x<(W2.alloc (.cells #[.int .u64 0,.int .u64 0] 247)).heap.size:=fun x hx=>by rw [World.size_alloc];omega
 obtain ⟨G,HG⟩:∃ G,Hid (G=W2.heap.size):=⟨_,η rfl⟩
 obtain ⟨W3,HW3⟩:∃ W3,Hid (W3=W2.alloc (.cells #[.int .u64 0,.int .u64 0] 247)):=⟨_,η rfl⟩
 have HO3:Hid (Ho W3 b h true):=η (by rw [HW3.o];exact HO2.o.alloc _)
 have HX3:Hid (Xw W3 w.heap.size e):=η (by rw [HW3.o];exact Ew.alloc HX2.o _)
 have HR3:Hid (Xw W3 (w.heap.size+1) 0):=η (by rw [HW3.o];exact Ew.alloc HR2.o _)
 have HP3:Hid (Xw W3 G 0):=η (by rw [HW3.o,HG.o];exact Ew.new _ 0 0 _ rfl)
 have HB3:Hid (But b w W3):=η (by rw [HW3.o];exact HB2.o.alloc _)
 have hG1:w.heap.size+1<G:=by rw [HG.o];exact hs2
 have c0:(W2.alloc (.cells #[.int .u64 0,.int .u64 0] 247)).cell? ⟨w.heap.size,0,none⟩=some (.int .u64 ((e / 2 ^ 64:Nat):Int)):=by rw [←HW3.o];exact HX3.o.at0
 have c1:(W2.alloc (.cells #[.int .u64 0,.int .u64 0] 247)).cell? ⟨w.heap.size,1,none⟩=some (.int .u64 ((e % 2 ^ 64:Nat):Int)):=by rw [←HW3.o];exact HX3.o.at1
 obtain ⟨eh,HEH⟩:∃ eh,Hid (eh=e / 2 ^ 64):=⟨_,η rfl⟩
 obtain ⟨el,HEL⟩:∃ el,Hid (el=e % 2 ^ 64):=⟨_,η rfl⟩
 rw [←HEH.o] at c0
 rw [←HEL.o] at c1
 have HIX:Hid (∀ i:Nat,i<2→∀ W:World,(Instr.index 298 (.agg #[.int .u64 (eh:Int),.int .u64 (el:Int)]) (.int .i64 (i:Int))).run prog W=.ok (.int .u64 (wrd e i:Int)) W):=η (fun i hi W=>by rw [HEH.o,HEL.o];exact ix_word e i hi W)
 have HS0:Hid (nSum h e 0=0):=η (by unfold nSum;rfl)
 go_wp2_with fail
 show Code.wp _ _ _ _ (W2.alloc (.cells #[.int .u64 0,.int .u64 0] 247))
 rw [←HW3.o,←HG.o]
 clear HW3 c0 c1 hsb HX2 HR2 HB2 HO2 HX3
 go_loopw [6,20] (fun u t wr=>∃ i:Nat,i≤2∧u=.int .i64 ((16*i:Nat):Int)∧t=.int .i64 i∧Hid (Xw wr G (nSum h e (16*i)))∧Hid (Xw wr (w.heap.size+1) 0)∧Hid (Ho wr b h true)∧Hid (But b w wr)) (fun _ t _=>2 - (intOf t).toNat)
 case atStart=>exact ⟨0,by omega,rfl,rfl,η (by rw [HS0.o];exact HP3.o),HR3,HO3,HB3⟩
 case round =>
  obtain ⟨i,hi,rfl,rfl,hp,hr,ho,hb⟩:=hrel;clear HP3 HR3 HO3 HB3;by_cases hlt:i<2
  ·have hix:=HIX.o i hlt
   have hid2:decide ((i:Int)<2)=true:=decide_eq_true (by omega);obtain ⟨wd,HWD⟩:∃ wd,Hid (wd=wrd e i∧wd<2 ^ 64):=⟨_,η ⟨rfl,wrd_lt e i HE.o⟩⟩;rw [←HWD.o.1] at hix;go_wp2;obtain ⟨wo,ewo⟩:∃ wo:World,wo=wr:=⟨_,rfl⟩;subst ewo
   go_loopw [6,8,23] (fun u v t wr=>∃ j vv:Nat,j≤16∧u=.int .i64 ((16*i+j:Nat):Int)∧v=.int .u64 (vv:Int)∧t=.int .i64 j∧Hid (vv=nSh wd j)∧Hid (Xw wr G (nSum h e (16*i+j)))∧Hid (Xw wr (w.heap.size+1) 0)∧Hid (Ho wr b h true)∧Hid (But b w wr)) (fun _ _ t _=>16 - (intOf t).toNat)
   case atStart=>exact ⟨0,wd,by omega,rfl,rfl,rfl,η (nSh_zero _ HWD.o.2).symm,hp,hr,ho,hb⟩
   case round =>
    obtain ⟨j,vv,hj,rfl,rfl,rfl,hv,hp2,hr2,ho2,hb2⟩:=hrel;clear hp hr ho hb;by_cases hlt2:j<16
    ·obtain ⟨K,HK⟩:∃ K,Hid (K=16*i+j):=⟨_,η rfl⟩
     have hK32:K<32:=by rw [HK.o];omega
     obtain ⟨c,HC⟩:∃ c,Hid (c=nib e K∧vv / 2 ^ 60=c):=⟨_,η ⟨rfl,by rw [hv.o,HWD.o.1,HK.o];exact wrd_nib e i j hlt hlt2⟩⟩;have hc16:c<16:=by rw [HC.o.1];exact nib_lt e K
     have hvb:vv<2 ^ 64:=by rw [hv.o];exact nSh_lt _ _
     have hsh:(vv:Int) / 1152921504606846976=(c:Int):=by have:=HC.o.2;omega
     obtain ⟨y,HY⟩:∃ y,Hid (y=vv*16 % 2 ^ 64):=⟨_,η rfl⟩;have HYV:Hid (y=nSh wd (j+1)):=η (by rw [HY.o,hv.o,nSh_next]);have hys:IntKind.u64.wrap ((vv:Int)*16)=(y:Int):=by rw [HY.o,IntKind.wrap_u64];omega
     obtain ⟨q,HQ⟩:∃ q,Hid (q=nSum h e K∧q<2 ^ 128):=⟨_,η ⟨rfl,EtZ h e K (by omega)⟩⟩;obtain ⟨t,HT⟩:∃ t,Hid (t=gTab h K c∧t<2 ^ 128):=⟨_,η ⟨rfl,CqK h K c hK32 hc16⟩⟩;obtain ⟨q',HQ'⟩:∃ q',Hid (q'=q ^^^ t):=⟨_,η rfl⟩;have HQS:Hid (q'=nSum h e (16*i+(j+1))):=η (by rw [HQ'.o,HQ.o.1,HT.o.1,HC.o.1,←CzW,HK.o];rfl);have HSM:Hid (∀ v:World,Calls prog 207 #[.slice (some ⟨v.heap.size,0,none⟩) 2 2] (v.alloc (.cells (es (q / 2 ^ 64) (q % 2 ^ 64)++es (t / 2 ^ 64) (t % 2 ^ 64)).toArray 247)).drew fun e w'=>e=.returned (PE q')∧Below v.heap.size v w'):=η (fun v=>by rw [HQ'.o];exact EkX q t v HQ.o.2 HT.o.2);have HLD:Hid (∀ W,Ho W b h true→ldP (.pointer (some ⟨b,6+K*32+c*2,none⟩)) W=.ok (.value (PE t)) W):=η (fun W hW=>by rw [HT.o.1];exact hW.ld K c hK32 hc16);rw [←HK.o] at hp2 ⊢;rw [←HQ.o.1] at hp2;have hKi:(K:Int)<32:=by omega
     have hci:(c:Int)<16:=by omega
     have hq0:=BjY (hp2.o.keep (Below.refl _ _).drew);go_wp2_with fail;refine wp_region_held_drew (S:=fun w'=>ldP (.pointer (some ⟨b,6+K*32+c*2,none⟩)) w'=.ok (.value (PE t)) w') (by kernel_rfl) (HLD.o _ ho2.o.drew) (fun hHeld=>?_);(try dsimp only at hHeld);refine tkJ 1 rfl hHeld ?_;(try simp only [Act.put,sxT]);refine tkJ 2 rfl hHeld ?_;(try simp only [Act.put,sxT]);refine tkJ 3 rfl hHeld ?_;(try simp only [Act.put,sxT]);refine tkJ 4 rfl hHeld ?_;(try simp only [Act.put,sxT]);refine tkJ 5 rfl hHeld ?_;(try simp only [Act.put,sxT]);refine tkJ 6 rfl hHeld ?_;(try simp only [Act.put,sxT]);refine tkJ 7 rfl hHeld ?_;(try simp only [Act.put,sxT]);refine tkJ 8 rfl hHeld ?_;(try simp only [Act.put,sxT]);refine tkJ 9 rfl hHeld ?_;(try simp only [Act.put,sxT]);refine rdI 0 rfl (fun K hK=>?_);(try simp only [rxT]);go_simp;refine hK.o _ _ hHeld (fun hHeld=>?_);clear hK K;(try simp only [Act.put,sxT]);refine rdI 10 rfl (fun K hK=>?_);(try simp only [rxT]);go_simp;refine hK.o _ _ (HLD.o _ (ho2.o.drew.alloc _)) (fun hHeld=>?_);clear hK K;(try simp only [Act.put,sxT]);refine rdI 11 rfl (fun K hK=>?_);(try simp only [rxT]);go_simp;refine (HSM.o _).mono ?_;rintro e w7 ⟨rfl,hb7⟩;have ho7:=η (ho2.o.keep hb7);have hp7:=η (hp2.o.keep hb7);have hr7:=η (hr2.o.keep hb7);have hbb7:=η (hb2.o.trans (But.of_below hb7));have q4:=ElK q' hp7.o.2;clear hb7;(try go_wp2_with fail);refine hK.o _ _ (HLD.o _ ho7.o) (fun hHeld=>?_);clear hK K;(try simp only [Act.put,sxT]);refine rdI 12 rfl (fun K hK=>?_);(try simp only [rxT]);go_simp;refine hK.o _ _ (HLD.o _ (ho7.o.setCells2 (by omega) _ _ _)) (fun _=>?_);clear hK K;(try simp only [Act.put,sxT]);refine wpAnyH_done (by kernel_rfl) ?_ _;go_wp2_with fail;go_roundw
     case rel=>exact ⟨j+1,y,by omega,by rw [HK.o];go_num,rfl,by go_num,HYV,η (by rw [←HQS.o];exact Ew.whole hp7.o _ _),η (hr7.o.setCells (by omega) _ _),η (ho7.o.setCells2 (by omega) _ _ _),η (hbb7.o.setCells2 (.inr (by omega)) _ _ _)⟩
     case measure=>simp [intOf];omega
    ·obtain rfl:j=16:=by omega
     have e16:((16:Nat):Int)=16:=rfl;rw [e16];clear e16;go_wp2;go_roundw
     case rel=>exact ⟨i+1,by omega,by rw [show 16*(i+1)=16*i+16 by omega],by go_num,η (by rw [show 16*(i+1)=16*i+16 by omega];exact hp2.o),hr2,ho2,hb2⟩
     case measure=>simp [intOf];omega
  ·obtain rfl:i=2:=by omega
   have HPV:Hid (Xw wr G (gMul e h)):=η (by rw [←HN.o];exact hp.o);obtain ⟨q,HQ⟩:∃ q,Hid (q=gMul e h):=⟨_,η rfl⟩;rw [←HQ.o] at HPV ⊢;clear hp;go_wp2_with (first | (refine AtQ rfl (.tmp 5) rfl G rfl q (by exact HPV.o) ?_) | (refine AnW rfl (.tmp 4) (.tmp 43) rfl (w.heap.size+1) rfl q 0 rfl (by exact hr.o) ?_));refine bodyPost_ret (v:=PE q) (res_pe rfl _ _ (w.heap.size+1) q rfl (Ew.whole hr.o _ _)) rfl ⟨by rw [HQ.o],?_,?_⟩
   ·exact hb.o.setCells2 (.inr (by omega)) _ _ _
   ·exact ho.o.setCells2 (by omega) _ _ _
end Go.Proofs.YthppjgdnibfefaaGreat
namespace Go.Proofs.YthppjgdnibfefaaGreat
open Tryz
open Go.RowKit
theorem EeQ (h f:Nat) (xs:List Nat) (i x:Nat) (hx:xs[i]?=some x):gMul (AjX h f (xs.take i) ^^^ x) h=AjX h f (xs.take (i+1)):=by
 rw [List.take_add_one,hx];exact (BsQ h x _ f).symm
attribute [local irreducible] PE gMul AjX Ho
theorem DkK (b h f:Nat) (d:Bool) (A:YA) (n c:Nat) (xs:List Nat) (w:World) (o:Ho w b h d) (hh:h<2 ^ 128) (hf:f<2 ^ 128) (hn:n≤maxLen) (hX:XE w w.heap.size A n xs) (hne:∀ g o,0<n→A=some ⟨g,o,none⟩→g≠b) :
  Calls prog 183 #[.pointer (some ⟨b,0,none⟩),PE f,.slice A n c] w (UseG (PE (AjX h f xs)) b h (d || decide (0<n)) w):=by
 have HO0:=η o
 have HX:=η hX
 have HNE:=η hne
 have HF:=η hf
 have HH:=η hh
 have hlen:=hX.1
 have hbG:b<w.heap.size:=o.lt
 obtain ⟨R,HR⟩:∃ R,Hid (R=AjX h f xs):=⟨_,η rfl⟩
 rw [←HR.o]
 clear o hX hne hf hh
 unfold maxLen at hn
 have hn2:n≤9223372036854775807:=by omega
 obtain ⟨G,HG⟩:∃ G,Hid (G=w.heap.size):=⟨_,η rfl⟩
 obtain ⟨W1,HW1⟩:∃ W1,Hid (W1=(w.alloc (.cells (es (f / 2 ^ 64) (f % 2 ^ 64)).toArray 247)).alloc (.cells #[.int .u64 0,.int .u64 0] 247)):=⟨_,η rfl⟩
 have HO1:Hid (Ho W1 b h (d || decide (0<0))):=η (by rw [HW1.o,show (d || decide (0<0))=d by simp];exact (HO0.o.alloc _).alloc _)
 have HP1:Hid (Xw W1 G f):=η (by rw [HW1.o,HG.o];exact Ew.alloc (Ew.new w _ _ _ rfl) _)
 have HR1:Hid (Xw W1 (G+1) 0):=η (by rw [HW1.o,HG.o];exact Ew.new _ 0 0 _ (by simp))
 have HB1:Hid (But b w W1):=η (by rw [HW1.o];exact ((But.refl b w).alloc _).alloc _)
 have HT0:Hid (f=AjX h f (xs.take 0)):=η (by rw [List.take_zero];unfold AjX;rfl)
 go_enter func183,ntmps183
 go_wp2_with (refine ByK rfl _ (.tmp 1) rfl f rfl ?_)
 show Code.wp _ _ _ _ ((w.alloc (.cells (es (f / 2 ^ 64) (f % 2 ^ 64)).toArray 247)).alloc (.cells #[.int .u64 0,.int .u64 0] 247))
 rw [←HW1.o,←HG.o]
 have hbG':b<G:=by rw [HG.o];exact hbG
 have hwG:w.heap.size≤G:=by rw [HG.o];exact Nat.le_refl _
 clear HW1
 go_loopw [11] (fun t wr=>∃ i q:Nat,i≤n∧t=.int .i64 i∧Hid (q=AjX h f (xs.take i)∧q<2 ^ 128)∧Hid (Xw wr G q)∧Hid (Xw wr (G+1) 0)∧Hid (Ho wr b h (d || decide (0<i)))∧Hid (But b w wr)) (fun t _=>n - (intOf t).toNat)
 case atStart=>exact ⟨0,f,by omega,rfl,η ⟨HT0.o,HF.o⟩,HP1,HR1,HO1,HB1⟩
 case round =>
  obtain ⟨i,q,hi,rfl,hv,hp,hr,ho,hb⟩:=hrel;clear HO1 HP1 HR1 HB1;by_cases hlt:i<n
  ·obtain ⟨g,p,rfl,hg,hcx⟩:=HX.o.2.2 (by omega)
   obtain ⟨x,hx2⟩:∃ x,xs[i]?=some x:=⟨_,List.getElem?_eq_getElem (by omega)⟩;have HLX:=η (HX.o.2.1 i x hx2);have hgb:g≠b:=HNE.o g p (by omega) rfl;have HCX:Hid (wr.rangeAt g (p+i*2) (es (x / 2 ^ 64) (x % 2 ^ 64))):=η (fun j v hv=>(hb.o.cell (p:=⟨g,p+i*2+j,none⟩) hg hgb).trans (hcx i x hx2 j v hv));obtain ⟨s,HS⟩:∃ s,Hid (s=q ^^^ x∧s<2 ^ 128):=⟨_,η ⟨rfl,Nat.xor_lt_two_pow hv.o.2 HLX.o⟩⟩;obtain ⟨q',HQ'⟩:∃ q',Hid (q'=gMul s h∧q'<2 ^ 128):=⟨_,η ⟨rfl,CqQ _ _ HS.o.2⟩⟩;have HV:Hid (q'=AjX h f (xs.take (i+1))):=η (by rw [HQ'.o.1,HS.o.1,hv.o.1];exact EeQ h f xs i x hx2);have HSM:Hid (∀ v:World,Calls prog 207 #[.slice (some ⟨v.heap.size,0,none⟩) 2 2] (v.alloc (.cells (es (q / 2 ^ 64) (q % 2 ^ 64)++es (x / 2 ^ 64) (x % 2 ^ 64)).toArray 247)) fun e w'=>e=.returned (PE s)∧Below v.heap.size v w'):=η (fun v=>by rw [HS.o.1];exact EkY q x v hv.o.2 HLX.o);have HTM:Hid (∀ v dd,Ho v b h dd→Calls prog 206 #[.pointer (some ⟨b,0,none⟩),PE s] v (UseG (PE q') b h true v)):=η (fun v dd hv=>by rw [HQ'.o.1];exact times_gh b h s dd v hv HS.o.2);clear hx2 hcx;obtain ⟨W4,HW4⟩:∃ W4,Hid (W4=(wr.alloc (.cells #[.int .u64 0,.int .u64 0] 247)).setCells wr.heap.size 0 (es (x / 2 ^ 64) (x % 2 ^ 64))):=⟨_,η rfl⟩;have hsr:G+1<wr.heap.size:=hr.o.lt;have HO4:Hid (Ho W4 b h (d || decide (0<i))):=η (by rw [HW4.o];exact (ho.o.alloc _).setCells2 (by omega) _ _ _);have HP4:Hid (Xw W4 G q):=η (by rw [HW4.o];exact Ew.setCells (Ew.alloc hp.o _) (by omega) _ _);have HR4:Hid (Xw W4 (G+1) 0):=η (by rw [HW4.o];exact Ew.setCells (Ew.alloc hr.o _) (by omega) _ _);have HX4:Hid (Xw W4 wr.heap.size x):=η (by rw [HW4.o];exact Ew.whole (Ew.new wr 0 0 _ rfl) _ _);have HB4:Hid (But b w W4):=η (by rw [HW4.o];exact (hb.o.alloc _).setCells2 (.inr (by omega)) _ _ _);go_wp2_with (first | (refine CgZ rfl (.tmp 13) rfl g (p+i*2) rfl x (by exact HCX.o) ?_) | (refine AnW rfl (.tmp 8) (.tmp 14) rfl wr.heap.size rfl x 0 rfl (by exact Ew.new wr 0 0 _ rfl) ?_;show wpList _ _ _ _ _ ((wr.alloc (.cells #[.int .u64 0,.int .u64 0] 247)).setCells wr.heap.size 0 (es (x / 2 ^ 64) (x % 2 ^ 64)));rw [←HW4.o]) | (refine AtQ rfl (.tmp 4) rfl G rfl q (by exact HP4.o) ?_) | (refine AtQ rfl (.tmp 8) rfl wr.heap.size rfl x (by exact HX4.o) ?_) | (go_at_call 207;refine (HSM.o _).mono ?_;rintro e w5 ⟨rfl,hb5⟩;have HO5:=η (HO4.o.keep hb5);have HP5:=η (HP4.o.keep hb5);have HR5:=η (HR4.o.keep hb5);have HB5:=η (HB4.o.trans (But.of_below hb5));clear hb5) | (go_at_call 206;refine (HTM.o _ _ HO5.o).mono ?_;rintro e w6 ⟨rfl,hb6,ho6⟩;have HO6:=η ho6;have HP6:=η (HP5.o.but hb6 (by omega));have HR6:=η (HR5.o.but hb6 (by omega));have HB6:=η (HB5.o.trans hb6);clear hb6 ho6) | (refine AnW rfl (.tmp 4) (.tmp 20) rfl G rfl q' q rfl (by exact HP6.o) ?_));go_roundw
   case rel=>exact ⟨i+1,q',by omega,by go_num,η ⟨HV.o,HQ'.o.2⟩,η (Ew.whole HP6.o _ _),η (HR6.o.setCells (by omega) _ _),η (by rw [show (d || decide (0<i+1))=true by simp];exact HO6.o.setCells2 (by omega) _ _ _),η (HB6.o.setCells2 (.inr (by omega)) _ _ _)⟩
   case measure=>simp [intOf];omega
  ·have he60:i=n:=by omega
   subst he60;have HRQ:Hid (R=q):=η (by have h1:=hv.o.1;rw [List.take_of_length_le (by omega)] at h1;rw [HR.o,h1]);go_wp2_with (first | (refine AtQ rfl (.tmp 4) rfl G rfl q (by exact hp.o) ?_) | (refine AnW rfl (.tmp 6) (.tmp 22) rfl (G+1) rfl q 0 rfl (by exact hr.o) ?_));refine bodyPost_ret (v:=PE q) (res_pe rfl _ _ (G+1) q rfl (Ew.whole hr.o _ _)) rfl ⟨by rw [HRQ.o],?_,?_⟩
   ·exact hb.o.setCells2 (.inr (by omega)) _ _ _
   ·exact ho.o.setCells2 (by omega) _ _ _
