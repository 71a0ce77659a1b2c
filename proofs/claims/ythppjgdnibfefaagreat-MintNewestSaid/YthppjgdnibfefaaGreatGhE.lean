import Derived.RangeFuncNested
import Derived.RangeFuncBound
import Derived.RangeFuncCalls
import Derived.RangeFuncLeaves
import Derived.Shelf.Abstract
import Derived.Shelf.RegionOpen
import Derived.OwnWalkIn
import Derived.TacticsInMore
import Derived.LoopNIn
import Derived.LoopIn
import Derived.Test.YthppjgdnibfefaaGreatRefGhash
set_option linter.all false
set_option maxRecDepth 100000
set_option maxHeartbeats 32000000
namespace Go.Proofs.YthppjgdnibfefaaGreat
open Tryz
open Go.RowKit Go.Shelf
def wSh (v i:Nat):Nat:=v*2 ^ i % 2 ^ 64
theorem up_two:prog.underlying 298=some (.array 2 22):=by kernel_rfl
theorem EvW (a b:Int) (w:World):(Instr.index 298 (.agg #[.int .u64 a,.int .u64 b]) (.int .i64 0)).run prog w=.ok (.int .u64 a) w:=by
 simp [Instr.index,run_underlying up_two,asIntOf,go_sem]
theorem EvV (a b:Int) (w:World):(Instr.index 298 (.agg #[.int .u64 a,.int .u64 b]) (.int .i64 1)).run prog w=.ok (.int .u64 b) w:=by
 simp [Instr.index,run_underlying up_two,asIntOf,go_sem]
attribute [local go_sem] EvW EvV
attribute [local irreducible] co coF hl wSh
attribute [local go_sem] Oper.semAt_some
section
variable {F:Fence} {n:Nat} {w:World} {ops:Array Oper} {rest:List Oper} {o:Oper} {a:Act} {Q:Exit→Act→World→Prop}
theorem CsY (hgd:o.guard=none) (x:Operand) (hop:o.op=.load 247 x) (g:Nat) (hx:a.eval x=.pointer (some ⟨g,0,none⟩)) (h l:Nat) (hc:Ew w g h l)
  (hk:wpListIn F n prog ops Q rest (a.put o.dst (EV h l)) w):wpListIn F n prog ops Q (o::rest) a w:=by
 obtain ⟨d,hu,hd⟩:=AvZ
 refine wpListIn_plain hgd fun K hK=>⟨fun f hf=>?_,?_⟩
 ·simp [Oper.about,hop] at hf
 ·rw [Oper.semAt_eq _ _ _ (by simp [hop])]
  unfold execOp;simp only [hop,hx,Instr.loadAt,Instr.sureAddr,Sem.run_bind,Sem.run_pure,Result.andThen_ok,run_loadVar_mid (P:=prog) w g 0 _ (es h l) d hc.1 hu hd AuQ];exact hK _ _ hk
theorem CsW (hgd:o.guard=none) (x y:Operand) (hop:o.op=.store 247 x y) (g:Nat) (hx:a.eval x=.pointer (some ⟨g,0,none⟩)) (h l h0 l0:Nat) (hy:a.eval y=EV h l) (hc:Ew w g h0 l0)
  (hk:wpListIn F n prog ops Q rest (a.put o.dst undef) (w.setCells g 0 (es h l))):wpListIn F n prog ops Q (o::rest) a w:=by
 refine wpListIn_plain hgd fun K hK=>⟨fun f hf=>?_,?_⟩
 ·simp [Oper.about,hop] at hf
 ·rw [Oper.semAt_eq _ _ _ (by simp [hop])]
  unfold execOp;have hy':a.eval y=.agg (es h l).toArray:=hy;simp only [hop,hx,hy',Instr.storeAt,Instr.sureAddr,Sem.run_bind,Sem.run_pure,Result.andThen_ok,run_storeVar_mid (P:=prog) w g 0 _ (es h l).toArray hc.2 AuQ (EyW h l)];exact hK _ _ (by simpa using hk)
theorem run_two (w:World) (h l h' l':Nat):(Instr.buildSlice 270 2 #[(0,EV h l),(1,EV h' l')]).run prog w=.ok (.slice (some ⟨w.heap.size,0,none⟩) 2 2) (w.alloc (.cells (es h l++es h' l').toArray 247)):=by unfold EV es;go_simp
end
end Go.Proofs.YthppjgdnibfefaaGreat
namespace Go.Proofs.YthppjgdnibfefaaGreat
open Tryz
open Go.RowKit Go.Shelf
theorem hl_up (p q:Nat) (hq:q<2 ^ 64):hl p q / 2 ^ 64=p∧hl p q % 2 ^ 64=q:=by unfold hl;omega
theorem gSum_nil (s:Nat):gSum [] s=s:=rfl
attribute [local irreducible] hl gSum
theorem two_xe (ph pl eh el:Nat) (h1:ph<2 ^ 64) (h2:pl<2 ^ 64) (h3:eh<2 ^ 64) (h4:el<2 ^ 64) (w:World) :
  XE (w.alloc (.cells (es ph pl++es eh el).toArray 247)) (w.heap.size+1) (some ⟨w.heap.size,0,none⟩) 2 [hl ph pl,hl eh el]:=by
 have up:=hl_up ph pl h2
 have ue:=hl_up eh el h4
 refine ⟨rfl,?_,fun _=>⟨w.heap.size,0,rfl,Nat.lt_succ_self _,?_⟩⟩
 ·intro i x hx
  match i,hx with
  | 0,hx=>injection hx with hx;rw [←hx];exact EwV _ _ h1 h2
  | 1,hx=>injection hx with hx;rw [←hx];exact EwV _ _ h3 h4
 ·intro i x hx j v hv
  rw [cell_of_row (w.alloc (.cells (es ph pl++es eh el).toArray 247)) w.heap.size _ _ 247 (0,0) (heap_alloc_new w _)]
  match i,hx with
  | 0,hx =>
   injection hx with hx;rw [←hx,up.1,up.2] at hv
   match j,hv with
   | 0,hv=>exact hv
   | 1,hv=>exact hv
  | 1,hx =>
   injection hx with hx;rw [←hx,ue.1,ue.2] at hv
   match j,hv with
   | 0,hv=>exact hv
   | 1,hv=>exact hv
theorem gSum_two (ph pl eh el:Nat) (h2:pl<2 ^ 64) (h4:el<2 ^ 64):gSum [hl ph pl,hl eh el] 0=hl (ph ^^^ eh) (pl ^^^ el):=by
 have e1:gSum [hl ph pl] 0=gSum [] 0 ^^^ hl ph pl:=CcZ [] (hl ph pl) 0
 have e2:gSum [hl ph pl,hl eh el] 0=gSum [hl ph pl] 0 ^^^ hl eh el:=CcZ [hl ph pl] (hl eh el) 0
 rw [e2,e1,gSum_nil,Nat.zero_xor,DuK _ _ _ _ h2 h4]
theorem sum_two (ph pl eh el:Nat) (h1:ph<2 ^ 64) (h2:pl<2 ^ 64) (h3:eh<2 ^ 64) (h4:el<2 ^ 64) (w:World) :
  Calls prog 207 #[.slice (some ⟨w.heap.size,0,none⟩) 2 2] (w.alloc (.cells (es ph pl++es eh el).toArray 247)) fun e w'=>e=.returned (EV (ph ^^^ eh) (pl ^^^ el))∧Below w.heap.size w w':=by
 refine (psum_any (some ⟨w.heap.size,0,none⟩) 2 2 [hl ph pl,hl eh el] _ (by unfold maxLen;omega) (by rw [World.size_alloc];exact two_xe ph pl eh el h1 h2 h3 h4 w)).mono ?_
 rintro e w' ⟨rfl,hb⟩
 refine ⟨?_,(AaK w _).trans (hb.mono (by simp))⟩
 rw [gSum_two _ _ _ _ h2 h4,EqY _ _ (Nat.xor_lt_two_pow h2 h4)]
theorem AxQ {W W':World} (hb:Below W.heap.size W W'):KeepsOthers W W':=⟨hb.size,fun k o hk _=>(hb.block k (Array.getElem?_eq_some_iff.1 hk).1).trans hk⟩
theorem EeK (a k:Nat):AgX a (k+1)=AqV (AgX a k):=rfl
attribute [local irreducible] PE gMul gUp AgX AqV co coF
attribute [local go_sem] Oper.semAt_some
end Go.Proofs.YthppjgdnibfefaaGreat
namespace Go.Proofs.YthppjgdnibfefaaGreat
open Tryz
def nib (e k:Nat):Nat:=e / 2 ^ (124 - 4*k) % 16
def gTab (h k i:Nat):Nat:=gMul (i*2 ^ (124 - 4*k)) h
def nSum (h e:Nat):Nat→Nat | 0=>0 | k+1=>nSum h e k ^^^ gTab h k (nib e k)
theorem nib_lt (e k:Nat):nib e k<16:=Nat.mod_lt _ (by omega)
theorem xor_join (n a b:Nat) (hb:b<2 ^ n):(a*2 ^ n) ^^^ b=a*2 ^ n+b:=by
 rw [Nat.mul_comm]
 apply Nat.eq_of_testBit_eq
 intro j
 rw [Nat.testBit_xor,Nat.testBit_two_pow_mul_add _ hb,Nat.testBit_two_pow_mul]
 by_cases hj:j<n
 ·rw [if_pos hj]
  have:¬n≤j:=by omega
  simp [this]
 ·rw [if_neg hj]
  have h1:n≤j:=by omega
  have h2:b.testBit j=false:=Nat.testBit_lt_two_pow (Nat.lt_of_lt_of_le hb (Nat.pow_le_pow_right (by omega) h1));simp [h1,h2]
theorem top_nib (e k:Nat) (hk:k<32):e / 2 ^ (124 - 4*k)*2 ^ (124 - 4*k)=(e / 2 ^ (124 - 4*k+4)*2 ^ (124 - 4*k+4)) ^^^ (nib e k*2 ^ (124 - 4*k)):=by
 unfold nib
 generalize 124 - 4*k=m
 have hlt:e / 2 ^ m % 16*2 ^ m<2 ^ (m+4):=by
  rw [Nat.pow_add,Nat.mul_comm (2 ^ m)];exact Nat.mul_lt_mul_of_pos_right (Nat.mod_lt _ (by omega)) (Nat.pow_pos (by omega))
 rw [xor_join (m+4) _ _ hlt,Nat.pow_add,←Nat.div_div_eq_div_mul]
 generalize e / 2 ^ m=q
 rw [Nat.mul_comm (2 ^ m) (2 ^ 4),←Nat.mul_assoc,←Nat.add_mul]
 congr 1
 omega
theorem DsZ (h e:Nat) (he:e<2 ^ 128):∀ k,k≤32→nSum h e k=gMul (e / 2 ^ (128 - 4*k)*2 ^ (128 - 4*k)) h
 | 0,_=>by
  rw [show e / 2 ^ (128 - 4*0)=0 from Nat.div_eq_of_lt he,Nat.zero_mul,BsK]
  rfl
 | k+1,hk=>by
  rw [nSum,DsZ h e he k (by omega),gTab,←BnQ,show 128 - 4*k=124 - 4*k+4 by omega,←top_nib e k (by omega),show 128 - 4*(k+1)=124 - 4*k by omega]
theorem nSum_all (h e:Nat) (he:e<2 ^ 128):nSum h e 32=gMul e h:=by
 rw [DsZ h e he 32 (by omega),show 128 - 4*32=0 from rfl,Nat.pow_zero,Nat.div_one,Nat.mul_one]
theorem DcJ (h k:Nat):gTab h k 0=0:=by unfold gTab;rw [Nat.zero_mul,BsK]
theorem CqK (h k i:Nat) (hk:k<32) (hi:i<16):gTab h k i<2 ^ 128:=by
 refine CqQ _ _ ?_
 have h1:i*2 ^ (124 - 4*k)<16*2 ^ (124 - 4*k):=Nat.mul_lt_mul_of_pos_right hi (Nat.pow_pos (by omega))
 have h2:16*2 ^ (124 - 4*k)≤2 ^ 128:=by
  rw [show (16:Nat)=2 ^ 4 from rfl,←Nat.pow_add];exact Nat.pow_le_pow_right (by omega) (by omega)
 omega
theorem gTab_xor (h k i j:Nat):gTab h k (i ^^^ j)=gTab h k i ^^^ gTab h k j:=by
 unfold gTab
 have e:(i ^^^ j)*2 ^ (124 - 4*k)=(i*2 ^ (124 - 4*k)) ^^^ (j*2 ^ (124 - 4*k)):=by
  generalize 124 - 4*k=m;rw [←Nat.shiftLeft_eq,←Nat.shiftLeft_eq,←Nat.shiftLeft_eq,Nat.shiftLeft_xor_distrib]
 rw [e,BnQ]
theorem gTab_bit (h k b:Nat) (hh:h<2 ^ 128) (hk:k<32) (hb:b<4):gTab h k (2 ^ (3 - b))=AgX h (4*k+b):=by
 unfold gTab
 have e:2 ^ (3 - b)*2 ^ (124 - 4*k)=gE (4*k+b):=by
  unfold gE;rw [←Nat.pow_add];congr 1;omega
 rw [e,←CqV (4*k+b) (by omega),CdJ,BnK h hh]
open Go.RowKit
def eC (x:Nat):List Value:=es (x / 2 ^ 64) (x % 2 ^ 64)
theorem cells_pe:CellsOf 247 270 2 16 (.agg #[.int .u64 0,.int .u64 0]) eC :=
 ⟨underlying270,by kernel_rfl,rfl,by omega,fun x=>rfl,fun x u hu=>by
  simp only [eC,es,List.mem_cons,List.not_mem_nil,or_false] at hu
  rcases hu with rfl | rfl <;> rfl⟩
abbrev OwnE (w:World) (base:Nat) (A:YA) (n c:Nat) (xs:List Nat):Prop:=OwnX 247 2 eC w base A n c xs
theorem OwnX.form2 {T:TypeId} {k:Nat} {f:Nat→List Value} {w:World} {base n c:Nat} {A:YA} {xs:List Nat} (h:OwnX T k f w base A n c xs) (hn:0<n):∃ g,A=some ⟨g,0,none⟩:=by
 rcases h.1.2 with ⟨_,h0⟩ | ⟨g,cap,cur,hv,_⟩
 ·omega
 ·injection hv with hA
  exact ⟨g,hA⟩
theorem OwnE.xe {w:World} {base n c:Nat} {A:YA} {xs:List Nat} (h:OwnE w base A n c xs) (hx:∀ (i x:Nat),xs[i]?=some x→x<2 ^ 128):XE w w.heap.size A n xs:=by
 refine ⟨h.2,hx,fun hn=>?_⟩
 obtain ⟨g,rfl⟩:=OwnX.form2 h hn
 have hg:g<w.heap.size:=(World.ownsRow.lt h.1 g rfl).2
 refine ⟨g,0,rfl,hg,fun i x hi=>?_⟩
 obtain ⟨g2,e,_,_,hr⟩:=OwnX.at_ h (fun x=>rfl) hi
 injection e with e
 injection e with e
 subst e
 rw [Nat.zero_add]
 exact hr
theorem DpK (w:World) (h l:Nat):(Instr.buildSlice 270 1 #[(0,EV h l)]).run prog w=.ok (.slice (some ⟨w.heap.size,0,none⟩) 1 1) (w.alloc (.cells (es h l).toArray 247)):=by unfold EV es;go_simp
theorem EcX (w:World) (n:Nat):∀ j u,([n].flatMap eC)[j]?=some u→(w.alloc (.cells (eC n).toArray 247)).cell? ⟨w.heap.size,j,none⟩=some u:=by
 intro j u hu
 rw [World.cell?_alloc_at _ _ _ _ rfl]
 simpa using hu
open Go.RowKit
attribute [local irreducible] co tvs bB PE AqW
