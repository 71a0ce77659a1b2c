import Derived.Test.YthppjgdnibfefaaGreatMiT
set_option linter.all false
set_option maxRecDepth 100000
set_option maxHeartbeats 32000000
namespace Go.Proofs.YthppjgdnibfefaaGreat
open Tryz
open Go.RowKit
theorem AiQ {w:World} {ops:Array Oper} {rest:List Oper} {o:Oper} {a:Act} {Q:Exit→Act→World→Prop} (hgd:o.guard=none) (T:TypeId) (x:Operand) (hop:o.op=.box T x) (q:Cm) (hx:a.eval x=q.val)
  (hk:∀ w' b,Blk T w' b q.cells→Below w.heap.size w w'→w.heap.size≤b→wpList prog ops Q rest (a.put o.dst (.pointer (some ⟨b,0,none⟩))) w'):wpList prog ops Q (o::rest) a w:=AeV hgd T x hop q.cells hx hk
theorem AnJ {w:World} {ops:Array Oper} {rest:List Oper} {o:Oper} {a:Act} {Q:Exit→Act→World→Prop} {T T':TypeId} (rt:RT T zCm) (hgd:o.guard=none) (x y:Operand) (hop:o.op=.store T x y) (g:Nat) (hx:a.eval x=.pointer (some ⟨g,0,none⟩)) (q:Cm) (hy:a.eval y=q.val) (hc:Blk T' w g zCm)
  (hk:∀ w',Blk T' w' g q.cells→Oth [g] w w'→w'.heap.size=w.heap.size→wpList prog ops Q rest (a.put o.dst undef) w'):wpList prog ops Q (o::rest) a w :=
 AtK rt hgd x y hop g 0 hx zCm q.cells hy (cm_ones q) rfl hc (Nat.le_refl 15) (fun w' h1=>hk w' h1)
theorem AiK {w:World} {ops:Array Oper} {rest:List Oper} {o:Oper} {a:Act} {Q:Exit→Act→World→Prop} {T:TypeId} (rt:RT T zCm) (hgd:o.guard=none) (x:Operand) (hop:o.op=.load T x) (g k:Nat) (hx:a.eval x=.pointer (some ⟨g,k,none⟩)) (q:Cm) (hr:w.rangeAt g k q.cells)
  (hk:wpList prog ops Q rest (a.put o.dst q.val) w):wpList prog ops Q (o::rest) a w:=BfV rt hgd x hop g k hx q.cells hr rfl hk
section
variable {T T':TypeId} {w:World} {b:Nat} {q:Cm}
theorem cm0 (h:Blk T w b q.cells):w.cell? ⟨b,0,none⟩=some (.int .i64 q.t):=h.cell 0
theorem cm1 (h:Blk T w b q.cells):w.cell? ⟨b,1,none⟩=some (.int .i64 q.q):=h.cell 1
theorem cm6 (h:Blk T w b q.cells):w.cell? ⟨b,6,none⟩=some (.slice q.A q.cl.length q.a):=h.cell 6
theorem cm7 (h:Blk T w b q.cells):w.cell? ⟨b,7,none⟩=some (.slice q.B q.rl.length q.b):=h.cell 7
theorem cm10 (h:Blk T w b q.cells):w.cell? ⟨b,10,none⟩=some (.slice q.i.h.A q.i.h.a.length q.i.h.c):=h.cell 10
theorem cm11 (h:Blk T w b q.cells):w.cell? ⟨b,11,none⟩=some (.slice q.i.h.B q.i.h.b.length q.i.h.d):=h.cell 11
theorem cm12 (h:Blk T w b q.cells):w.cell? ⟨b,12,none⟩=some (.slice q.i.T q.i.t.length q.i.e):=h.cell 12
theorem cm13 (h:Blk T w b q.cells):w.cell? ⟨b,13,none⟩=some (.slice q.i.R q.i.r.length q.i.g):=h.cell 13
theorem cm14 (h:Blk T w b q.cells):w.cell? ⟨b,14,none⟩=some (.int .u64 (q.now:Int)):=h.cell 14
theorem CcJ (h:Blk T w b q.cells):ldHd 46 (.pointer (some ⟨b,8,none⟩)) w=.ok (.value q.i.val) w:=CgK AoW (k:=8) (cs:=q.cells) (vs:=q.i.cells) h rfl rfl
theorem ldCm_p (h:Blk T w b q.cells):ldHd 24 (.pointer (some ⟨b,2,none⟩)) w=.ok (.value q.p.val) w:=CgK ApX (k:=2) (cs:=q.cells) (vs:=q.p.cells) h rfl rfl
theorem CpJ (h:Blk T w b q.cells):ldHd 48 (.pointer (some ⟨b,0,none⟩)) w=.ok (.value q.val) w:=CgK AsY (cs:=q.cells) (vs:=q.cells) h rfl rfl
end
theorem DkY (ev:Operand→Value) (x:Operand) (d:Option Tmp) (ty:TypeId) (ps:String) (af:Array Edge) (g:Option (Nat×Bool)) (w:World):(execOp ev ⟨d,.load 48 x,ty,ps,af,g⟩).run prog w=ldHd 48 (ev x) w:=rfl
attribute [local go_sem ↓] BsW DkX BnZ BsX
structure EP (T:TypeId):Prop where
 u:prog.underlying T=some (.struct (prog.fieldsOf T))
 h:prog.stoodInHeld T=false
 f : (prog.fieldsOf T).toList.map (fun f => (f.name == "_", f.type, f.offset)) = [(false, 3, 0), (false, 4, 1), (false, 3, 2), (false, 22, 3)]
 g:prog.eqGuardType prog.depth T=false
theorem ep_rpn:EP 35:=⟨by kernel_rfl,by kernel_rfl,by kernel_rfl,by kernel_rfl⟩
theorem CoV {t:TypeId} (hp:prog.plainKey t=true) (p:Pn) (o:Nat) (v:Value) (w:World) (h:p.cells[o]?=some v):(part t p.cells.toArray o).run prog w=.ok v w:=run_part_plain w hp (by simpa using h)
theorem eq_pn {T:TypeId} (ep:EP T) (p:Pn) (n:Nat) (w:World):(Op.equalIn (n+3) T (.agg p.cells.toArray) (.agg p.cells.toArray)).run prog w=.ok true w:=by
 rw [run_equalIn_struct w (n+2) T _ _ ep.u ep.h]
 have hf:=ep.f
 generalize (prog.fieldsOf T).toList=fs at hf
 have hl4:fs.length=4:=by have:=congrArg List.length hf;simpa using this
 have pi:prog.plainKey 3=true:=by simp [Program.plainKey,underlying3]
 have pb:prog.plainKey 4=true:=by simp [Program.plainKey,underlying4]
 have pu:prog.plainKey 22=true:=by simp [Program.plainKey,underlying22]
 match fs,hl4,hf with
 | [f0,f1,f2,f3],_,hf =>
  simp only [List.map_cons,List.map_nil,List.cons.injEq,Prod.mk.injEq,and_true] at hf;obtain ⟨⟨n0,t0,o0⟩,⟨n1,t1,o1⟩,⟨n2,t2,o2⟩,n3,t3,o3⟩:=hf;have m0 : f0.name ≠ "_" := by simpa using n0
  have m1 : f1.name ≠ "_" := by simpa using n1
  have m2 : f2.name ≠ "_" := by simpa using n2
  have m3 : f3.name ≠ "_" := by simpa using n3
  simp only [Op.eqFields,m0,m1,m2,m3,ne_eq,not_false_eq_true,if_true,t0,o0,t1,o1,t2,o2,t3,o3,Sem.run_bind,CoV pi p 0 _ w rfl,CoV pb p 1 _ w rfl,CoV pi p 2 _ w rfl,CoV pu p 3 _ w rfl,Result.andThen_ok,run_equalIn_int w _ _ _ _ _ _ underlying3,run_equalIn_int w _ _ _ _ _ _ underlying22,run_equalIn_bool w _ _ _ _ underlying4,beq_self_eq_true,Bool.not_true,Bool.false_eq_true,if_false,Sem.run_pure]
theorem eql_pn (p:Pn) (w:World):(binOp .eql 35 p.val p.val).run prog w=.ok (.bool true) w:=by
 have h:=eq_pn ep_rpn p 9997 w
 show (binOp .eql 35 (.agg p.cells.toArray) (.agg p.cells.toArray)).run prog w=.ok (.bool true) w
 rw [run_eql_struct,show (10000:Nat)=9997+3 from rfl,h]
 rfl
theorem eg_pn (op:BinOp) (x y:Operand) (p q:Pn) (w:World):(eqGuard op 35 x y p.val q.val).run prog w=.ok () w:=run_eqGuard_agg w op _ x y _ _ (by kernel_rfl)
attribute [local irreducible] AdQ AjZ seqT fstT AcJ outM AiX AlJ retR newR AfV AbQ
theorem AnV (A:YA) (n c:Nat) (ks:List Cm) (w:World) (h:CMs w A n ks) (hn:n≤maxLen) :
  Calls prog 10 #[.slice A n c] w fun e w'=>∃ v,e=.returned (.bool v)∧Below w.heap.size w w'∧(v=false→n≤60∧∀ k∈ks,k.sm):=by
 have H:=η h
 clear h
 unfold maxLen at hn
 by_cases hg:(n:Int)>60
 ·have d1:decide ((n:Int)>60)=true:=decide_eq_true hg
  go_enter func10,ntmps10;go_wp2_with fail;go_ret;exact ⟨true,rfl,Below.refl _ _,fun e=>by cases e⟩
 have d1:decide ((n:Int)>60)=false:=decide_eq_false hg
 have hn60:n≤60:=by omega
 clear hg hn
 go_enter func10,ntmps10
 go_wp2_with fail
 go_loopw [3] (fun i wr=>∃ k:Nat,k≤n∧i=.int .i64 (k:Int)∧Hid (Below w.heap.size w wr)∧Hid (∀ j e,j<k→ks[j]?=some e→e.sm)) (fun i _=>n - (intOf i).toNat)
 case atStart=>exact ⟨0,by omega,rfl,η (Below.refl _ _),η (fun j e hj=>absurd hj (by omega))⟩
 case round =>
  obtain ⟨k,hk,rfl,HB,HK⟩:=hrel;by_cases hlt:k<n
  ·obtain ⟨b,o,e0,rfl,he,hm0,hok,hrg⟩:=(H.o.step HB.o).at_ hlt
   have HE:=η he;have HRG:=η hrg;have hx0:e0.cl.length≤9223372036854775807:=by have h1:=hok.cc.1;have h2:=hok.cc.2;unfold maxLen at h2;omega
   have hx1:e0.rl.length≤9223372036854775807:=by have h1:=hok.cr.1;have h2:=hok.cr.2;unfold maxLen at h2;omega
   have hx2:e0.i.h.a.length≤9223372036854775807:=by have h1:=hok.i.h.ca.1;have h2:=hok.i.h.ca.2;unfold maxLen at h2;omega
   have hx3:e0.i.h.b.length≤9223372036854775807:=by have h1:=hok.i.h.cb.1;have h2:=hok.i.h.cb.2;unfold maxLen at h2;omega
   have hx4:e0.i.t.length≤9223372036854775807:=by have h1:=hok.i.ct.1;have h2:=hok.i.ct.2;unfold maxLen at h2;omega
   have hx5:e0.i.r.length≤9223372036854775807:=by have h1:=hok.i.cr.1;have h2:=hok.i.cr.2;unfold maxLen at h2;omega
   clear he hok hrg hm0;by_cases g0:(e0.cl.length:Int)>100
   ·have d20:decide ((e0.cl.length:Int)>100)=true:=decide_eq_true g0
    clear g0
    go_wp2_with (first
     | (with_reducible show wpList _ _ _ (⟨some 17,.load _ _,_,_,_,none⟩::_) _ _;refine AiK AsY rfl (.tmp 16) rfl b (o+k*15) rfl e0 (by exact HRG.o) ?_)
     | (with_reducible show wpList _ _ _ (⟨some 4,.alloc _,_,_,_,none⟩::_) _ _;refine AbJ AsY rfl rfl ?_;intro w1 p hc1 hb1 hx1;have H1:=η (And.intro hc1 (And.intro hb1 hx1));clear hc1 hb1 hx1)
     | (with_reducible show wpList _ _ _ (⟨none,.store _ (.tmp 4) (.tmp 17),_,_,_,none⟩::_) _ _;refine AnJ AsY rfl (.tmp 4) (.tmp 17) rfl p rfl e0 rfl (by exact H1.o.1) ?_;intro w2 hc1 ho1 hs1;have B2:=η (AaJ HB.o (AeJ H1.o.2.1 H1.o.2.2 ho1));have q6:=cm6 hc1;have q7:=cm7 hc1;have q10:=cm10 hc1;have q11:=cm11 hc1;have q12:=cm12 hc1;have q13:=cm13 hc1;clear hc1 ho1 hs1 H1))
    go_ret;exact ⟨true,rfl,B2.o,fun e=>by cases e⟩
   have d20:decide ((e0.cl.length:Int)>100)=false:=decide_eq_false g0;by_cases g1:(e0.rl.length:Int)>100
   ·have d21:decide ((e0.rl.length:Int)>100)=true:=decide_eq_true g1
    clear g0 g1
    go_wp2_with (first
     | (with_reducible show wpList _ _ _ (⟨some 17,.load _ _,_,_,_,none⟩::_) _ _;refine AiK AsY rfl (.tmp 16) rfl b (o+k*15) rfl e0 (by exact HRG.o) ?_)
     | (with_reducible show wpList _ _ _ (⟨some 4,.alloc _,_,_,_,none⟩::_) _ _;refine AbJ AsY rfl rfl ?_;intro w1 p hc1 hb1 hx1;have H1:=η (And.intro hc1 (And.intro hb1 hx1));clear hc1 hb1 hx1)
     | (with_reducible show wpList _ _ _ (⟨none,.store _ (.tmp 4) (.tmp 17),_,_,_,none⟩::_) _ _;refine AnJ AsY rfl (.tmp 4) (.tmp 17) rfl p rfl e0 rfl (by exact H1.o.1) ?_;intro w2 hc1 ho1 hs1;have B2:=η (AaJ HB.o (AeJ H1.o.2.1 H1.o.2.2 ho1));have q6:=cm6 hc1;have q7:=cm7 hc1;have q10:=cm10 hc1;have q11:=cm11 hc1;have q12:=cm12 hc1;have q13:=cm13 hc1;clear hc1 ho1 hs1 H1))
    go_ret;exact ⟨true,rfl,B2.o,fun e=>by cases e⟩
   have d21:decide ((e0.rl.length:Int)>100)=false:=decide_eq_false g1;by_cases g2:(e0.i.h.a.length:Int)>100
   ·have d22:decide ((e0.i.h.a.length:Int)>100)=true:=decide_eq_true g2
    clear g0 g1 g2
    go_wp2_with (first
     | (with_reducible show wpList _ _ _ (⟨some 17,.load _ _,_,_,_,none⟩::_) _ _;refine AiK AsY rfl (.tmp 16) rfl b (o+k*15) rfl e0 (by exact HRG.o) ?_)
     | (with_reducible show wpList _ _ _ (⟨some 4,.alloc _,_,_,_,none⟩::_) _ _;refine AbJ AsY rfl rfl ?_;intro w1 p hc1 hb1 hx1;have H1:=η (And.intro hc1 (And.intro hb1 hx1));clear hc1 hb1 hx1)
     | (with_reducible show wpList _ _ _ (⟨none,.store _ (.tmp 4) (.tmp 17),_,_,_,none⟩::_) _ _;refine AnJ AsY rfl (.tmp 4) (.tmp 17) rfl p rfl e0 rfl (by exact H1.o.1) ?_;intro w2 hc1 ho1 hs1;have B2:=η (AaJ HB.o (AeJ H1.o.2.1 H1.o.2.2 ho1));have q6:=cm6 hc1;have q7:=cm7 hc1;have q10:=cm10 hc1;have q11:=cm11 hc1;have q12:=cm12 hc1;have q13:=cm13 hc1;clear hc1 ho1 hs1 H1))
    go_ret;exact ⟨true,rfl,B2.o,fun e=>by cases e⟩
   have d22:decide ((e0.i.h.a.length:Int)>100)=false:=decide_eq_false g2;by_cases g3:(e0.i.h.b.length:Int)>100
   ·have d23:decide ((e0.i.h.b.length:Int)>100)=true:=decide_eq_true g3
    clear g0 g1 g2 g3
    go_wp2_with (first
     | (with_reducible show wpList _ _ _ (⟨some 17,.load _ _,_,_,_,none⟩::_) _ _;refine AiK AsY rfl (.tmp 16) rfl b (o+k*15) rfl e0 (by exact HRG.o) ?_)
     | (with_reducible show wpList _ _ _ (⟨some 4,.alloc _,_,_,_,none⟩::_) _ _;refine AbJ AsY rfl rfl ?_;intro w1 p hc1 hb1 hx1;have H1:=η (And.intro hc1 (And.intro hb1 hx1));clear hc1 hb1 hx1)
     | (with_reducible show wpList _ _ _ (⟨none,.store _ (.tmp 4) (.tmp 17),_,_,_,none⟩::_) _ _;refine AnJ AsY rfl (.tmp 4) (.tmp 17) rfl p rfl e0 rfl (by exact H1.o.1) ?_;intro w2 hc1 ho1 hs1;have B2:=η (AaJ HB.o (AeJ H1.o.2.1 H1.o.2.2 ho1));have q6:=cm6 hc1;have q7:=cm7 hc1;have q10:=cm10 hc1;have q11:=cm11 hc1;have q12:=cm12 hc1;have q13:=cm13 hc1;clear hc1 ho1 hs1 H1))
    go_ret;exact ⟨true,rfl,B2.o,fun e=>by cases e⟩
   have d23:decide ((e0.i.h.b.length:Int)>100)=false:=decide_eq_false g3;by_cases g4:(e0.i.t.length:Int)>300
   ·have d24:decide ((e0.i.t.length:Int)>300)=true:=decide_eq_true g4
    clear g0 g1 g2 g3 g4
    go_wp2_with (first
     | (with_reducible show wpList _ _ _ (⟨some 17,.load _ _,_,_,_,none⟩::_) _ _;refine AiK AsY rfl (.tmp 16) rfl b (o+k*15) rfl e0 (by exact HRG.o) ?_)
     | (with_reducible show wpList _ _ _ (⟨some 4,.alloc _,_,_,_,none⟩::_) _ _;refine AbJ AsY rfl rfl ?_;intro w1 p hc1 hb1 hx1;have H1:=η (And.intro hc1 (And.intro hb1 hx1));clear hc1 hb1 hx1)
     | (with_reducible show wpList _ _ _ (⟨none,.store _ (.tmp 4) (.tmp 17),_,_,_,none⟩::_) _ _;refine AnJ AsY rfl (.tmp 4) (.tmp 17) rfl p rfl e0 rfl (by exact H1.o.1) ?_;intro w2 hc1 ho1 hs1;have B2:=η (AaJ HB.o (AeJ H1.o.2.1 H1.o.2.2 ho1));have q6:=cm6 hc1;have q7:=cm7 hc1;have q10:=cm10 hc1;have q11:=cm11 hc1;have q12:=cm12 hc1;have q13:=cm13 hc1;clear hc1 ho1 hs1 H1))
    go_ret;exact ⟨true,rfl,B2.o,fun e=>by cases e⟩
   have d24:decide ((e0.i.t.length:Int)>300)=false:=decide_eq_false g4;by_cases g5:(e0.i.r.length:Int)>100
   ·have d25:decide ((e0.i.r.length:Int)>100)=true:=decide_eq_true g5
    clear g0 g1 g2 g3 g4 g5
    go_wp2_with (first
     | (with_reducible show wpList _ _ _ (⟨some 17,.load _ _,_,_,_,none⟩::_) _ _;refine AiK AsY rfl (.tmp 16) rfl b (o+k*15) rfl e0 (by exact HRG.o) ?_)
     | (with_reducible show wpList _ _ _ (⟨some 4,.alloc _,_,_,_,none⟩::_) _ _;refine AbJ AsY rfl rfl ?_;intro w1 p hc1 hb1 hx1;have H1:=η (And.intro hc1 (And.intro hb1 hx1));clear hc1 hb1 hx1)
     | (with_reducible show wpList _ _ _ (⟨none,.store _ (.tmp 4) (.tmp 17),_,_,_,none⟩::_) _ _;refine AnJ AsY rfl (.tmp 4) (.tmp 17) rfl p rfl e0 rfl (by exact H1.o.1) ?_;intro w2 hc1 ho1 hs1;have B2:=η (AaJ HB.o (AeJ H1.o.2.1 H1.o.2.2 ho1));have q6:=cm6 hc1;have q7:=cm7 hc1;have q10:=cm10 hc1;have q11:=cm11 hc1;have q12:=cm12 hc1;have q13:=cm13 hc1;clear hc1 ho1 hs1 H1))
    go_ret;exact ⟨true,rfl,B2.o,fun e=>by cases e⟩
   have d25:decide ((e0.i.r.length:Int)>100)=false:=decide_eq_false g5;have HSM:Hid (e0.sm):=η ⟨by omega,by omega,by omega,by omega,by omega,by omega⟩;clear g0 g1 g2 g3 g4 g5
   go_wp2_with (first
    | (with_reducible show wpList _ _ _ (⟨some 17,.load _ _,_,_,_,none⟩::_) _ _;refine AiK AsY rfl (.tmp 16) rfl b (o+k*15) rfl e0 (by exact HRG.o) ?_)
    | (with_reducible show wpList _ _ _ (⟨some 4,.alloc _,_,_,_,none⟩::_) _ _;refine AbJ AsY rfl rfl ?_;intro w1 p hc1 hb1 hx1;have H1:=η (And.intro hc1 (And.intro hb1 hx1));clear hc1 hb1 hx1)
    | (with_reducible show wpList _ _ _ (⟨none,.store _ (.tmp 4) (.tmp 17),_,_,_,none⟩::_) _ _;refine AnJ AsY rfl (.tmp 4) (.tmp 17) rfl p rfl e0 rfl (by exact H1.o.1) ?_;intro w2 hc1 ho1 hs1;have B2:=η (AaJ HB.o (AeJ H1.o.2.1 H1.o.2.2 ho1));have q6:=cm6 hc1;have q7:=cm7 hc1;have q10:=cm10 hc1;have q11:=cm11 hc1;have q12:=cm12 hc1;have q13:=cm13 hc1;clear hc1 ho1 hs1 H1))
   go_roundw
   case rel=>exact ⟨k+1,by omega,by go_num,η B2.o,η (fun j e hj he=>by
    rcases Nat.lt_or_ge j k with h | h
    ·exact HK.o j e h he
    ·obtain rfl:j=k:=by omega
     rw [HE.o] at he
     injection he with he
     subst he
     exact HSM.o)⟩
   case measure=>simp [intOf];omega
  ·have hkn:k=n:=by omega
   subst hkn;go_wp2_with fail;go_ret
   exact ⟨false,rfl,HB.o,fun _=>⟨hn60,fun q hq=>by
    obtain ⟨j,hj,rfl⟩:=List.getElem_of_mem hq
    exact HK.o j ks[j] (by have:=H.o.1;omega) (List.getElem?_eq_getElem hj)⟩⟩
theorem doM_0 {k:Ms} {q:Cm} (h:q.t=0):doM k q=(DzJ k q.cl q.i.pl q.now q.rl).1:=by unfold doM;rw [if_pos h]
theorem doM_1 {k:Ms} {q:Cm} (h:q.t=1):doM k q=AuK k:=by unfold doM;rw [if_neg (by omega),if_pos h]
theorem doM_2 {k:Ms} {q:Cm} (h:q.t=2):doM k q=(setM k q.p).1:=by unfold doM;rw [if_neg (by omega),if_neg (by omega),if_pos h]
theorem doM_3 {k:Ms} {q:Cm} (h:q.t=3):doM k q={ k with s:=(AlJ k.s q.q q.rl).1 }:=by unfold doM;rw [if_neg (by omega),if_neg (by omega),if_neg (by omega),if_pos h]
theorem doM_4 {k:Ms} {q:Cm} (h:q.t=4):doM k q={ k with s:=(retR k.s q.q).1 }:=by unfold doM;rw [if_neg (by omega),if_neg (by omega),if_neg (by omega),if_neg (by omega),if_pos h]
theorem doM_5 {k:Ms} {q:Cm} (h:q.t≠0∧q.t≠1∧q.t≠2∧q.t≠3∧q.t≠4):doM k q=k:=by unfold doM;rw [if_neg h.1,if_neg h.2.1,if_neg h.2.2.1,if_neg h.2.2.2.1,if_neg h.2.2.2.2]
theorem CiV {k:Ms} {p:Pn} (h:AcX k.p=true):AcX (setM k p).1.p=true:=by
 unfold setM
 split
 ·rename_i hp;exact hp
 ·exact h
theorem setM_s (k:Ms) (p:Pn):(setM k p).1.s=k.s:=by unfold setM;split <;> rfl
theorem Blk.new_no {T:TypeId} {w w0:World} {b mi:Nat} {es:Ens} {cs ds:List Value} {T':TypeId} (k:Blk T w b cs) (m:Blk T' w mi ds) (hT:T≠T') (hl:∀ e∈es,e.1.H≤w0.heap.size) (hi:∀ g∈esS es,g<w0.heap.size) (hb:w0.heap.size≤b):b∉mi::esS es:=fun hm=>by
 rcases List.mem_cons.1 hm with e | hm
 ·exact k.far m hT e
 ·have:=hi b hm;omega
def DmW (N F:Nat) (v:World) (mi mr x y:Nat) (k:Ms) (e:Ending) (w':World):Prop:=e=.returned (.bool true)∧∃ D',MX N F v mi mr x y k k D' w'
theorem do21_0 (N F:Nat) (v:World) (mi mr x y:Nat) (k:Ms) (D:XD) (w:World) (h:MX N F v mi mr x y k k D w) (q:Cm) (hq:q.ok v) (sm:q.sm) (KK:Int) (hf:k.few KK) (hKK:KK≤100000000) (hN:N+2≤1000000000) (hF:F+1≤1000000000) (ht:q.t=0) :
  Calls prog 17 #[.pointer (some ⟨mi,0,none⟩),.pointer (some ⟨mr,0,none⟩),q.val] w (DmW (N+2) (F+1) v mi mr x y (doM k q)):=by
 have d0:(q.t == 0)=true:=by simp [ht]
 rw [doM_0 ht]
 clear ht
 have H:=η h
 have HQ:=η hq
 have HSM:=η sm
 have HFW:=η hf
 obtain ⟨u,HU⟩:∃ u,Hid (outM (AbK k) q.cl q.i.pl q.now q.rl=u):=⟨_,η rfl⟩
 have HT:Hid ((DzJ k q.cl q.i.pl q.now q.rl).1=cntM (AbK k) u):=η (by unfold DzJ;rw [HU.o])
 have HL:=η (And.intro (fun e (he:e∈D.es)=>(h.pr.rn.ok e he).1.le) (And.intro (fun g (hg:g∈esS D.es)=>by obtain ⟨e,he,hg⟩:=CoZ.1 hg;have:=(h.pr.rn.ok e he).1.in_ g hg;have:=(h.pr.rn.ok e he).1.le;show g<w.heap.size;omega) (And.intro h.gi.1 h.gr.1)))
 clear h hq sm hf
 go_enter func17,ntmps17
 go_wp2_with (first
  | (refine AiQ rfl 48 (.tmp 2) rfl q rfl ?_;intro w1 bx hc1 hb1 hx1;have H1:=η (And.intro hc1 (And.intro hb1 hx1));have q0:=cm0 hc1;clear hc1 hb1 hx1))
 refine wp_region_held_drew (S:=fun w'=>Blk 48 w' bx q.cells) (by kernel_rfl) (H1.o.1.step (Below.refl _ _).drew) (fun hHeld=>?_)
 (try dsimp only at hHeld)
 have Ω:=η (fun (w:World) (hSw:Blk 48 w bx q.cells)=>an (cm1 hSw) (an (cm6 hSw) (an (cm7 hSw) (an (cm14 hSw) (an (CcJ hSw) (ldCm_p hSw))))))
 refine tkJ 0 rfl hHeld ?_
 refine tkJ 1 rfl hHeld ?_
 (try simp only [Act.put,rxT,sxT])
 refine tkJ 2 rfl hHeld ?_
 refine tkJ 4 rfl hHeld ?_
 (try simp only [Act.put,rxT,sxT])
 refine tkJ 5 rfl hHeld ?_
 refine tkJ 6 rfl hHeld ?_
 (try simp only [Act.put,rxT,sxT])
 refine tkJ 7 rfl hHeld ?_
 refine tkJ 8 rfl hHeld ?_
 (try simp only [Act.put,rxT,sxT])
 refine tkJ 9 rfl hHeld ?_
 refine tkJ 12 rfl hHeld ?_
 (try simp only [Act.put,rxT,sxT])
 refine tkJ 13 rfl hHeld ?_
 refine tkJ 14 rfl hHeld ?_
 (try simp only [Act.put,rxT,sxT])
 refine tkJ 15 rfl hHeld ?_
 refine tkJ 16 rfl hHeld ?_
 (try simp only [Act.put,rxT,sxT])
 refine tkJ 18 rfl hHeld ?_
 refine tkJ 19 rfl hHeld ?_
 (try simp only [Act.put,rxT,sxT])
 refine tkJ 20 rfl hHeld ?_
 refine tkJ 21 rfl hHeld ?_
 (try simp only [Act.put,rxT,sxT])
 have M2:=η (H.o.step (H1.o.2.1.trans (Below.refl _ _).drew))
 have C2:=η (H1.o.1.step (w':=w1.drew) (Below.refl _ _).drew)
 refine rdI 3 rfl (fun K hK=>?_)
 (try simp only [rxT])
 go_simp
 refine (AdX q.A q.cl.length q.a 0 q.cl _ (by exact HQ.o.c.step M2.o.bel) (by have:=HSM.o.c;omega)).mono ?_
 rintro e w3 ⟨A3,c3,rfl,ho,hb⟩
 have M3:=η (M2.o.step hb)
 have C3:=η (C2.o.step hb)
 have R3:=η (Ra.own ho M2.o.pr.rn)
 clear ho hb
 (try go_wp2_with fail)
 refine hK.o _ _ C3.o (fun hHeld=>?_)
 clear hK K
 refine rdI 10 rfl (fun K hK=>?_)
 (try simp only [Act.put,rxT,sxT])
 go_simp
 refine (AdX q.B q.rl.length q.b 0 q.rl _ (by exact HQ.o.r.step M3.o.bel) (by have:=HSM.o.r;omega)).mono ?_
 rintro e w4 ⟨A4,c4,rfl,ho,hb⟩
 have M4:=η (M3.o.step hb)
 have C4:=η (C3.o.step hb)
 have R4:=η (And.intro (R3.o.step hb) (Ra.own ho M3.o.pr.rn))
 clear ho hb
 (try go_wp2_with fail)
 refine hK.o _ _ C4.o (fun hHeld=>?_)
 clear hK K
 refine rdI 11 rfl (fun K hK=>?_)
 (try simp only [Act.put,rxT,sxT])
 go_simp
 refine (ChY v x D.A D.c D.es N F mi k [] w4 (by exact M4.o.my) KK HFW.o hKK hN hF A3 c3 q.cl (by exact R4.o.1) (by have:=HSM.o.c;omega) q.i (by exact In.aw.arg HQ.o.i M4.o.bel M4.o.pr.rn) (by have:=HSM.o.t;omega) q.now HQ.o.now A4 c4 q.rl (by exact R4.o.2) (by have:=HSM.o.r;omega) u HU.o).mono ?_
 rintro e w5 ⟨B5,c5,rfl,ho,hoth,hy⟩
 have M5:=η (M4.o.took hoth hy (Nat.le_add_right N 2) rfl)
 have O5:=η ho
 have C5:=η (C4.o.oth hoth (C4.o.new_no (w0:=w) M4.o.mb (by decide) HL.o.1 HL.o.2.1 H1.o.2.2))
 clear ho hoth hy
 (try go_wp2_with fail)
 refine hK.o _ _ C5.o (fun hHeld=>?_)
 clear hK K
 refine rdI 17 rfl (fun K hK=>?_)
 (try simp only [Act.put,rxT,sxT])
 go_simp
 refine (iof_any q.i w5 (by exact HQ.o.i.step M5.o.bel) (by have:=HSM.o.a;omega) (by have:=HSM.o.b;omega) (by have:=HSM.o.t;omega) (by have:=HSM.o.i;omega)).mono ?_
 rintro e w6 ⟨j,rfl,hjp,hjo,hb⟩
 have M6:=η (M5.o.step hb)
 have C6:=η (C5.o.step hb)
 have O6:=η (O5.o.below hb)
 have J6:=η (And.intro hjp hjo.ok)
 have hjt:j.t.length≤1000:=by have e:j.t=q.i.t:=congrArg (fun z:IPl=>z.2.1) hjp;rw [e];have:=HSM.o.t;omega
 have HJT:=η hjt
 clear hjp hjo hb hjt
 (try go_wp2_with fail)
 refine hK.o _ _ C6.o (fun hHeld=>?_)
 clear hK K
 refine rdI 22 rfl (fun K hK=>?_)
 (try simp only [Act.put,rxT,sxT])
 go_simp
 refine (CwW _ y D.B D.d D.ks mr k w6 (by exact M6.o.pr.rs) (by exact M6.o.rb) (by exact M6.o.pr.kk) (by exact M6.o.pr.ot) (by exact M6.o.rr) KK HFW.o hKK q.A q.a q.cl (by exact HQ.o.c.step M6.o.bel) (by have:=HSM.o.c;omega) j (by exact J6.o.2) HJT.o q.now HQ.o.now q.B q.b q.rl (by exact HQ.o.r.step M6.o.bel) HQ.o.cr (by have:=HSM.o.r;omega) u (by rw [J6.o.1];exact HU.o)).mono ?_
 rintro e w7 ⟨B7,c7,rfl,ho,hoth,hy⟩
 have M7:=η (M6.o.rput hoth hy rfl M6.o.rr)
 have O7:=η (And.intro (O6.o.offS hoth (M6.o.rb.nob (by decide))) ho)
 have C7:=η (C6.o.oth hoth (by simpa using C6.o.far M6.o.rb (by decide)))
 clear ho hoth hy
 (try go_wp2_with fail)
 refine hK.o _ _ C7.o (fun hHeld=>?_)
 clear hK K
 refine rdI 23 rfl (fun K hK=>?_)
 (try simp only [Act.put,rxT,sxT])
 go_simp
 refine (EaJ u B5 B7 c5 c7 w7 (by exact O7.o.1.rb) (by exact O7.o.2.rb) (Nat.le_trans O7.o.1.cap.1 O7.o.1.cap.2)).mono ?_
 rintro e w8 ⟨rfl,hb⟩
 have M8:=η (M7.o.step hb)
 have C8:=η (C7.o.step hb)
 clear hb
 (try go_wp2_with fail)
 refine hK.o _ _ C8.o (fun hHeld=>?_)
 clear hK K
 refine tkJ 24 rfl hHeld ?_
 (try simp only [Act.put,rxT,sxT])
 refine wpAnyH_done (by kernel_rfl) ?_ _
 go_wp2_with fail
 go_ret
 exact ⟨rfl,D,by rw [HT.o];exact M8.o⟩
theorem do21_1 (N F:Nat) (v:World) (mi mr x y:Nat) (k:Ms) (D:XD) (w:World) (h:MX N F v mi mr x y k k D w) (q:Cm) (hq:q.ok v) (sm:q.sm) (KK:Int) (hf:k.few KK) (hKK:KK≤100000000) (hN:N+2≤1000000000) (hF:F+1≤1000000000) (ht:q.t=1) :
  Calls prog 17 #[.pointer (some ⟨mi,0,none⟩),.pointer (some ⟨mr,0,none⟩),q.val] w (DmW (N+2) (F+1) v mi mr x y (doM k q)):=by
 have d0:(q.t == 0)=false:=by simp [ht]
 have d1:(q.t == 1)=true:=by simp [ht]
 rw [doM_1 ht]
 clear ht
 have H:=η h
 clear h hq sm hf
 go_enter func17,ntmps17
 go_wp2_with (first
  | (refine AiQ rfl 48 (.tmp 2) rfl q rfl ?_;intro w1 bx hc1 hb1 hx1;have H1:=η (And.intro hc1 (And.intro hb1 hx1));have q0:=cm0 hc1;clear hc1 hb1 hx1))
 have M2:=η (H.o.step H1.o.2.1)
 refine (ChX mi x k w1 (by exact M2.o.mb)).mono ?_
 rintro e w2 ⟨rfl,hb,ho⟩
 have M3:=η (M2.o.put (k':=AuK k) ho hb rfl M2.o.kr)
 clear hb ho q0
 go_wp2_with fail
 refine (DgY mr y k w2 (by exact M3.o.rb)).mono ?_
 rintro e w3 ⟨rfl,hb,ho⟩
 have M4:=η (M3.o.rput (r':=AuK k) ho hb rfl M3.o.rr)
 clear hb ho
 go_wp2_with fail
 go_ret
 exact ⟨rfl,D,M4.o.up (Nat.le_add_right N 2) (Nat.le_add_right F 1)⟩
theorem do21_2 (N F:Nat) (v:World) (mi mr x y:Nat) (k:Ms) (D:XD) (w:World) (h:MX N F v mi mr x y k k D w) (q:Cm) (hq:q.ok v) (sm:q.sm) (KK:Int) (hf:k.few KK) (hKK:KK≤100000000) (hN:N+2≤1000000000) (hF:F+1≤1000000000) (ht:q.t=2) :
  Calls prog 17 #[.pointer (some ⟨mi,0,none⟩),.pointer (some ⟨mr,0,none⟩),q.val] w (DmW (N+2) (F+1) v mi mr x y (doM k q)):=by
 have d0:(q.t == 0)=false:=by simp [ht]
 have d1:(q.t == 1)=false:=by simp [ht]
 have d2:(q.t == 2)=true:=by simp [ht]
 rw [doM_2 ht]
 clear ht
 have H:=η h
 obtain ⟨E,HE⟩:∃ E,Hid ((setM k q.p).2=E):=⟨_,η rfl⟩
 clear h hq sm hf
 go_enter func17,ntmps17
 go_wp2_with (first
  | (refine AiQ rfl 48 (.tmp 2) rfl q rfl ?_;intro w1 bx hc1 hb1 hx1;have H1:=η (And.intro hc1 (And.intro hb1 hx1));have q0:=cm0 hc1;clear hc1 hb1 hx1))
 refine wp_region_held_drew (S:=fun w'=>Blk 48 w' bx q.cells) (by kernel_rfl) (H1.o.1.step (Below.refl _ _).drew) (fun hHeld=>?_)
 (try dsimp only at hHeld)
 have Ω:=η (fun (w:World) (hSw:Blk 48 w bx q.cells)=>an (cm1 hSw) (an (cm6 hSw) (an (cm7 hSw) (an (cm14 hSw) (an (CcJ hSw) (ldCm_p hSw))))))
 refine tkJ 0 rfl hHeld ?_
 refine tkJ 1 rfl hHeld ?_
 (try simp only [Act.put,rxT,sxT])
 refine tkJ 2 rfl hHeld ?_
 refine tkJ 3 rfl hHeld ?_
 (try simp only [Act.put,rxT,sxT])
 refine tkJ 4 rfl hHeld ?_
 refine tkJ 6 rfl hHeld ?_
 (try simp only [Act.put,rxT,sxT])
 refine tkJ 7 rfl hHeld ?_
 refine tkJ 8 rfl hHeld ?_
 (try simp only [Act.put,rxT,sxT])
 have M2:=η (H.o.step (H1.o.2.1.trans (Below.refl _ _).drew))
 have C2:=η (H1.o.1.step (w':=w1.drew) (Below.refl _ _).drew)
 refine rdI 5 rfl (fun K hK=>?_)
 (try simp only [rxT])
 go_simp
 refine (BdQ mi x k q.p _ (by exact M2.o.mb)).mono ?_
 rw [HE.o]
 rintro e w3 ⟨rfl,hb,ho⟩
 have M3:=η (M2.o.put ho hb (setM_s k q.p) (CiV M2.o.kr))
 have C3:=η (C2.o.oth ho (by simpa using C2.o.far M2.o.mb (by decide)))
 clear hb ho
 (try go_wp2_with fail)
 refine hK.o _ _ C3.o (fun hHeld=>?_)
 clear hK K
 refine rdI 9 rfl (fun K hK=>?_)
 (try simp only [Act.put,rxT,sxT])
 go_simp
 refine (AsZ q.p w3).mono ?_
 rintro e w4 ⟨rfl,hb⟩
 have M4:=η (M3.o.step hb)
 have C4:=η (C3.o.step hb)
 clear hb
 (try go_wp2_with fail)
 refine hK.o _ _ C4.o (fun hHeld=>?_)
 clear hK K
 refine rdI 10 rfl (fun K hK=>?_)
 (try simp only [Act.put,rxT,sxT])
 go_simp
 refine (EaW mr y k q.p w4 (by exact M4.o.rb)).mono ?_
 rw [HE.o]
 rintro e w5 ⟨rfl,hb,ho⟩
 have M5:=η (M4.o.rput ho hb (setM_s k q.p) (CiV M4.o.rr))
 have C5:=η (C4.o.oth ho (by simpa using C4.o.far M4.o.rb (by decide)))
 clear hb ho
 (try go_wp2_with fail)
 refine hK.o _ _ C5.o (fun hHeld=>?_)
 clear hK K
 refine tkJ 11 rfl hHeld ?_
 refine tkJ 12 rfl hHeld ?_
 (try simp only [Act.put,rxT,sxT])
 refine wpAnyH_done (by kernel_rfl) ?_ _
 go_wp2_with fail
 go_ret
 exact ⟨rfl,D,M5.o.up (Nat.le_add_right N 2) (Nat.le_add_right F 1)⟩
theorem do21_3 (N F:Nat) (v:World) (mi mr x y:Nat) (k:Ms) (D:XD) (w:World) (h:MX N F v mi mr x y k k D w) (q:Cm) (hq:q.ok v) (sm:q.sm) (KK:Int) (hf:k.few KK) (hKK:KK≤100000000) (hN:N+2≤1000000000) (hF:F+1≤1000000000) (ht:q.t=3) :
  Calls prog 17 #[.pointer (some ⟨mi,0,none⟩),.pointer (some ⟨mr,0,none⟩),q.val] w (DmW (N+2) (F+1) v mi mr x y (doM k q)):=by
 have d0:(q.t == 0)=false:=by simp [ht]
 have d1:(q.t == 1)=false:=by simp [ht]
 have d2:(q.t == 2)=false:=by simp [ht]
 have d3:(q.t == 3)=true:=by simp [ht]
 rw [doM_3 ht]
 clear ht
 have H:=η h
 have HQ:=η hq
 have HSM:=η sm
 obtain ⟨cr,HCR⟩:∃ cr:Cr,Hid (cr=⟨0,q.q,q.B,q.rl.length,q.b,q.rl⟩):=⟨_,η rfl⟩
 have HCV:Hid (cr.val=.agg #[.int .i64 0,.int .i64 q.q,.slice q.B q.rl.length q.b]):=η (by rw [HCR.o];rfl)
 have HCK:Hid (cr.ok v.heap.size v∧cr.n≤100):=η (by rw [HCR.o];exact ⟨⟨HQ.o.r,HQ.o.cr.1,HQ.o.cr.2⟩,HSM.o.r⟩)
 have HCD:Hid (doR k.s cr=AlJ k.s q.q q.rl):=η (by rw [HCR.o];unfold doR;rfl)
 clear h hq sm hf
 go_enter func17,ntmps17
 go_wp2_with (first
  | (refine AiQ rfl 48 (.tmp 2) rfl q rfl ?_;intro w1 bx hc1 hb1 hx1;have H1:=η (And.intro hc1 (And.intro hb1 hx1));have q0:=cm0 hc1;clear hc1 hb1 hx1))
 refine wp_region_held_drew (S:=fun w'=>Blk 48 w' bx q.cells∧Blk 57 w' mr (AhV k y)) (by kernel_rfl) ⟨H1.o.1.step (Below.refl _ _).drew,(H.o.rb.step H1.o.2.1).step (Below.refl _ _).drew⟩ (fun hHeld=>?_)
 (try dsimp only at hHeld)
 have M2:=η (H.o.step (H1.o.2.1.trans (Below.refl _ _).drew))
 have C2:=η (H1.o.1.step (w':=w1.drew) (Below.refl _ _).drew)
 have P2:=η (H.o.pr_.fresh (w':=w1.drew) [bx] (fun g hg=>by rw [List.mem_singleton.1 hg];exact ⟨H1.o.2.2,H1.o.1.lt⟩) (H1.o.2.1.trans (Below.refl _ _).drew))
 have Ω:=η (fun (w:World) (hSw:Blk 48 w bx q.cells∧Blk 57 w mr (AhV k y))=>an (cm1 hSw.1) (an (cm7 hSw.1) (mrc4 hSw.2)))
 refine tkJ 0 rfl hHeld ?_
 refine tkJ 2 rfl hHeld ?_
 (try simp only [Act.put,rxT,sxT])
 refine tkJ 3 rfl hHeld ?_
 refine tkJ 4 rfl hHeld ?_
 (try simp only [Act.put,rxT,sxT])
 refine tkJ 5 rfl hHeld ?_
 refine tkJ 6 rfl hHeld ?_
 (try simp only [Act.put,rxT,sxT])
 refine tkJ 7 rfl hHeld ?_
 refine tkJ 8 rfl hHeld ?_
 (try simp only [Act.put,rxT,sxT])
 refine tkJ 9 rfl hHeld ?_
 refine tkJ 10 rfl hHeld ?_
 refine rdI 1 rfl (fun K hK=>?_)
 (try simp only [Act.put,rxT,sxT])
 go_simp
 refine (AhK mi x k _ (by exact M2.o.mb)).mono ?_
 rintro e w3 ⟨rfl,hw⟩
 subst hw
 (try go_wp2_with fail)
 refine hK.o _ _ hHeld (fun hHeld2=>?_)
 clear hK K
 refine rdI 11 rfl (fun K hK=>?_)
 (try simp only [Act.put,rxT,sxT])
 go_simp
 rw [←HCV.o]
 refine (do19_g N F v x y k.s k.s ([bx]++[mi,mr]) _ (by exact P2.o) cr HCK.o.1 HCK.o.2).mono ?_
 rintro e w4 ⟨he,hp,hkp⟩
 rw [beq_self_eq_true] at he
 subst he
 rw [HCD.o] at hp
 obtain ⟨D',hm⟩:=M2.o.rings (hp.less (fun g hg=>List.mem_append_right _ hg)) (hkp.less (fun g hg=>List.mem_append_right _ hg))
 have M4:=η hm
 have C4:=η (C2.o.kp hkp (by simp))
 clear hp hkp hm
 (try go_wp2_with fail)
 refine hK.o _ _ ⟨C4.o,M4.o.rb⟩ (fun hHeld=>?_)
 clear hK K
 refine tkJ 12 rfl hHeld ?_
 (try simp only [Act.put,rxT,sxT])
 refine wpAnyH_done (by kernel_rfl) ?_ _
 go_wp2_with fail
 go_ret
 exact ⟨rfl,D',M4.o.up (Nat.le_add_right N 2) (Nat.le_add_right F 1)⟩
theorem do21_4 (N F:Nat) (v:World) (mi mr x y:Nat) (k:Ms) (D:XD) (w:World) (h:MX N F v mi mr x y k k D w) (q:Cm) (hq:q.ok v) (sm:q.sm) (KK:Int) (hf:k.few KK) (hKK:KK≤100000000) (hN:N+2≤1000000000) (hF:F+1≤1000000000) (ht:q.t=4) :
  Calls prog 17 #[.pointer (some ⟨mi,0,none⟩),.pointer (some ⟨mr,0,none⟩),q.val] w (DmW (N+2) (F+1) v mi mr x y (doM k q)):=by
 have d0:(q.t == 0)=false:=by simp [ht]
 have d1:(q.t == 1)=false:=by simp [ht]
 have d2:(q.t == 2)=false:=by simp [ht]
 have d3:(q.t == 3)=false:=by simp [ht]
 have d4:(q.t == 4)=true:=by simp [ht]
 rw [doM_4 ht]
 clear ht
 have H:=η h
 have HQ:=η hq
 have HSM:=η sm
 obtain ⟨cr,HCR⟩:∃ cr:Cr,Hid (cr=⟨1,q.q,none,0,0,[]⟩):=⟨_,η rfl⟩
 have HCV:Hid (cr.val=.agg #[.int .i64 1,.int .i64 q.q,.slice none 0 0]):=η (by rw [HCR.o];rfl)
 have HCK:Hid (cr.ok v.heap.size v∧cr.n≤100):=η (by rw [HCR.o];exact ⟨⟨RB.nil_,Nat.le_refl _,Nat.zero_le _⟩,Nat.zero_le _⟩)
 have HCD:Hid (doR k.s cr=retR k.s q.q):=η (by rw [HCR.o];unfold doR;rfl)
 clear h hq sm hf
 go_enter func17,ntmps17
 go_wp2_with (first
  | (refine AiQ rfl 48 (.tmp 2) rfl q rfl ?_;intro w1 bx hc1 hb1 hx1;have H1:=η (And.intro hc1 (And.intro hb1 hx1));have q0:=cm0 hc1;clear hc1 hb1 hx1))
 refine wp_region_held_drew (S:=fun w'=>Blk 48 w' bx q.cells∧Blk 57 w' mr (AhV k y)) (by kernel_rfl) ⟨H1.o.1.step (Below.refl _ _).drew,(H.o.rb.step H1.o.2.1).step (Below.refl _ _).drew⟩ (fun hHeld=>?_)
 (try dsimp only at hHeld)
 have M2:=η (H.o.step (H1.o.2.1.trans (Below.refl _ _).drew))
 have C2:=η (H1.o.1.step (w':=w1.drew) (Below.refl _ _).drew)
 have P2:=η (H.o.pr_.fresh (w':=w1.drew) [bx] (fun g hg=>by rw [List.mem_singleton.1 hg];exact ⟨H1.o.2.2,H1.o.1.lt⟩) (H1.o.2.1.trans (Below.refl _ _).drew))
 have Ω:=η (fun (w:World) (hSw:Blk 48 w bx q.cells∧Blk 57 w mr (AhV k y))=>an (cm1 hSw.1) (an (cm7 hSw.1) (mrc4 hSw.2)))
 refine tkJ 0 rfl hHeld ?_
 refine tkJ 2 rfl hHeld ?_
 (try simp only [Act.put,rxT,sxT])
 refine tkJ 3 rfl hHeld ?_
 refine tkJ 4 rfl hHeld ?_
 (try simp only [Act.put,rxT,sxT])
 refine tkJ 5 rfl hHeld ?_
 refine tkJ 6 rfl hHeld ?_
 (try simp only [Act.put,rxT,sxT])
 refine tkJ 7 rfl hHeld ?_
 refine tkJ 8 rfl hHeld ?_
 refine rdI 1 rfl (fun K hK=>?_)
 (try simp only [Act.put,rxT,sxT])
 go_simp
 refine (AhK mi x k _ (by exact M2.o.mb)).mono ?_
 rintro e w3 ⟨rfl,hw⟩
 subst hw
 (try go_wp2_with fail)
 refine hK.o _ _ hHeld (fun hHeld2=>?_)
 clear hK K
 refine rdI 9 rfl (fun K hK=>?_)
 (try simp only [Act.put,rxT,sxT])
 go_simp
 rw [←HCV.o]
 refine (do19_g N F v x y k.s k.s ([bx]++[mi,mr]) _ (by exact P2.o) cr HCK.o.1 HCK.o.2).mono ?_
 rintro e w4 ⟨he,hp,hkp⟩
 rw [beq_self_eq_true] at he
 subst he
 rw [HCD.o] at hp
 obtain ⟨D',hm⟩:=M2.o.rings (hp.less (fun g hg=>List.mem_append_right _ hg)) (hkp.less (fun g hg=>List.mem_append_right _ hg))
 have M4:=η hm
 have C4:=η (C2.o.kp hkp (by simp))
 clear hp hkp hm
 (try go_wp2_with fail)
 refine hK.o _ _ ⟨C4.o,M4.o.rb⟩ (fun hHeld=>?_)
 clear hK K
 refine tkJ 10 rfl hHeld ?_
 (try simp only [Act.put,rxT,sxT])
 refine wpAnyH_done (by kernel_rfl) ?_ _
 go_wp2_with fail
 go_ret
 exact ⟨rfl,D',M4.o.up (Nat.le_add_right N 2) (Nat.le_add_right F 1)⟩
theorem do21_5 (N F:Nat) (v:World) (mi mr x y:Nat) (k:Ms) (D:XD) (w:World) (h:MX N F v mi mr x y k k D w) (q:Cm) (hq:q.ok v) (sm:q.sm) (KK:Int) (hf:k.few KK) (hKK:KK≤100000000) (hN:N+2≤1000000000) (hF:F+1≤1000000000) (ht:q.t≠0∧q.t≠1∧q.t≠2∧q.t≠3∧q.t≠4) :
  Calls prog 17 #[.pointer (some ⟨mi,0,none⟩),.pointer (some ⟨mr,0,none⟩),q.val] w (DmW (N+2) (F+1) v mi mr x y (doM k q)):=by
 have d0:(q.t == 0)=false:=by simp [ht]
 have d1:(q.t == 1)=false:=by simp [ht]
 have d2:(q.t == 2)=false:=by simp [ht]
 have d3:(q.t == 3)=false:=by simp [ht]
 have d4:(q.t == 4)=false:=by simp [ht]
 rw [doM_5 ht]
 clear ht
 have H:=η h
 clear h hq sm hf
 go_enter func17,ntmps17
 go_wp2_with (first
  | (refine AiQ rfl 48 (.tmp 2) rfl q rfl ?_;intro w1 bx hc1 hb1 hx1;have H1:=η (And.intro hc1 (And.intro hb1 hx1));have q0:=cm0 hc1;clear hc1 hb1 hx1))
 go_ret
 exact ⟨rfl,D,(H.o.step H1.o.2.1).up (Nat.le_add_right N 2) (Nat.le_add_right F 1)⟩
theorem DvX (N F:Nat) (v:World) (mi mr x y:Nat) (k:Ms) (D:XD) (w:World) (h:MX N F v mi mr x y k k D w) (q:Cm) (hq:q.ok v) (sm:q.sm) (KK:Int) (hf:k.few KK) (hKK:KK≤100000000) (hN:N+2≤1000000000) (hF:F+1≤1000000000) :
  Calls prog 17 #[.pointer (some ⟨mi,0,none⟩),.pointer (some ⟨mr,0,none⟩),q.val] w (DmW (N+2) (F+1) v mi mr x y (doM k q)):=by
 by_cases h0:q.t=0
 ·exact do21_0 N F v mi mr x y k D w h q hq sm KK hf hKK hN hF h0
 by_cases h1:q.t=1
 ·exact do21_1 N F v mi mr x y k D w h q hq sm KK hf hKK hN hF h1
 by_cases h2:q.t=2
 ·exact do21_2 N F v mi mr x y k D w h q hq sm KK hf hKK hN hF h2
 by_cases h3:q.t=3
 ·exact do21_3 N F v mi mr x y k D w h q hq sm KK hf hKK hN hF h3
 by_cases h4:q.t=4
 ·exact do21_4 N F v mi mr x y k D w h q hq sm KK hf hKK hN hF h4
 exact do21_5 N F v mi mr x y k D w h q hq sm KK hf hKK hN hF ⟨h0,h1,h2,h3,h4⟩
attribute [local go_sem] eql_pn eg_pn
theorem mx_new {w w1 w2:World} {p:Pn} {mi mr x y:Nat} (h:MY w x none 0 [] 1 0 mi (newM p) [] w1) (hb:Below w1.heap.size w1 w2) (hl:w1.heap.size≤mr) (hm:Blk 57 w2 mr (AhV (newM p) y)) (hs:Rs w1.heap.size w2 y none 0 []):MX 1 0 w mi mr x y (newM p) (newM p) ⟨none,0,[],none,0,[]⟩ w2:=by
 have h1:=h.mb.lt
 have h2:=h.rn.blk.lt
 have h3:=hs.low
 have h4:=h.bel.size
 refine ⟨⟨AaJ h.bel hb,h.rn.step hb,hs.base_le h4,rfl,rfl,fun e he=>(by cases he),fun g hg=>?_,DjJ,DjJ,Nat.le_refl 1,fun e he=>(by cases he)⟩,h.mb.step hb,hm,⟨h.lo,Nat.le_trans h4 hl⟩,h.pr,h.pr⟩
 simp only [List.mem_cons,List.not_mem_nil,or_false] at hg
 have hmy:mr≠y:=hm.far hs.blk (by decide)
 have hl2:=hm.lt
 have hz:=hb.size
 rcases hg with rfl | rfl
 ·exact ⟨by omega,h.mo.1,by omega,by simp [blkO],by simp [blkO],fun e he=>(by cases he),fun k hk=>(by cases hk)⟩
 ·exact ⟨hl2,by omega,hmy,by simp [blkO],by simp [blkO],fun e he=>(by cases he),fun k hk=>(by cases hk)⟩
theorem BrJ (p:Pn) (A1:YA) (n1 c1:Nat) (l1:List Cm) (w:World) (h1:CMs w A1 n1 l1) (m1:n1≤60) (sm:∀ k∈l1,k.sm) :
  Calls prog 22 #[p.val,.slice A1 n1 c1] w fun e w'=>Below w.heap.size w w'∧((AcX p=false∧e=.returned (.pointer none))∨(AcX p=true∧∃ mi x A c es,e=.returned (.pointer (some ⟨mi,0,none⟩))∧MY w x A c es 200 100 mi (upM p l1 n1) [] w')):=by
 have H1:=η h1
 have HSM:=η sm
 clear h1 sm
 have HS:∀ v,AcX p=v→Hid (AcX p=v):=fun v h=>η h
 rcases hv:AcX p with _ | _
 ·have HV:=HS _ hv
  clear HS hv;go_enter func22,ntmps22
  go_wp2_with (first
   | (refine AaZ rfl 24 (.tmp 0) rfl p rfl ?_;intro wa q hc1 hb1 hx1;have HA:=η (And.intro hc1 (And.intro hb1 hx1));clear hc1 hb1 hx1)
   | (with_reducible show wpList _ _ _ (⟨some 11,.load _ _,_,_,_,none⟩::_) _ _;refine AbZ ApX rfl (.tmp 2) rfl q rfl p _ (by exact HA.o.1) (by exact AhQ p) ?_))
  refine (AyX p wa).mono ?_;rintro e wb ⟨hb,hc⟩;have HB:=η (AaJ HA.o.2.1 hb);have HQ:=η (HA.o.1.step hb);rcases hc with ⟨_,rfl⟩ | ⟨hc,_⟩;rotate_left
  ·rw [HV.o] at hc;exact absurd hc (by decide)
  clear hb
  go_wp2_with (first
   | (with_reducible show wpList _ _ _ (⟨some 16,.load _ _,_,_,_,none⟩::_) _ _;refine AbZ ApX rfl (.tmp 2) rfl q rfl p _ (by exact HQ.o) (by exact AhQ p) ?_))
  refine (AsZ p wb).mono ?_;rintro e wc ⟨rfl,hb⟩;have HC:=η (AaJ HB.o hb);have HCB:=η hb;clear hb;go_wp2_with fail;refine (BgQ p wc).mono ?_;rintro e wd ⟨hb,hc⟩;have HD:=η (AaJ HC.o hb);rcases hc with ⟨_,rfl⟩ | ⟨hc,_⟩;rotate_left
  ·rw [HV.o] at hc;exact absurd hc (by decide)
  clear hb;go_wp2_with fail;go_ret;exact ⟨HD.o,.inl ⟨trivial,rfl⟩⟩
 ·have HV:=HS _ hv
  clear HS hv;go_enter func22,ntmps22
  go_wp2_with (first
   | (refine AaZ rfl 24 (.tmp 0) rfl p rfl ?_;intro wa q hc1 hb1 hx1;have HA:=η (And.intro hc1 (And.intro hb1 hx1));clear hc1 hb1 hx1)
   | (with_reducible show wpList _ _ _ (⟨some 11,.load _ _,_,_,_,none⟩::_) _ _;refine AbZ ApX rfl (.tmp 2) rfl q rfl p _ (by exact HA.o.1) (by exact AhQ p) ?_))
  refine (AyX p wa).mono ?_;rintro e wb ⟨hb,hc⟩;have HB:=η (AaJ HA.o.2.1 hb);have HQ:=η (HA.o.1.step hb);rcases hc with ⟨hc,_⟩ | ⟨_,mi,x,rfl,hmy⟩
  ·rw [HV.o] at hc;exact absurd hc (by decide)
  have HMY:=η hmy;clear hb hmy
  go_wp2_with (first
   | (with_reducible show wpList _ _ _ (⟨some 16,.load _ _,_,_,_,none⟩::_) _ _;refine AbZ ApX rfl (.tmp 2) rfl q rfl p _ (by exact HQ.o) (by exact AhQ p) ?_))
  refine (AsZ p wb).mono ?_;rintro e wc ⟨rfl,hb⟩;have HC:=η (AaJ HB.o hb);have HCB:=η hb;clear hb;go_wp2_with fail;refine (BgQ p wc).mono ?_;rintro e wd ⟨hb,hc⟩;have HD:=η (AaJ HC.o hb);rcases hc with ⟨hc,_⟩ | ⟨_,mr,y,rfl,hlo,hmb,hrs⟩
  ·rw [HV.o] at hc;exact absurd hc (by decide)
  have HX:=η (mx_new (HMY.o.step HCB.o) hb hlo hmb hrs);have HMB:=η ((HMY.o.step HCB.o).mb.step hb);clear hb hlo hmb hrs;go_wp2_with fail;refine (AhK mi x (newM p) wd (by exact HMB.o)).mono ?_;rintro e we ⟨rfl,rfl⟩;go_wp2_with fail;have HCM:=η (H1.o.step HA.o.2.1)
  go_loopw [9] (fun i wr=>∃ k:Nat,k≤n1∧i=.int .i64 (k:Int)∧∃ D,Hid (MX (1+2*k) k wa mi mr x y (upM p l1 k) (upM p l1 k) D wr)) (fun i _=>n1 - (intOf i).toNat)
  case atStart=>exact ⟨0,by omega,rfl,_,η HX.o⟩
  case round =>
   obtain ⟨k,hk,rfl,D,HK⟩:=hrel;by_cases hlt:k<n1
   ·obtain ⟨b,o,e0,rfl,he,hm0,hok,hrg⟩:=(HCM.o.step HK.o.bel).at_ hlt
    have HE:=η he;have HRG:=η hrg;have HOK:Hid (e0.ok wa∧e0.sm):=η ⟨HCM.o.2.1 e0 hm0,HSM.o e0 hm0⟩;clear he hm0 hok hrg
    go_wp2_with (first
     | (with_reducible show wpList _ _ _ (⟨some 47,.load _ _,_,_,_,none⟩::_) _ _;refine AiK AsY rfl (.tmp 46) rfl b (o+k*15) rfl e0 (by exact HRG.o) ?_))
    refine (DvX (1+2*k) k wa mi mr x y (upM p l1 k) D wr (by exact HK.o) e0 HOK.o.1 HOK.o.2 (2*(k:Int)) (BnY p l1 k) (by omega) (by omega) (by omega)).mono ?_;rintro e w6 ⟨rfl,D',hm⟩;have H6:Hid (MX (1+2*(k+1)) (k+1) wa mi mr x y (upM p l1 (k+1)) (upM p l1 (k+1)) D' w6):=η (by rw [BvQ HE.o];exact hm);clear hm;go_wp2_with fail;go_roundw
    case rel=>exact ⟨k+1,by omega,by go_num,D',η H6.o⟩
    case measure=>simp [intOf];omega
   ·have hkn:k=n1:=by omega
    subst hkn;have HY:=η (HK.o.my.up (N':=200) (F':=100) (by omega) (by omega));go_wp2_with fail;go_ret;have hsz:=HA.o.2.1.size;exact ⟨AaJ HA.o.2.1 HY.o.bel,.inr ⟨trivial,mi,x,_,_,_,rfl,AaJ HA.o.2.1 HY.o.bel,HY.o.rn.base_le hsz,HY.o.mb,HY.o.mo,Nat.le_trans hsz HY.o.lo,HY.o.row,HY.o.ee,HY.o.os,HY.o.pr⟩⟩
