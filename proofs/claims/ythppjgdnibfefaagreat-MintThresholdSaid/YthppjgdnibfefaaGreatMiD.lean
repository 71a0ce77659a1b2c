/- Layer 21's statements: Great, Do, agree, made. Conditions: what the calls hold can be read, and is small. -/
import Derived.Test.YthppjgdnibfefaaGreatMiT
set_option linter.unusedVariables false
set_option linter.unusedSimpArgs false
set_option maxRecDepth 100000
set_option maxHeartbeats 32000000
namespace Go.Proofs.YthppjgdnibfefaaGreat
open Go.RowKit
section
variable {T T':TypeId} {w:World} {b:Nat} {q:Cm}
end
attribute [local go_sem ↓] ex_ldPl ex_ldRp ex_ldI ex_ldIr
structure EP (T:TypeId):Prop where
 u:Tryz.prog.underlying T=some (.struct (Tryz.prog.fieldsOf T))
 h:Tryz.prog.stoodInHeld T=false
 f : (Tryz.prog.fieldsOf T).toList.map (fun f => (f.name == "_", f.type, f.offset)) = [(false, 3, 0), (false, 4, 1), (false, 3, 2), (false, 22, 3)]
 g:Tryz.prog.eqGuardType Tryz.prog.depth T=false
theorem ep_rpn:EP 35:=⟨by kernel_rfl,by kernel_rfl,by kernel_rfl,by kernel_rfl⟩
theorem part_pn {t:TypeId} (hp:Tryz.prog.plainKey t=true) (p:Pn) (o:Nat) (v:Value) (w:World) (h:p.cells[o]?=some v):(part t p.cells.toArray o).run Tryz.prog w=.ok v w:=run_part_plain w hp (by simpa using h)
theorem eq_pn {T:TypeId} (ep:EP T) (p:Pn) (n:Nat) (w:World):(Op.equalIn (n+3) T (.agg p.cells.toArray) (.agg p.cells.toArray)).run Tryz.prog w=.ok true w:=by
 rw [run_equalIn_struct w (n+2) T _ _ ep.u ep.h]
 have hf:=ep.f
 generalize (Tryz.prog.fieldsOf T).toList=fs at hf
 have hl4:fs.length=4:=by have:=congrArg List.length hf;simpa using this
 have pi:Tryz.prog.plainKey 3=true:=by simp [Program.plainKey,Tryz.underlying3]
 have pb:Tryz.prog.plainKey 4=true:=by simp [Program.plainKey,Tryz.underlying4]
 have pu:Tryz.prog.plainKey 22=true:=by simp [Program.plainKey,Tryz.underlying22]
 match fs,hl4,hf with
 | [f0,f1,f2,f3],_,hf =>
  simp only [List.map_cons,List.map_nil,List.cons.injEq,Prod.mk.injEq,and_true] at hf
  obtain ⟨⟨n0,t0,o0⟩,⟨n1,t1,o1⟩,⟨n2,t2,o2⟩,n3,t3,o3⟩:=hf
  have m0 : f0.name ≠ "_" := by simpa using n0
  have m1 : f1.name ≠ "_" := by simpa using n1
  have m2 : f2.name ≠ "_" := by simpa using n2
  have m3 : f3.name ≠ "_" := by simpa using n3
  simp only [Op.eqFields,m0,m1,m2,m3,ne_eq,not_false_eq_true,if_true,t0,o0,t1,o1,t2,o2,t3,o3,Sem.run_bind,part_pn pi p 0 _ w rfl,part_pn pb p 1 _ w rfl,part_pn pi p 2 _ w rfl,part_pn pu p 3 _ w rfl,Result.andThen_ok,run_equalIn_int w _ _ _ _ _ _ Tryz.underlying3,run_equalIn_int w _ _ _ _ _ _ Tryz.underlying22,run_equalIn_bool w _ _ _ _ Tryz.underlying4,beq_self_eq_true,Bool.not_true,Bool.false_eq_true,if_false,Sem.run_pure]
theorem eql_pn (p:Pn) (w:World):(binOp .eql 35 p.val p.val).run Tryz.prog w=.ok (.bool true) w:=by
 have h:=eq_pn ep_rpn p 9997 w
 show (binOp .eql 35 (.agg p.cells.toArray) (.agg p.cells.toArray)).run Tryz.prog w=.ok (.bool true) w
 rw [run_eql_struct,show (10000:Nat)=9997+3 from rfl,h]
 rfl
theorem eg_pn (op:BinOp) (x y:Operand) (p q:Pn) (w:World):(eqGuard op 35 x y p.val q.val).run Tryz.prog w=.ok () w:=run_eqGuard_agg w op _ x y _ _ (by kernel_rfl)
attribute [local irreducible] openT sealT seqT fstT retryM outM smakeR instR retR newR untilM activeM
def RetDo (N F:Nat) (v:World) (mi mr x y:Nat) (k:Ms) (e:Ending) (w':World):Prop:=e=.returned (.bool true)∧∃ D',MX N F v mi mr x y k k D' w'
attribute [local go_sem] eql_pn eg_pn
end Go.Proofs.YthppjgdnibfefaaGreat
