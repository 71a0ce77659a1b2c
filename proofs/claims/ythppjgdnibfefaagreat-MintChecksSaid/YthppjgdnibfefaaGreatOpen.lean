import Derived.Test.YthppjgdnibfefaaGreatBytes
import Derived.Test.YthppjgdnibfefaaGreatRows
import Derived.ProofKit
import Derived.OpenShut
import Derived.ShutString
import Derived.ChangeOld
import Derived.Below
set_option linter.all false
set_option maxRecDepth 100000
set_option maxHeartbeats 32000000
namespace Go.Proofs.YthppjgdnibfefaaGreat
open Go.ChangeShapes Go.WideShapes Go.ChangeAt Go.RowKit
open Go.ChangeMaps (open_string shut_string)
theorem BwW:ownKnob Tryz.prog.godebug=none:=by kernel_rfl
theorem AlX:laidOutB Tryz.prog=true:=by kernel_rfl
theorem byte_of {x:Int} (h:(Lit.int .u8 x).wf=true):∃ b:UInt8,x=(b.toNat:Int):=by
 have hr:0≤x∧x≤255:=bounds_u8 h
 exact ⟨UInt8.ofNat x.toNat,by simp;omega⟩
theorem CbQ {w:World} {x:Addr} {len cap:Nat} {zs:List Int} (hl:len≤cap) (hz:zs.length=cap) (hcell:∀ i,i<zs.length→w.cell? (x.add i)=some (.int .u8 (zs.getD i 0))) (hwz:∀ n∈zs,(Lit.int .u8 n).wf=true) :
  ∃ l,RB w w.heap.size (some x) len l:=by
 rcases Nat.eq_zero_or_pos len with h0 | h0
 ·subst h0;exact ⟨[],RB.nil_⟩
 ·obtain ⟨b,off,spot⟩:=x
  have hc:=hcell 0 (by omega);have hspot:spot=none:=by simpa [Addr.add] using World.cell?_spot hc
  subst hspot;have hb:b<w.heap.size:=World.block_lt_of_cell? w _ hc;refine ⟨(zs.take len).map fun n=>UInt8.ofNat n.toNat,by simp;omega,fun _=>⟨b,off,rfl,hb,fun i hi=>?_⟩⟩;have hi':i<len:=by simp at hi;omega
  have hc:=hcell i (by omega);have hw:=hwz (zs.getD i 0) (by rw [List.getD_eq_getElem?_getD,List.getElem?_eq_getElem (by omega)];exact List.getElem_mem _);have hadd:(⟨b,off,none⟩:Addr).add i=⟨b,off+i,none⟩:=by unfold Addr.add;split <;> simp_all
  rw [hadd] at hc;rw [hc];have hr:0≤zs.getD i 0∧zs.getD i 0≤255:=bounds_u8 hw;have e:(zs.getD i 0)=zs[i]:=by rw [List.getD_eq_getElem?_getD,List.getElem?_eq_getElem (by omega)];rfl
  rw [e] at hr ⊢;simp only [bv,List.getElem_map,List.getElem_take,Option.some.injEq,Value.int.injEq,true_and];simp;omega
theorem EcV {H:Type} {enc:TypeId×Value→H} {w:World} {f:Nat} {a:YA} {len cap:Nat} {d:DataW H} {p:List MemPlace}
  (hf:DataW.trod enc Tryz.prog w 0 (fun _=>true) true f 41 (Value.slice a len cap).cells.toList=some (d,p)):(∃ l,RB w w.heap.size a len l)∧len≤cap∧cap≤maxLen:=by
 rcases open_ints Tryz.underlying41 Tryz.underlying5 (by kernel_rfl) hf with ⟨hcs,_⟩ | ⟨x,l,c,zs,hcs,_,hl,hm,hz,_,hcell,hwz⟩
 ·simp [Value.cells] at hcs
  obtain ⟨rfl,rfl,rfl⟩:=hcs;exact ⟨⟨[],RB.nil_⟩,Nat.le_refl _,Nat.zero_le _⟩
 ·simp [Value.cells] at hcs
  obtain ⟨rfl,rfl,rfl⟩:=hcs;exact ⟨CbQ hl (by simpa using hz) hcell hwz,hl,hm⟩
