/- slices.Clone of bytes gives the same bytes in new memory. Condition: the slice's cells are readable. -/
import Derived.Test.YthppjgdnibfefaaGreatBytes
import Derived.Test.YthppjgdnibfefaaGreatBase
import Derived.Test.YthppjgdnibfefaaGreatChecked
import Derived.Tactics
import Derived.Tactics2
import Derived.Defers
import Derived.Laws.Pointers
import Derived.Laws.LoneSync
import Derived.Laws.NewBlocks
import Derived.RegionTactic
import Derived.RegionCalls
import Derived.ChangeAlike
set_option linter.unusedVariables false
set_option linter.unusedSimpArgs false
set_option maxRecDepth 100000
set_option maxHeartbeats 32000000
namespace Go.Proofs.YthppjgdnibfefaaGreat
open Go.RowKit
theorem slice_nil_in (A:Option Addr) (n c d:Nat) (W:World):(Op.equalIn (d+1) 41 (.slice A n c) (.slice none 0 0)).run Tryz.prog W=.ok A.isNone W:=by
 cases A <;> simp [Op.equalIn,run_underlying Tryz.underlying41]
theorem slice_nil_eq (A:Option Addr) (n c:Nat) (W:World):(Op.equal 41 (.slice A n c) (.slice none 0 0)).run Tryz.prog W=.ok A.isNone W:=slice_nil_in A n c 9999 W
theorem slice_nil (A:Option Addr) (n c:Nat) (W:World):(binOp .eql 41 (.slice A n c) (.slice none 0 0)).run Tryz.prog W=.ok (.bool A.isNone) W:=by
 simp [binOp,slice_nil_eq A n c]
theorem clone_any (A:Option Addr) (n c B:Nat) (l:List UInt8) (w:World) (h:RB w B A n l) (hB:B≤w.heap.size) (hn:n≤140737488355328) :
  Calls Tryz.prog 63 #[.slice A n c] w (RetB n l w):=by
 rcases A with _ | ad
 ·obtain rfl:n=0:=by
   rcases Nat.eq_zero_or_pos n with h0 | h0
   ·exact h0
   ·obtain ⟨b,o,e,_⟩:=h.2 h0
    exact absurd e (by simp)
  have hl:l=[]:=List.eq_nil_of_length_eq_zero h.len
  subst hl
  have hnil:∀ W:World,(binOp .eql 41 (.slice none 0 c) (.slice none 0 0)).run Tryz.prog W=.ok (.bool true) W:=fun W=>slice_nil none 0 c W
  go_enter Tryz.func63,Tryz.ntmps63
  go_wp2
  go_ret
  exact ⟨none,0,rfl,OwnB.nil_ _ _,Below.refl _ _⟩
 ·have hnil:∀ W:World,(binOp .eql 41 (.slice (some ad) n c) (.slice none 0 0)).run Tryz.prog W=.ok (.bool false) W:=fun W=>slice_nil (some ad) n c W
  have hr2:RB (w.alloc (.cells #[] 5)) B (some ad) n l:=h.alloc hB _
  go_enter Tryz.func63,Tryz.ntmps63
  go_wp2_with (at_builtin;refine wpList_app rfl (.tmp 5) (.tmp 6) rfl w.heap.size (some ⟨w.heap.size,0,none⟩) 0 0 [] rfl (by exact OwnB.lit w _ [] _ 0 rfl rfl (by unfold maxLen;omega) (Nat.le_refl _)) B (some ad) n c l rfl (by exact hr2) (by omega) (by simp) ?_;intro A2 c2 w2 hown2 _ hb2)
  go_ret
  exact ⟨_,_,rfl,by simpa using hown2,(below_alloc _ _).trans hb2⟩
end Go.Proofs.YthppjgdnibfefaaGreat
namespace Go.Proofs.YthppjgdnibfefaaGreat
open Go.RowKit
theorem sy_disable (w:World):(callFunc 237 #[]).run Tryz.prog w=.ok (.value (.tuple #[])) w:=run_call_mark0 Tryz.func237 (by kernel_rfl) (by kernel_rfl) (by kernel_rfl) .disable (by kernel_rfl) w
theorem sy_enable (w:World):(callFunc 239 #[]).run Tryz.prog w=.ok (.value (.tuple #[])) w:=run_call_mark0 Tryz.func239 (by kernel_rfl) (by kernel_rfl) (by kernel_rfl) .enable (by kernel_rfl) w
theorem sy_acquire (a:Addr) (w:World):(callFunc 240 #[.pointer (some a)]).run Tryz.prog w=.ok (.value (.tuple #[])) w:=run_call_marked Tryz.func240 (by kernel_rfl) (by kernel_rfl) (by kernel_rfl) .acquire (by kernel_rfl) a w
theorem sy_releaseMerge (a:Addr) (w:World):(callFunc 242 #[.pointer (some a)]).run Tryz.prog w=.ok (.value (.tuple #[])) w:=run_call_marked Tryz.func242 (by kernel_rfl) (by kernel_rfl) (by kernel_rfl) .releaseMerge (by kernel_rfl) a w
theorem sy_store_deferred (a:Addr) (x:Value) (u:FrameMode) (w:World) (hc:w.cell? a=some x) (hz:w.frozen? a=false) :
  CallsD Tryz.prog 230 #[.pointer (some a),.bool true] u w fun e u' w'=>u'=u∧(e=.returned (.tuple #[])∧w'=w.drew.setCell a (.int .u32 1)):=by
 have hc':w.drew.cell? a=some x:=by go_simp
 have hz':w.drew.frozen? a=false:=by go_simp
 have hst:=run_call_store (P:=Tryz.prog) Tryz.func235 (by kernel_rfl) (by kernel_rfl) (by kernel_rfl) (by kernel_rfl) (k:=.u32) (y:=1) hc' hz'
 go_enter_d Tryz.func230,Tryz.ntmps230
 go_wp2
 go_region_calls
 all_goals (go_end0;exact ⟨rfl,rfl⟩)
theorem sy_unlock_deferred (a:Addr) (u:FrameMode) (w:World) (hc:w.cell? a=some (.int .i32 1)) (hz:w.frozen? a=false) :
  CallsD Tryz.prog 229 #[.pointer (some a)] u w fun e u' w'=>u'=u∧(e=.returned (.tuple #[])∧w'=w.setCell a (.int .i32 0)):=by
 have hd:=sy_disable
 have he:=sy_enable
 have hr:=sy_releaseMerge
 have hadd:=run_call_add (P:=Tryz.prog) Tryz.func243 (by kernel_rfl) (by kernel_rfl) (by kernel_rfl) .i32 (by kernel_rfl) (y:=-1) (s:=0) hc hz (by simp [go_sem];rfl)
 have hcv:=run_convert_to_unsafe (P:=Tryz.prog) (src:=314) (dst:=318) Tryz.underlying314 Tryz.underlying318 (by kernel_rfl) hc
 go_enter_d Tryz.func229,Tryz.ntmps229
 go_wp2
 go_end0
 go_wp2
 go_end0
 exact ⟨rfl,rfl⟩
theorem sy_lock (a:Addr) (w:World) (hc:w.cell? a=some (.int .i32 0)) (hz:w.frozen? a=false) :
  Calls Tryz.prog 228 #[.pointer (some a)] w fun e w'=>e=.returned (.tuple #[])∧w'=w.setCell a (.int .i32 1):=by
 have hd:=sy_disable
 have he:=sy_enable
 have ha:=sy_acquire
 have hcas:=run_call_cas_hit (P:=Tryz.prog) Tryz.func238 (by kernel_rfl) (by kernel_rfl) (by kernel_rfl) .i32 (by kernel_rfl) (y:=1) hc hz
 have hc':(w.setCell a (.int .i32 1)).cell? a=some (.int .i32 1):=World.cell?_setCell_same w a _ hc
 have hcv:=run_convert_to_unsafe (P:=Tryz.prog) (src:=314) (dst:=318) Tryz.underlying314 Tryz.underlying318 (by kernel_rfl) hc'
 go_enter Tryz.func228,Tryz.ntmps228
 go_wp2
 first | go_end0 | (simp only [Exit.inBlock,Exit.then];refine bodyPost_ret (results_none rfl _ _ _) rfl ?_) | refine bodyPost_ret (results_none rfl _ _ _) rfl ?_
 go_wp2
 go_end0
 exact ⟨rfl,rfl⟩
theorem sy_load (a:Addr) (d:Int) (v:Bool) (w:World) (hc:w.cell? a=some (.int .u32 d)) (hv:(d != 0)=v) :
  Calls Tryz.prog 220 #[.pointer (some a)] w fun e w'=>e=.returned (.bool v)∧w=w':=by
 have hl:=run_call_load (P:=Tryz.prog) Tryz.func227 (by kernel_rfl) (by kernel_rfl) (by kernel_rfl) .u32 (by kernel_rfl) hc
 go_enter Tryz.func220,Tryz.ntmps220
 go_wp2
 go_ret
 exact ⟨rfl,rfl⟩
theorem sy_load64 (a:Addr) (d:Int) (w:World) (hc:w.cell? a=some (.int .i64 d)) :
  Calls Tryz.prog 77 #[.pointer (some a)] w fun e w'=>e=.returned (.int .i64 d)∧w=w':=by
 have hl:=run_call_load (P:=Tryz.prog) Tryz.func112 (by kernel_rfl) (by kernel_rfl) (by kernel_rfl) .i64 (by kernel_rfl) hc
 go_enter Tryz.func77,Tryz.ntmps77
 go_wp2
 go_ret
 exact ⟨rfl,rfl⟩
theorem sy_add64 (a:Addr) (d n s:Int) (w:World) (hc:w.cell? a=some (.int .i64 d)) (hz:w.frozen? a=false) (hs:(Op.intArith .add .i64 d n).run Tryz.prog w=.ok (.int .i64 s) w) :
  Calls Tryz.prog 53 #[.pointer (some a),.int .i64 n] w fun e w'=>e=.returned (.int .i64 s)∧w.setCell a (.int .i64 s)=w':=by
 have hl:=run_call_add (P:=Tryz.prog) Tryz.func80 (by kernel_rfl) (by kernel_rfl) (by kernel_rfl) .i64 (by kernel_rfl) hc hz hs
 go_enter Tryz.func53,Tryz.ntmps53
 go_wp2
 go_ret
 exact ⟨rfl,rfl⟩
end Go.Proofs.YthppjgdnibfefaaGreat
