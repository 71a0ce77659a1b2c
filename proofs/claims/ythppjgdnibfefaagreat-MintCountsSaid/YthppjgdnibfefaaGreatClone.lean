import Derived.Test.YthppjgdnibfefaaGreatBytes
import Derived.Tactics
import Derived.Tactics2
import Derived.Defers
import Derived.Laws.Pointers
import Derived.Laws.LoneSync
import Derived.Laws.NewBlocks
import Derived.RegionTactic
import Derived.RegionCalls
import Derived.ChangeAlike
set_option linter.all false
set_option maxRecDepth 100000
set_option maxHeartbeats 32000000
namespace Go.Proofs.YthppjgdnibfefaaGreat
open Tryz
open Go.RowKit
theorem CvK (A:YA) (n c d:Nat) (W:World):(Op.equalIn (d+1) 41 (.slice A n c) (.slice none 0 0)).run prog W=.ok A.isNone W:=by
 cases A <;> simp [Op.equalIn,run_underlying underlying41]
theorem CvQ (A:YA) (n c:Nat) (W:World):(Op.equal 41 (.slice A n c) (.slice none 0 0)).run prog W=.ok A.isNone W:=CvK A n c 9999 W
theorem CvV (A:YA) (n c:Nat) (W:World):(binOp .eql 41 (.slice A n c) (.slice none 0 0)).run prog W=.ok (.bool A.isNone) W:=by
 simp [binOp,CvQ A n c]
theorem CfJ (A:YA) (n c B:Nat) (l:YB) (w:World) (h:RB w B A n l) (hB:B≤w.heap.size) (hn:n≤140737488355328) :
  Calls prog 63 #[.slice A n c] w (RetB n l w):=by
 rcases A with _ | ad
 ·obtain rfl:n=0:=by
   rcases Nat.eq_zero_or_pos n with h0 | h0
   ·exact h0
   ·obtain ⟨b,o,e,_⟩:=h.2 h0
    exact absurd e (by simp)
  have hl:l=[]:=List.eq_nil_of_length_eq_zero h.len;subst hl;have hnil:∀ W:World,(binOp .eql 41 (.slice none 0 c) (.slice none 0 0)).run prog W=.ok (.bool true) W:=fun W=>CvV none 0 c W;go_enter func63,ntmps63;go_wp2;go_ret;exact ⟨none,0,rfl,OwnB.nil_ _ _,Below.refl _ _⟩
 ·have hnil:∀ W:World,(binOp .eql 41 (.slice (some ad) n c) (.slice none 0 0)).run prog W=.ok (.bool false) W:=fun W=>CvV (some ad) n c W
  have hr2:RB (w.alloc (.cells #[] 5)) B (some ad) n l:=h.alloc hB _;go_enter func63,ntmps63;go_wp2_with (at_builtin;refine AcQ rfl (.tmp 5) (.tmp 6) rfl w.heap.size (some ⟨w.heap.size,0,none⟩) 0 0 [] rfl (by exact OwnB.lit w _ [] _ 0 rfl rfl (by unfold maxLen;omega) (Nat.le_refl _)) B (some ad) n c l rfl (by exact hr2) (by omega) (by simp) ?_;intro A2 c2 w2 hown2 _ hb2);go_ret;exact ⟨_,_,rfl,by simpa using hown2,(AaK _ _).trans hb2⟩
open Go.RowKit
theorem ChZ (w:World):(callFunc 237 #[]).run prog w=.ok (.value (.tuple #[])) w:=run_call_mark0 func237 (by kernel_rfl) (by kernel_rfl) (by kernel_rfl) .disable (by kernel_rfl) w
theorem CuY (w:World):(callFunc 239 #[]).run prog w=.ok (.value (.tuple #[])) w:=run_call_mark0 func239 (by kernel_rfl) (by kernel_rfl) (by kernel_rfl) .enable (by kernel_rfl) w
theorem DzK (a:Addr) (w:World):(callFunc 240 #[.pointer (some a)]).run prog w=.ok (.value (.tuple #[])) w:=run_call_marked func240 (by kernel_rfl) (by kernel_rfl) (by kernel_rfl) .acquire (by kernel_rfl) a w
theorem BzY (a:Addr) (w:World):(callFunc 242 #[.pointer (some a)]).run prog w=.ok (.value (.tuple #[])) w:=run_call_marked func242 (by kernel_rfl) (by kernel_rfl) (by kernel_rfl) .releaseMerge (by kernel_rfl) a w
theorem AxZ (a:Addr) (x:Value) (u:FrameMode) (w:World) (hc:w.cell? a=some x) (hz:w.frozen? a=false) :
  CallsD prog 230 #[.pointer (some a),.bool true] u w fun e u' w'=>u'=u∧(e=.returned (.tuple #[])∧w'=w.drew.setCell a (.int .u32 1)):=by
 have hc':w.drew.cell? a=some x:=by go_simp
 have hz':w.drew.frozen? a=false:=by go_simp
 have hst:=run_call_store (P:=prog) func235 (by kernel_rfl) (by kernel_rfl) (by kernel_rfl) (by kernel_rfl) (k:=.u32) (y:=1) hc' hz'
 go_enter_d func230,ntmps230
 go_wp2
 go_region_calls
 all_goals (go_end0;exact ⟨rfl,rfl⟩)
theorem AvW (a:Addr) (u:FrameMode) (w:World) (hc:w.cell? a=some (.int .i32 1)) (hz:w.frozen? a=false) :
  CallsD prog 229 #[.pointer (some a)] u w fun e u' w'=>u'=u∧(e=.returned (.tuple #[])∧w'=w.setCell a (.int .i32 0)):=by
 have hd:=ChZ
 have he:=CuY
 have hr:=BzY
 have hadd:=run_call_add (P:=prog) func243 (by kernel_rfl) (by kernel_rfl) (by kernel_rfl) .i32 (by kernel_rfl) (y:=-1) (s:=0) hc hz (by simp [go_sem];rfl)
 have hcv:=run_convert_to_unsafe (P:=prog) (src:=314) (dst:=318) underlying314 underlying318 (by kernel_rfl) hc
 go_enter_d func229,ntmps229
 go_wp2
 go_end0
 go_wp2
 go_end0
 exact ⟨rfl,rfl⟩
theorem EkQ (a:Addr) (w:World) (hc:w.cell? a=some (.int .i32 0)) (hz:w.frozen? a=false) :
  Calls prog 228 #[.pointer (some a)] w fun e w'=>e=.returned (.tuple #[])∧w'=w.setCell a (.int .i32 1):=by
 have hd:=ChZ
 have he:=CuY
 have ha:=DzK
 have hcas:=run_call_cas_hit (P:=prog) func238 (by kernel_rfl) (by kernel_rfl) (by kernel_rfl) .i32 (by kernel_rfl) (y:=1) hc hz
 have hc':(w.setCell a (.int .i32 1)).cell? a=some (.int .i32 1):=World.cell?_setCell_same w a _ hc
 have hcv:=run_convert_to_unsafe (P:=prog) (src:=314) (dst:=318) underlying314 underlying318 (by kernel_rfl) hc'
 go_enter func228,ntmps228
 go_wp2
 first | go_end0 | (simp only [Exit.inBlock,Exit.then];refine bodyPost_ret (results_none rfl _ _ _) rfl ?_) | refine bodyPost_ret (results_none rfl _ _ _) rfl ?_
 go_wp2
 go_end0
 exact ⟨rfl,rfl⟩
theorem BpK (a:Addr) (d:Int) (v:Bool) (w:World) (hc:w.cell? a=some (.int .u32 d)) (hv:(d != 0)=v) :
  Calls prog 220 #[.pointer (some a)] w fun e w'=>e=.returned (.bool v)∧w=w':=by
 have hl:=run_call_load (P:=prog) func227 (by kernel_rfl) (by kernel_rfl) (by kernel_rfl) .u32 (by kernel_rfl) hc
 go_enter func220,ntmps220
 go_wp2
 go_ret
 exact ⟨rfl,rfl⟩
theorem BzZ (a:Addr) (d:Int) (w:World) (hc:w.cell? a=some (.int .i64 d)) :
  Calls prog 77 #[.pointer (some a)] w fun e w'=>e=.returned (.int .i64 d)∧w=w':=by
 have hl:=run_call_load (P:=prog) func112 (by kernel_rfl) (by kernel_rfl) (by kernel_rfl) .i64 (by kernel_rfl) hc
 go_enter func77,ntmps77
 go_wp2
 go_ret
 exact ⟨rfl,rfl⟩
theorem AzZ (a:Addr) (d n s:Int) (w:World) (hc:w.cell? a=some (.int .i64 d)) (hz:w.frozen? a=false) (hs:(Op.intArith .add .i64 d n).run prog w=.ok (.int .i64 s) w) :
  Calls prog 53 #[.pointer (some a),.int .i64 n] w fun e w'=>e=.returned (.int .i64 s)∧w.setCell a (.int .i64 s)=w':=by
 have hl:=run_call_add (P:=prog) func80 (by kernel_rfl) (by kernel_rfl) (by kernel_rfl) .i64 (by kernel_rfl) hc hz hs
 go_enter func53,ntmps53
 go_wp2
 go_ret
 exact ⟨rfl,rfl⟩
