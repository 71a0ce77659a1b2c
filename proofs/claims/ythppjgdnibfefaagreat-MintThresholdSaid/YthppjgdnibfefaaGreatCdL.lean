/- Layer 17's Plain at the point 3 and eight bytes, ours and the reference's (layer 21 makes its ids so). Condition: the bytes can be read. (Written in round 20, not built yet: no seat had codec's functions.) -/
import Derived.Test.YthppjgdnibfefaaGreatTkL
import Derived.Test.YthppjgdnibfefaaGreatRowsIn
set_option linter.unusedVariables false
set_option linter.unusedSimpArgs false
set_option maxRecDepth 100000
set_option maxHeartbeats 32000000
namespace Go.Proofs.YthppjgdnibfefaaGreat
open Go.RowKit
theorem or_200:bits .or .i64 192 8=200:=by decide +kernel
theorem lead8_any (A:Option Addr) (c:Nat) (l:List UInt8) (w:World) (h:RB w w.heap.size A 8 l) :
  Calls Tryz.prog 180 #[.int .i64 3,.slice A 8 c] w fun e w'=>∃ A' c',e=.returned (.slice A' 9 c')∧OwnB w' w.heap.size A' 9 c' (200::l)∧Below w.heap.size w w':=by
 have hor:=or_200
 have H:=η h
 clear h
 go_enter Tryz.func180,Tryz.ntmps180
 go_wp2_with fail
 have B1:=η (below_alloc w (.cells #[.int .u8 200] 5))
 have R1:=η (RB.lit w [200] #[.int .u8 200] 1 _ rfl rfl rfl)
 obtain ⟨w1,hw1⟩:∃ w1,w.alloc (.cells #[.int .u8 200] 5)=w1:=⟨_,rfl⟩
 rw [hw1] at B1 R1 ⊢
 refine (jn2 w1 (some ⟨w.heap.size,0,none⟩) A 1 8 1 c [200] l (by exact R1.out) (by exact H.out.step B1.out) (by omega) (by omega) _ (by rw [←hw1];simp) 9 rfl (200::l) rfl).mono ?_
 rintro e w2 ⟨A2,c2,rfl,ho,hb⟩
 have K2:=η (And.intro (ho.base_le B1.out.size) (bel_next B1.out hb))
 clear ho hb
 go_wp2_with fail
 go_ret
 exact ⟨A2,c2,rfl,K2.out.1,K2.out.2⟩
theorem cplain8_any (A:Option Addr) (c:Nat) (l:List UInt8) (w:World) (h:RB w w.heap.size A 8 l) :
  Calls Tryz.prog 146 #[.int .i64 3,.slice A 8 c] w (RetBE 9 (200::l) 0 w):=by
 have H:=η h
 clear h
 go_enter Tryz.func146,Tryz.ntmps146
 go_wp2_with fail
 refine (lead8_any A c l w (by exact H.out)).mono ?_
 rintro e w1 ⟨A6,c6,rfl,ho,hb⟩
 have K2:=η (And.intro ho hb)
 clear ho hb
 go_wp2_with fail
 go_ret2
 exact ⟨A6,c6,rfl,K2.out.1,K2.out.2⟩
end Go.Proofs.YthppjgdnibfefaaGreat
