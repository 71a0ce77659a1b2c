import Derived.Test.YthppjgdnibfefaaGreatTkL
set_option linter.all false
set_option maxRecDepth 100000
set_option maxHeartbeats 32000000
namespace Go.Proofs.YthppjgdnibfefaaGreat
open Tryz
open Go.RowKit
theorem or_200:bits .or .i64 192 8=200:=by decide +kernel
theorem EuY (A:YA) (c:Nat) (l:YB) (w:World) (h:RB w w.heap.size A 8 l) :
  Calls prog 180 #[.int .i64 3,.slice A 8 c] w fun e w'=>∃ A' c',e=.returned (.slice A' 9 c')∧OwnB w' w.heap.size A' 9 c' (200::l)∧Below w.heap.size w w':=by
 have hor:=or_200
 have H:=η h
 clear h
 go_enter func180,ntmps180
 go_wp2_with fail
 have B1:=η (AaK w (.cells #[.int .u8 200] 5))
 have R1:=η (RB.lit w [200] #[.int .u8 200] 1 _ rfl rfl rfl)
 obtain ⟨w1,hw1⟩:∃ w1,w.alloc (.cells #[.int .u8 200] 5)=w1:=⟨_,rfl⟩
 rw [hw1] at B1 R1 ⊢
 refine (jn2 w1 (some ⟨w.heap.size,0,none⟩) A 1 8 1 c [200] l (by exact R1.o) (by exact H.o.step B1.o) (by omega) (by omega) _ (by rw [←hw1];simp) 9 rfl (200::l) rfl).mono ?_
 rintro e w2 ⟨A2,c2,rfl,ho,hb⟩
 have K2:=η (And.intro (ho.base_le B1.o.size) (AaJ B1.o hb))
 clear ho hb
 go_wp2_with fail
 go_ret
 exact ⟨A2,c2,rfl,K2.o.1,K2.o.2⟩
theorem DlJ (A:YA) (c:Nat) (l:YB) (w:World) (h:RB w w.heap.size A 8 l) :
  Calls prog 146 #[.int .i64 3,.slice A 8 c] w (AhW 9 (200::l) 0 w):=by
 have H:=η h
 clear h
 go_enter func146,ntmps146
 go_wp2_with fail
 refine (EuY A c l w (by exact H.o)).mono ?_
 rintro e w1 ⟨A6,c6,rfl,ho,hb⟩
 have K2:=η (And.intro ho hb)
 clear ho hb
 go_wp2_with fail
 go_ret2
 exact ⟨A6,c6,rfl,K2.o.1,K2.o.2⟩
theorem DhX (A:YA) (c:Nat) (l:YB) (w:World) (h:RB w w.heap.size A 8 l) :
  Calls prog 141 #[.int .i64 3,.slice A 8 c] w (AhW 9 (200::l) 0 w):=by
 have H:=η h
 clear h
 go_enter func141,ntmps141
 go_wp2_with (first
  | (at_builtin;refine AcQ rfl _ _ rfl w.heap.size _ 1 1 [200] rfl (by exact OwnB.lit w _ [200] _ 1 rfl rfl (by unfold maxLen;omega) (Nat.le_refl _)) w.heap.size A 8 c l rfl (by exact H.o.alloc (Nat.le_refl _) _) (by omega) (by simp) ?_;intro A1 c1 w1 ho _ hb;have O1:=η ho;have B1:=η (((Below.refl _ _).alloc (Nat.le_refl _) _).trans hb);clear ho hb))
 go_ret2
 exact ⟨A1,c1,rfl,O1.o,B1.o⟩
