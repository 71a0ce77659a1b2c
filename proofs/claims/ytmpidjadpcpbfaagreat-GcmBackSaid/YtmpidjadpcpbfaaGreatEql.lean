/- octet.Equal compares the bytes of two slices, whatever the memory. Condition: the slices' cells are readable. -/
import Derived.Test.YtmpidjadpcpbfaaGreatBytes
import Derived.Lib.Strings
import Derived.Lib.Bytealg
namespace Go.Proofs.YtmpidjadpcpbfaaGreat
open Go.RowKit
set_option linter.unusedVariables false

theorem strL_beq (l l' : List UInt8) : ((strL l).toList == (strL l').toList) = (l == l') := by
  rw [Lib.toList_data, Lib.toList_data]
  rfl
set_option maxHeartbeats 400000 in
theorem bequal_any (A A' : Option Addr) (n c n' c' B B' : Nat) (l l' : List UInt8) (w : World) (h : RB w B A n l) (h' : RB w B' A' n' l') :
    Calls Tryz.prog 57 #[.slice A n c, .slice A' n' c'] w fun e w' => e = .returned (.bool (l == l')) ∧ w = w' := by
  have h1 := run_str h c
  have h2 := run_str h' c'
  rw [← strL_beq]
  go_enter Tryz.func57, Tryz.ntmps57
  go_wp2
  go_ret
  exact ⟨rfl, rfl⟩
set_option maxHeartbeats 400000 in
theorem equal_any (A A' : Option Addr) (n c n' c' B B' : Nat) (l l' : List UInt8) (w : World) (h : RB w B A n l) (h' : RB w B' A' n' l') :
    Calls Tryz.prog 33 #[.slice A n c, .slice A' n' c'] w fun e w' => e = .returned (.bool (l == l')) ∧ w = w' := by
  go_enter Tryz.func33, Tryz.ntmps33
  go_wp2_with (go_at_call 57; refine (bequal_any _ _ _ _ _ _ _ _ l l' _ h h').mono ?_; rintro e w' ⟨rfl, rfl⟩)
  go_ret
  exact ⟨rfl, rfl⟩

end Go.Proofs.YtmpidjadpcpbfaaGreat
