/- octet.Equal compares the bytes of two slices, whatever the memory. Condition: the slices' cells are readable. -/
import Derived.Test.YtmpidjadpcpbfaaBytes
import Derived.Lib.Strings
import Derived.Lib.Bytealg
namespace Go.Proofs.Ytmpidjadpcpbfaa
open Go.RowKit
set_option linter.unusedVariables false

theorem strL_beq (l l' : List UInt8) : ((strL l).toList == (strL l').toList) = (l == l') := by
  rw [Lib.toList_data, Lib.toList_data]
  rfl
set_option maxHeartbeats 400000 in
theorem bequal_any (A A' : Option Addr) (n c n' c' B B' : Nat) (l l' : List UInt8) (w : World) (h : RB w B A n l) (h' : RB w B' A' n' l') :
    Calls Try.prog 38 #[.slice A n c, .slice A' n' c'] w fun e w' => e = .returned (.bool (l == l')) ∧ w = w' := by
  have h1 := run_str h c
  have h2 := run_str h' c'
  rw [← strL_beq]
  go_enter Try.func38, Try.ntmps38
  go_wp2
  go_ret
  exact ⟨rfl, rfl⟩
set_option maxHeartbeats 400000 in
theorem equal_any (A A' : Option Addr) (n c n' c' B B' : Nat) (l l' : List UInt8) (w : World) (h : RB w B A n l) (h' : RB w B' A' n' l') :
    Calls Try.prog 22 #[.slice A n c, .slice A' n' c'] w fun e w' => e = .returned (.bool (l == l')) ∧ w = w' := by
  go_enter Try.func22, Try.ntmps22
  go_wp2_with (go_at_call 38; refine (bequal_any _ _ _ _ _ _ _ _ l l' _ h h').mono ?_; rintro e w' ⟨rfl, rfl⟩)
  go_ret
  exact ⟨rfl, rfl⟩

end Go.Proofs.Ytmpidjadpcpbfaa
