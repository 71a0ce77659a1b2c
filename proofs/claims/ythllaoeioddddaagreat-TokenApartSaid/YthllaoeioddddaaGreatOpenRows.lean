/- Rows of bytes that come in as data, opened into what the walks ask. Nothing is claimed of the program here. -/
import Derived.Test.YthllaoeioddddaaGreatOpen
import Derived.Test.YthllaoeioddddaaGreatRowsIn
import Derived.Deep.Slices
namespace Go.Proofs.YthllaoeioddddaaGreat
open Go.ChangeShapes Go.WideShapes Go.ChangeAt Go.RowKit
open Go.ChangeMaps (open_string shut_string)
set_option linter.unusedVariables false

/-- One part among rows. -/
theorem open_part {H : Type} {enc : TypeId × Value → H} {w : World} {f : Nat} {v : Value} {x : DataW H × List MemPlace}
    (hf : DataW.trod enc Tryz.prog w 0 (fun _ => true) true f 23 [v] = some x) : ∃ r : Option Addr × List UInt8 × Nat, v = .slice r.1 r.2.1.length r.2.2 ∧ RB w w.heap.size r.1 r.2.1.length r.2.1 ∧ r.2.1.length ≤ maxLen ∧ r.2.1.length ≤ r.2.2 := by
  rcases open_ints Tryz.underlying23 Tryz.underlying5 (by kernel_rfl) hf with ⟨hcs, _⟩ | ⟨a, l, c, zs, hcs, _, hl, hm, hz, _, hcell, hwz⟩
  · simp at hcs
    subst hcs
    exact ⟨(none, [], 0), rfl, RB.nil_, Nat.zero_le _, Nat.le_refl _⟩
  · simp at hcs
    subst hcs
    obtain ⟨ls, hr⟩ := rb_of_cells hl (by simpa using hz) hcell hwz
    have e := hr.len
    subst e
    exact ⟨(some a, ls, c), rfl, hr, by unfold maxLen at hm ⊢; simp only; omega, hl⟩
/-- Rows that came in, each of a length that an int holds. -/
def RP (w : World) (B : Nat) (A : Option Addr) (n : Nat) (ps : List (List UInt8)) : Prop := RR w B A n ps ∧ ∀ p ∈ ps, p.length ≤ maxLen
/-- Each row has room for its bytes. -/
def Caps (w : World) (A : Option Addr) (n : Nat) : Prop := ∀ b o i Ai ni ci, A = some ⟨b, o, none⟩ → i < n → w.cell? ⟨b, o + i, none⟩ = some (.slice Ai ni ci) → ni ≤ ci
def RPC (w : World) (B : Nat) (A : Option Addr) (n : Nat) (ps : List (List UInt8)) : Prop := RP w B A n ps ∧ Caps w A n
end Go.Proofs.YthllaoeioddddaaGreat
