/- count's After and Next. Condition: the slices' cells are readable. -/
import Derived.Test.YtlapnfpdkfhfdaaRefCountAll
import Derived.Test.YtlapnfpdkfhfdaaOctAll
import Derived.Test.YtlapnfpdkfhfdaaAesAll
import Derived.Test.YtlapnfpdkfhfdaaObK
namespace Go.Proofs.Ytlapnfpdkfhfdaa
attribute [local irreducible] aftL encL tableL blksL blkL strmL putL numL
open Go.RowKit
set_option linter.unusedVariables false

theorem aftL_eq (l : List UInt8) (k V : Nat) (h : V = aftN l k) : l.take 12 ++ putL V 4 = aftL l k := by
  subst h
  unfold aftL
  rfl
theorem downL_four (V : Nat) (h : V < 2 ^ 32) : downL V 4 = 0 := by
  rw [downL_pow]
  exact Nat.div_eq_of_lt (by omega)
end Go.Proofs.Ytlapnfpdkfhfdaa

/- count's Stream and Turn. Condition: the slices' cells are readable. -/
namespace Go.Proofs.Ytlapnfpdkfhfdaa
attribute [local irreducible] wsW keyUpTo keyF lastW turn0 encUp decUp aftL encL tableL blksL blkL strmL putL numL
open Go.RowKit
set_option linter.unusedVariables false

/-- What a call of Stream gives. -/
def RetS (n : Nat) (l : List UInt8) (w : World) (e : Ending) (w' : World) : Prop :=
  ∃ A c, e = .returned (.tuple #[.slice A n c, .int .i64 0]) ∧ RB w' w'.heap.size A n l ∧ (n ≤ c ∧ c ≤ maxLen) ∧ Below w.heap.size w w'
def lenV : Value → Nat | .slice _ n _ => n | _ => 0
theorem cut_hm (A : Option Addr) (n c h : Nat) (h2 : h ≤ c) : ∀ W : World, (Instr.slice 23 (.slice A n c) none (some (.int .i64 (h : Int))) (some (.int .i64 (h : Int)))).run Try.prog W = .ok (.slice (cutA A h 0) h h) W := by
  intro W
  simp [Instr.slice, Instr.sliceBounds, Instr.sliceBound, asIntOf, go_sem, run_underlying Try.underlying23, h2, cutA]

end Go.Proofs.Ytlapnfpdkfhfdaa

/- All blocks that were there are as they were, but those of a list. No conditions; nothing is claimed of the program here. -/
namespace Go.Proofs.Ytlapnfpdkfhfdaa
open Go.RowKit
set_option linter.unusedVariables false

/-- Every block of w but those of S is in w' as it was; the streams are as they were; no block has gone. -/
structure Off (S : List Nat) (w w' : World) : Prop where
  os : w'.os = w.os
  tape : w'.tape = w.tape
  output : w'.output = w.output
  size : w.heap.size ≤ w'.heap.size
  block : ∀ k, k < w.heap.size → k ∉ S → w'.heap[k]? = w.heap[k]?
/-- The slice's block is none of S. -/
def AwayS (A : Option Addr) (S : List Nat) : Prop := ∀ x ∈ S, Away A x
section
variable {S : List Nat} {w w1 w' : World} {base B n c b : Nat} {A : Option Addr} {l : List UInt8}
theorem Off.refl (S : List Nat) (w : World) : Off S w w := ⟨rfl, rfl, rfl, Nat.le_refl _, fun _ _ _ => rfl⟩
theorem Off.of_below (h : Below w.heap.size w w') : Off S w w' := ⟨h.os, h.tape, h.output, h.size, fun k hk _ => h.block k hk⟩
theorem Off.of_but (h : But b w w') (hb : b ∈ S) : Off S w w' := ⟨h.os, h.tape, h.output, h.size, fun k hk hn => h.block k hk (fun e => hn (by rw [e]; exact hb))⟩
theorem Off.trans (h : Off S w w1) (k : Off S w1 w') : Off S w w' :=
  ⟨k.os.trans h.os, k.tape.trans h.tape, k.output.trans h.output, Nat.le_trans h.size k.size, fun i hi hb => (k.block i (Nat.lt_of_lt_of_le hi h.size) hb).trans (h.block i hi hb)⟩
theorem Off.behind (h : Off S w w1) (k : Below w.heap.size w1 w') : Off S w w' :=
  ⟨k.os.trans h.os, k.tape.trans h.tape, k.output.trans h.output, Nat.le_trans h.size k.size, fun i hi hb => (k.block i hi).trans (h.block i hi hb)⟩
theorem Off.drew (h : Off S w w1) : Off S w w1.drew := ⟨h.os, h.tape, h.output, h.size, h.block⟩
theorem Off.below {lo : Nat} (h : Off S w w') (h1 : ∀ x ∈ S, lo ≤ x) (h2 : lo ≤ w.heap.size) : Below lo w w' :=
  ⟨h.os, h.tape, h.output, h.size, fun k hk => h.block k (Nat.lt_of_lt_of_le hk h2) (fun e => absurd (h1 k e) (by omega))⟩
theorem RB.off (h : RB w w.heap.size A n l) (hb : Off S w w') (ha : 0 < n → AwayS A S) : RB w' w'.heap.size A n l :=
  ⟨h.1, fun hn => by
    obtain ⟨g, o, e, hg, hc⟩ := h.2 hn
    refine ⟨g, o, e, Nat.lt_of_lt_of_le hg hb.size, fun i hi => ?_⟩
    rw [← hc i hi]
    exact World.cell?_of_block (w := w) (hb.block g hg (fun hm => ha hn g hm g o e rfl))⟩
theorem OwnB.off (h : OwnB w base A n c l) (hb : Off S w w') (ha : AwayS A S) : OwnB w' base A n c l := by
  refine ⟨h.1, ?_⟩
  rcases h.2 with h0 | ⟨g, cap, cur, hv, hbg, hh, r⟩
  · exact .inl h0
  · injection hv with hA
    exact .inr ⟨g, cap, cur, by rw [hA]; congr, hbg, (hb.block g (Array.getElem?_eq_some_iff.1 hh).1 (fun hm => ha g hm g 0 hA rfl)).trans hh, r⟩
theorem RB.afar (h : RB w B A n l) (hb : ∀ x ∈ S, B ≤ x) : 0 < n → AwayS A S := fun hn x hx => h.far hn (hb x hx)
theorem OwnB.afar (h : OwnB w base A n c l) (hb : ∀ x ∈ S, x < base) : AwayS A S := fun x hx => h.far (hb x hx)
end
end Go.Proofs.Ytlapnfpdkfhfdaa

