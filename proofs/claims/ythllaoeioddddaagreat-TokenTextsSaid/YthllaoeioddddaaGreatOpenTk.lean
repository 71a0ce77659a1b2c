/- What a token tells, that comes in as data, opened into what the walks ask. Nothing is claimed of the program here. -/
import Derived.Test.YthllaoeioddddaaGreatOpen
import Derived.Test.YthllaoeioddddaaGreatTkL
import Derived.Lib.SmallJoins
namespace Go.Proofs.YthllaoeioddddaaGreat
open Go.ChangeShapes Go.WideShapes Go.ChangeAt Go.RowKit Go.Joins Go.Deep
set_option linter.unusedVariables false
theorem open_cellT {H : Type} {enc : TypeId × Value → H} {w : World} {f : Nat} {v : Value} {x : DataW H × List MemPlace}
    (hf : DataW.trod enc Tryz.prog w 0 (fun _ => true) true f 23 [v] = some x) : ∃ (A : Option Addr) (l : List UInt8) (c : Nat), v = .slice A l.length c ∧ RB w w.heap.size A l.length l ∧ l.length ≤ c ∧ c ≤ maxLen := by
  rcases open_ints Tryz.underlying23 Tryz.underlying5 (by kernel_rfl) hf with ⟨hcs, _⟩ | ⟨a, l, c, zs, hcs, _, hl, hm, hz, _, hcell, hwz⟩
  · simp at hcs
    subst hcs
    exact ⟨none, [], 0, rfl, RB.nil_, Nat.le_refl _, Nat.zero_le _⟩
  · simp at hcs
    subst hcs
    obtain ⟨ls, hr⟩ := rb_of_cells hl (by simpa using hz) hcell hwz
    have e := hr.len
    subst e
    exact ⟨some a, ls, c, rfl, hr, hl, hm⟩
set_option maxRecDepth 100000 in
/-- Fields that came in. -/
theorem open_tk {H : Type} {enc : TypeId × Value → H} {w : World} {r : Reach} {b0 : Nat} {v : Value} {d : DataW H} {p : List MemPlace}
    (hv : Value.okWide Tryz.prog w r b0 25 v) (h : DataW.Trod enc Tryz.prog w 0 (fun _ => true) true 25 v d p) : ∃ f : Fd, f.ok w ∧ v = f.val := by
  obtain ⟨v0, v1, v2, y0, y1, y2, n, rfl, _, _, h0, h1, h2⟩ := open_agg3 Tryz.underlying25 (by kernel_rfl) (by kernel_rfl) hv h
  obtain ⟨a, ha, _, wa⟩ := DataW.trod_int Tryz.underlying22 h0
  injection ha with ha _
  subst ha
  obtain ⟨A1, l1, c1, rfl, r1, s1⟩ := open_cellT h1
  obtain ⟨A2, l2, c2, rfl, r2, s2⟩ := open_cellT h2
  have ha2 : 0 ≤ a ∧ a ≤ 18446744073709551615 := bounds_u64 wa
  have hn : ((a.toNat : Nat) : Int) = a := Int.toNat_of_nonneg ha2.1
  refine ⟨⟨a.toNat, A1, c1, l1, A2, c2, l2⟩, ⟨by simp only; omega, r1, r2, s1, s2⟩, ?_⟩
  unfold Fd.val Fd.cells
  simp only [hn]
end Go.Proofs.YthllaoeioddddaaGreat
