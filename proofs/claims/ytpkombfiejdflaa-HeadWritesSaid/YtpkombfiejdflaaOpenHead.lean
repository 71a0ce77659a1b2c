/- A header that comes in as data, opened into what the walks ask. Nothing is claimed of the program here. -/
import Derived.Test.YtpkombfiejdflaaOpen
import Derived.Test.YtpkombfiejdflaaHeadK
import Derived.Lib.SmallJoins
namespace Go.Proofs.Ytpkombfiejdflaa
open Go.ChangeShapes Go.WideShapes Go.ChangeAt Go.RowKit Go.Joins Go.Deep
set_option linter.unusedVariables false

theorem open_cell {H : Type} {enc : TypeId × Value → H} {w : World} {f : Nat} {v : Value} {x : DataW H × List MemPlace}
    (hf : DataW.trod enc Try.prog w 0 (fun _ => true) true f 22 [v] = some x) : ∃ (A : Option Addr) (l : List UInt8) (c : Nat), v = .slice A l.length c ∧ RB w w.heap.size A l.length l ∧ l.length ≤ c ∧ c ≤ maxLen := by
  rcases open_ints Try.underlying22 Try.underlying5 (by kernel_rfl) hf with ⟨hcs, _⟩ | ⟨a, l, c, zs, hcs, _, hl, hm, hz, _, hcell, hwz⟩
  · simp at hcs
    subst hcs
    exact ⟨none, [], 0, rfl, RB.nil_, Nat.le_refl _, Nat.zero_le _⟩
  · simp at hcs
    subst hcs
    obtain ⟨ls, hr⟩ := rb_of_cells hl (by simpa using hz) hcell hwz
    have e := hr.len
    subst e
    exact ⟨some a, ls, c, rfl, hr, hl, hm⟩
set_option maxRecDepth 100000 in
/-- A header that came in. -/
theorem open_head {H : Type} {enc : TypeId × Value → H} {w : World} {r : Reach} {b0 : Nat} {v : Value} {d : DataW H} {p : List MemPlace}
    (hv : Value.okWide Try.prog w r b0 27 v) (h : DataW.Trod enc Try.prog w 0 (fun _ => true) true 27 v d p) : ∃ h : Hd, h.ok w ∧ v = h.val := by
  obtain ⟨v0, v1, v2, v3, y0, y1, y2, y3, n, rfl, _, _, h0, h1, h2, h3⟩ := open_agg4 Try.underlying27 (by kernel_rfl) (by kernel_rfl) hv h
  obtain ⟨a, ha, _, wa⟩ := DataW.trod_int Try.underlying5 h0
  obtain ⟨b, hb, _, wb⟩ := DataW.trod_int Try.underlying25 h1
  injection ha with ha _
  injection hb with hb _
  subst ha hb
  obtain ⟨A2, l2, c2, rfl, r2, s2⟩ := open_cell h2
  obtain ⟨A3, l3, c3, rfl, r3, s3⟩ := open_cell h3
  obtain ⟨f, rfl⟩ := byte_of wa
  have hb2 : 0 ≤ b ∧ b ≤ 4294967295 := bounds_u32 wb
  have hn : ((b.toNat : Nat) : Int) = b := Int.toNat_of_nonneg hb2.1
  refine ⟨⟨f, b.toNat, A2, c2, l2, A3, c3, l3⟩, ⟨r2, r3, s2, s3, by simp only; omega⟩, ?_⟩
  unfold Hd.val Hd.cells
  simp only [hn]
end Go.Proofs.Ytpkombfiejdflaa
