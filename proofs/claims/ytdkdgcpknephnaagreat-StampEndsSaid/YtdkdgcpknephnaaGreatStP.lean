/- Layer 12's Parse, plainly; Retries in memory (records of an Initial's form). Nothing is claimed of the program here. -/
import Derived.Test.YtdkdgcpknephnaaGreatIniAll
namespace Go.Proofs.YtdkdgcpknephnaaGreat
open Go.RowKit
set_option linter.unusedVariables false
set_option linter.unusedSimpArgs false

def schk (p : Pl) : Int := if p.2.1 ≠ 1 ∨ typ p.1 ≠ 3 then 14 else if 20 < p.2.2.1.length ∨ 20 < p.2.2.2.length then 15 else 0
/-- Parse. -/
def sprs (l : List UInt8) : IPl × Int :=
  if (prs l).2.2 ≠ 0 then (zeroIP, (prs l).2.2) else if schk (prs l).1 ≠ 0 then (zeroIP, schk (prs l).1)
  else if (prs l).2.1.length < 17 then (zeroIP, 12) else (((prs l).1, (prs l).2.1.take ((prs l).2.1.length - 16), (prs l).2.1.drop ((prs l).2.1.length - 16)), 0)
theorem typ_lt (f : UInt8) : typ f < 4 := Nat.mod_lt _ (by decide)
theorem schk_cases (p : Pl) : (schk p = 14 ∧ (p.2.1 ≠ 1 ∨ typ p.1 ≠ 3)) ∨ (schk p = 15 ∧ p.2.1 = 1 ∧ typ p.1 = 3 ∧ (20 < p.2.2.1.length ∨ 20 < p.2.2.2.length)) ∨ (schk p = 0 ∧ p.2.1 = 1 ∧ typ p.1 = 3 ∧ p.2.2.1.length ≤ 20 ∧ p.2.2.2.length ≤ 20) := by
  unfold schk
  by_cases h : p.2.1 ≠ 1 ∨ typ p.1 ≠ 3
  · exact .inl ⟨if_pos h, h⟩
  · rw [if_neg h]
    by_cases h2 : 20 < p.2.2.1.length ∨ 20 < p.2.2.2.length
    · exact .inr (.inl ⟨if_pos h2, by omega, by omega, h2⟩)
    · exact .inr (.inr ⟨if_neg h2, by omega, by omega, by omega, by omega⟩)
theorem sprs_small (l : List UInt8) : (sprs l).1.1.2.2.1.length ≤ 255 ∧ (sprs l).1.1.2.2.2.length ≤ 255 ∧ (sprs l).1.2.1.length ≤ l.length ∧ (sprs l).1.2.2.length ≤ l.length := by
  have z : zeroIP.1.2.2.1.length ≤ 255 ∧ zeroIP.1.2.2.2.length ≤ 255 ∧ zeroIP.2.1.length ≤ l.length ∧ zeroIP.2.2.length ≤ l.length := by simp [zeroIP, zeroP]
  unfold sprs
  by_cases h : (prs l).2.2 = 0
  · rw [if_neg (fun k => k h)]
    obtain ⟨g, e⟩ := prs_back h
    by_cases hc : schk (prs l).1 = 0
    · rw [if_neg (fun k => k hc)]
      have hl : (prs l).2.1.length ≤ l.length := by
        have h1 := congrArg List.length e
        rw [List.length_append] at h1
        omega
      split
      · exact z
      · exact ⟨g.a, g.b, by simp only [List.length_take]; omega, by simp only [List.length_drop]; omega⟩
    · rw [if_pos hc]; exact z
  · rw [if_pos h]; exact z

/-! In memory. -/
theorem rt_st : RT 35 zeroI.cells := ⟨row_of (by kernel_rfl), by kernel_rfl⟩
theorem rt_sr : RT 40 zeroI.cells := ⟨row_of (by kernel_rfl), by kernel_rfl⟩
theorem ex_ldS (ev : Operand → Value) (x : Operand) (d : Option Tmp) (ty : TypeId) (ps : String) (af : Array Edge) (g : Option (Nat × Bool)) (w : World) : (execOp ev ⟨d, .load 35 x, ty, ps, af, g⟩).run Tryz.prog w = ldHd 35 (ev x) w := rfl
theorem ex_ldSr (ev : Operand → Value) (x : Operand) (d : Option Tmp) (ty : TypeId) (ps : String) (af : Array Edge) (g : Option (Nat × Bool)) (w : World) : (execOp ev ⟨d, .load 40 x, ty, ps, af, g⟩).run Tryz.prog w = ldHd 40 (ev x) w := rfl
theorem ex_stS (ev : Operand → Value) (x y : Operand) (d : Option Tmp) (ty : TypeId) (ps : String) (af : Array Edge) (g : Option (Nat × Bool)) (w : World) : (execOp ev ⟨d, .store 35 x y, ty, ps, af, g⟩).run Tryz.prog w = stHd 35 (ev x) (ev y) w := rfl
theorem ex_stSr (ev : Operand → Value) (x y : Operand) (d : Option Tmp) (ty : TypeId) (ps : String) (af : Array Edge) (g : Option (Nat × Bool)) (w : World) : (execOp ev ⟨d, .store 40 x y, ty, ps, af, g⟩).run Tryz.prog w = stHd 40 (ev x) (ev y) w := rfl
end Go.Proofs.YtdkdgcpknephnaaGreat
