/- Layer 23: the reference's Score. Conditions: the key's cells are readable. -/
import Derived.Test.YtocbdgkehgmahaaRkM
import Derived.Test.YtocbdgkehgmahaaMixR
import Derived.Lib.MinMax
namespace Go.Proofs.Ytocbdgkehgmahaa
open Go.RowKit
set_option linter.unusedVariables false
set_option linter.unusedSimpArgs false
theorem ent_agg (e : Int × Int) : Value.agg #[.int .i64 e.1, .int .i64 e.2] = .agg (ent e).toArray := rfl
/-- A score's answer. -/
def scA (s : Nat) (k : List UInt8) (e : Int × Int) : Nat := if okE e = true then scE s k e else 0
theorem scA_no (s : Nat) (k : List UInt8) (e : Int × Int) (h : okE e = false) : scA s k e = 0 := by unfold scA; rw [h]; rfl
theorem scA_ok (s : Nat) (k : List UInt8) (e : Int × Int) (h : okE e = true) : scA s k e = scE s k e := by unfold scA; rw [if_pos h]
theorem okE_no (e : Int × Int) (h : e.1 < 0 ∨ 63 < e.1 ∨ e.2 < 1 ∨ 16 < e.2) : okE e = false := by
  rw [Bool.eq_false_iff]
  intro h1
  rw [okE_iff] at h1
  omega
theorem byte_lit {k : Nat} (h : k < 256) : #[Value.int .u8 (k : Int)] = (bvs [UInt8.ofNat k]).toArray := by
  have e : (((UInt8.ofNat k).toNat : Nat) : Int) = (k : Int) := by
    have : (UInt8.ofNat k).toNat = k % 256 := by simp
    omega
  unfold bvs
  simp only [List.map_cons, List.map_nil, bv, e]
attribute [local irreducible] mixF scF scE scA okE
set_option maxRecDepth 100000 in
set_option maxHeartbeats 2000000 in
theorem rscore_no (s : Nat) (A : Option Addr) (n c : Nat) (e : Int × Int) (w : World) (h : e.1 < 0 ∨ 63 < e.1 ∨ e.2 < 1 ∨ 16 < e.2) :
    Calls Try.prog 10 #[.int .u64 (s : Int), .slice A n c, entV e] w fun r w' => r = .returned (.tuple #[.int .u64 0, .bool false]) ∧ Below w.heap.size w w' := by
  obtain ⟨x, y⟩ := e
  have key : ∀ (P : Prop), (x < 0 → P) → (0 ≤ x → 63 < x → P) → (0 ≤ x → x ≤ 63 → y < 1 → P) → (0 ≤ x → x ≤ 63 → 1 ≤ y → 16 < y → P) → P := by
    intro P h1 h2 h3 h4
    simp only at h
    by_cases a1 : x < 0
    · exact h1 a1
    by_cases a2 : 63 < x
    · exact h2 (by omega) a2
    by_cases a3 : y < 1
    · exact h3 (by omega) (by omega) a3
    · exact h4 (by omega) (by omega) (by omega) (by omega)
  clear h
  unfold entV
  apply key
  all_goals (
    intros
    go_enter Try.func10, Try.ntmps10
    go_wp2_with (refine wpList_boxB rfl 34 (.tmp 2) rfl (ent (x, y)) (ent_agg (x, y)) ?_; intro w1 q hc1 hb1 hx1; have c0 := hc1.cell 0; have c1 := hc1.cell 1; simp only [ent, List.getElem?_cons_zero, List.getElem?_cons_succ] at c0 c1; have HB1 := Lib.hid hb1; clear hc1 hb1 hx1)
    go_ret2
    exact ⟨rfl, HB1.out⟩)
end Go.Proofs.Ytocbdgkehgmahaa
