/- A configuration that comes in as data, opened into what the walks ask. Nothing is claimed of the program here. -/
import Derived.Test.YtkcchidklcnnnaaGreatOpen
import Derived.Test.YtkcchidklcnnnaaGreatMdP
import Derived.Lib.SmallJoins
namespace Go.Proofs.YtkcchidklcnnnaaGreat
open Go.ChangeShapes Go.WideShapes Go.ChangeAt Go.RowKit Go.Joins Go.Deep
set_option linter.unusedVariables false
theorem open_key {H : Type} {enc : TypeId × Value → H} {w : World} {base n : Nat} {sp : Nat → Bool} {held : Bool} {rest : List Value} {x : DataW H × List MemPlace} (hl : rest.length = 16)
    (h : DataW.trod enc Tryz.prog w base sp held n 27 rest = some x) : ∃ k : List UInt8, k.length = 16 ∧ rest = bvs k := by
  obtain ⟨xs, m, rfl, _, _, hxs, hf⟩ := DataW.trod_array Tryz.underlying27 h
  have hc : Tryz.prog.cellsOf 5 = 1 := by kernel_rfl
  have key : ∀ i (hi : i < rest.length), ∃ b : UInt8, rest[i] = bv b := fun i hi => by
    have h1 := hf i (by omega)
    rw [hc, Nat.mul_one] at h1
    have e : (rest.drop i).take 1 = [rest[i]] := by rw [List.drop_eq_getElem_cons hi]; rfl
    rw [e, List.getElem?_eq_getElem (by omega)] at h1
    obtain ⟨a, ha, _, wa⟩ := DataW.trod_int Tryz.underlying5 h1
    injection ha with ha _
    obtain ⟨b, rfl⟩ := byte_of wa
    exact ⟨b, ha⟩
  refine ⟨List.ofFn (fun i : Fin rest.length => Classical.choose (key i.val i.isLt)), by simp [hl], ?_⟩
  apply List.ext_getElem
  · simp [bvs]
  · intro i h1 h2
    simp only [bvs, List.getElem_map, List.getElem_ofFn]
    exact Classical.choose_spec (key i h1)
end Go.Proofs.YtkcchidklcnnnaaGreat
